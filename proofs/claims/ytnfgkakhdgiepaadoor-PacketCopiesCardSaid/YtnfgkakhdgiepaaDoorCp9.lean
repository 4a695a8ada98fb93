/- Parts of the proof, packed: Of, PkOnly, PkOnly2, PkMask, PkCopiesLaw. -/
import Derived.Test.YtnfgkakhdgiepaaDoorCp8
import Derived.Test.YtnfgkakhdgiepaaDoorCp6
import Derived.Test.YtnfgkakhdgiepaaDoorCp7
/- Of, of the program and of the reference. -/
namespace Go.Proofs.YtnfgkakhdgiepaaDoor
open Go.RowKit Bs

def zval (z : Int) : Value := .int .i64 z
/-- The bits of the first j numbers, none if one comes twice. -/
def ofr (l : List Int) : Nat → Option Nat
  | 0 => some 0
  | j + 1 => match ofr l j with
    | none => none
    | some b => if b.testBit (l.getD j 0).toNat then none else some (b ||| b2 (l.getD j 0).toNat)
set_option maxRecDepth 100000 in
theorem ofr_none (l : List Int) (j : Nat) (h : ofr l j = none) : ∀ d, ofr l (j + d) = none
  | 0 => h
  | d + 1 => by rw [show j + (d + 1) = (j + d) + 1 by omega, ofr, ofr_none l j h d]
set_option maxRecDepth 100000 in
theorem ofr_hit {l : List Int} {j b K : Nat} (h : ofr l j = some b) (hx : l.getD j 0 = (K : Int)) (ht : b.testBit K = true) : ofr l (j + 1) = none := by
  rw [ofr, h, hx]
  show (if b.testBit ((K : Nat) : Int).toNat then none else _) = none
  rw [Int.toNat_natCast, if_pos ht]
set_option maxRecDepth 100000 in
theorem ofr_miss {l : List Int} {j b K : Nat} (h : ofr l j = some b) (hx : l.getD j 0 = (K : Int)) (ht : b.testBit K = false) : ofr l (j + 1) = some (b ||| b2 K) := by
  rw [ofr, h, hx]
  show (if b.testBit ((K : Nat) : Int).toNat then none else some (b ||| b2 ((K : Nat) : Int).toNat)) = _
  rw [Int.toNat_natCast, if_neg (by simpa using ht)]
/-- What Of returns. -/
def ofV (l : List Int) (n : Int) : Nat × Int :=
  if vl n = false then (0, 1) else if l.all (fun x => decide (0 ≤ x ∧ x < n)) = false then (0, 2) else match ofr l l.length with
    | none => (0, 5)
    | some b => (b, 0)
set_option maxRecDepth 100000 in
theorem ofV_len {l : List Int} {n : Int} (h : vl n = false) : ofV l n = (0, 1) := by unfold ofV; rw [if_pos h]
set_option maxRecDepth 100000 in
theorem ofV_range {l : List Int} {n : Int} (h : vl n = true) {j : Nat} (hj : j < l.length) (hb : ¬ (0 ≤ l.getD j 0 ∧ l.getD j 0 < n)) : ofV l n = (0, 2) := by
  unfold ofV
  rw [if_neg (by simp [h]), if_pos]
  rw [List.all_eq_false]
  refine ⟨l[j], List.getElem_mem hj, ?_⟩
  rw [List.getD_eq_getElem?_getD, List.getElem?_eq_getElem hj] at hb
  simpa using hb
set_option maxRecDepth 100000 in
theorem ofV_good {l : List Int} {n : Int} (h : vl n = true) (hg : ∀ j, j < l.length → 0 ≤ l.getD j 0 ∧ l.getD j 0 < n) : ofV l n = match ofr l l.length with
    | none => (0, 5)
    | some b => (b, 0) := by
  unfold ofV
  rw [if_neg (by simp [h]), if_neg]
  rw [Bool.not_eq_false, List.all_eq_true]
  intro x hx
  obtain ⟨j, hj, rfl⟩ := List.mem_iff_getElem.1 hx
  have := hg j hj
  rw [List.getD_eq_getElem?_getD, List.getElem?_eq_getElem hj] at this
  simpa using this
set_option maxRecDepth 100000 in
theorem ofV_dup {l : List Int} {n : Int} (h : vl n = true) (hg : ∀ j, j < l.length → 0 ≤ l.getD j 0 ∧ l.getD j 0 < n) {j : Nat} (hj : j < l.length) (hn : ofr l (j + 1) = none) : ofV l n = (0, 5) := by
  rw [ofV_good h hg]
  have := ofr_none l (j + 1) hn (l.length - (j + 1))
  rw [show j + 1 + (l.length - (j + 1)) = l.length by omega] at this
  rw [this]
set_option maxRecDepth 100000 in
theorem ofV_ok {l : List Int} {n : Int} (h : vl n = true) (hg : ∀ j, j < l.length → 0 ≤ l.getD j 0 ∧ l.getD j 0 < n) {b : Nat} (hn : ofr l l.length = some b) : ofV l n = (b, 0) := by
  rw [ofV_good h hg, hn]
def OfPost (l : List Int) (n : Int) (w : World) (e : Ending) (w' : World) : Prop := e = .returned (.tuple #[.int .u64 (((ofV l n).1 : Nat) : Int), .int .i64 (ofV l n).2]) ∧ w = w'
set_option maxRecDepth 100000 in
theorem zv_at {l : List Int} {j : Nat} (h : j < l.length) : (l.map zval)[j]? = some (.int .i64 (l.getD j 0)) := by
  rw [List.getElem?_map, List.getElem?_eq_getElem h, List.getD_eq_getElem?_getD, List.getElem?_eq_getElem h]; rfl
set_option maxRecDepth 100000 in
theorem of_or (b K : Nat) (hb : U64 b) (hK : K < 64) : bits .or .u64 (b : Int) (IntKind.u64.wrap (2 ^ K)) = ((b ||| b2 K : Nat) : Int) := by
  rw [pow_word K hK]; exact orU b _ hb (b2_u64 hK)
set_option maxRecDepth 100000 in
set_option maxHeartbeats 1600000 in
theorem ofp_any (l : List Int) (n : Int) (q : Nat → Prop) (p : Option Addr) (c : Nat) (hl : l.length ≤ 9223372036854775807) (w : World) (hR : Rd w q (.slice p l.length c) (l.map zval)) :
    Calls Tryd.prog 88 #[.slice p l.length c, .int .i64 n] w fun e w' => OfPost l n w e w' := by
  by_cases hv : vl n = true
  · have hn64 : n ≤ 64 := by rcases vl_cases hv with h | h | h | h <;> omega
    go_enter Tryd.func88, Tryd.ntmps88
    go_wp2_with (go_at_call 105; refine (vlp_any _ _).mono ?_; rintro e w' ⟨rfl, rfl⟩)
    go_loop [16] (fun i => ∃ j : Nat, j ≤ l.length ∧ i = .int .i64 (j : Int) ∧ ∀ k, k < j → 0 ≤ l.getD k 0 ∧ l.getD k 0 < n) (fun i => l.length - (intOf i).toNat)
    case atStart => exact ⟨0, Nat.zero_le _, rfl, fun k hk => by omega⟩
    case round =>
      obtain ⟨j, hj, rfl, hg⟩ := hrel
      have HG := Lib.hid hg
      clear hg
      by_cases hlt : j < l.length
      · obtain ⟨g, off, rfl, hcell⟩ := hR.at1_ (zv_at hlt)
        by_cases hneg : l.getD j 0 < 0
        · have V := Lib.hid (ofV_range hv hlt (by omega))
          generalize l.getD j 0 = x at *
          go_wp2_with fail
          go_ret2
          exact ⟨by rw [V.out]; rfl, rfl⟩
        · by_cases hbig : n ≤ l.getD j 0
          · have V := Lib.hid (ofV_range hv hlt (by omega))
            generalize l.getD j 0 = x at *
            go_wp2_with fail
            go_ret2
            exact ⟨by rw [V.out]; rfl, rfl⟩
          · have HN : Hid (∀ k, k < j + 1 → 0 ≤ l.getD k 0 ∧ l.getD k 0 < n) := by
              show ∀ k, k < j + 1 → 0 ≤ l.getD k 0 ∧ l.getD k 0 < n
              intro k hk
              rcases Nat.lt_or_ge k j with h | h
              · exact HG.out k h
              · obtain rfl : k = j := by omega
                omega
            generalize l.getD j 0 = x at *
            go_wp2_with fail
            go_round
            case rel => exact ⟨j + 1, by omega, by go_num, HN.out⟩
            case measure => simp [intOf]; omega
      · obtain rfl : j = l.length := by omega
        go_wp2_with fail
        go_loop [8, 30] (fun bv i => ∃ j b : Nat, j ≤ l.length ∧ i = .int .i64 (j : Int) ∧ bv = .int .u64 (b : Int) ∧ U64 b ∧ Hid (ofr l j = some b)) (fun _ i => l.length - (intOf i).toNat)
        case atStart => exact ⟨0, 0, Nat.zero_le _, rfl, rfl, by unfold U64; decide, Lib.hid rfl⟩
        case round =>
          obtain ⟨j, b, hj, rfl, rfl, hb, hO⟩ := hrel
          by_cases hlt2 : j < l.length
          · obtain ⟨g, off, rfl, hcell⟩ := hR.at1_ (zv_at hlt2)
            have hx := HG.out j hlt2
            obtain ⟨K, hK⟩ := Int.eq_ofNat_of_zero_le hx.1
            have hK64 : K < 64 := by omega
            rw [hK] at hcell
            by_cases ht : b.testBit K = true
            · have V := Lib.hid (ofV_dup hv HG.out hlt2 (ofr_hit hO.out hK ht))
              have T : (bits .and .u64 ((b : Int) / 2 ^ K) 1 == 1) = true := by rw [testW b K hb, ht]
              clear hx hK ht
              go_wp2_with fail
              go_ret2
              exact ⟨by rw [V.out]; rfl, rfl⟩
            · have ht0 : b.testBit K = false := by simpa using ht
              have HM := Lib.hid (ofr_miss hO.out hK ht0)
              have T : (bits .and .u64 ((b : Int) / 2 ^ K) 1 == 1) = false := by rw [testW b K hb, ht0]
              have W1 := Lib.hid (of_or b K hb hK64)
              clear hx hK ht ht0
              go_wp2_with fail
              go_round
              case rel => exact ⟨j + 1, _, by omega, by go_num, by rw [W1.out], Bs.u64_or _ _ hb (b2_u64 hK64), HM⟩
              case measure => simp [intOf]; omega
          · obtain rfl : j = l.length := by omega
            have V := Lib.hid (ofV_ok hv HG.out hO.out)
            go_wp2_with fail
            go_ret2
            exact ⟨by rw [V.out]; rfl, rfl⟩
  · have hv0 : vl n = false := by simpa using hv
    have V := Lib.hid (ofV_len (l := l) hv0)
    clear hv
    go_enter Tryd.func88, Tryd.ntmps88
    go_wp2_with (go_at_call 105; refine (vlp_any _ _).mono ?_; rintro e w' ⟨rfl, rfl⟩)
    go_ret2
    exact ⟨by rw [V.out]; rfl, rfl⟩
end Go.Proofs.YtnfgkakhdgiepaaDoor

/- packet: Only and Masked, of the program and of the reference. -/
namespace Go.Proofs.YtnfgkakhdgiepaaDoor
open Go.RowKit Bs
def zP : Pk := ⟨0, 0, 0, 0, 0, 0, 0, 0, 0, ⟨#[]⟩⟩
/-- What Only returns. -/
def onlyP (P : Pk) (k : Int) : Pk := if vpk P = true ∧ 0 ≤ k ∧ k < 64 ∧ P.bits.testBit k.toNat = true then { P with bits := b2 k.toNat } else zP
/-- What Masked returns. -/
def mskP (P : Pk) (m : Nat) : Pk × Bool := if vpk P = true ∧ P.ttl ≠ 0 ∧ P.bits &&& m ≠ 0 then ({ P with bits := P.bits &&& m, ttl := P.ttl - 1 }, true) else (zP, false)
/-- The argument's box and the result's. -/
structure TB (W : World) (P : Pk) (w : World) : Prop where
  pb : w.heap[W.heap.size]? = some (.cells (pcells P) 25 (0, 0))
  zb : w.heap[W.heap.size + 1]? = some (.cells zpk 25 (0, 0))
  gr : W.grownBy w none
set_option maxRecDepth 100000 in
theorem TB.keep {W w w1 : World} {P : Pk} (H : TB W P w) (g : w.grownBy w1 none) : TB W P w1 := ⟨kept_row H.pb g (by simp), kept_row H.zb g (by simp), grown_trans H.gr g⟩
set_option maxRecDepth 100000 in
theorem TB.at_bits {W w : World} {P : Pk} (H : TB W P w) (b : Nat) : TB W { P with bits := b } (w.setCell ⟨W.heap.size, 8, none⟩ (.int .u64 (b : Int))) := by
  have j := grown_setCell w ⟨W.heap.size, 8, none⟩ (.int .u64 (b : Int))
  refine ⟨heap_setCell_same w _ 8 _ _ _ H.pb, kept_row H.zb j (fun e => by have : W.heap.size + 1 = W.heap.size := Option.some.inj e; omega), grown_new H.gr j (Nat.le_refl _)⟩
set_option maxRecDepth 100000 in
theorem TB.at_ttl {W w : World} {P : Pk} (H : TB W P w) (x : Int) : TB W { P with ttl := x } (w.setCell ⟨W.heap.size, 4, none⟩ (.int .i64 x)) := by
  have j := grown_setCell w ⟨W.heap.size, 4, none⟩ (.int .i64 x)
  refine ⟨heap_setCell_same w _ 4 _ _ _ H.pb, kept_row H.zb j (fun e => by have : W.heap.size + 1 = W.heap.size := Option.some.inj e; omega), grown_new H.gr j (Nat.le_refl _)⟩
set_option maxRecDepth 100000 in
set_option maxHeartbeats 400000 in
theorem hasz_any (b : Nat) (k : Int) (hk : ¬ (0 ≤ k ∧ k < 64)) (w : World) :
    Calls Tryd.prog 89 #[.int .u64 (b : Int), .int .i64 k] w fun e w' => e = .returned (.bool false) ∧ w = w' := by
  by_cases h0 : 0 ≤ k
  · have h1 : 64 ≤ k := by omega
    go_enter Tryd.func89, Tryd.ntmps89
    go_wp2
    go_ret
    exact ⟨rfl, rfl⟩
  · have h1 : k < 0 := by omega
    go_enter Tryd.func89, Tryd.ntmps89
    go_wp2
    go_ret
    exact ⟨rfl, rfl⟩
set_option maxRecDepth 100000 in
set_option maxHeartbeats 800000 in
theorem hasi_any (b : Nat) (k : Int) (hb : U64 b) (w : World) :
    Calls Tryd.prog 89 #[.int .u64 (b : Int), .int .i64 k] w fun e w' => e = .returned (.bool (decide (0 ≤ k ∧ k < 64 ∧ b.testBit k.toNat = true))) ∧ w = w' := by
  by_cases hk : 0 ≤ k ∧ k < 64
  · have h := has_any b k.toNat (by omega) hb w
    rw [show ((k.toNat : Nat) : Int) = k by omega] at h
    refine h.mono ?_
    rintro e w' ⟨rfl, rfl⟩
    exact ⟨ret_bool (by rw [Bool.eq_iff_iff]; simp [hk]), rfl⟩
  · refine (hasz_any b k hk w).mono ?_
    rintro e w' ⟨rfl, rfl⟩
    exact ⟨ret_bool (by rw [Bool.eq_iff_iff]; simp; omega), rfl⟩
set_option maxRecDepth 100000 in
set_option maxHeartbeats 3200000 in
theorem onlyr_any (P : Pk) (hP : P.Wf) (k : Int) (w : World) :
    Calls Tryd.prog 32 #[P.val, .int .i64 k] w fun e w' => e = .returned (onlyP P k).val ∧ w.grownBy w' none := by
  have hval : P.val = .agg #[.int .i64 P.mode, .int .i64 P.sub, .int .i64 P.set, .int .i64 P.len, .int .i64 P.ttl, .int .i64 P.ent, .int .i64 P.ing, .int .i64 P.pro, .int .u64 (P.bits : Int), .string P.pay] := rfl
  rw [hval]
  go_enter Tryd.func32, Tryd.ntmps32
  go_wp2_with fail
  obtain ⟨k1, k2, k3, _⟩ := two_boxes w (pcells P) zpk 25 25
  have H0 := Lib.hid (TB.mk k1 k2 k3)
  clear k1 k2 k3
  unfold pcells zpk at H0
  generalize (w.alloc _).alloc _ = wa at *
  rw [← hval]
  refine (rvalid_any P hP _).mono ?_
  rintro e w1 ⟨rfl, hg⟩
  have H1 := Lib.hid (H0.out.keep hg)
  clear H0 hg
  obtain ⟨a0, a1, a2, a3, a4, a5, a6, a7, a8, a9⟩ := p_facts H1.out.pb
  obtain ⟨⟨z0, z1, z2, z3, z4, z5, z6, z7, z8, z9⟩, f0, f1, f2, f3, f4, f5, f6, f7, f8, f9⟩ := zp_cells H1.out.zb
  obtain ⟨q, hq⟩ : ∃ q, q = vpk P := ⟨_, rfl⟩
  rw [← hq]
  have HQ := Lib.hid hq
  clear hq
  cases q with
  | false =>
    have hE : Hid (onlyP P k = zP) := Lib.hid (by unfold onlyP; rw [if_neg (by simp [← HQ.out])])
    go_wp2_with fail
    refine bodyPost_ret (res_packet rfl _ _ (w.heap.size + 1) _ rfl rfl (pput_row _ _ _ _ _ _ _ _ _ _ H1.out.zb)) rfl ?_
    exact ⟨by rw [hE.out]; rfl, grown_new H1.out.gr (pput_grown _ (w.heap.size + 1) _ _ _ _ _ _ _ _ _ _) (Nat.le_succ _)⟩
  | true =>
    go_wp2_with fail
    refine (hasi_any P.bits k hP.bits _).mono ?_
    rintro e w' ⟨rfl, rfl⟩
    obtain ⟨r, hr⟩ : ∃ r, r = decide (0 ≤ k ∧ k < 64 ∧ P.bits.testBit k.toNat = true) := ⟨_, rfl⟩
    rw [← hr]
    have HR := Lib.hid hr
    clear hr
    cases r with
    | false =>
      have hE : Hid (onlyP P k = zP) := Lib.hid (by unfold onlyP; rw [if_neg (by have := HR.out; simp at this; intro h; have := this h.2.1 h.2.2.1; simp [h.2.2.2] at this)])
      go_wp2_with fail
      refine bodyPost_ret (res_packet rfl _ _ (w.heap.size + 1) _ rfl rfl (pput_row _ _ _ _ _ _ _ _ _ _ H1.out.zb)) rfl ?_
      exact ⟨by rw [hE.out]; rfl, grown_new H1.out.gr (pput_grown _ (w.heap.size + 1) _ _ _ _ _ _ _ _ _ _) (Nat.le_succ _)⟩
    | true =>
      have hk3 : 0 ≤ k ∧ k < 64 ∧ P.bits.testBit k.toNat = true := by have := HR.out; simpa using this.symm
      have hE : Hid (onlyP P k = { P with bits := b2 k.toNat }) := Lib.hid (by unfold onlyP; rw [if_pos ⟨HQ.out.symm, hk3⟩])
      have hB := bit_any k.toNat (by omega) w1
      rw [show ((k.toNat : Nat) : Int) = k by omega] at hB
      have HB := Lib.hid hB
      clear hB hk3
      obtain ⟨b, hb⟩ : ∃ b, b = b2 k.toNat := ⟨_, rfl⟩
      rw [← hb] at HB hE
      clear hb
      go_wp2_with fail
      refine HB.out.mono ?_
      rintro e w' ⟨rfl, rfl⟩
      have H2 := Lib.hid (H1.out.at_bits b)
      have c8 := frozen_of_row _ _ 8 _ _ H1.out.pb
      go_upto_region 4 with fail
      clear a0 a1 a2 a3 a4 a5 a6 a7 a8 a9 z0 z1 z2 z3 z4 z5 z6 z7 z8 z9 f0 f1 f2 f3 f4 f5 f6 f7 f8 f9 c8 H1
      generalize w1.setCell _ _ = w2 at *
      obtain ⟨a0, a1, a2, a3, a4, a5, a6, a7, a8, a9⟩ := p_facts H2.out.pb
      obtain ⟨⟨z0, z1, z2, z3, z4, z5, z6, z7, z8, z9⟩, f0, f1, f2, f3, f4, f5, f6, f7, f8, f9⟩ := zp_cells H2.out.zb
      go_wp2_with fail
      refine bodyPost_ret (res_packet rfl _ _ (w.heap.size + 1) _ rfl rfl (pput_row _ _ _ _ _ _ _ _ _ _ H2.out.zb)) rfl ?_
      exact ⟨by rw [hE.out]; rfl, grown_new H2.out.gr (pput_grown _ (w.heap.size + 1) _ _ _ _ _ _ _ _ _ _) (Nat.le_succ _)⟩
end Go.Proofs.YtnfgkakhdgiepaaDoor

/- packet: the program's Only. -/
namespace Go.Proofs.YtnfgkakhdgiepaaDoor
open Go.RowKit Bs
set_option maxRecDepth 100000 in
theorem and_b2 {b K : Nat} (h : b.testBit K = true) : b &&& b2 K ≠ 0 := by
  intro e
  have := congrArg (fun x => Nat.testBit x K) e
  simp [b2, Nat.testBit_two_pow_self, h] at this
set_option maxRecDepth 100000 in
theorem and_b2_no {b K : Nat} (h : b.testBit K = false) : b &&& b2 K = 0 := by
  apply Nat.eq_of_testBit_eq
  intro i
  rw [Nat.testBit_and, Nat.zero_testBit, b2, Nat.testBit_two_pow]
  by_cases hi : K = i
  · subst hi; simp [h]
  · simp [hi]
set_option maxRecDepth 100000 in
theorem of_one {k n : Int} (hv : vl n = true) (h0 : 0 ≤ k) (h1 : k < n) : ofV [k] n = (b2 k.toNat, 0) := by
  refine ofV_ok hv (fun j hj => ?_) ?_
  · obtain rfl : j = 0 := by simp at hj; omega
    exact ⟨h0, h1⟩
  · show ofr [k] 1 = _
    rw [ofr_miss (K := k.toNat) (show ofr [k] 0 = some 0 from rfl) (by show k = _; omega) (by simp)]
    simp
set_option maxRecDepth 100000 in
theorem of_out {k n : Int} (hv : vl n = true) (h : ¬ (0 ≤ k ∧ k < n)) : ofV [k] n = (0, 2) := ofV_range hv (j := 0) (by simp) h
set_option maxRecDepth 100000 in
set_option maxHeartbeats 3200000 in
theorem onlyp_any (P : Pk) (hP : P.Wf) (k : Int) (w : World) :
    Calls Tryd.prog 31 #[P.val, .int .i64 k] w fun e w' => e = .returned (onlyP P k).val ∧ w.grownBy w' none := by
  have hval : P.val = .agg #[.int .i64 P.mode, .int .i64 P.sub, .int .i64 P.set, .int .i64 P.len, .int .i64 P.ttl, .int .i64 P.ent, .int .i64 P.ing, .int .i64 P.pro, .int .u64 (P.bits : Int), .string P.pay] := rfl
  rw [hval]
  go_enter Tryd.func31, Tryd.ntmps31
  go_wp2_with fail
  obtain ⟨k1, k2, k3, hsz⟩ := two_boxes w (pcells P) zpk 25 25
  have H0 := Lib.hid (TB.mk k1 k2 k3)
  clear k1 k2 k3
  unfold pcells zpk at H0 hsz
  generalize (w.alloc _).alloc (.cells #[.int .i64 0, .int .i64 0, .int .i64 0, .int .i64 0, .int .i64 0, .int .i64 0, .int .i64 0, .int .i64 0, .int .u64 0, .string ⟨#[]⟩] 25) = wa at *
  have hR := rd_new wa #[.int .i64 k] 3 1
  rw [hsz] at hR
  have H1 := Lib.hid (H0.out.keep (World.grownBy_alloc wa (.cells #[.int .i64 k] 3) none))
  generalize wa.alloc (.cells #[.int .i64 k] 3) = w1 at *
  refine (ofp_any [k] P.len _ _ 1 (by simp) w1 hR).mono ?_
  clear hR hsz H0
  rintro e w' ⟨rfl, rfl⟩
  obtain ⟨x, y, hxy⟩ : ∃ (x : Nat) (y : Int), ofV [k] P.len = (x, y) := ⟨_, _, rfl⟩
  rw [hxy]
  have HXY := Lib.hid hxy
  clear hxy
  obtain ⟨a0, a1, a2, a3, a4, a5, a6, a7, a8, a9⟩ := p_facts H1.out.pb
  go_wp2_with fail
  rw [← hval]
  refine (pvalid_any P hP _).mono ?_
  rintro e w2 ⟨rfl, hg⟩
  have H2 := Lib.hid (H1.out.keep hg)
  clear H1 hg a0 a1 a2 a3 a4 a5 a6 a7 a8 a9
  obtain ⟨a0, a1, a2, a3, a4, a5, a6, a7, a8, a9⟩ := p_facts H2.out.pb
  obtain ⟨⟨z0, z1, z2, z3, z4, z5, z6, z7, z8, z9⟩, f0, f1, f2, f3, f4, f5, f6, f7, f8, f9⟩ := zp_cells H2.out.zb
  by_cases hv : vpk P = true
  · rw [hv]
    have hvl := vb_vl (vpk_parts hv).2.2.2.2.2.2.2.2
    by_cases hk : 0 ≤ k ∧ k < P.len
    · obtain ⟨rfl, rfl⟩ : x = b2 k.toNat ∧ y = 0 := by have := HXY.out.symm.trans (of_one hvl hk.1 hk.2); simpa using this
      have hK : k.toNat < 64 := by have := (vpk_len hv).2; omega
      have hand := Lib.hid (andU P.bits (b2 k.toNat) hP.bits (b2_u64 hK))
      by_cases ht : P.bits.testBit k.toNat = true
      · have hE : Hid (onlyP P k = { P with bits := b2 k.toNat }) := Lib.hid (by unfold onlyP; rw [if_pos ⟨hv, hk.1, by omega, ht⟩])
        have hne : ((P.bits &&& b2 k.toNat : Nat) : Int) ≠ 0 := by have := and_b2 ht; omega
        generalize ((P.bits &&& b2 k.toNat : Nat) : Int) = A at *
        generalize b2 k.toNat = b at *
        have H3 := Lib.hid (H2.out.at_bits b)
        have c8 := frozen_of_row _ _ 8 _ _ H2.out.pb
        clear hv hvl hk HXY ht hK hval
        have hand := hand.out
        go_upto_region 5 with fail
        clear a0 a1 a2 a3 a4 a5 a6 a7 a8 a9 z0 z1 z2 z3 z4 z5 z6 z7 z8 z9 f0 f1 f2 f3 f4 f5 f6 f7 f8 f9 c8 H2 hand hne
        generalize w2.setCell _ _ = w3 at *
        obtain ⟨a0, a1, a2, a3, a4, a5, a6, a7, a8, a9⟩ := p_facts H3.out.pb
        obtain ⟨⟨z0, z1, z2, z3, z4, z5, z6, z7, z8, z9⟩, f0, f1, f2, f3, f4, f5, f6, f7, f8, f9⟩ := zp_cells H3.out.zb
        go_wp2_with fail
        refine bodyPost_ret (res_packet rfl _ _ (w.heap.size + 1) _ rfl rfl (pput_row _ _ _ _ _ _ _ _ _ _ H3.out.zb)) rfl ?_
        exact ⟨by rw [hE.out]; rfl, grown_new H3.out.gr (pput_grown _ (w.heap.size + 1) _ _ _ _ _ _ _ _ _ _) (Nat.le_succ _)⟩
      · have hE : Hid (onlyP P k = zP) := Lib.hid (by unfold onlyP; rw [if_neg (fun h => ht h.2.2.2)])
        have hne : ((P.bits &&& b2 k.toNat : Nat) : Int) = 0 := by rw [and_b2_no (by simpa using ht)]; rfl
        rw [hne] at hand
        generalize b2 k.toNat = b at *
        clear hv hvl hk HXY ht hK hval hne
        have hand := hand.out
        go_wp2_with fail
        refine bodyPost_ret (res_packet rfl _ _ (w.heap.size + 1) _ rfl rfl (pput_row _ _ _ _ _ _ _ _ _ _ H2.out.zb)) rfl ?_
        exact ⟨by rw [hE.out]; rfl, grown_new H2.out.gr (pput_grown _ (w.heap.size + 1) _ _ _ _ _ _ _ _ _ _) (Nat.le_succ _)⟩
    · obtain ⟨rfl, rfl⟩ : x = 0 ∧ y = 2 := by have := HXY.out.symm.trans (of_out hvl hk); simpa using this
      have hE : Hid (onlyP P k = zP) := Lib.hid (by
        unfold onlyP
        rw [if_neg]
        intro h
        have hb := vb_lt (n := P.len) (vpk_parts hv).2.2.2.2.2.2.2.2 hP.bits
        have h1 := h.2.2.2
        rw [Nat.testBit_lt_two_pow (Nat.lt_of_lt_of_le hb (Nat.pow_le_pow_right (by decide) (by omega)))] at h1
        cases h1)
      clear hv hvl hk HXY hval
      go_wp2_with fail
      refine bodyPost_ret (res_packet rfl _ _ (w.heap.size + 1) _ rfl rfl (pput_row _ _ _ _ _ _ _ _ _ _ H2.out.zb)) rfl ?_
      exact ⟨by rw [hE.out]; rfl, grown_new H2.out.gr (pput_grown _ (w.heap.size + 1) _ _ _ _ _ _ _ _ _ _) (Nat.le_succ _)⟩
  · have hE : Hid (onlyP P k = zP) := Lib.hid (by unfold onlyP; rw [if_neg (fun h => hv h.1)])
    have hf : vpk P = false := by simpa using hv
    rw [hf]
    clear hv hf HXY hval
    go_wp2_with fail
    refine bodyPost_ret (res_packet rfl _ _ (w.heap.size + 1) _ rfl rfl (pput_row _ _ _ _ _ _ _ _ _ _ H2.out.zb)) rfl ?_
    exact ⟨by rw [hE.out]; rfl, grown_new H2.out.gr (pput_grown _ (w.heap.size + 1) _ _ _ _ _ _ _ _ _ _) (Nat.le_succ _)⟩
end Go.Proofs.YtnfgkakhdgiepaaDoor

/- packet: Masked, of the program and of the reference. -/
namespace Go.Proofs.YtnfgkakhdgiepaaDoor
open Go.RowKit Bs
set_option maxRecDepth 100000 in
set_option maxHeartbeats 3200000 in
theorem maskr_any (P : Pk) (hP : P.Wf) (m : Nat) (hm : U64 m) (w : World) :
    Calls Tryd.prog 34 #[P.val, .int .u64 (m : Int)] w fun e w' => e = .returned (.tuple #[(mskP P m).1.val, .bool (mskP P m).2]) ∧ w.grownBy w' none := by
  have hval : P.val = .agg #[.int .i64 P.mode, .int .i64 P.sub, .int .i64 P.set, .int .i64 P.len, .int .i64 P.ttl, .int .i64 P.ent, .int .i64 P.ing, .int .i64 P.pro, .int .u64 (P.bits : Int), .string P.pay] := rfl
  rw [hval]
  go_enter Tryd.func34, Tryd.ntmps34
  go_wp2_with fail
  obtain ⟨k1, k2, k3, _⟩ := two_boxes w (pcells P) zpk 25 25
  have H0 := Lib.hid (TB.mk k1 k2 k3)
  clear k1 k2 k3
  unfold pcells zpk at H0
  generalize (w.alloc _).alloc _ = wa at *
  rw [← hval]
  refine (rvalid_any P hP _).mono ?_
  rintro e w1 ⟨rfl, hg⟩
  have H1 := Lib.hid (H0.out.keep hg)
  clear H0 hg
  obtain ⟨a0, a1, a2, a3, a4, a5, a6, a7, a8, a9⟩ := p_facts H1.out.pb
  obtain ⟨⟨z0, z1, z2, z3, z4, z5, z6, z7, z8, z9⟩, f0, f1, f2, f3, f4, f5, f6, f7, f8, f9⟩ := zp_cells H1.out.zb
  by_cases hv : vpk P = true
  · rw [hv]
    by_cases ht : P.ttl = 0
    · have hE : Hid (mskP P m = (zP, false)) := Lib.hid (by unfold mskP; rw [if_neg (fun h => h.2.1 ht)])
      clear hv hval
      go_wp2_with fail
      refine bodyPost_ret (res_packet_err rfl _ _ (w.heap.size + 1) _ rfl rfl (pput_row _ _ _ _ _ _ _ _ _ _ H1.out.zb)) rfl ?_
      exact ⟨by rw [hE.out]; rfl, grown_new H1.out.gr (pput_grown _ (w.heap.size + 1) _ _ _ _ _ _ _ _ _ _) (Nat.le_succ _)⟩
    · have hand := andU P.bits m hP.bits hm
      by_cases hb : P.bits &&& m = 0
      · have hE : Hid (mskP P m = (zP, false)) := Lib.hid (by unfold mskP; rw [if_neg (fun h => h.2.2 hb)])
        rw [hb] at hand
        clear hv hval hb
        go_wp2_with fail
        refine bodyPost_ret (res_packet_err rfl _ _ (w.heap.size + 1) _ rfl rfl (pput_row _ _ _ _ _ _ _ _ _ _ H1.out.zb)) rfl ?_
        exact ⟨by rw [hE.out]; rfl, grown_new H1.out.gr (pput_grown _ (w.heap.size + 1) _ _ _ _ _ _ _ _ _ _) (Nat.le_succ _)⟩
      · have hE : Hid (mskP P m = ({ P with bits := P.bits &&& m, ttl := P.ttl - 1 }, true)) := Lib.hid (by unfold mskP; rw [if_pos ⟨hv, ht, hb⟩])
        have hne : ((P.bits &&& m : Nat) : Int) ≠ 0 := by omega
        have hw : IntKind.i64.wrap (P.ttl - 1) = P.ttl - 1 := by
          have h1 := (vpk_parts hv).2.2.2.1
          exact IntWalk.i64_in _ (by omega)
        generalize P.bits &&& m = b at *
        have e1 : (P.ttl == 0) = false := by simp [ht]
        have e2 : ((b : Int) == 0) = false := by simpa using hne
        have H2 := Lib.hid (H1.out.at_bits b)
        have c8 := frozen_of_row _ _ 8 _ _ H1.out.pb
        clear hv hval hb
        go_upto_region 4 with fail
        clear a0 a1 a2 a3 a4 a5 a6 a7 a8 a9 z0 z1 z2 z3 z4 z5 z6 z7 z8 z9 f0 f1 f2 f3 f4 f5 f6 f7 f8 f9 c8 H1 hand hne e1 e2 ht
        generalize w1.setCell _ _ = w2 at *
        have a4 : w2.cell? ⟨w.heap.size, 4, none⟩ = some (.int .i64 P.ttl) := cell_of_row _ _ _ _ _ _ H2.out.pb
        have c4 := frozen_of_row _ _ 4 _ _ H2.out.pb
        have H3 := Lib.hid (H2.out.at_ttl (P.ttl - 1))
        go_upto_region 5 with fail
        clear H2 a4 c4
        generalize w2.setCell _ _ = w3 at *
        obtain ⟨a0, a1, a2, a3, a4, a5, a6, a7, a8, a9⟩ := p_facts H3.out.pb
        obtain ⟨⟨z0, z1, z2, z3, z4, z5, z6, z7, z8, z9⟩, f0, f1, f2, f3, f4, f5, f6, f7, f8, f9⟩ := zp_cells H3.out.zb
        go_wp2_with fail
        refine bodyPost_ret (res_packet_err rfl _ _ (w.heap.size + 1) _ rfl rfl (pput_row _ _ _ _ _ _ _ _ _ _ H3.out.zb)) rfl ?_
        exact ⟨by rw [hE.out]; rfl, grown_new H3.out.gr (pput_grown _ (w.heap.size + 1) _ _ _ _ _ _ _ _ _ _) (Nat.le_succ _)⟩
  · have hE : Hid (mskP P m = (zP, false)) := Lib.hid (by unfold mskP; rw [if_neg (fun h => hv h.1)])
    have hf : vpk P = false := by simpa using hv
    rw [hf]
    clear hv hf hval
    go_wp2_with fail
    refine bodyPost_ret (res_packet_err rfl _ _ (w.heap.size + 1) _ rfl rfl (pput_row _ _ _ _ _ _ _ _ _ _ H1.out.zb)) rfl ?_
    exact ⟨by rw [hE.out]; rfl, grown_new H1.out.gr (pput_grown _ (w.heap.size + 1) _ _ _ _ _ _ _ _ _ _) (Nat.le_succ _)⟩
set_option maxRecDepth 100000 in
set_option maxHeartbeats 3200000 in
theorem maskp_any (P : Pk) (hP : P.Wf) (m : Nat) (hm : U64 m) (w : World) :
    Calls Tryd.prog 33 #[P.val, .int .u64 (m : Int)] w fun e w' => e = .returned (.tuple #[(mskP P m).1.val, .bool (mskP P m).2]) ∧ w.grownBy w' none := by
  have hval : P.val = .agg #[.int .i64 P.mode, .int .i64 P.sub, .int .i64 P.set, .int .i64 P.len, .int .i64 P.ttl, .int .i64 P.ent, .int .i64 P.ing, .int .i64 P.pro, .int .u64 (P.bits : Int), .string P.pay] := rfl
  rw [hval]
  go_enter Tryd.func33, Tryd.ntmps33
  go_wp2_with fail
  obtain ⟨k1, k2, k3, _⟩ := two_boxes w (pcells P) zpk 25 25
  have H0 := Lib.hid (TB.mk k1 k2 k3)
  clear k1 k2 k3
  unfold pcells zpk at H0
  generalize (w.alloc _).alloc _ = wa at *
  rw [← hval]
  refine (pvalid_any P hP _).mono ?_
  rintro e w1 ⟨rfl, hg⟩
  have H1 := Lib.hid (H0.out.keep hg)
  clear H0 hg
  obtain ⟨a0, a1, a2, a3, a4, a5, a6, a7, a8, a9⟩ := p_facts H1.out.pb
  obtain ⟨⟨z0, z1, z2, z3, z4, z5, z6, z7, z8, z9⟩, f0, f1, f2, f3, f4, f5, f6, f7, f8, f9⟩ := zp_cells H1.out.zb
  by_cases hv : vpk P = true
  · rw [hv]
    by_cases ht : P.ttl = 0
    · have hE : Hid (mskP P m = (zP, false)) := Lib.hid (by unfold mskP; rw [if_neg (fun h => h.2.1 ht)])
      clear hv hval
      go_wp2_with fail
      refine bodyPost_ret (res_packet_err rfl _ _ (w.heap.size + 1) _ rfl rfl (pput_row _ _ _ _ _ _ _ _ _ _ H1.out.zb)) rfl ?_
      exact ⟨by rw [hE.out]; rfl, grown_new H1.out.gr (pput_grown _ (w.heap.size + 1) _ _ _ _ _ _ _ _ _ _) (Nat.le_succ _)⟩
    · have hand := andU P.bits m hP.bits hm
      by_cases hb : P.bits &&& m = 0
      · have hE : Hid (mskP P m = (zP, false)) := Lib.hid (by unfold mskP; rw [if_neg (fun h => h.2.2 hb)])
        rw [hb] at hand
        clear hv hval hb
        go_wp2_with fail
        refine bodyPost_ret (res_packet_err rfl _ _ (w.heap.size + 1) _ rfl rfl (pput_row _ _ _ _ _ _ _ _ _ _ H1.out.zb)) rfl ?_
        exact ⟨by rw [hE.out]; rfl, grown_new H1.out.gr (pput_grown _ (w.heap.size + 1) _ _ _ _ _ _ _ _ _ _) (Nat.le_succ _)⟩
      · have hE : Hid (mskP P m = ({ P with bits := P.bits &&& m, ttl := P.ttl - 1 }, true)) := Lib.hid (by unfold mskP; rw [if_pos ⟨hv, ht, hb⟩])
        have hne : ((P.bits &&& m : Nat) : Int) ≠ 0 := by omega
        have hw : IntKind.i64.wrap (P.ttl - 1) = P.ttl - 1 := by
          have h1 := (vpk_parts hv).2.2.2.1
          exact IntWalk.i64_in _ (by omega)
        generalize P.bits &&& m = b at *
        have e1 : (P.ttl == 0) = false := by simp [ht]
        have e2 : ((b : Int) == 0) = false := by simpa using hne
        have H2 := Lib.hid (H1.out.at_bits b)
        have c8 := frozen_of_row _ _ 8 _ _ H1.out.pb
        clear hv hval hb
        go_upto_region 4 with fail
        clear a0 a1 a2 a3 a4 a5 a6 a7 a8 a9 z0 z1 z2 z3 z4 z5 z6 z7 z8 z9 f0 f1 f2 f3 f4 f5 f6 f7 f8 f9 c8 H1 hand hne e1 e2 ht
        generalize w1.setCell _ _ = w2 at *
        have a4 : w2.cell? ⟨w.heap.size, 4, none⟩ = some (.int .i64 P.ttl) := cell_of_row _ _ _ _ _ _ H2.out.pb
        have c4 := frozen_of_row _ _ 4 _ _ H2.out.pb
        have H3 := Lib.hid (H2.out.at_ttl (P.ttl - 1))
        go_upto_region 5 with fail
        clear H2 a4 c4
        generalize w2.setCell _ _ = w3 at *
        obtain ⟨a0, a1, a2, a3, a4, a5, a6, a7, a8, a9⟩ := p_facts H3.out.pb
        obtain ⟨⟨z0, z1, z2, z3, z4, z5, z6, z7, z8, z9⟩, f0, f1, f2, f3, f4, f5, f6, f7, f8, f9⟩ := zp_cells H3.out.zb
        go_wp2_with fail
        refine bodyPost_ret (res_packet_err rfl _ _ (w.heap.size + 1) _ rfl rfl (pput_row _ _ _ _ _ _ _ _ _ _ H3.out.zb)) rfl ?_
        exact ⟨by rw [hE.out]; rfl, grown_new H3.out.gr (pput_grown _ (w.heap.size + 1) _ _ _ _ _ _ _ _ _ _) (Nat.le_succ _)⟩
  · have hE : Hid (mskP P m = (zP, false)) := Lib.hid (by unfold mskP; rw [if_neg (fun h => hv h.1)])
    have hf : vpk P = false := by simpa using hv
    rw [hf]
    clear hv hf hval
    go_wp2_with fail
    refine bodyPost_ret (res_packet_err rfl _ _ (w.heap.size + 1) _ rfl rfl (pput_row _ _ _ _ _ _ _ _ _ _ H1.out.zb)) rfl ?_
    exact ⟨by rw [hE.out]; rfl, grown_new H1.out.gr (pput_grown _ (w.heap.size + 1) _ _ _ _ _ _ _ _ _ _) (Nat.le_succ _)⟩
end Go.Proofs.YtnfgkakhdgiepaaDoor

/- PacketCopies: the walk. -/
namespace Go.Proofs.YtnfgkakhdgiepaaDoor
open Go.RowKit Bs
set_option maxRecDepth 100000 in
theorem keep3 {w0 w' : World} {a b : Nat} {P : Pk} (h : w0.heap[b]? = some (.cells (pcells P) 25 (0, 0))) (hab : b ≠ a) (hT : Tp w' a) (hg : Hid (w0.grownBy w' (some a))) :
    w'.cell? ⟨b, 8, none⟩ = some (.int .u64 (P.bits : Int)) ∧ Tp w' a ∧ Hid (w0.grownBy w' (some a)) :=
  ⟨(p_facts (kept_row h hg.out (fun e => hab (Option.some.inj e)))).2.2.2.2.2.2.2.2.1, hT, hg⟩
set_option maxRecDepth 100000 in
theorem hid_none (w : World) : Hid (w.grownBy w.drew none) := Lib.hid (grown_drew (grown_refl _ _))
set_option maxRecDepth 100000 in
theorem onlyp_agg (P : Pk) (hP : P.Wf) (k : Int) (Q : Pk) (hQ : Hid (onlyP P k = Q)) (w : World) :
    Calls Tryd.prog 31 #[.agg #[.int .i64 P.mode, .int .i64 P.sub, .int .i64 P.set, .int .i64 P.len, .int .i64 P.ttl, .int .i64 P.ent, .int .i64 P.ing, .int .i64 P.pro, .int .u64 (P.bits : Int), .string P.pay], .int .i64 k] w fun e w' => e = .returned (.agg #[.int .i64 Q.mode, .int .i64 Q.sub, .int .i64 Q.set, .int .i64 Q.len, .int .i64 Q.ttl, .int .i64 Q.ent, .int .i64 Q.ing, .int .i64 Q.pro, .int .u64 (Q.bits : Int), .string Q.pay]) ∧ w.grownBy w' none := by
  refine (onlyp_any P hP k w).mono ?_
  rw [hQ.out]
  exact fun e w' h => h
set_option maxRecDepth 100000 in
theorem onlyr_agg (P : Pk) (hP : P.Wf) (k : Int) (Q : Pk) (hQ : Hid (onlyP P k = Q)) (w : World) :
    Calls Tryd.prog 32 #[.agg #[.int .i64 P.mode, .int .i64 P.sub, .int .i64 P.set, .int .i64 P.len, .int .i64 P.ttl, .int .i64 P.ent, .int .i64 P.ing, .int .i64 P.pro, .int .u64 (P.bits : Int), .string P.pay], .int .i64 k] w fun e w' => e = .returned (.agg #[.int .i64 Q.mode, .int .i64 Q.sub, .int .i64 Q.set, .int .i64 Q.len, .int .i64 Q.ttl, .int .i64 Q.ent, .int .i64 Q.ing, .int .i64 Q.pro, .int .u64 (Q.bits : Int), .string Q.pay]) ∧ w.grownBy w' none := by
  refine (onlyr_any P hP k w).mono ?_
  rw [hQ.out]
  exact fun e w' h => h
set_option maxRecDepth 100000 in
theorem maskp_agg (P : Pk) (hP : P.Wf) (m : Nat) (hm : U64 m) (Q : Pk) (b : Bool) (hQ : Hid (mskP P m = (Q, b))) (w : World) :
    Calls Tryd.prog 33 #[.agg #[.int .i64 P.mode, .int .i64 P.sub, .int .i64 P.set, .int .i64 P.len, .int .i64 P.ttl, .int .i64 P.ent, .int .i64 P.ing, .int .i64 P.pro, .int .u64 (P.bits : Int), .string P.pay], .int .u64 (m : Int)] w fun e w' => e = .returned (.tuple #[.agg #[.int .i64 Q.mode, .int .i64 Q.sub, .int .i64 Q.set, .int .i64 Q.len, .int .i64 Q.ttl, .int .i64 Q.ent, .int .i64 Q.ing, .int .i64 Q.pro, .int .u64 (Q.bits : Int), .string Q.pay], .bool b]) ∧ w.grownBy w' none := by
  refine (maskp_any P hP m hm w).mono ?_
  rw [hQ.out]
  exact fun e w' h => h
set_option maxRecDepth 100000 in
theorem maskr_agg (P : Pk) (hP : P.Wf) (m : Nat) (hm : U64 m) (Q : Pk) (b : Bool) (hQ : Hid (mskP P m = (Q, b))) (w : World) :
    Calls Tryd.prog 34 #[.agg #[.int .i64 P.mode, .int .i64 P.sub, .int .i64 P.set, .int .i64 P.len, .int .i64 P.ttl, .int .i64 P.ent, .int .i64 P.ing, .int .i64 P.pro, .int .u64 (P.bits : Int), .string P.pay], .int .u64 (m : Int)] w fun e w' => e = .returned (.tuple #[.agg #[.int .i64 Q.mode, .int .i64 Q.sub, .int .i64 Q.set, .int .i64 Q.len, .int .i64 Q.ttl, .int .i64 Q.ent, .int .i64 Q.ing, .int .i64 Q.pro, .int .u64 (Q.bits : Int), .string Q.pay], .bool b]) ∧ w.grownBy w' none := by
  refine (maskr_any P hP m hm w).mono ?_
  rw [hQ.out]
  exact fun e w' h => h
set_option maxRecDepth 100000 in
theorem msk_bits {P Q : Pk} {m : Nat} {b : Bool} (h : mskP P m = (Q, b)) : Q.bits = 0 ∨ Q.bits = P.bits &&& m := by
  unfold mskP at h
  split at h
  · injection h with h1 _; subst h1; exact .inr rfl
  · injection h with h1 _; subst h1; exact .inl rfl
set_option maxRecDepth 100000 in
theorem msk_apart {P A C : Pk} {m n : Nat} {x y : Bool} (hm : U64 m) (hP : U64 P.bits) (hA : mskP P m = (A, x)) (hC : mskP P (n &&& (18446744073709551615 - m)) = (C, y)) :
    ((A.bits &&& C.bits : Nat) : Int) = 0 ∧ U64 A.bits ∧ U64 C.bits := by
  have uA : U64 A.bits := by rcases msk_bits hA with h | h <;> rw [h] <;> first | (unfold U64; decide) | exact Nat.lt_of_le_of_lt Nat.and_le_left hP
  have uC : U64 C.bits := by rcases msk_bits hC with h | h <;> rw [h] <;> first | (unfold U64; decide) | exact Nat.lt_of_le_of_lt Nat.and_le_left hP
  refine ⟨?_, uA, uC⟩
  have : A.bits &&& C.bits = 0 := by
    rcases msk_bits hA with h | h
    · rw [h]; simp
    rcases msk_bits hC with k | k
    · rw [k]; simp
    rw [h, k]
    apply Nat.eq_of_testBit_eq
    intro i
    have e : 18446744073709551615 - m = 2 ^ 64 - (m + 1) := by omega
    rw [e]
    simp only [Nat.testBit_and, Nat.zero_testBit]
    rw [Nat.testBit_two_pow_sub_succ (show m < 2 ^ 64 from hm)]
    cases P.bits.testBit i <;> cases m.testBit i <;> simp
  rw [this]; rfl
set_option maxRecDepth 100000 in
theorem keepk {w0 w' : World} {b c j : Nat} {P : Pk} {k : Int} (h : w0.heap[b]? = some (.cells (pcells P) 25 (0, 0))) (hk : w0.cell? ⟨c, j, none⟩ = some (.int .i64 k)) (hg : Hid (w0.grownBy w' none)) :
    w'.cell? ⟨b, 0, none⟩ = some (.int .i64 P.mode) ∧ w'.cell? ⟨b, 1, none⟩ = some (.int .i64 P.sub) ∧ w'.cell? ⟨b, 2, none⟩ = some (.int .i64 P.set) ∧ w'.cell? ⟨b, 3, none⟩ = some (.int .i64 P.len) ∧ w'.cell? ⟨b, 4, none⟩ = some (.int .i64 P.ttl) ∧ w'.cell? ⟨b, 5, none⟩ = some (.int .i64 P.ent) ∧ w'.cell? ⟨b, 6, none⟩ = some (.int .i64 P.ing) ∧ w'.cell? ⟨b, 7, none⟩ = some (.int .i64 P.pro) ∧ w'.cell? ⟨b, 8, none⟩ = some (.int .u64 (P.bits : Int)) ∧ w'.cell? ⟨b, 9, none⟩ = some (.string P.pay) ∧ w'.cell? ⟨c, j, none⟩ = some (.int .i64 k) ∧ Hid (w0.grownBy w' none) := by
  obtain ⟨h0, h1, h2, h3, h4, h5, h6, h7, h8, h9⟩ := p_facts (kept_row h hg.out (by simp))
  exact ⟨h0, h1, h2, h3, h4, h5, h6, h7, h8, h9, hg.out.cell hk (by simp), hg⟩
set_option maxRecDepth 100000 in
set_option maxHeartbeats 3200000 in
theorem copies_walk (v : Value) (m n : Nat) (bit : Int) (hm : U64 m) (hn : U64 n) (hb : I64 bit) (w : World) (hv : IntsIn w v) (hT : Tb w) :
    Calls Tryd.prog 7 #[v, .int .u64 (m : Int), .int .u64 (n : Int), .int .i64 bit] w fun e w' => e = .returned (.bool true) ∧ w.grownBy w' none := by
  go_enter Tryd.func7, Tryd.ntmps7
  have HT0 := Lib.hid hT
  clear hT
  go_wp2_with fail
  refine (new_any v _ hv).mono ?_
  rintro e w2 ⟨rfl, hg1, hT1⟩
  go_wp2_with fail
  refine (packetN_agg _ 6 (by decide) (by decide) _ hT1).mono ?_
  rintro e w3 ⟨P, rfl, hP, hs⟩
  have S3 := Lib.hid hs
  have hT3 := hs.tp
  clear hs
  obtain ⟨k1, k2⟩ := one_box w3 (pcells P) 25
  have HB := Lib.hid k1
  have hT4 := hT3.keep k2
  have S4 := Lib.hid (grown_trans S3.out.gr (grown_none k2 (some w.heap.size)))
  have HAB : Hid (w3.heap.size ≠ w.heap.size ∧ w.heap.size < w3.heap.size) := Lib.hid (by have := hT3.lt; omega)
  have HP := Lib.hid hP
  clear k1 k2 hT3 hT1 S3 hP hv
  unfold pcells at HB hT4 S4
  go_upto_region 3 with fail
  generalize w3.alloc _ = w4 at *
  change Hid (w4.heap[w3.heap.size]? = some (.cells (pcells P) 25 (0, 0))) at HB
  have a8 := (p_facts HB.out).2.2.2.2.2.2.2.2.1
  have GR : Hid (w4.grownBy w4 (some w.heap.size)) := Lib.hid (grown_refl _ _)
  go_region_held3 (fun w' => w'.cell? ⟨w3.heap.size, 8, none⟩ = some (.int .u64 (P.bits : Int)) ∧ Tp w' w.heap.size ∧ Hid (w4.grownBy w' (some w.heap.size)))
    (first | with_reducible exact keep3 HB.out HAB.out.1 hT4.drew (hid_drew GR) | (go_split_ands; with_reducible refine keep3 HB.out HAB.out.1 hsk.tp (hid_more ?_ hsk.gr); with_reducible assumption) | (go_split_ands; with_reducible refine keep3 HB.out HAB.out.1 (Tp.keep ?_ hap) (hid_more ?_ (grown_none hap _)) <;> with_reducible assumption) | (go_split_ands; with_reducible refine keep3 HB.out HAB.out.1 (Tp.alloc ?_ _) (hid_more ?_ (World.grownBy_alloc _ _ _)) <;> with_reducible assumption) | (go_split_ands; with_reducible refine keep3 HB.out HAB.out.1 ?_ ?_ <;> with_reducible assumption))
    (first
      | (go_at_call 29; refine (range_any _ (-1) 65 (by decide) (by decide) (by decide) (by decide) _ ?_).mono ?_; (go_split_ands; with_reducible assumption); rintro e w' ⟨r, rfl, hr, hsk⟩)
      | (go_at_call 30; refine (firstr_any _ HP.out.bits _).mono ?_; rintro e w' ⟨rfl, hap⟩))
  all_goals
    have GZ := Lib.hid (grown_trans (grown_undrew_some hsk.gr) (grown_none hap (some w.heap.size)))
    have GA := World.grownBy_alloc w' (.cells #[.int .i64 bit, .int .i64 r, .int .i64 (fst P.bits)] 3) none
    have HL := Lib.hid (heap_alloc_new w' (.cells #[.int .i64 bit, .int .i64 r, .int .i64 (fst P.bits)] 3))
    have HB5 := Lib.hid (kept_row (kept_row HB.out GZ.out (fun e => HAB.out.1 (Option.some.inj e))) GA (by simp))
    have G5 := Lib.hid (grown_trans (grown_tape hg1 (grown_trans S4.out GZ.out)) GA)
    go_split_ands
    clear GZ GA HB hsk hap GR S4 hT4 a8 hg1
    generalize fst P.bits = fb at *
    go_upto_region 4 with fail
    generalize w'.alloc _ = w5 at *
    obtain ⟨bl, hbl⟩ : ∃ b, b = w'.heap.size := ⟨_, rfl⟩
    rw [← hbl] at HL ⊢
    clear hbl
    change Hid (w5.heap[w3.heap.size]? = some (.cells (pcells P) 25 (0, 0))) at HB5
    go_wp2_with fail
    go_loopw [12] (fun i wr => ∃ j : Nat, j ≤ 3 ∧ i = .int .i64 (j : Int) ∧ Hid (w5.grownBy wr none)) (fun i _ => (3 - (intOf i).toNat))
    case atStart => exact ⟨0, Nat.zero_le _, rfl, Lib.hid (grown_refl _ _)⟩
    case round =>
      obtain ⟨j, hj, rfl, hR⟩ := hrel
      by_cases hj3 : j < 3
      · have RB := Lib.hid (kept_row HB5.out hR.out (by simp))
        obtain ⟨k, hk⟩ : ∃ k, wr.cell? ⟨bl, j, none⟩ = some (.int .i64 k) := by
          have := kept_row HL.out hR.out (by simp)
          rcases (show j = 0 ∨ j = 1 ∨ j = 2 by omega) with rfl | rfl | rfl
          · exact ⟨_, cell_of_row _ _ _ _ _ _ this⟩
          · exact ⟨_, cell_of_row _ _ _ _ _ _ this⟩
          · exact ⟨_, cell_of_row _ _ _ _ _ _ this⟩
        have j0 : (0 : Int) ≤ (j : Int) := by omega
        have j3 : (j : Int) < 3 := by omega
        have HK := Lib.hid hk
        obtain ⟨Q, hQ⟩ : ∃ Q, onlyP P k = Q := ⟨_, rfl⟩
        have HQ := Lib.hid hQ
        clear hQ
        obtain ⟨a0, a1, a2, a3, a4, a5, a6, a7, a8, a9⟩ := p_facts RB.out
        go_wp2_with fail
        go_region_held3 (fun w' => w'.cell? ⟨w3.heap.size, 0, none⟩ = some (.int .i64 P.mode) ∧ w'.cell? ⟨w3.heap.size, 1, none⟩ = some (.int .i64 P.sub) ∧ w'.cell? ⟨w3.heap.size, 2, none⟩ = some (.int .i64 P.set) ∧ w'.cell? ⟨w3.heap.size, 3, none⟩ = some (.int .i64 P.len) ∧ w'.cell? ⟨w3.heap.size, 4, none⟩ = some (.int .i64 P.ttl) ∧ w'.cell? ⟨w3.heap.size, 5, none⟩ = some (.int .i64 P.ent) ∧ w'.cell? ⟨w3.heap.size, 6, none⟩ = some (.int .i64 P.ing) ∧ w'.cell? ⟨w3.heap.size, 7, none⟩ = some (.int .i64 P.pro) ∧ w'.cell? ⟨w3.heap.size, 8, none⟩ = some (.int .u64 (P.bits : Int)) ∧ w'.cell? ⟨w3.heap.size, 9, none⟩ = some (.string P.pay) ∧ w'.cell? ⟨bl, j, none⟩ = some (.int .i64 k) ∧ Hid (wr.grownBy w' none))
          (first | with_reducible exact keepk RB.out HK.out (hid_none _) | (go_split_ands; with_reducible refine keepk RB.out HK.out (hid_more ?_ hap); with_reducible assumption) | (go_split_ands; with_reducible refine keepk RB.out HK.out ?_; with_reducible assumption))
          (first
            | (go_at_call 31; refine (onlyp_agg P HP.out k Q HQ _).mono ?_; rintro e w' ⟨rfl, hap⟩)
            | (go_at_call 32; refine (onlyr_agg P HP.out k Q HQ _).mono ?_; rintro e w' ⟨rfl, hap⟩))
        all_goals
          go_split_ands
          have GW : Hid (wr.grownBy w' none) := by assumption
          have HR2 := Lib.hid (grown_trans hR.out GW.out)
          clear GW a0 a1 a2 a3 a4 a5 a6 a7 a8 a9 HK HQ RB hk
          go_wp2_with fail
          go_roundw
          case rel => exact ⟨j + 1, by omega, rfl, HR2⟩
          case measure => simp [intOf]; omega
      · obtain rfl : j = 3 := by omega
        have RB := Lib.hid (kept_row HB5.out hR.out (by simp))
        have GR := Lib.hid (grown_trans G5.out hR.out)
        have hmn := andNotU n m hn hm
        have hmnU : U64 (n &&& (18446744073709551615 - m)) := Nat.lt_of_le_of_lt Nat.and_le_left hn
        obtain ⟨z, hz⟩ : ∃ z, z = n &&& (18446744073709551615 - m) := ⟨_, rfl⟩
        rw [← hz] at hmn hmnU
        have HZ := Lib.hid hz
        obtain ⟨a0, a1, a2, a3, a4, a5, a6, a7, a8, a9⟩ := p_facts RB.out
        clear hj3 hR HL G5 HB5 hj hz
        obtain ⟨⟨A, x⟩, hA⟩ : ∃ y, mskP P m = y := ⟨_, rfl⟩
        obtain ⟨⟨C, y⟩, hC⟩ : ∃ y, mskP P z = y := ⟨_, rfl⟩
        have HA := Lib.hid hA
        have HC := Lib.hid hC
        have hAC := Lib.hid (msk_apart hm HP.out.bits hA (HZ.out ▸ hC))
        have HmU := Lib.hid hm
        have HzU := Lib.hid hmnU
        clear hA hC hmnU hm hn hb HZ
        go_wp2_with fail
        clear hmn
        refine (maskp_agg P HP.out m HmU.out A x HA _).mono ?_
        rintro e w6 ⟨rfl, hg⟩
        have hgb := World.grownBy_alloc w6 (.cells (pcells A) 25) none
        have RB0 := Lib.hid (kept_row RB.out (grown_trans hg hgb) (by simp))
        have GR0 := Lib.hid (grown_trans GR.out (grown_trans hg hgb))
        have RN0 := Lib.hid (heap_alloc_new w6 (.cells (pcells A) 25))
        clear hg hgb RB GR a0 a1 a2 a3 a4 a5 a6 a7 a8 a9
        obtain ⟨a0, a1, a2, a3, a4, a5, a6, a7, a8, a9⟩ := p_facts RB0.out
        have hpc : pcells A = #[.int .i64 A.mode, .int .i64 A.sub, .int .i64 A.set, .int .i64 A.len, .int .i64 A.ttl, .int .i64 A.ent, .int .i64 A.ing, .int .i64 A.pro, .int .u64 (A.bits : Int), .string A.pay] := rfl
        rw [hpc] at a0 a1 a2 a3 a4 a5 a6 a7 a8 a9
        clear hpc
        go_wp2_with fail
        clear a0 a1 a2 a3 a4 a5 a6 a7 a8 a9
        have hpc : pcells A = #[.int .i64 A.mode, .int .i64 A.sub, .int .i64 A.set, .int .i64 A.len, .int .i64 A.ttl, .int .i64 A.ent, .int .i64 A.ing, .int .i64 A.pro, .int .u64 (A.bits : Int), .string A.pay] := rfl
        rw [← hpc]
        clear hpc
        generalize w6.alloc (.cells (pcells A) 25) = w7 at *
        obtain ⟨a0, a1, a2, a3, a4, a5, a6, a7, a8, a9⟩ := p_facts RB0.out
        refine (maskr_agg P HP.out m HmU.out A x HA _).mono ?_
        rintro e w8 ⟨rfl, hg⟩
        have hgb := World.grownBy_alloc w8 (.cells (pcells A) 25) none
        have RB1 := Lib.hid (kept_row RB0.out (grown_trans hg hgb) (by simp))
        have GR1 := Lib.hid (grown_trans GR0.out (grown_trans hg hgb))
        have RN1 := Lib.hid (heap_alloc_new w8 (.cells (pcells A) 25))
        have RN0_1 := Lib.hid (kept_row RN0.out (grown_trans hg hgb) (by simp))
        clear RN0
        clear hg hgb RB0 GR0 a0 a1 a2 a3 a4 a5 a6 a7 a8 a9
        obtain ⟨a0, a1, a2, a3, a4, a5, a6, a7, a8, a9⟩ := p_facts RB1.out
        have hpc : pcells A = #[.int .i64 A.mode, .int .i64 A.sub, .int .i64 A.set, .int .i64 A.len, .int .i64 A.ttl, .int .i64 A.ent, .int .i64 A.ing, .int .i64 A.pro, .int .u64 (A.bits : Int), .string A.pay] := rfl
        rw [hpc] at a0 a1 a2 a3 a4 a5 a6 a7 a8 a9
        clear hpc
        go_wp2_with fail
        clear a0 a1 a2 a3 a4 a5 a6 a7 a8 a9
        have hpc : pcells A = #[.int .i64 A.mode, .int .i64 A.sub, .int .i64 A.set, .int .i64 A.len, .int .i64 A.ttl, .int .i64 A.ent, .int .i64 A.ing, .int .i64 A.pro, .int .u64 (A.bits : Int), .string A.pay] := rfl
        rw [← hpc]
        clear hpc
        generalize w8.alloc (.cells (pcells A) 25) = w9 at *
        obtain ⟨a0, a1, a2, a3, a4, a5, a6, a7, a8, a9⟩ := p_facts RB1.out
        refine (maskp_agg P HP.out z HzU.out C y HC _).mono ?_
        rintro e w10 ⟨rfl, hg⟩
        have hgb := World.grownBy_alloc w10 (.cells (pcells C) 25) none
        have RB2 := Lib.hid (kept_row RB1.out (grown_trans hg hgb) (by simp))
        have GR2 := Lib.hid (grown_trans GR1.out (grown_trans hg hgb))
        have RN2 := Lib.hid (heap_alloc_new w10 (.cells (pcells C) 25))
        have RN0_2 := Lib.hid (kept_row RN0_1.out (grown_trans hg hgb) (by simp))
        clear RN0_1
        have RN1_2 := Lib.hid (kept_row RN1.out (grown_trans hg hgb) (by simp))
        clear RN1
        clear hg hgb RB1 GR1 a0 a1 a2 a3 a4 a5 a6 a7 a8 a9
        obtain ⟨a0, a1, a2, a3, a4, a5, a6, a7, a8, a9⟩ := p_facts RB2.out
        have hpc : pcells C = #[.int .i64 C.mode, .int .i64 C.sub, .int .i64 C.set, .int .i64 C.len, .int .i64 C.ttl, .int .i64 C.ent, .int .i64 C.ing, .int .i64 C.pro, .int .u64 (C.bits : Int), .string C.pay] := rfl
        rw [hpc] at a0 a1 a2 a3 a4 a5 a6 a7 a8 a9
        clear hpc
        go_wp2_with fail
        clear a0 a1 a2 a3 a4 a5 a6 a7 a8 a9
        have hpc : pcells C = #[.int .i64 C.mode, .int .i64 C.sub, .int .i64 C.set, .int .i64 C.len, .int .i64 C.ttl, .int .i64 C.ent, .int .i64 C.ing, .int .i64 C.pro, .int .u64 (C.bits : Int), .string C.pay] := rfl
        rw [← hpc]
        clear hpc
        generalize w10.alloc (.cells (pcells C) 25) = w11 at *
        obtain ⟨a0, a1, a2, a3, a4, a5, a6, a7, a8, a9⟩ := p_facts RB2.out
        refine (maskr_agg P HP.out z HzU.out C y HC _).mono ?_
        rintro e w12 ⟨rfl, hg⟩
        have hgb := World.grownBy_alloc w12 (.cells (pcells C) 25) none
        have RB3 := Lib.hid (kept_row RB2.out (grown_trans hg hgb) (by simp))
        have GR3 := Lib.hid (grown_trans GR2.out (grown_trans hg hgb))
        have RN3 := Lib.hid (heap_alloc_new w12 (.cells (pcells C) 25))
        have RN0_3 := Lib.hid (kept_row RN0_2.out (grown_trans hg hgb) (by simp))
        clear RN0_2
        have RN1_3 := Lib.hid (kept_row RN1_2.out (grown_trans hg hgb) (by simp))
        clear RN1_2
        have RN2_3 := Lib.hid (kept_row RN2.out (grown_trans hg hgb) (by simp))
        clear RN2
        clear hg hgb RB2 GR2 a0 a1 a2 a3 a4 a5 a6 a7 a8 a9
        have hpa : pcells A = #[.int .i64 A.mode, .int .i64 A.sub, .int .i64 A.set, .int .i64 A.len, .int .i64 A.ttl, .int .i64 A.ent, .int .i64 A.ing, .int .i64 A.pro, .int .u64 (A.bits : Int), .string A.pay] := rfl
        have hpc : pcells C = #[.int .i64 C.mode, .int .i64 C.sub, .int .i64 C.set, .int .i64 C.len, .int .i64 C.ttl, .int .i64 C.ent, .int .i64 C.ing, .int .i64 C.pro, .int .u64 (C.bits : Int), .string C.pay] := rfl
        obtain ⟨a0, a1, a2, a3, a4, a5, a6, a7, a8, a9⟩ := p_facts RN0_3.out
        obtain ⟨b0, b1, b2, b3, b4, b5, b6, b7, b8, b9⟩ := p_facts RN1_3.out
        obtain ⟨c0, c1, c2, c3, c4, c5, c6, c7, c8, c9⟩ := p_facts RN2_3.out
        obtain ⟨d0, d1, d2, d3, d4, d5, d6, d7, d8, d9⟩ := p_facts RN3.out
        rw [hpc] at a0 a1 a2 a3 a4 a5 a6 a7 a8 a9 b0 b1 b2 b3 b4 b5 b6 b7 b8 b9 c0 c1 c2 c3 c4 c5 c6 c7 c8 c9 d0 d1 d2 d3 d4 d5 d6 d7 d8 d9
        clear hpc hpa
        have hT9 := Lib.hid (HT0.out.keep GR3.out)
        have hand := andU A.bits C.bits hAC.out.2.1 hAC.out.2.2
        rw [hAC.out.1] at hand
        have G3 := GR3
        clear RN0_3 RN1_3 RN2_3 RN3 RB3 GR3
        go_wp2_with fail
        refine (awake_any _ hT9.out).mono ?_
        rintro e w14 ⟨rfl, hg⟩
        have G8 := Lib.hid (grown_trans G3.out hg)
        clear hg a0 a1 a2 a3 a4 a5 a6 a7 a8 a9 b0 b1 b2 b3 b4 b5 b6 b7 b8 b9 c0 c1 c2 c3 c4 c5 c6 c7 c8 c9 d0 d1 d2 d3 d4 d5 d6 d7 d8 d9 hand
        go_wp2_with fail
        go_ret
        exact ⟨rfl, G8.out⟩
end Go.Proofs.YtnfgkakhdgiepaaDoor
