/- Parts of the proof, packed: DbRVw. -/
import Derived.Test.YtnpkihioklpnmaaVw11
import Derived.Test.YtnpkihioklpnmaaVw8
import Derived.Test.YtnpkihioklpnmaaVw13
import Derived.Test.YtnpkihioklpnmaaVw3
import Derived.Test.YtnpkihioklpnmaaVw2
import Derived.Deep.CutBlock
import Derived.Deep.CutRange
/- The reference's View. -/
namespace Go.Proofs.Ytnpkihioklpnmaa
open Go.RowKit Bs
/-- While the routers are gathered: the database and its box, the result's box, the row of routers. -/
structure RV (W : World) (l : List Ad) (p : Option Addr) (c N : Nat) (vi : Value) (S : List Int) (w : World) : Prop where
  db : RdA w (· < W.heap.size) (.slice p l.length c) l
  d : w.heap[W.heap.size]? = some (.cells #[.slice p l.length c] 25 (0, 0))
  z : w.heap[W.heap.size + 1]? = some (.cells #[.slice none 0 0, .slice none 0 0] 59 (0, 0))
  own : w.ownsRow N 3 1 vi S.length (S.map tv)
  lo : W.heap.size + 2 ≤ N ∧ N ≤ w.heap.size
  gr : W.grownBy w none
section
variable {W w w1 : World} {l : List Ad} {p : Option Addr} {c N : Nat} {vi v' : Value} {S : List Int}
set_option maxRecDepth 100000 in
theorem RV.keep (h : RV W l p c N vi S w) (g : w.grownBy w1 none) : RV W l p c N vi S w1 := ⟨h.db.keep g, kept_row h.d g (by simp), kept_row h.z g (by simp), h.own.kept g (by cases vi.ownBlock <;> simp), ⟨h.lo.1, Nat.le_trans h.lo.2 g.size⟩, grown_trans h.gr g⟩
set_option maxRecDepth 100000 in
theorem RV.app {x : Int} (h : RV W l p c N vi S w) (hown : w1.ownsRow N 3 1 v' (S.length + 1) (S.map tv ++ [.int .i64 x])) (hg : w.grownBy w1 vi.ownBlock) : RV W l p c N v' (S ++ [x]) w1 := by
  have hlo := h.lo
  have hne : ∀ k, k < N → some k ≠ vi.ownBlock := fun k hk e => by have := (h.own.lt k e.symm).1; omega
  refine ⟨h.db.grown hg (fun b hb => hne _ (by omega)), kept_row h.d hg (hne _ (by omega)), kept_row h.z hg (hne _ (by omega)), ?_, ⟨h.lo.1, Nat.le_trans h.lo.2 hg.size⟩, ?_⟩
  · rw [List.length_append, List.map_append]; exact hown
  · cases hv : vi.ownBlock with
    | none => rw [hv] at hg; exact grown_trans h.gr hg
    | some b => rw [hv] at hg; exact grown_new h.gr hg (by have := (h.own.lt b hv).1; omega)
set_option maxRecDepth 100000 in
theorem RV.shape (h : RV W l p c N vi S w) : ∃ pi ci, vi = .slice pi S.length ci := by
  obtain ⟨pi, ci, e, -, -⟩ := own_shape h.own
  exact ⟨pi, ci, e⟩
end
set_option maxRecDepth 100000 in
theorem has_inS (X : List Int) (x : Int) : hasI X x = inS X x := rfl
set_option maxRecDepth 100000 in
theorem s_at {S T : List Int} {i : Nat} {x : Int} (h : S[i]? = some x) : (S ++ T)[i]? = some x := by
  rw [List.getElem?_append_left (List.getElem?_eq_some_iff.1 h).1]; exact h
set_option maxRecDepth 100000 in
theorem rd_of_own2I {w : World} {base : Nat} {e : TypeId} {v : Value} {n : Nat} {xs : List Value} (h : w.ownsRow base e 1 v n xs) : Rd w (fun b => base ≤ b ∧ b < w.heap.size) v xs := by
  obtain ⟨p, c, hv, hx⟩ := rd_of_own h
  refine ⟨p, c, hv, fun hne => ?_⟩
  obtain ⟨b, off, hp, hb, hc⟩ := hx hne
  obtain ⟨x, hx0⟩ : ∃ x, xs[0]? = some x := by
    cases xs with
    | nil => exact absurd rfl hne
    | cons a t => exact ⟨a, rfl⟩
  exact ⟨b, off, hp, ⟨hb, World.block_lt_of_cell? w ⟨b, off + 0, none⟩ (hc 0 x hx0)⟩, hc⟩
/-- A row of routers in older blocks. -/
abbrev InR (W : World) (B : Nat) (vi : Value) (S : List Int) (w : World) : Prop := Rd w (fun b => W.heap.size ≤ b ∧ b < B) vi (S.map tv)
set_option maxRecDepth 100000 in
theorem inr_grown {W w w1 : World} {B : Nat} {vi : Value} {S : List Int} {r : Option Nat} (h : InR W B vi S w) (g : w.grownBy w1 r) (hr : ∀ x, r = some x → B ≤ x) : InR W B vi S w1 := h.grown g (fun b hb e => by have := hr b e.symm; omega)
/-- A box of three numbers has come since w0. -/
structure N3 (w0 : World) (b : Nat) (w : World) : Prop where
  bx : w.heap[b]? = some (.cells #[.int .i64 0, .int .i64 0, .int .i64 0] 73 (0, 0))
  lo : w0.heap.size ≤ b
set_option maxRecDepth 100000 in
theorem N3.keep {w0 w w1 : World} {b : Nat} (h : N3 w0 b w) (g : w.grownBy w1 none) : N3 w0 b w1 := ⟨kept_row h.bx g (by simp), h.lo⟩
set_option maxRecDepth 100000 in
theorem n3_start {w0 w1 : World} (g : w0.grownBy w1 none) : ∀ b, b = w1.heap.size → N3 w0 b (w1.alloc (.cells #[.int .i64 0, .int .i64 0, .int .i64 0] 73)) := by
  rintro b rfl
  exact ⟨heap_alloc_new _ _, g.size⟩
set_option maxRecDepth 100000 in
set_option maxHeartbeats 25600000 in
theorem rview_any (l : List Ad) (r : Int) (p : Option Addr) (c : Nat) (q : Nat → Prop) (w : World) (hR : RdA w q (.slice p l.length c) l) (hm : l.length ≤ 9223372036854775807) :
    Calls Try.prog 35 #[.agg #[.slice p l.length c], .int .i64 r] w fun e w' => VwPost l r w e w' := by
  obtain ⟨ir, hir, hr0, hr1, hr2⟩ := info_parts info_rtV
  obtain ⟨il, hil, hl0, hl1, hl2⟩ := info_parts info_lkV
  obtain ⟨ii, hii, hi0, hi1, hi2⟩ := info_parts info_int
  obtain ⟨k1, k2, k3, -⟩ := two_boxes w #[.slice p l.length c] #[.slice none 0 0, .slice none 0 0] 25 59
  have H0 := Lib.hid (And.intro k1 (And.intro k2 (And.intro k3 ((RdA.old hR).keep k3))))
  clear k1 k2 k3 hR
  go_enter Try.func35, Try.ntmps35
  go_upto_region 1 with fail
  generalize World.alloc (w.alloc _) _ = wa at *
  have c0 := cell_of_row _ _ 0 _ _ _ H0.out.1
  go_wp2_with fail
  refine (rfind_any l r p c _ wa H0.out.2.2.2 hm).mono ?_
  rintro e w1 ⟨X, rfl, -, -, hg⟩
  have gx := World.grownBy_alloc w1 (.cells #[.int .i64 X.r, .int .i64 X.q, .bool X.cp, .slice X.pL X.L.length X.cL, .slice X.pC X.C.length X.cC] 38) none
  have H1 := Lib.hid (And.intro (kept_row (kept_row H0.out.1 hg (by simp)) gx (by simp)) (And.intro (kept_row (kept_row H0.out.2.1 hg (by simp)) gx (by simp)) (And.intro (grown_trans (grown_trans H0.out.2.2.1 hg) gx) ((H0.out.2.2.2.keep hg).keep gx))))
  clear hg gx H0 c0
  have HNO : ∀ w9 : World, Hid (w9.heap[w.heap.size + 1]? = some (.cells #[.slice none 0 0, .slice none 0 0] 59 (0, 0)) ∧ w.grownBy w9 none) → Hid (viewV l r = ([], [])) → (((w9.setCell ⟨w.heap.size + 1, 0, none⟩ (.slice none 0 0)).setCell ⟨w.heap.size + 1, 1, none⟩ (.slice none 0 0)).heap[w.heap.size + 1]? = some (.cells #[.slice none 0 0, .slice none 0 0] 59 (0, 0))) ∧ VwPost l r w (.returned (.agg #[.slice none 0 0, .slice none 0 0])) ((w9.setCell ⟨w.heap.size + 1, 0, none⟩ (.slice none 0 0)).setCell ⟨w.heap.size + 1, 1, none⟩ (.slice none 0 0)) := fun w9 h9 hv => by
    obtain ⟨t1, t2⟩ := store2c (.slice none 0 0) (.slice none 0 0) h9.out.1
    exact ⟨t1, vw_no hv.out (grown_new h9.out.2 t2 (by omega))⟩
  have HNO := Lib.hid HNO
  obtain ⟨F, hF⟩ : ∃ F, fndA l r = F := ⟨_, rfl⟩
  rw [hF]
  have HF := Lib.hid hF
  clear hF
  go_upto_region 2 with fail
  generalize w1.alloc _ = w2 at *
  cases F with
  | none =>
    have HV := Lib.hid (view_none HF.out)
    have HN := Lib.hid (HNO.out w2 (Lib.hid ⟨H1.out.2.1, H1.out.2.2.1⟩) HV)
    have z0 := cell_of_row _ _ 0 _ _ _ H1.out.2.1
    have z1 := cell_of_row _ _ 1 _ _ _ H1.out.2.1
    have f0 := frozen_of_row _ _ 0 _ _ H1.out.2.1
    have f1 := frozen_of_row _ _ 1 _ _ H1.out.2.1
    clear H1
    go_wp2_with fail
    refine bodyPost_ret (res_topoV rfl _ _ (w.heap.size + 1) _ _ rfl HN.out.1) rfl ?_
    exact HN.out.2
  | some A0 =>
  have c0 := cell_of_row _ _ 0 _ _ _ H1.out.1
  go_wp2_with fail
  refine (rcheck8_any l p c _ w2 H1.out.2.2.2 hm).mono ?_
  rintro e w3 ⟨rfl, hg⟩
  have H2 := Lib.hid (And.intro (kept_row H1.out.1 hg (by simp)) (And.intro (kept_row H1.out.2.1 hg (by simp)) (And.intro (grown_trans H1.out.2.2.1 hg) (H1.out.2.2.2.keep hg))))
  clear hg H1 c0
  obtain ⟨Q, hQ⟩ : ∃ Q, chkD l = Q := ⟨_, rfl⟩
  have HQ := Lib.hid hQ
  rw [hQ]
  clear hQ
  by_cases hq0 : Q = 0
  rotate_left
  · have hqb : (Q == 0) = false := by simpa using hq0
    have HV : Hid (viewV l r = ([], [])) := Lib.hid (by unfold viewV okD; rw [HQ.out, hqb]; rfl)
    have HN := Lib.hid (HNO.out w3 (Lib.hid ⟨H2.out.2.1, H2.out.2.2.1⟩) HV)
    have z0 := cell_of_row _ _ 0 _ _ _ H2.out.2.1
    have z1 := cell_of_row _ _ 1 _ _ _ H2.out.2.1
    have f0 := frozen_of_row _ _ 0 _ _ H2.out.2.1
    have f1 := frozen_of_row _ _ 1 _ _ H2.out.2.1
    clear H2
    go_wp2_with fail
    refine bodyPost_ret (res_topoV rfl _ _ (w.heap.size + 1) _ _ rfl HN.out.1) rfl ?_
    exact HN.out.2
  subst hq0
  have HOV : Hid (OkD l) := Lib.hid (chk_OkD HQ.out)
  have hll := HOV.out.len
  have HVW : Hid (viewV l r = if chk (vwR l (reS l r)) (vwL l (reS l r)) = 0 then (vwR l (reS l r), vwL l (reS l r)) else ([], [])) := Lib.hid (by unfold viewV; rw [if_pos HOV.out.ok])
  have HRNG : Hid (∀ A ∈ l, (1 ≤ A.r ∧ A.r ≤ 99) ∧ A.L.length ≤ 23) := Lib.hid (fun A hA => ⟨vAd_r (HOV.out.v A hA), vAd_len (HOV.out.v A hA)⟩)
  have HRI := Lib.hid (ri_start HF.out)
  obtain ⟨N, hN⟩ : ∃ N, w3.heap.size = N := ⟨_, rfl⟩
  have gi := World.grownBy_alloc w3 (.cells #[.int .i64 r] 3) none
  have hz9 := World.lt_of_row' H2.out.2.1
  have H3 : Hid (RV w l p c N (.slice (some ⟨N, 0, none⟩) 1 1) [r] (w3.alloc (.cells #[.int .i64 r] 3))) := Lib.hid ⟨H2.out.2.2.2.keep gi, kept_row H2.out.1 gi (by simp), kept_row H2.out.2.1 gi (by simp), by rw [← hN]; exact World.ownsRow_lit w3 #[.int .i64 r] 1 (Nat.le_refl _) (by decide) rfl, ⟨by omega, by have := gi.size; omega⟩, grown_trans H2.out.2.2.1 gi⟩
  clear gi H2 hz9
  go_upto_region 5 with fail
  try rw [hN]
  generalize w3.alloc _ = w4 at *
  clear hN
  go_wp2_with fail
  go_loopw [7, 8] (fun v x wr => ∃ (i : Nat) (S : List Int) (Wl : List Ad), x = .int .i64 (i : Int) ∧ Hid (RI l r S Wl i) ∧ Hid (RV w l p c N v S wr)) (fun _ x _ => 101 - (RowKit.intOf x).toNat)
  case atStart => exact ⟨0, [r], [A0], rfl, HRI, H3⟩
  case round =>
  obtain ⟨i, S, Wl, rfl, RIi, K⟩ := hrel
  clear HRI H3
  obtain ⟨pi, ci, rfl⟩ := K.out.shape
  have hSl := RIi.out.len hll
  have hiS := RIi.out.i
  by_cases hlt : i < S.length
  · obtain ⟨A, W', rfl, hA, hSi, hw⟩ := RIi.out.one hlt
    have HA := Lib.hid (And.intro hA hSi)
    clear hA hSi hw
    go_wp2_with fail
    go_loopw [7, 9] (fun v x wr => ∃ (k : Nat) (S2 : List Int) (W2 : List Ad), k ≤ l.length ∧ x = .int .i64 (k : Int) ∧ S2.length ≤ 200 ∧ Hid (((l.take k).filter (lkAd A)).foldl addA (S, W') = (S2, W2)) ∧ Hid (RV w l p c N v S2 wr)) (fun _ x _ => l.length - (RowKit.intOf x).toNat)
    case atStart => exact ⟨0, S, W', Nat.zero_le _, rfl, by omega, Lib.hid (by rw [List.take_zero]; rfl), K⟩
    case round =>
    obtain ⟨k, S2, W2, hk, rfl, hS2l, HFO, K2⟩ := hrel
    clear K
    obtain ⟨wq, hwq⟩ : ∃ wq, wq = wr := ⟨_, rfl⟩
    rw [← hwq] at K2 ⊢
    clear hwq
    obtain ⟨pi2, ci2, rfl⟩ := K2.out.shape
    have c0 := cell_of_row _ _ 0 _ _ _ K2.out.d
    by_cases hkl : k < l.length
    · obtain ⟨-, g, off, rfl, -, -⟩ := rda_cells K2.out.db (by omega)
      obtain ⟨B, hB⟩ : ∃ B, l[k]? = some B := ⟨_, List.getElem?_eq_getElem hkl⟩
      obtain ⟨a0, a1, a2, a3, a4⟩ := rda_at K2.out.db hB
      have HB := Lib.hid (And.intro hB (List.mem_of_getElem? hB))
      have HST := Lib.hid (flt_take (A := A) hB (S, W'))
      rw [HFO.out] at HST
      have HLK : Hid (lkdB l A.r B.r = lkAd A B) := Lib.hid (lkd_eq HOV.out HA.out.1 (List.mem_of_getElem? hB))
      have HSI : Hid (S2[i]? = some A.r) := Lib.hid (by
        obtain ⟨T, hT⟩ := add_pre ((l.take k).filter (lkAd A)) (S, W')
        rw [HFO.out] at hT
        rw [show S2 = S ++ T from hT]
        exact s_at HA.out.2)
      clear hB
      obtain ⟨kb, hkb⟩ : ∃ kb, lkAd A B = kb := ⟨_, rfl⟩
      rw [hkb] at HST HLK
      clear hkb
      have hiS2 : i < S2.length := (List.getElem?_eq_some_iff.1 HSI.out).1
      have hpos : 0 < S2.length := Nat.lt_of_le_of_lt (Nat.zero_le _) (List.getElem?_eq_some_iff.1 HSI.out).1
      obtain ⟨gi, capi, e9, -, -⟩ := K2.out.own.form hpos
      injection e9 with e91 e92 e93
      subst e91 e93
      clear e92
      go_upto_region 12 with fail
      clear a0 a1 a2 a3 a4 c0
      go_cut [11, 12, 13] from 57 to 67 (fun _ _ o wx => o = .bool kb ∧ Hid (RV w l (some ⟨g, off, none⟩) c N (.slice (some ⟨gi, 0, none⟩) S2.length ci2) S2 wx))
      case first =>
        have HD := Lib.hid (grown_drew (grown_refl wq none))
        refine wp_region_held_drew (S := fun w' => Hid (wq.grownBy w' none)) (by kernel_rfl) (HD) (fun hHeld => ?_)
        generalize hwd : wq.drew = wd at *
        clear hwd
        refine wpAnyH_take (i := 0) (oi := { dst := some 58, op := Op.load 25 (Operand.tmp 2), type := 25, pos := "ref.go:125", after := #[], guard := none }) (v := ?_) rfl (by kernel_rfl) (by kernel_rfl) (by kernel_rfl) (fun _ _ _ h => h) (Or.inl ⟨by rfl, ?_⟩) hHeld ?_
        rotate_left 1
        · intro u hSu
          have hO := K2.out.keep hSu.out
          have c0 := cell_of_row _ _ 0 _ _ _ hO.d
          have hrow := hO.own.cells (g := gi) rfl i (.int .i64 A.r) (by rw [List.getElem?_map, HSI.out]; rfl)
          rw [add_plain, Nat.zero_add] at hrow
          go_simp
          first | done | with_reducible rfl
        (try simp only [Act.put, List.setIfInBounds_toArray, List.set_cons_zero, List.set_cons_succ])
        refine wpAnyH_take (i := 1) (oi := { dst := some 59, op := Op.move (Operand.tmp 7), type := 22, pos := "ref.go:125", after := #[], guard := none }) (v := ?_) rfl (by kernel_rfl) (by kernel_rfl) (by kernel_rfl) (fun _ _ _ h => h) (Or.inl ⟨by rfl, ?_⟩) hHeld ?_
        rotate_left 1
        · intro u hSu
          have hO := K2.out.keep hSu.out
          have c0 := cell_of_row _ _ 0 _ _ _ hO.d
          have hrow := hO.own.cells (g := gi) rfl i (.int .i64 A.r) (by rw [List.getElem?_map, HSI.out]; rfl)
          rw [add_plain, Nat.zero_add] at hrow
          go_simp
          first | done | with_reducible rfl
        (try simp only [Act.put, List.setIfInBounds_toArray, List.set_cons_zero, List.set_cons_succ])
        refine wpAnyH_take (i := 2) (oi := { dst := some 60, op := Op.move (Operand.tmp 8), type := 3, pos := "ref.go:125", after := #[], guard := none }) (v := ?_) rfl (by kernel_rfl) (by kernel_rfl) (by kernel_rfl) (fun _ _ _ h => h) (Or.inl ⟨by rfl, ?_⟩) hHeld ?_
        rotate_left 1
        · intro u hSu
          have hO := K2.out.keep hSu.out
          have c0 := cell_of_row _ _ 0 _ _ _ hO.d
          have hrow := hO.own.cells (g := gi) rfl i (.int .i64 A.r) (by rw [List.getElem?_map, HSI.out]; rfl)
          rw [add_plain, Nat.zero_add] at hrow
          go_simp
          first | done | with_reducible rfl
        (try simp only [Act.put, List.setIfInBounds_toArray, List.set_cons_zero, List.set_cons_succ])
        refine wpAnyH_take (i := 3) (oi := { dst := some 61, op := Op.indexAddr 22 (Operand.tmp 59) (Operand.tmp 60), type := 0, pos := "ref.go:125", after := #[{ on := 1, ground := Ground.data }, { on := 2, ground := Ground.data }], guard := none }) (v := ?_) rfl (by kernel_rfl) (by kernel_rfl) (by kernel_rfl) (fun _ _ _ h => h) (Or.inl ⟨by rfl, ?_⟩) hHeld ?_
        rotate_left 1
        · intro u hSu
          have hO := K2.out.keep hSu.out
          have c0 := cell_of_row _ _ 0 _ _ _ hO.d
          have hrow := hO.own.cells (g := gi) rfl i (.int .i64 A.r) (by rw [List.getElem?_map, HSI.out]; rfl)
          rw [add_plain, Nat.zero_add] at hrow
          go_simp
          first | done | with_reducible rfl
        (try simp only [Act.put, List.setIfInBounds_toArray, List.set_cons_zero, List.set_cons_succ])
        refine wpAnyH_take (i := 4) (oi := { dst := some 62, op := Op.load 3 (Operand.tmp 61), type := 3, pos := "ref.go:125", after := #[{ on := 3, ground := Ground.data }], guard := none }) (v := ?_) rfl (by kernel_rfl) (by kernel_rfl) (by kernel_rfl) (fun _ _ _ h => h) (Or.inl ⟨by rfl, ?_⟩) hHeld ?_
        rotate_left 1
        · intro u hSu
          have hO := K2.out.keep hSu.out
          have c0 := cell_of_row _ _ 0 _ _ _ hO.d
          have hrow := hO.own.cells (g := gi) rfl i (.int .i64 A.r) (by rw [List.getElem?_map, HSI.out]; rfl)
          rw [add_plain, Nat.zero_add] at hrow
          go_simp
          first | done | with_reducible rfl
        (try simp only [Act.put, List.setIfInBounds_toArray, List.set_cons_zero, List.set_cons_succ])
        refine wpAnyH_take (i := 5) (oi := { dst := some 63, op := Op.move (Operand.tmp 10), type := 3, pos := "ref.go:125", after := #[], guard := none }) (v := ?_) rfl (by kernel_rfl) (by kernel_rfl) (by kernel_rfl) (fun _ _ _ h => h) (Or.inl ⟨by rfl, ?_⟩) hHeld ?_
        rotate_left 1
        · intro u hSu
          have hO := K2.out.keep hSu.out
          have c0 := cell_of_row _ _ 0 _ _ _ hO.d
          have hrow := hO.own.cells (g := gi) rfl i (.int .i64 A.r) (by rw [List.getElem?_map, HSI.out]; rfl)
          rw [add_plain, Nat.zero_add] at hrow
          go_simp
          first | done | with_reducible rfl
        (try simp only [Act.put, List.setIfInBounds_toArray, List.set_cons_zero, List.set_cons_succ])
        refine wpAnyH_ready (rs := [6, 11, 12]) (by kernel_rfl) (by simp) ?_
        refine AllReadyH.cons (o := { dst := some 64, op := Op.call { callee := Callee.value (Operand.func 69), args := #[Operand.tmp 58, Operand.tmp 62, Operand.tmp 63], argTypes := #[25, 3, 3] }, type := 106, pos := "ref.go:125", after := #[{ on := 0, ground := Ground.data }, { on := 4, ground := Ground.data }, { on := 5, ground := Ground.data }], guard := none }) rfl (fun Kz hK => ?_) (AllReadyH.cons (o := { dst := some 11, op := Op.alloc 73, type := 0, pos := "ref.go:125", after := #[], guard := none }) rfl (fun Kz hK => ?_) (AllReadyH.cons (o := { dst := some 12, op := Op.alloc 73, type := 0, pos := "ref.go:125", after := #[], guard := none }) rfl (fun Kz hK => ?_) AllReadyH.nil))
        · go_simp
          go_at_call 69
          refine (rlinked_any l A.r B.r (some ⟨g, off, none⟩) c _ _ (K2.out.keep hHeld.out).db hm).mono ?_
          rintro e w5 ⟨u, z, rfl, -, hg⟩
          rw [HLK.out]
          have hHn := Lib.hid (grown_trans hHeld.out hg)
          try replace HSa := Lib.hid (show ∀ b, b = _ → _ from fun b hb => (HSa.out b hb).keep hg)
          try replace HSb := Lib.hid (show ∀ b, b = _ → _ from fun b hb => (HSb.out b hb).keep hg)
          clear hg
          refine hK.out _ _ (hHn) (fun hH2 => ?_)
          clear hK Kz hHeld
          have hHeld := hH2
          clear hH2
          (try simp only [Act.put, List.setIfInBounds_toArray, List.set_cons_zero, List.set_cons_succ])
          refine wpAnyH_take (i := 7) (oi := { dst := some 57, op := Op.move (Operand.tmp 64), type := 106, pos := "ref.go:125", after := #[{ on := 6, ground := Ground.data }], guard := none }) (v := ?_) rfl (by kernel_rfl) (by kernel_rfl) (by kernel_rfl) (fun _ _ _ h => h) (Or.inl ⟨by rfl, ?_⟩) hHeld ?_
          rotate_left 1
          · intro u hSu
            have hO := K2.out.keep hSu.out
            have c0 := cell_of_row _ _ 0 _ _ _ hO.d
            have hrow := hO.own.cells (g := gi) rfl i (.int .i64 A.r) (by rw [List.getElem?_map, HSI.out]; rfl)
            rw [add_plain, Nat.zero_add] at hrow
            go_simp
            first | done | with_reducible rfl
          (try simp only [Act.put, List.setIfInBounds_toArray, List.set_cons_zero, List.set_cons_succ])
          refine wpAnyH_take (i := 8) (oi := { dst := some 65, op := Op.extract (Operand.tmp 57) 0, type := 73, pos := "ref.go:125", after := #[{ on := 7, ground := Ground.data }], guard := none }) (v := ?_) rfl (by kernel_rfl) (by kernel_rfl) (by kernel_rfl) (fun _ _ _ h => h) (Or.inl ⟨by rfl, ?_⟩) hHeld ?_
          rotate_left 1
          · intro u hSu
            have hO := K2.out.keep hSu.out
            have c0 := cell_of_row _ _ 0 _ _ _ hO.d
            have hrow := hO.own.cells (g := gi) rfl i (.int .i64 A.r) (by rw [List.getElem?_map, HSI.out]; rfl)
            rw [add_plain, Nat.zero_add] at hrow
            go_simp
            first | done | with_reducible rfl
          (try simp only [Act.put, List.setIfInBounds_toArray, List.set_cons_zero, List.set_cons_succ])
          refine wpAnyH_take (i := 9) (oi := { dst := some 66, op := Op.extract (Operand.tmp 57) 1, type := 73, pos := "ref.go:125", after := #[{ on := 7, ground := Ground.data }, { on := 13, ground := Ground.gcOnly Departure.lateStores }], guard := none }) (v := ?_) rfl (by kernel_rfl) (by kernel_rfl) (by kernel_rfl) (fun _ _ _ h => h) (Or.inl ⟨by rfl, ?_⟩) hHeld ?_
          rotate_left 1
          · intro u hSu
            have hO := K2.out.keep hSu.out
            have c0 := cell_of_row _ _ 0 _ _ _ hO.d
            have hrow := hO.own.cells (g := gi) rfl i (.int .i64 A.r) (by rw [List.getElem?_map, HSI.out]; rfl)
            rw [add_plain, Nat.zero_add] at hrow
            go_simp
            first | done | with_reducible rfl
          (try simp only [Act.put, List.setIfInBounds_toArray, List.set_cons_zero, List.set_cons_succ])
          refine wpAnyH_take (i := 10) (oi := { dst := some 67, op := Op.extract (Operand.tmp 57) 2, type := 4, pos := "ref.go:125", after := #[{ on := 7, ground := Ground.data }, { on := 14, ground := Ground.gcOnly Departure.lateStores }], guard := none }) (v := ?_) rfl (by kernel_rfl) (by kernel_rfl) (by kernel_rfl) (fun _ _ _ h => h) (Or.inl ⟨by rfl, ?_⟩) hHeld ?_
          rotate_left 1
          · intro u hSu
            have hO := K2.out.keep hSu.out
            have c0 := cell_of_row _ _ 0 _ _ _ hO.d
            have hrow := hO.own.cells (g := gi) rfl i (.int .i64 A.r) (by rw [List.getElem?_map, HSI.out]; rfl)
            rw [add_plain, Nat.zero_add] at hrow
            go_simp
            first | done | with_reducible rfl
          (try simp only [Act.put, List.setIfInBounds_toArray, List.set_cons_zero, List.set_cons_succ])
          refine wpAnyH_ready (rs := [11, 12]) (by kernel_rfl) (by simp) ?_
          refine AllReadyH.cons (o := { dst := some 11, op := Op.alloc 73, type := 0, pos := "ref.go:125", after := #[], guard := none }) rfl (fun Kz hK => ?_) (AllReadyH.cons (o := { dst := some 12, op := Op.alloc 73, type := 0, pos := "ref.go:125", after := #[], guard := none }) rfl (fun Kz hK => ?_) AllReadyH.nil)
          · go_simp
            try have HNE := Lib.hid (Nat.ne_of_gt (World.lt_of_row' (HSb.out _ rfl).bx))
            have HSN := n3_start hHeld.out
            try replace HSa := Lib.hid (show ∀ b, b = _ → _ from fun b hb => (HSa.out b hb).keep (World.grownBy_alloc _ (.cells #[.int .i64 0, .int .i64 0, .int .i64 0] 73) none))
            try replace HSb := Lib.hid (show ∀ b, b = _ → _ from fun b hb => (HSb.out b hb).keep (World.grownBy_alloc _ (.cells #[.int .i64 0, .int .i64 0, .int .i64 0] 73) none))
            have hHn := Lib.hid (grown_trans hHeld.out (World.grownBy_alloc _ (.cells #[.int .i64 0, .int .i64 0, .int .i64 0] 73) none))
            have HSa := Lib.hid HSN
            clear HSN
            generalize hwa : World.alloc _ _ = wA at *
            clear hwa
            refine hK.out _ _ (hHn) (fun hH2 => ?_)
            clear hK Kz hHeld
            have hHeld := hH2
            clear hH2
            (try simp only [Act.put, List.setIfInBounds_toArray, List.set_cons_zero, List.set_cons_succ])
            refine wpAnyH_ready (rs := [12]) (by kernel_rfl) (by simp) ?_
            refine AllReadyH.cons (o := { dst := some 12, op := Op.alloc 73, type := 0, pos := "ref.go:125", after := #[], guard := none }) rfl (fun Kz hK => ?_) AllReadyH.nil
            go_simp
            try have HNE := Lib.hid (Nat.ne_of_lt (World.lt_of_row' (HSa.out _ rfl).bx))
            have HSN := n3_start hHeld.out
            try replace HSa := Lib.hid (show ∀ b, b = _ → _ from fun b hb => (HSa.out b hb).keep (World.grownBy_alloc _ (.cells #[.int .i64 0, .int .i64 0, .int .i64 0] 73) none))
            try replace HSb := Lib.hid (show ∀ b, b = _ → _ from fun b hb => (HSb.out b hb).keep (World.grownBy_alloc _ (.cells #[.int .i64 0, .int .i64 0, .int .i64 0] 73) none))
            have hHn := Lib.hid (grown_trans hHeld.out (World.grownBy_alloc _ (.cells #[.int .i64 0, .int .i64 0, .int .i64 0] 73) none))
            have HSb := Lib.hid HSN
            clear HSN
            generalize hwa : World.alloc _ _ = wA at *
            clear hwa
            refine hK.out _ _ (hHn) (fun hH2 => ?_)
            clear hK Kz hHeld
            have hHeld := hH2
            clear hH2
            (try simp only [Act.put, List.setIfInBounds_toArray, List.set_cons_zero, List.set_cons_succ])
            refine wpAnyH_ready (rs := [13]) (by kernel_rfl) (by simp) ?_
            refine AllReadyH.cons (o := { dst := none, op := Op.store 73 (Operand.tmp 11) (Operand.tmp 65), type := 0, pos := "ref.go:125", after := #[{ on := 11, ground := Ground.data }, { on := 8, ground := Ground.data }, { on := 6, ground := Ground.chain }, { on := 0, ground := Ground.phase }, { on := 1, ground := Ground.phase }, { on := 2, ground := Ground.phase }, { on := 3, ground := Ground.phase }, { on := 4, ground := Ground.phase }, { on := 5, ground := Ground.phase }, { on := 6, ground := Ground.phase }, { on := 7, ground := Ground.phase }, { on := 8, ground := Ground.phase }, { on := 9, ground := Ground.textOnly Departure.lateStores }, { on := 10, ground := Ground.textOnly Departure.lateStores }, { on := 11, ground := Ground.phase }, { on := 12, ground := Ground.phase }], guard := none }) rfl (fun Kz hK => ?_) AllReadyH.nil
            have hna := HSa.out _ rfl
            obtain ⟨k0, k1, k2⟩ := row3 hna.bx
            have f0 := frozen_of_row _ _ 0 _ _ hna.bx
            have f1 := frozen_of_row _ _ 1 _ _ hna.bx
            have f2 := frozen_of_row _ _ 2 _ _ hna.bx
            have hst := store3r (.int .i64 u.a) (.int .i64 u.b) (.int .i64 u.c) hna.bx
            have HSn := Lib.hid (show ∀ b, b = _ → N3 wq b _ from fun b hb => ⟨kept_row (HSb.out b hb).bx hst.2 (fun e => HNE.out ((Option.some.inj e).symm.trans hb)), (HSb.out b hb).lo⟩)
            go_simp
            have hHn := Lib.hid (grown_new hHeld.out hst.2 hna.lo)
            clear k0 k1 k2 f0 f1 f2 hst hna
            clear HSb
            have HSb := HSn
            clear HSn
            refine hK.out _ _ (hHn) (fun hH2 => ?_)
            clear hK Kz hHeld
            have hHeld := hH2
            clear hH2
            (try simp only [Act.put, List.setIfInBounds_toArray, List.set_cons_zero, List.set_cons_succ])
            refine wpAnyH_ready (rs := [14]) (by kernel_rfl) (by simp) ?_
            refine AllReadyH.cons (o := { dst := none, op := Op.store 73 (Operand.tmp 12) (Operand.tmp 66), type := 0, pos := "ref.go:125", after := #[{ on := 12, ground := Ground.data }, { on := 9, ground := Ground.data }, { on := 13, ground := Ground.chain }, { on := 0, ground := Ground.phase }, { on := 1, ground := Ground.phase }, { on := 2, ground := Ground.phase }, { on := 3, ground := Ground.phase }, { on := 4, ground := Ground.phase }, { on := 5, ground := Ground.phase }, { on := 6, ground := Ground.phase }, { on := 7, ground := Ground.phase }, { on := 8, ground := Ground.phase }, { on := 9, ground := Ground.phase }, { on := 10, ground := Ground.textOnly Departure.lateStores }, { on := 11, ground := Ground.phase }, { on := 12, ground := Ground.phase }, { on := 13, ground := Ground.phase }], guard := none }) rfl (fun Kz hK => ?_) AllReadyH.nil
            have hna := HSb.out _ rfl
            obtain ⟨k0, k1, k2⟩ := row3 hna.bx
            have f0 := frozen_of_row _ _ 0 _ _ hna.bx
            have f1 := frozen_of_row _ _ 1 _ _ hna.bx
            have f2 := frozen_of_row _ _ 2 _ _ hna.bx
            have hst := store3r (.int .i64 z.a) (.int .i64 z.b) (.int .i64 z.c) hna.bx
            go_simp
            have hHn := Lib.hid (grown_new hHeld.out hst.2 hna.lo)
            clear k0 k1 k2 f0 f1 f2 hst hna
            refine hK.out _ _ (hHn) (fun hH2 => ?_)
            clear hK Kz hHeld
            have hHeld := hH2
            clear hH2
            (try simp only [Act.put, List.setIfInBounds_toArray, List.set_cons_zero, List.set_cons_succ])
            refine wpAnyH_take (i := 15) (oi := { dst := some 13, op := Op.assign (Operand.tmp 67), type := 4, pos := "ref.go:125", after := #[{ on := 10, ground := Ground.data }, { on := 14, ground := Ground.chain }, { on := 0, ground := Ground.phase }, { on := 1, ground := Ground.phase }, { on := 2, ground := Ground.phase }, { on := 3, ground := Ground.phase }, { on := 4, ground := Ground.phase }, { on := 5, ground := Ground.phase }, { on := 6, ground := Ground.phase }, { on := 7, ground := Ground.phase }, { on := 8, ground := Ground.phase }, { on := 9, ground := Ground.phase }, { on := 10, ground := Ground.phase }, { on := 11, ground := Ground.phase }, { on := 12, ground := Ground.phase }, { on := 13, ground := Ground.phase }, { on := 14, ground := Ground.phase }], guard := none }) (v := ?_) rfl (by kernel_rfl) (by kernel_rfl) (by kernel_rfl) (fun _ _ _ h => h) (Or.inl ⟨by rfl, ?_⟩) hHeld ?_
            rotate_left 1
            · intro u hSu
              have hO := K2.out.keep hSu.out
              have c0 := cell_of_row _ _ 0 _ _ _ hO.d
              have hrow := hO.own.cells (g := gi) rfl i (.int .i64 A.r) (by rw [List.getElem?_map, HSI.out]; rfl)
              rw [add_plain, Nat.zero_add] at hrow
              go_simp
              first | done | with_reducible rfl
            (try simp only [Act.put, List.setIfInBounds_toArray, List.set_cons_zero, List.set_cons_succ])
            refine wpAnyH_done (by kernel_rfl) ?_ _
            have KR := Lib.hid (K2.out.keep hHeld.out)
            clear HD hHeld hHn HSa HSb
            go_wp2_with fail
            go_meet
            exact ⟨rfl, KR⟩
          · go_simp
            try have HNE := Lib.hid (Nat.ne_of_lt (World.lt_of_row' (HSa.out _ rfl).bx))
            have HSN := n3_start hHeld.out
            try replace HSa := Lib.hid (show ∀ b, b = _ → _ from fun b hb => (HSa.out b hb).keep (World.grownBy_alloc _ (.cells #[.int .i64 0, .int .i64 0, .int .i64 0] 73) none))
            try replace HSb := Lib.hid (show ∀ b, b = _ → _ from fun b hb => (HSb.out b hb).keep (World.grownBy_alloc _ (.cells #[.int .i64 0, .int .i64 0, .int .i64 0] 73) none))
            have hHn := Lib.hid (grown_trans hHeld.out (World.grownBy_alloc _ (.cells #[.int .i64 0, .int .i64 0, .int .i64 0] 73) none))
            have HSb := Lib.hid HSN
            clear HSN
            generalize hwa : World.alloc _ _ = wA at *
            clear hwa
            refine hK.out _ _ (hHn) (fun hH2 => ?_)
            clear hK Kz hHeld
            have hHeld := hH2
            clear hH2
            (try simp only [Act.put, List.setIfInBounds_toArray, List.set_cons_zero, List.set_cons_succ])
            refine wpAnyH_ready (rs := [11]) (by kernel_rfl) (by simp) ?_
            refine AllReadyH.cons (o := { dst := some 11, op := Op.alloc 73, type := 0, pos := "ref.go:125", after := #[], guard := none }) rfl (fun Kz hK => ?_) AllReadyH.nil
            go_simp
            try have HNE := Lib.hid (Nat.ne_of_gt (World.lt_of_row' (HSb.out _ rfl).bx))
            have HSN := n3_start hHeld.out
            try replace HSa := Lib.hid (show ∀ b, b = _ → _ from fun b hb => (HSa.out b hb).keep (World.grownBy_alloc _ (.cells #[.int .i64 0, .int .i64 0, .int .i64 0] 73) none))
            try replace HSb := Lib.hid (show ∀ b, b = _ → _ from fun b hb => (HSb.out b hb).keep (World.grownBy_alloc _ (.cells #[.int .i64 0, .int .i64 0, .int .i64 0] 73) none))
            have hHn := Lib.hid (grown_trans hHeld.out (World.grownBy_alloc _ (.cells #[.int .i64 0, .int .i64 0, .int .i64 0] 73) none))
            have HSa := Lib.hid HSN
            clear HSN
            generalize hwa : World.alloc _ _ = wA at *
            clear hwa
            refine hK.out _ _ (hHn) (fun hH2 => ?_)
            clear hK Kz hHeld
            have hHeld := hH2
            clear hH2
            (try simp only [Act.put, List.setIfInBounds_toArray, List.set_cons_zero, List.set_cons_succ])
            refine wpAnyH_ready (rs := [13]) (by kernel_rfl) (by simp) ?_
            refine AllReadyH.cons (o := { dst := none, op := Op.store 73 (Operand.tmp 11) (Operand.tmp 65), type := 0, pos := "ref.go:125", after := #[{ on := 11, ground := Ground.data }, { on := 8, ground := Ground.data }, { on := 6, ground := Ground.chain }, { on := 0, ground := Ground.phase }, { on := 1, ground := Ground.phase }, { on := 2, ground := Ground.phase }, { on := 3, ground := Ground.phase }, { on := 4, ground := Ground.phase }, { on := 5, ground := Ground.phase }, { on := 6, ground := Ground.phase }, { on := 7, ground := Ground.phase }, { on := 8, ground := Ground.phase }, { on := 9, ground := Ground.textOnly Departure.lateStores }, { on := 10, ground := Ground.textOnly Departure.lateStores }, { on := 11, ground := Ground.phase }, { on := 12, ground := Ground.phase }], guard := none }) rfl (fun Kz hK => ?_) AllReadyH.nil
            have hna := HSa.out _ rfl
            obtain ⟨k0, k1, k2⟩ := row3 hna.bx
            have f0 := frozen_of_row _ _ 0 _ _ hna.bx
            have f1 := frozen_of_row _ _ 1 _ _ hna.bx
            have f2 := frozen_of_row _ _ 2 _ _ hna.bx
            have hst := store3r (.int .i64 u.a) (.int .i64 u.b) (.int .i64 u.c) hna.bx
            have HSn := Lib.hid (show ∀ b, b = _ → N3 wq b _ from fun b hb => ⟨kept_row (HSb.out b hb).bx hst.2 (fun e => HNE.out ((Option.some.inj e).symm.trans hb)), (HSb.out b hb).lo⟩)
            go_simp
            have hHn := Lib.hid (grown_new hHeld.out hst.2 hna.lo)
            clear k0 k1 k2 f0 f1 f2 hst hna
            clear HSb
            have HSb := HSn
            clear HSn
            refine hK.out _ _ (hHn) (fun hH2 => ?_)
            clear hK Kz hHeld
            have hHeld := hH2
            clear hH2
            (try simp only [Act.put, List.setIfInBounds_toArray, List.set_cons_zero, List.set_cons_succ])
            refine wpAnyH_ready (rs := [14]) (by kernel_rfl) (by simp) ?_
            refine AllReadyH.cons (o := { dst := none, op := Op.store 73 (Operand.tmp 12) (Operand.tmp 66), type := 0, pos := "ref.go:125", after := #[{ on := 12, ground := Ground.data }, { on := 9, ground := Ground.data }, { on := 13, ground := Ground.chain }, { on := 0, ground := Ground.phase }, { on := 1, ground := Ground.phase }, { on := 2, ground := Ground.phase }, { on := 3, ground := Ground.phase }, { on := 4, ground := Ground.phase }, { on := 5, ground := Ground.phase }, { on := 6, ground := Ground.phase }, { on := 7, ground := Ground.phase }, { on := 8, ground := Ground.phase }, { on := 9, ground := Ground.phase }, { on := 10, ground := Ground.textOnly Departure.lateStores }, { on := 11, ground := Ground.phase }, { on := 12, ground := Ground.phase }, { on := 13, ground := Ground.phase }], guard := none }) rfl (fun Kz hK => ?_) AllReadyH.nil
            have hna := HSb.out _ rfl
            obtain ⟨k0, k1, k2⟩ := row3 hna.bx
            have f0 := frozen_of_row _ _ 0 _ _ hna.bx
            have f1 := frozen_of_row _ _ 1 _ _ hna.bx
            have f2 := frozen_of_row _ _ 2 _ _ hna.bx
            have hst := store3r (.int .i64 z.a) (.int .i64 z.b) (.int .i64 z.c) hna.bx
            go_simp
            have hHn := Lib.hid (grown_new hHeld.out hst.2 hna.lo)
            clear k0 k1 k2 f0 f1 f2 hst hna
            refine hK.out _ _ (hHn) (fun hH2 => ?_)
            clear hK Kz hHeld
            have hHeld := hH2
            clear hH2
            (try simp only [Act.put, List.setIfInBounds_toArray, List.set_cons_zero, List.set_cons_succ])
            refine wpAnyH_take (i := 15) (oi := { dst := some 13, op := Op.assign (Operand.tmp 67), type := 4, pos := "ref.go:125", after := #[{ on := 10, ground := Ground.data }, { on := 14, ground := Ground.chain }, { on := 0, ground := Ground.phase }, { on := 1, ground := Ground.phase }, { on := 2, ground := Ground.phase }, { on := 3, ground := Ground.phase }, { on := 4, ground := Ground.phase }, { on := 5, ground := Ground.phase }, { on := 6, ground := Ground.phase }, { on := 7, ground := Ground.phase }, { on := 8, ground := Ground.phase }, { on := 9, ground := Ground.phase }, { on := 10, ground := Ground.phase }, { on := 11, ground := Ground.phase }, { on := 12, ground := Ground.phase }, { on := 13, ground := Ground.phase }, { on := 14, ground := Ground.phase }], guard := none }) (v := ?_) rfl (by kernel_rfl) (by kernel_rfl) (by kernel_rfl) (fun _ _ _ h => h) (Or.inl ⟨by rfl, ?_⟩) hHeld ?_
            rotate_left 1
            · intro u hSu
              have hO := K2.out.keep hSu.out
              have c0 := cell_of_row _ _ 0 _ _ _ hO.d
              have hrow := hO.own.cells (g := gi) rfl i (.int .i64 A.r) (by rw [List.getElem?_map, HSI.out]; rfl)
              rw [add_plain, Nat.zero_add] at hrow
              go_simp
              first | done | with_reducible rfl
            (try simp only [Act.put, List.setIfInBounds_toArray, List.set_cons_zero, List.set_cons_succ])
            refine wpAnyH_done (by kernel_rfl) ?_ _
            have KR := Lib.hid (K2.out.keep hHeld.out)
            clear HD hHeld hHn HSa HSb
            go_wp2_with fail
            go_meet
            exact ⟨rfl, KR⟩
        · go_simp
          try have HNE := Lib.hid (Nat.ne_of_gt (World.lt_of_row' (HSb.out _ rfl).bx))
          have HSN := n3_start hHeld.out
          try replace HSa := Lib.hid (show ∀ b, b = _ → _ from fun b hb => (HSa.out b hb).keep (World.grownBy_alloc _ (.cells #[.int .i64 0, .int .i64 0, .int .i64 0] 73) none))
          try replace HSb := Lib.hid (show ∀ b, b = _ → _ from fun b hb => (HSb.out b hb).keep (World.grownBy_alloc _ (.cells #[.int .i64 0, .int .i64 0, .int .i64 0] 73) none))
          have hHn := Lib.hid (grown_trans hHeld.out (World.grownBy_alloc _ (.cells #[.int .i64 0, .int .i64 0, .int .i64 0] 73) none))
          have HSa := Lib.hid HSN
          clear HSN
          generalize hwa : World.alloc _ _ = wA at *
          clear hwa
          refine hK.out _ _ (hHn) (fun hH2 => ?_)
          clear hK Kz hHeld
          have hHeld := hH2
          clear hH2
          (try simp only [Act.put, List.setIfInBounds_toArray, List.set_cons_zero, List.set_cons_succ])
          refine wpAnyH_ready (rs := [6, 12]) (by kernel_rfl) (by simp) ?_
          refine AllReadyH.cons (o := { dst := some 64, op := Op.call { callee := Callee.value (Operand.func 69), args := #[Operand.tmp 58, Operand.tmp 62, Operand.tmp 63], argTypes := #[25, 3, 3] }, type := 106, pos := "ref.go:125", after := #[{ on := 0, ground := Ground.data }, { on := 4, ground := Ground.data }, { on := 5, ground := Ground.data }], guard := none }) rfl (fun Kz hK => ?_) (AllReadyH.cons (o := { dst := some 12, op := Op.alloc 73, type := 0, pos := "ref.go:125", after := #[], guard := none }) rfl (fun Kz hK => ?_) AllReadyH.nil)
          · go_simp
            go_at_call 69
            refine (rlinked_any l A.r B.r (some ⟨g, off, none⟩) c _ _ (K2.out.keep hHeld.out).db hm).mono ?_
            rintro e w5 ⟨u, z, rfl, -, hg⟩
            rw [HLK.out]
            have hHn := Lib.hid (grown_trans hHeld.out hg)
            try replace HSa := Lib.hid (show ∀ b, b = _ → _ from fun b hb => (HSa.out b hb).keep hg)
            try replace HSb := Lib.hid (show ∀ b, b = _ → _ from fun b hb => (HSb.out b hb).keep hg)
            clear hg
            refine hK.out _ _ (hHn) (fun hH2 => ?_)
            clear hK Kz hHeld
            have hHeld := hH2
            clear hH2
            (try simp only [Act.put, List.setIfInBounds_toArray, List.set_cons_zero, List.set_cons_succ])
            refine wpAnyH_take (i := 7) (oi := { dst := some 57, op := Op.move (Operand.tmp 64), type := 106, pos := "ref.go:125", after := #[{ on := 6, ground := Ground.data }], guard := none }) (v := ?_) rfl (by kernel_rfl) (by kernel_rfl) (by kernel_rfl) (fun _ _ _ h => h) (Or.inl ⟨by rfl, ?_⟩) hHeld ?_
            rotate_left 1
            · intro u hSu
              have hO := K2.out.keep hSu.out
              have c0 := cell_of_row _ _ 0 _ _ _ hO.d
              have hrow := hO.own.cells (g := gi) rfl i (.int .i64 A.r) (by rw [List.getElem?_map, HSI.out]; rfl)
              rw [add_plain, Nat.zero_add] at hrow
              go_simp
              first | done | with_reducible rfl
            (try simp only [Act.put, List.setIfInBounds_toArray, List.set_cons_zero, List.set_cons_succ])
            refine wpAnyH_take (i := 8) (oi := { dst := some 65, op := Op.extract (Operand.tmp 57) 0, type := 73, pos := "ref.go:125", after := #[{ on := 7, ground := Ground.data }], guard := none }) (v := ?_) rfl (by kernel_rfl) (by kernel_rfl) (by kernel_rfl) (fun _ _ _ h => h) (Or.inl ⟨by rfl, ?_⟩) hHeld ?_
            rotate_left 1
            · intro u hSu
              have hO := K2.out.keep hSu.out
              have c0 := cell_of_row _ _ 0 _ _ _ hO.d
              have hrow := hO.own.cells (g := gi) rfl i (.int .i64 A.r) (by rw [List.getElem?_map, HSI.out]; rfl)
              rw [add_plain, Nat.zero_add] at hrow
              go_simp
              first | done | with_reducible rfl
            (try simp only [Act.put, List.setIfInBounds_toArray, List.set_cons_zero, List.set_cons_succ])
            refine wpAnyH_take (i := 9) (oi := { dst := some 66, op := Op.extract (Operand.tmp 57) 1, type := 73, pos := "ref.go:125", after := #[{ on := 7, ground := Ground.data }, { on := 13, ground := Ground.gcOnly Departure.lateStores }], guard := none }) (v := ?_) rfl (by kernel_rfl) (by kernel_rfl) (by kernel_rfl) (fun _ _ _ h => h) (Or.inl ⟨by rfl, ?_⟩) hHeld ?_
            rotate_left 1
            · intro u hSu
              have hO := K2.out.keep hSu.out
              have c0 := cell_of_row _ _ 0 _ _ _ hO.d
              have hrow := hO.own.cells (g := gi) rfl i (.int .i64 A.r) (by rw [List.getElem?_map, HSI.out]; rfl)
              rw [add_plain, Nat.zero_add] at hrow
              go_simp
              first | done | with_reducible rfl
            (try simp only [Act.put, List.setIfInBounds_toArray, List.set_cons_zero, List.set_cons_succ])
            refine wpAnyH_take (i := 10) (oi := { dst := some 67, op := Op.extract (Operand.tmp 57) 2, type := 4, pos := "ref.go:125", after := #[{ on := 7, ground := Ground.data }, { on := 14, ground := Ground.gcOnly Departure.lateStores }], guard := none }) (v := ?_) rfl (by kernel_rfl) (by kernel_rfl) (by kernel_rfl) (fun _ _ _ h => h) (Or.inl ⟨by rfl, ?_⟩) hHeld ?_
            rotate_left 1
            · intro u hSu
              have hO := K2.out.keep hSu.out
              have c0 := cell_of_row _ _ 0 _ _ _ hO.d
              have hrow := hO.own.cells (g := gi) rfl i (.int .i64 A.r) (by rw [List.getElem?_map, HSI.out]; rfl)
              rw [add_plain, Nat.zero_add] at hrow
              go_simp
              first | done | with_reducible rfl
            (try simp only [Act.put, List.setIfInBounds_toArray, List.set_cons_zero, List.set_cons_succ])
            refine wpAnyH_ready (rs := [12]) (by kernel_rfl) (by simp) ?_
            refine AllReadyH.cons (o := { dst := some 12, op := Op.alloc 73, type := 0, pos := "ref.go:125", after := #[], guard := none }) rfl (fun Kz hK => ?_) AllReadyH.nil
            go_simp
            try have HNE := Lib.hid (Nat.ne_of_lt (World.lt_of_row' (HSa.out _ rfl).bx))
            have HSN := n3_start hHeld.out
            try replace HSa := Lib.hid (show ∀ b, b = _ → _ from fun b hb => (HSa.out b hb).keep (World.grownBy_alloc _ (.cells #[.int .i64 0, .int .i64 0, .int .i64 0] 73) none))
            try replace HSb := Lib.hid (show ∀ b, b = _ → _ from fun b hb => (HSb.out b hb).keep (World.grownBy_alloc _ (.cells #[.int .i64 0, .int .i64 0, .int .i64 0] 73) none))
            have hHn := Lib.hid (grown_trans hHeld.out (World.grownBy_alloc _ (.cells #[.int .i64 0, .int .i64 0, .int .i64 0] 73) none))
            have HSb := Lib.hid HSN
            clear HSN
            generalize hwa : World.alloc _ _ = wA at *
            clear hwa
            refine hK.out _ _ (hHn) (fun hH2 => ?_)
            clear hK Kz hHeld
            have hHeld := hH2
            clear hH2
            (try simp only [Act.put, List.setIfInBounds_toArray, List.set_cons_zero, List.set_cons_succ])
            refine wpAnyH_ready (rs := [13]) (by kernel_rfl) (by simp) ?_
            refine AllReadyH.cons (o := { dst := none, op := Op.store 73 (Operand.tmp 11) (Operand.tmp 65), type := 0, pos := "ref.go:125", after := #[{ on := 11, ground := Ground.data }, { on := 8, ground := Ground.data }, { on := 6, ground := Ground.chain }, { on := 0, ground := Ground.phase }, { on := 1, ground := Ground.phase }, { on := 2, ground := Ground.phase }, { on := 3, ground := Ground.phase }, { on := 4, ground := Ground.phase }, { on := 5, ground := Ground.phase }, { on := 6, ground := Ground.phase }, { on := 7, ground := Ground.phase }, { on := 8, ground := Ground.phase }, { on := 9, ground := Ground.textOnly Departure.lateStores }, { on := 10, ground := Ground.textOnly Departure.lateStores }, { on := 11, ground := Ground.phase }, { on := 12, ground := Ground.phase }], guard := none }) rfl (fun Kz hK => ?_) AllReadyH.nil
            have hna := HSa.out _ rfl
            obtain ⟨k0, k1, k2⟩ := row3 hna.bx
            have f0 := frozen_of_row _ _ 0 _ _ hna.bx
            have f1 := frozen_of_row _ _ 1 _ _ hna.bx
            have f2 := frozen_of_row _ _ 2 _ _ hna.bx
            have hst := store3r (.int .i64 u.a) (.int .i64 u.b) (.int .i64 u.c) hna.bx
            have HSn := Lib.hid (show ∀ b, b = _ → N3 wq b _ from fun b hb => ⟨kept_row (HSb.out b hb).bx hst.2 (fun e => HNE.out ((Option.some.inj e).symm.trans hb)), (HSb.out b hb).lo⟩)
            go_simp
            have hHn := Lib.hid (grown_new hHeld.out hst.2 hna.lo)
            clear k0 k1 k2 f0 f1 f2 hst hna
            clear HSb
            have HSb := HSn
            clear HSn
            refine hK.out _ _ (hHn) (fun hH2 => ?_)
            clear hK Kz hHeld
            have hHeld := hH2
            clear hH2
            (try simp only [Act.put, List.setIfInBounds_toArray, List.set_cons_zero, List.set_cons_succ])
            refine wpAnyH_ready (rs := [14]) (by kernel_rfl) (by simp) ?_
            refine AllReadyH.cons (o := { dst := none, op := Op.store 73 (Operand.tmp 12) (Operand.tmp 66), type := 0, pos := "ref.go:125", after := #[{ on := 12, ground := Ground.data }, { on := 9, ground := Ground.data }, { on := 13, ground := Ground.chain }, { on := 0, ground := Ground.phase }, { on := 1, ground := Ground.phase }, { on := 2, ground := Ground.phase }, { on := 3, ground := Ground.phase }, { on := 4, ground := Ground.phase }, { on := 5, ground := Ground.phase }, { on := 6, ground := Ground.phase }, { on := 7, ground := Ground.phase }, { on := 8, ground := Ground.phase }, { on := 9, ground := Ground.phase }, { on := 10, ground := Ground.textOnly Departure.lateStores }, { on := 11, ground := Ground.phase }, { on := 12, ground := Ground.phase }, { on := 13, ground := Ground.phase }], guard := none }) rfl (fun Kz hK => ?_) AllReadyH.nil
            have hna := HSb.out _ rfl
            obtain ⟨k0, k1, k2⟩ := row3 hna.bx
            have f0 := frozen_of_row _ _ 0 _ _ hna.bx
            have f1 := frozen_of_row _ _ 1 _ _ hna.bx
            have f2 := frozen_of_row _ _ 2 _ _ hna.bx
            have hst := store3r (.int .i64 z.a) (.int .i64 z.b) (.int .i64 z.c) hna.bx
            go_simp
            have hHn := Lib.hid (grown_new hHeld.out hst.2 hna.lo)
            clear k0 k1 k2 f0 f1 f2 hst hna
            refine hK.out _ _ (hHn) (fun hH2 => ?_)
            clear hK Kz hHeld
            have hHeld := hH2
            clear hH2
            (try simp only [Act.put, List.setIfInBounds_toArray, List.set_cons_zero, List.set_cons_succ])
            refine wpAnyH_take (i := 15) (oi := { dst := some 13, op := Op.assign (Operand.tmp 67), type := 4, pos := "ref.go:125", after := #[{ on := 10, ground := Ground.data }, { on := 14, ground := Ground.chain }, { on := 0, ground := Ground.phase }, { on := 1, ground := Ground.phase }, { on := 2, ground := Ground.phase }, { on := 3, ground := Ground.phase }, { on := 4, ground := Ground.phase }, { on := 5, ground := Ground.phase }, { on := 6, ground := Ground.phase }, { on := 7, ground := Ground.phase }, { on := 8, ground := Ground.phase }, { on := 9, ground := Ground.phase }, { on := 10, ground := Ground.phase }, { on := 11, ground := Ground.phase }, { on := 12, ground := Ground.phase }, { on := 13, ground := Ground.phase }, { on := 14, ground := Ground.phase }], guard := none }) (v := ?_) rfl (by kernel_rfl) (by kernel_rfl) (by kernel_rfl) (fun _ _ _ h => h) (Or.inl ⟨by rfl, ?_⟩) hHeld ?_
            rotate_left 1
            · intro u hSu
              have hO := K2.out.keep hSu.out
              have c0 := cell_of_row _ _ 0 _ _ _ hO.d
              have hrow := hO.own.cells (g := gi) rfl i (.int .i64 A.r) (by rw [List.getElem?_map, HSI.out]; rfl)
              rw [add_plain, Nat.zero_add] at hrow
              go_simp
              first | done | with_reducible rfl
            (try simp only [Act.put, List.setIfInBounds_toArray, List.set_cons_zero, List.set_cons_succ])
            refine wpAnyH_done (by kernel_rfl) ?_ _
            have KR := Lib.hid (K2.out.keep hHeld.out)
            clear HD hHeld hHn HSa HSb
            go_wp2_with fail
            go_meet
            exact ⟨rfl, KR⟩
          · go_simp
            try have HNE := Lib.hid (Nat.ne_of_lt (World.lt_of_row' (HSa.out _ rfl).bx))
            have HSN := n3_start hHeld.out
            try replace HSa := Lib.hid (show ∀ b, b = _ → _ from fun b hb => (HSa.out b hb).keep (World.grownBy_alloc _ (.cells #[.int .i64 0, .int .i64 0, .int .i64 0] 73) none))
            try replace HSb := Lib.hid (show ∀ b, b = _ → _ from fun b hb => (HSb.out b hb).keep (World.grownBy_alloc _ (.cells #[.int .i64 0, .int .i64 0, .int .i64 0] 73) none))
            have hHn := Lib.hid (grown_trans hHeld.out (World.grownBy_alloc _ (.cells #[.int .i64 0, .int .i64 0, .int .i64 0] 73) none))
            have HSb := Lib.hid HSN
            clear HSN
            generalize hwa : World.alloc _ _ = wA at *
            clear hwa
            refine hK.out _ _ (hHn) (fun hH2 => ?_)
            clear hK Kz hHeld
            have hHeld := hH2
            clear hH2
            (try simp only [Act.put, List.setIfInBounds_toArray, List.set_cons_zero, List.set_cons_succ])
            refine wpAnyH_ready (rs := [6]) (by kernel_rfl) (by simp) ?_
            refine AllReadyH.cons (o := { dst := some 64, op := Op.call { callee := Callee.value (Operand.func 69), args := #[Operand.tmp 58, Operand.tmp 62, Operand.tmp 63], argTypes := #[25, 3, 3] }, type := 106, pos := "ref.go:125", after := #[{ on := 0, ground := Ground.data }, { on := 4, ground := Ground.data }, { on := 5, ground := Ground.data }], guard := none }) rfl (fun Kz hK => ?_) AllReadyH.nil
            go_simp
            go_at_call 69
            refine (rlinked_any l A.r B.r (some ⟨g, off, none⟩) c _ _ (K2.out.keep hHeld.out).db hm).mono ?_
            rintro e w5 ⟨u, z, rfl, -, hg⟩
            rw [HLK.out]
            have hHn := Lib.hid (grown_trans hHeld.out hg)
            try replace HSa := Lib.hid (show ∀ b, b = _ → _ from fun b hb => (HSa.out b hb).keep hg)
            try replace HSb := Lib.hid (show ∀ b, b = _ → _ from fun b hb => (HSb.out b hb).keep hg)
            clear hg
            refine hK.out _ _ (hHn) (fun hH2 => ?_)
            clear hK Kz hHeld
            have hHeld := hH2
            clear hH2
            (try simp only [Act.put, List.setIfInBounds_toArray, List.set_cons_zero, List.set_cons_succ])
            refine wpAnyH_take (i := 7) (oi := { dst := some 57, op := Op.move (Operand.tmp 64), type := 106, pos := "ref.go:125", after := #[{ on := 6, ground := Ground.data }], guard := none }) (v := ?_) rfl (by kernel_rfl) (by kernel_rfl) (by kernel_rfl) (fun _ _ _ h => h) (Or.inl ⟨by rfl, ?_⟩) hHeld ?_
            rotate_left 1
            · intro u hSu
              have hO := K2.out.keep hSu.out
              have c0 := cell_of_row _ _ 0 _ _ _ hO.d
              have hrow := hO.own.cells (g := gi) rfl i (.int .i64 A.r) (by rw [List.getElem?_map, HSI.out]; rfl)
              rw [add_plain, Nat.zero_add] at hrow
              go_simp
              first | done | with_reducible rfl
            (try simp only [Act.put, List.setIfInBounds_toArray, List.set_cons_zero, List.set_cons_succ])
            refine wpAnyH_take (i := 8) (oi := { dst := some 65, op := Op.extract (Operand.tmp 57) 0, type := 73, pos := "ref.go:125", after := #[{ on := 7, ground := Ground.data }], guard := none }) (v := ?_) rfl (by kernel_rfl) (by kernel_rfl) (by kernel_rfl) (fun _ _ _ h => h) (Or.inl ⟨by rfl, ?_⟩) hHeld ?_
            rotate_left 1
            · intro u hSu
              have hO := K2.out.keep hSu.out
              have c0 := cell_of_row _ _ 0 _ _ _ hO.d
              have hrow := hO.own.cells (g := gi) rfl i (.int .i64 A.r) (by rw [List.getElem?_map, HSI.out]; rfl)
              rw [add_plain, Nat.zero_add] at hrow
              go_simp
              first | done | with_reducible rfl
            (try simp only [Act.put, List.setIfInBounds_toArray, List.set_cons_zero, List.set_cons_succ])
            refine wpAnyH_take (i := 9) (oi := { dst := some 66, op := Op.extract (Operand.tmp 57) 1, type := 73, pos := "ref.go:125", after := #[{ on := 7, ground := Ground.data }, { on := 13, ground := Ground.gcOnly Departure.lateStores }], guard := none }) (v := ?_) rfl (by kernel_rfl) (by kernel_rfl) (by kernel_rfl) (fun _ _ _ h => h) (Or.inl ⟨by rfl, ?_⟩) hHeld ?_
            rotate_left 1
            · intro u hSu
              have hO := K2.out.keep hSu.out
              have c0 := cell_of_row _ _ 0 _ _ _ hO.d
              have hrow := hO.own.cells (g := gi) rfl i (.int .i64 A.r) (by rw [List.getElem?_map, HSI.out]; rfl)
              rw [add_plain, Nat.zero_add] at hrow
              go_simp
              first | done | with_reducible rfl
            (try simp only [Act.put, List.setIfInBounds_toArray, List.set_cons_zero, List.set_cons_succ])
            refine wpAnyH_take (i := 10) (oi := { dst := some 67, op := Op.extract (Operand.tmp 57) 2, type := 4, pos := "ref.go:125", after := #[{ on := 7, ground := Ground.data }, { on := 14, ground := Ground.gcOnly Departure.lateStores }], guard := none }) (v := ?_) rfl (by kernel_rfl) (by kernel_rfl) (by kernel_rfl) (fun _ _ _ h => h) (Or.inl ⟨by rfl, ?_⟩) hHeld ?_
            rotate_left 1
            · intro u hSu
              have hO := K2.out.keep hSu.out
              have c0 := cell_of_row _ _ 0 _ _ _ hO.d
              have hrow := hO.own.cells (g := gi) rfl i (.int .i64 A.r) (by rw [List.getElem?_map, HSI.out]; rfl)
              rw [add_plain, Nat.zero_add] at hrow
              go_simp
              first | done | with_reducible rfl
            (try simp only [Act.put, List.setIfInBounds_toArray, List.set_cons_zero, List.set_cons_succ])
            refine wpAnyH_ready (rs := [13]) (by kernel_rfl) (by simp) ?_
            refine AllReadyH.cons (o := { dst := none, op := Op.store 73 (Operand.tmp 11) (Operand.tmp 65), type := 0, pos := "ref.go:125", after := #[{ on := 11, ground := Ground.data }, { on := 8, ground := Ground.data }, { on := 6, ground := Ground.chain }, { on := 0, ground := Ground.phase }, { on := 1, ground := Ground.phase }, { on := 2, ground := Ground.phase }, { on := 3, ground := Ground.phase }, { on := 4, ground := Ground.phase }, { on := 5, ground := Ground.phase }, { on := 6, ground := Ground.phase }, { on := 7, ground := Ground.phase }, { on := 8, ground := Ground.phase }, { on := 9, ground := Ground.textOnly Departure.lateStores }, { on := 10, ground := Ground.textOnly Departure.lateStores }, { on := 11, ground := Ground.phase }, { on := 12, ground := Ground.phase }], guard := none }) rfl (fun Kz hK => ?_) AllReadyH.nil
            have hna := HSa.out _ rfl
            obtain ⟨k0, k1, k2⟩ := row3 hna.bx
            have f0 := frozen_of_row _ _ 0 _ _ hna.bx
            have f1 := frozen_of_row _ _ 1 _ _ hna.bx
            have f2 := frozen_of_row _ _ 2 _ _ hna.bx
            have hst := store3r (.int .i64 u.a) (.int .i64 u.b) (.int .i64 u.c) hna.bx
            have HSn := Lib.hid (show ∀ b, b = _ → N3 wq b _ from fun b hb => ⟨kept_row (HSb.out b hb).bx hst.2 (fun e => HNE.out ((Option.some.inj e).symm.trans hb)), (HSb.out b hb).lo⟩)
            go_simp
            have hHn := Lib.hid (grown_new hHeld.out hst.2 hna.lo)
            clear k0 k1 k2 f0 f1 f2 hst hna
            clear HSb
            have HSb := HSn
            clear HSn
            refine hK.out _ _ (hHn) (fun hH2 => ?_)
            clear hK Kz hHeld
            have hHeld := hH2
            clear hH2
            (try simp only [Act.put, List.setIfInBounds_toArray, List.set_cons_zero, List.set_cons_succ])
            refine wpAnyH_ready (rs := [14]) (by kernel_rfl) (by simp) ?_
            refine AllReadyH.cons (o := { dst := none, op := Op.store 73 (Operand.tmp 12) (Operand.tmp 66), type := 0, pos := "ref.go:125", after := #[{ on := 12, ground := Ground.data }, { on := 9, ground := Ground.data }, { on := 13, ground := Ground.chain }, { on := 0, ground := Ground.phase }, { on := 1, ground := Ground.phase }, { on := 2, ground := Ground.phase }, { on := 3, ground := Ground.phase }, { on := 4, ground := Ground.phase }, { on := 5, ground := Ground.phase }, { on := 6, ground := Ground.phase }, { on := 7, ground := Ground.phase }, { on := 8, ground := Ground.phase }, { on := 9, ground := Ground.phase }, { on := 10, ground := Ground.textOnly Departure.lateStores }, { on := 11, ground := Ground.phase }, { on := 12, ground := Ground.phase }, { on := 13, ground := Ground.phase }], guard := none }) rfl (fun Kz hK => ?_) AllReadyH.nil
            have hna := HSb.out _ rfl
            obtain ⟨k0, k1, k2⟩ := row3 hna.bx
            have f0 := frozen_of_row _ _ 0 _ _ hna.bx
            have f1 := frozen_of_row _ _ 1 _ _ hna.bx
            have f2 := frozen_of_row _ _ 2 _ _ hna.bx
            have hst := store3r (.int .i64 z.a) (.int .i64 z.b) (.int .i64 z.c) hna.bx
            go_simp
            have hHn := Lib.hid (grown_new hHeld.out hst.2 hna.lo)
            clear k0 k1 k2 f0 f1 f2 hst hna
            refine hK.out _ _ (hHn) (fun hH2 => ?_)
            clear hK Kz hHeld
            have hHeld := hH2
            clear hH2
            (try simp only [Act.put, List.setIfInBounds_toArray, List.set_cons_zero, List.set_cons_succ])
            refine wpAnyH_take (i := 15) (oi := { dst := some 13, op := Op.assign (Operand.tmp 67), type := 4, pos := "ref.go:125", after := #[{ on := 10, ground := Ground.data }, { on := 14, ground := Ground.chain }, { on := 0, ground := Ground.phase }, { on := 1, ground := Ground.phase }, { on := 2, ground := Ground.phase }, { on := 3, ground := Ground.phase }, { on := 4, ground := Ground.phase }, { on := 5, ground := Ground.phase }, { on := 6, ground := Ground.phase }, { on := 7, ground := Ground.phase }, { on := 8, ground := Ground.phase }, { on := 9, ground := Ground.phase }, { on := 10, ground := Ground.phase }, { on := 11, ground := Ground.phase }, { on := 12, ground := Ground.phase }, { on := 13, ground := Ground.phase }, { on := 14, ground := Ground.phase }], guard := none }) (v := ?_) rfl (by kernel_rfl) (by kernel_rfl) (by kernel_rfl) (fun _ _ _ h => h) (Or.inl ⟨by rfl, ?_⟩) hHeld ?_
            rotate_left 1
            · intro u hSu
              have hO := K2.out.keep hSu.out
              have c0 := cell_of_row _ _ 0 _ _ _ hO.d
              have hrow := hO.own.cells (g := gi) rfl i (.int .i64 A.r) (by rw [List.getElem?_map, HSI.out]; rfl)
              rw [add_plain, Nat.zero_add] at hrow
              go_simp
              first | done | with_reducible rfl
            (try simp only [Act.put, List.setIfInBounds_toArray, List.set_cons_zero, List.set_cons_succ])
            refine wpAnyH_done (by kernel_rfl) ?_ _
            have KR := Lib.hid (K2.out.keep hHeld.out)
            clear HD hHeld hHn HSa HSb
            go_wp2_with fail
            go_meet
            exact ⟨rfl, KR⟩
        · go_simp
          try have HNE := Lib.hid (Nat.ne_of_lt (World.lt_of_row' (HSa.out _ rfl).bx))
          have HSN := n3_start hHeld.out
          try replace HSa := Lib.hid (show ∀ b, b = _ → _ from fun b hb => (HSa.out b hb).keep (World.grownBy_alloc _ (.cells #[.int .i64 0, .int .i64 0, .int .i64 0] 73) none))
          try replace HSb := Lib.hid (show ∀ b, b = _ → _ from fun b hb => (HSb.out b hb).keep (World.grownBy_alloc _ (.cells #[.int .i64 0, .int .i64 0, .int .i64 0] 73) none))
          have hHn := Lib.hid (grown_trans hHeld.out (World.grownBy_alloc _ (.cells #[.int .i64 0, .int .i64 0, .int .i64 0] 73) none))
          have HSb := Lib.hid HSN
          clear HSN
          generalize hwa : World.alloc _ _ = wA at *
          clear hwa
          refine hK.out _ _ (hHn) (fun hH2 => ?_)
          clear hK Kz hHeld
          have hHeld := hH2
          clear hH2
          (try simp only [Act.put, List.setIfInBounds_toArray, List.set_cons_zero, List.set_cons_succ])
          refine wpAnyH_ready (rs := [6, 11]) (by kernel_rfl) (by simp) ?_
          refine AllReadyH.cons (o := { dst := some 64, op := Op.call { callee := Callee.value (Operand.func 69), args := #[Operand.tmp 58, Operand.tmp 62, Operand.tmp 63], argTypes := #[25, 3, 3] }, type := 106, pos := "ref.go:125", after := #[{ on := 0, ground := Ground.data }, { on := 4, ground := Ground.data }, { on := 5, ground := Ground.data }], guard := none }) rfl (fun Kz hK => ?_) (AllReadyH.cons (o := { dst := some 11, op := Op.alloc 73, type := 0, pos := "ref.go:125", after := #[], guard := none }) rfl (fun Kz hK => ?_) AllReadyH.nil)
          · go_simp
            go_at_call 69
            refine (rlinked_any l A.r B.r (some ⟨g, off, none⟩) c _ _ (K2.out.keep hHeld.out).db hm).mono ?_
            rintro e w5 ⟨u, z, rfl, -, hg⟩
            rw [HLK.out]
            have hHn := Lib.hid (grown_trans hHeld.out hg)
            try replace HSa := Lib.hid (show ∀ b, b = _ → _ from fun b hb => (HSa.out b hb).keep hg)
            try replace HSb := Lib.hid (show ∀ b, b = _ → _ from fun b hb => (HSb.out b hb).keep hg)
            clear hg
            refine hK.out _ _ (hHn) (fun hH2 => ?_)
            clear hK Kz hHeld
            have hHeld := hH2
            clear hH2
            (try simp only [Act.put, List.setIfInBounds_toArray, List.set_cons_zero, List.set_cons_succ])
            refine wpAnyH_take (i := 7) (oi := { dst := some 57, op := Op.move (Operand.tmp 64), type := 106, pos := "ref.go:125", after := #[{ on := 6, ground := Ground.data }], guard := none }) (v := ?_) rfl (by kernel_rfl) (by kernel_rfl) (by kernel_rfl) (fun _ _ _ h => h) (Or.inl ⟨by rfl, ?_⟩) hHeld ?_
            rotate_left 1
            · intro u hSu
              have hO := K2.out.keep hSu.out
              have c0 := cell_of_row _ _ 0 _ _ _ hO.d
              have hrow := hO.own.cells (g := gi) rfl i (.int .i64 A.r) (by rw [List.getElem?_map, HSI.out]; rfl)
              rw [add_plain, Nat.zero_add] at hrow
              go_simp
              first | done | with_reducible rfl
            (try simp only [Act.put, List.setIfInBounds_toArray, List.set_cons_zero, List.set_cons_succ])
            refine wpAnyH_take (i := 8) (oi := { dst := some 65, op := Op.extract (Operand.tmp 57) 0, type := 73, pos := "ref.go:125", after := #[{ on := 7, ground := Ground.data }], guard := none }) (v := ?_) rfl (by kernel_rfl) (by kernel_rfl) (by kernel_rfl) (fun _ _ _ h => h) (Or.inl ⟨by rfl, ?_⟩) hHeld ?_
            rotate_left 1
            · intro u hSu
              have hO := K2.out.keep hSu.out
              have c0 := cell_of_row _ _ 0 _ _ _ hO.d
              have hrow := hO.own.cells (g := gi) rfl i (.int .i64 A.r) (by rw [List.getElem?_map, HSI.out]; rfl)
              rw [add_plain, Nat.zero_add] at hrow
              go_simp
              first | done | with_reducible rfl
            (try simp only [Act.put, List.setIfInBounds_toArray, List.set_cons_zero, List.set_cons_succ])
            refine wpAnyH_take (i := 9) (oi := { dst := some 66, op := Op.extract (Operand.tmp 57) 1, type := 73, pos := "ref.go:125", after := #[{ on := 7, ground := Ground.data }, { on := 13, ground := Ground.gcOnly Departure.lateStores }], guard := none }) (v := ?_) rfl (by kernel_rfl) (by kernel_rfl) (by kernel_rfl) (fun _ _ _ h => h) (Or.inl ⟨by rfl, ?_⟩) hHeld ?_
            rotate_left 1
            · intro u hSu
              have hO := K2.out.keep hSu.out
              have c0 := cell_of_row _ _ 0 _ _ _ hO.d
              have hrow := hO.own.cells (g := gi) rfl i (.int .i64 A.r) (by rw [List.getElem?_map, HSI.out]; rfl)
              rw [add_plain, Nat.zero_add] at hrow
              go_simp
              first | done | with_reducible rfl
            (try simp only [Act.put, List.setIfInBounds_toArray, List.set_cons_zero, List.set_cons_succ])
            refine wpAnyH_take (i := 10) (oi := { dst := some 67, op := Op.extract (Operand.tmp 57) 2, type := 4, pos := "ref.go:125", after := #[{ on := 7, ground := Ground.data }, { on := 14, ground := Ground.gcOnly Departure.lateStores }], guard := none }) (v := ?_) rfl (by kernel_rfl) (by kernel_rfl) (by kernel_rfl) (fun _ _ _ h => h) (Or.inl ⟨by rfl, ?_⟩) hHeld ?_
            rotate_left 1
            · intro u hSu
              have hO := K2.out.keep hSu.out
              have c0 := cell_of_row _ _ 0 _ _ _ hO.d
              have hrow := hO.own.cells (g := gi) rfl i (.int .i64 A.r) (by rw [List.getElem?_map, HSI.out]; rfl)
              rw [add_plain, Nat.zero_add] at hrow
              go_simp
              first | done | with_reducible rfl
            (try simp only [Act.put, List.setIfInBounds_toArray, List.set_cons_zero, List.set_cons_succ])
            refine wpAnyH_ready (rs := [11]) (by kernel_rfl) (by simp) ?_
            refine AllReadyH.cons (o := { dst := some 11, op := Op.alloc 73, type := 0, pos := "ref.go:125", after := #[], guard := none }) rfl (fun Kz hK => ?_) AllReadyH.nil
            go_simp
            try have HNE := Lib.hid (Nat.ne_of_gt (World.lt_of_row' (HSb.out _ rfl).bx))
            have HSN := n3_start hHeld.out
            try replace HSa := Lib.hid (show ∀ b, b = _ → _ from fun b hb => (HSa.out b hb).keep (World.grownBy_alloc _ (.cells #[.int .i64 0, .int .i64 0, .int .i64 0] 73) none))
            try replace HSb := Lib.hid (show ∀ b, b = _ → _ from fun b hb => (HSb.out b hb).keep (World.grownBy_alloc _ (.cells #[.int .i64 0, .int .i64 0, .int .i64 0] 73) none))
            have hHn := Lib.hid (grown_trans hHeld.out (World.grownBy_alloc _ (.cells #[.int .i64 0, .int .i64 0, .int .i64 0] 73) none))
            have HSa := Lib.hid HSN
            clear HSN
            generalize hwa : World.alloc _ _ = wA at *
            clear hwa
            refine hK.out _ _ (hHn) (fun hH2 => ?_)
            clear hK Kz hHeld
            have hHeld := hH2
            clear hH2
            (try simp only [Act.put, List.setIfInBounds_toArray, List.set_cons_zero, List.set_cons_succ])
            refine wpAnyH_ready (rs := [13]) (by kernel_rfl) (by simp) ?_
            refine AllReadyH.cons (o := { dst := none, op := Op.store 73 (Operand.tmp 11) (Operand.tmp 65), type := 0, pos := "ref.go:125", after := #[{ on := 11, ground := Ground.data }, { on := 8, ground := Ground.data }, { on := 6, ground := Ground.chain }, { on := 0, ground := Ground.phase }, { on := 1, ground := Ground.phase }, { on := 2, ground := Ground.phase }, { on := 3, ground := Ground.phase }, { on := 4, ground := Ground.phase }, { on := 5, ground := Ground.phase }, { on := 6, ground := Ground.phase }, { on := 7, ground := Ground.phase }, { on := 8, ground := Ground.phase }, { on := 9, ground := Ground.textOnly Departure.lateStores }, { on := 10, ground := Ground.textOnly Departure.lateStores }, { on := 11, ground := Ground.phase }, { on := 12, ground := Ground.phase }], guard := none }) rfl (fun Kz hK => ?_) AllReadyH.nil
            have hna := HSa.out _ rfl
            obtain ⟨k0, k1, k2⟩ := row3 hna.bx
            have f0 := frozen_of_row _ _ 0 _ _ hna.bx
            have f1 := frozen_of_row _ _ 1 _ _ hna.bx
            have f2 := frozen_of_row _ _ 2 _ _ hna.bx
            have hst := store3r (.int .i64 u.a) (.int .i64 u.b) (.int .i64 u.c) hna.bx
            have HSn := Lib.hid (show ∀ b, b = _ → N3 wq b _ from fun b hb => ⟨kept_row (HSb.out b hb).bx hst.2 (fun e => HNE.out ((Option.some.inj e).symm.trans hb)), (HSb.out b hb).lo⟩)
            go_simp
            have hHn := Lib.hid (grown_new hHeld.out hst.2 hna.lo)
            clear k0 k1 k2 f0 f1 f2 hst hna
            clear HSb
            have HSb := HSn
            clear HSn
            refine hK.out _ _ (hHn) (fun hH2 => ?_)
            clear hK Kz hHeld
            have hHeld := hH2
            clear hH2
            (try simp only [Act.put, List.setIfInBounds_toArray, List.set_cons_zero, List.set_cons_succ])
            refine wpAnyH_ready (rs := [14]) (by kernel_rfl) (by simp) ?_
            refine AllReadyH.cons (o := { dst := none, op := Op.store 73 (Operand.tmp 12) (Operand.tmp 66), type := 0, pos := "ref.go:125", after := #[{ on := 12, ground := Ground.data }, { on := 9, ground := Ground.data }, { on := 13, ground := Ground.chain }, { on := 0, ground := Ground.phase }, { on := 1, ground := Ground.phase }, { on := 2, ground := Ground.phase }, { on := 3, ground := Ground.phase }, { on := 4, ground := Ground.phase }, { on := 5, ground := Ground.phase }, { on := 6, ground := Ground.phase }, { on := 7, ground := Ground.phase }, { on := 8, ground := Ground.phase }, { on := 9, ground := Ground.phase }, { on := 10, ground := Ground.textOnly Departure.lateStores }, { on := 11, ground := Ground.phase }, { on := 12, ground := Ground.phase }, { on := 13, ground := Ground.phase }], guard := none }) rfl (fun Kz hK => ?_) AllReadyH.nil
            have hna := HSb.out _ rfl
            obtain ⟨k0, k1, k2⟩ := row3 hna.bx
            have f0 := frozen_of_row _ _ 0 _ _ hna.bx
            have f1 := frozen_of_row _ _ 1 _ _ hna.bx
            have f2 := frozen_of_row _ _ 2 _ _ hna.bx
            have hst := store3r (.int .i64 z.a) (.int .i64 z.b) (.int .i64 z.c) hna.bx
            go_simp
            have hHn := Lib.hid (grown_new hHeld.out hst.2 hna.lo)
            clear k0 k1 k2 f0 f1 f2 hst hna
            refine hK.out _ _ (hHn) (fun hH2 => ?_)
            clear hK Kz hHeld
            have hHeld := hH2
            clear hH2
            (try simp only [Act.put, List.setIfInBounds_toArray, List.set_cons_zero, List.set_cons_succ])
            refine wpAnyH_take (i := 15) (oi := { dst := some 13, op := Op.assign (Operand.tmp 67), type := 4, pos := "ref.go:125", after := #[{ on := 10, ground := Ground.data }, { on := 14, ground := Ground.chain }, { on := 0, ground := Ground.phase }, { on := 1, ground := Ground.phase }, { on := 2, ground := Ground.phase }, { on := 3, ground := Ground.phase }, { on := 4, ground := Ground.phase }, { on := 5, ground := Ground.phase }, { on := 6, ground := Ground.phase }, { on := 7, ground := Ground.phase }, { on := 8, ground := Ground.phase }, { on := 9, ground := Ground.phase }, { on := 10, ground := Ground.phase }, { on := 11, ground := Ground.phase }, { on := 12, ground := Ground.phase }, { on := 13, ground := Ground.phase }, { on := 14, ground := Ground.phase }], guard := none }) (v := ?_) rfl (by kernel_rfl) (by kernel_rfl) (by kernel_rfl) (fun _ _ _ h => h) (Or.inl ⟨by rfl, ?_⟩) hHeld ?_
            rotate_left 1
            · intro u hSu
              have hO := K2.out.keep hSu.out
              have c0 := cell_of_row _ _ 0 _ _ _ hO.d
              have hrow := hO.own.cells (g := gi) rfl i (.int .i64 A.r) (by rw [List.getElem?_map, HSI.out]; rfl)
              rw [add_plain, Nat.zero_add] at hrow
              go_simp
              first | done | with_reducible rfl
            (try simp only [Act.put, List.setIfInBounds_toArray, List.set_cons_zero, List.set_cons_succ])
            refine wpAnyH_done (by kernel_rfl) ?_ _
            have KR := Lib.hid (K2.out.keep hHeld.out)
            clear HD hHeld hHn HSa HSb
            go_wp2_with fail
            go_meet
            exact ⟨rfl, KR⟩
          · go_simp
            try have HNE := Lib.hid (Nat.ne_of_gt (World.lt_of_row' (HSb.out _ rfl).bx))
            have HSN := n3_start hHeld.out
            try replace HSa := Lib.hid (show ∀ b, b = _ → _ from fun b hb => (HSa.out b hb).keep (World.grownBy_alloc _ (.cells #[.int .i64 0, .int .i64 0, .int .i64 0] 73) none))
            try replace HSb := Lib.hid (show ∀ b, b = _ → _ from fun b hb => (HSb.out b hb).keep (World.grownBy_alloc _ (.cells #[.int .i64 0, .int .i64 0, .int .i64 0] 73) none))
            have hHn := Lib.hid (grown_trans hHeld.out (World.grownBy_alloc _ (.cells #[.int .i64 0, .int .i64 0, .int .i64 0] 73) none))
            have HSa := Lib.hid HSN
            clear HSN
            generalize hwa : World.alloc _ _ = wA at *
            clear hwa
            refine hK.out _ _ (hHn) (fun hH2 => ?_)
            clear hK Kz hHeld
            have hHeld := hH2
            clear hH2
            (try simp only [Act.put, List.setIfInBounds_toArray, List.set_cons_zero, List.set_cons_succ])
            refine wpAnyH_ready (rs := [6]) (by kernel_rfl) (by simp) ?_
            refine AllReadyH.cons (o := { dst := some 64, op := Op.call { callee := Callee.value (Operand.func 69), args := #[Operand.tmp 58, Operand.tmp 62, Operand.tmp 63], argTypes := #[25, 3, 3] }, type := 106, pos := "ref.go:125", after := #[{ on := 0, ground := Ground.data }, { on := 4, ground := Ground.data }, { on := 5, ground := Ground.data }], guard := none }) rfl (fun Kz hK => ?_) AllReadyH.nil
            go_simp
            go_at_call 69
            refine (rlinked_any l A.r B.r (some ⟨g, off, none⟩) c _ _ (K2.out.keep hHeld.out).db hm).mono ?_
            rintro e w5 ⟨u, z, rfl, -, hg⟩
            rw [HLK.out]
            have hHn := Lib.hid (grown_trans hHeld.out hg)
            try replace HSa := Lib.hid (show ∀ b, b = _ → _ from fun b hb => (HSa.out b hb).keep hg)
            try replace HSb := Lib.hid (show ∀ b, b = _ → _ from fun b hb => (HSb.out b hb).keep hg)
            clear hg
            refine hK.out _ _ (hHn) (fun hH2 => ?_)
            clear hK Kz hHeld
            have hHeld := hH2
            clear hH2
            (try simp only [Act.put, List.setIfInBounds_toArray, List.set_cons_zero, List.set_cons_succ])
            refine wpAnyH_take (i := 7) (oi := { dst := some 57, op := Op.move (Operand.tmp 64), type := 106, pos := "ref.go:125", after := #[{ on := 6, ground := Ground.data }], guard := none }) (v := ?_) rfl (by kernel_rfl) (by kernel_rfl) (by kernel_rfl) (fun _ _ _ h => h) (Or.inl ⟨by rfl, ?_⟩) hHeld ?_
            rotate_left 1
            · intro u hSu
              have hO := K2.out.keep hSu.out
              have c0 := cell_of_row _ _ 0 _ _ _ hO.d
              have hrow := hO.own.cells (g := gi) rfl i (.int .i64 A.r) (by rw [List.getElem?_map, HSI.out]; rfl)
              rw [add_plain, Nat.zero_add] at hrow
              go_simp
              first | done | with_reducible rfl
            (try simp only [Act.put, List.setIfInBounds_toArray, List.set_cons_zero, List.set_cons_succ])
            refine wpAnyH_take (i := 8) (oi := { dst := some 65, op := Op.extract (Operand.tmp 57) 0, type := 73, pos := "ref.go:125", after := #[{ on := 7, ground := Ground.data }], guard := none }) (v := ?_) rfl (by kernel_rfl) (by kernel_rfl) (by kernel_rfl) (fun _ _ _ h => h) (Or.inl ⟨by rfl, ?_⟩) hHeld ?_
            rotate_left 1
            · intro u hSu
              have hO := K2.out.keep hSu.out
              have c0 := cell_of_row _ _ 0 _ _ _ hO.d
              have hrow := hO.own.cells (g := gi) rfl i (.int .i64 A.r) (by rw [List.getElem?_map, HSI.out]; rfl)
              rw [add_plain, Nat.zero_add] at hrow
              go_simp
              first | done | with_reducible rfl
            (try simp only [Act.put, List.setIfInBounds_toArray, List.set_cons_zero, List.set_cons_succ])
            refine wpAnyH_take (i := 9) (oi := { dst := some 66, op := Op.extract (Operand.tmp 57) 1, type := 73, pos := "ref.go:125", after := #[{ on := 7, ground := Ground.data }, { on := 13, ground := Ground.gcOnly Departure.lateStores }], guard := none }) (v := ?_) rfl (by kernel_rfl) (by kernel_rfl) (by kernel_rfl) (fun _ _ _ h => h) (Or.inl ⟨by rfl, ?_⟩) hHeld ?_
            rotate_left 1
            · intro u hSu
              have hO := K2.out.keep hSu.out
              have c0 := cell_of_row _ _ 0 _ _ _ hO.d
              have hrow := hO.own.cells (g := gi) rfl i (.int .i64 A.r) (by rw [List.getElem?_map, HSI.out]; rfl)
              rw [add_plain, Nat.zero_add] at hrow
              go_simp
              first | done | with_reducible rfl
            (try simp only [Act.put, List.setIfInBounds_toArray, List.set_cons_zero, List.set_cons_succ])
            refine wpAnyH_take (i := 10) (oi := { dst := some 67, op := Op.extract (Operand.tmp 57) 2, type := 4, pos := "ref.go:125", after := #[{ on := 7, ground := Ground.data }, { on := 14, ground := Ground.gcOnly Departure.lateStores }], guard := none }) (v := ?_) rfl (by kernel_rfl) (by kernel_rfl) (by kernel_rfl) (fun _ _ _ h => h) (Or.inl ⟨by rfl, ?_⟩) hHeld ?_
            rotate_left 1
            · intro u hSu
              have hO := K2.out.keep hSu.out
              have c0 := cell_of_row _ _ 0 _ _ _ hO.d
              have hrow := hO.own.cells (g := gi) rfl i (.int .i64 A.r) (by rw [List.getElem?_map, HSI.out]; rfl)
              rw [add_plain, Nat.zero_add] at hrow
              go_simp
              first | done | with_reducible rfl
            (try simp only [Act.put, List.setIfInBounds_toArray, List.set_cons_zero, List.set_cons_succ])
            refine wpAnyH_ready (rs := [13]) (by kernel_rfl) (by simp) ?_
            refine AllReadyH.cons (o := { dst := none, op := Op.store 73 (Operand.tmp 11) (Operand.tmp 65), type := 0, pos := "ref.go:125", after := #[{ on := 11, ground := Ground.data }, { on := 8, ground := Ground.data }, { on := 6, ground := Ground.chain }, { on := 0, ground := Ground.phase }, { on := 1, ground := Ground.phase }, { on := 2, ground := Ground.phase }, { on := 3, ground := Ground.phase }, { on := 4, ground := Ground.phase }, { on := 5, ground := Ground.phase }, { on := 6, ground := Ground.phase }, { on := 7, ground := Ground.phase }, { on := 8, ground := Ground.phase }, { on := 9, ground := Ground.textOnly Departure.lateStores }, { on := 10, ground := Ground.textOnly Departure.lateStores }, { on := 11, ground := Ground.phase }, { on := 12, ground := Ground.phase }], guard := none }) rfl (fun Kz hK => ?_) AllReadyH.nil
            have hna := HSa.out _ rfl
            obtain ⟨k0, k1, k2⟩ := row3 hna.bx
            have f0 := frozen_of_row _ _ 0 _ _ hna.bx
            have f1 := frozen_of_row _ _ 1 _ _ hna.bx
            have f2 := frozen_of_row _ _ 2 _ _ hna.bx
            have hst := store3r (.int .i64 u.a) (.int .i64 u.b) (.int .i64 u.c) hna.bx
            have HSn := Lib.hid (show ∀ b, b = _ → N3 wq b _ from fun b hb => ⟨kept_row (HSb.out b hb).bx hst.2 (fun e => HNE.out ((Option.some.inj e).symm.trans hb)), (HSb.out b hb).lo⟩)
            go_simp
            have hHn := Lib.hid (grown_new hHeld.out hst.2 hna.lo)
            clear k0 k1 k2 f0 f1 f2 hst hna
            clear HSb
            have HSb := HSn
            clear HSn
            refine hK.out _ _ (hHn) (fun hH2 => ?_)
            clear hK Kz hHeld
            have hHeld := hH2
            clear hH2
            (try simp only [Act.put, List.setIfInBounds_toArray, List.set_cons_zero, List.set_cons_succ])
            refine wpAnyH_ready (rs := [14]) (by kernel_rfl) (by simp) ?_
            refine AllReadyH.cons (o := { dst := none, op := Op.store 73 (Operand.tmp 12) (Operand.tmp 66), type := 0, pos := "ref.go:125", after := #[{ on := 12, ground := Ground.data }, { on := 9, ground := Ground.data }, { on := 13, ground := Ground.chain }, { on := 0, ground := Ground.phase }, { on := 1, ground := Ground.phase }, { on := 2, ground := Ground.phase }, { on := 3, ground := Ground.phase }, { on := 4, ground := Ground.phase }, { on := 5, ground := Ground.phase }, { on := 6, ground := Ground.phase }, { on := 7, ground := Ground.phase }, { on := 8, ground := Ground.phase }, { on := 9, ground := Ground.phase }, { on := 10, ground := Ground.textOnly Departure.lateStores }, { on := 11, ground := Ground.phase }, { on := 12, ground := Ground.phase }, { on := 13, ground := Ground.phase }], guard := none }) rfl (fun Kz hK => ?_) AllReadyH.nil
            have hna := HSb.out _ rfl
            obtain ⟨k0, k1, k2⟩ := row3 hna.bx
            have f0 := frozen_of_row _ _ 0 _ _ hna.bx
            have f1 := frozen_of_row _ _ 1 _ _ hna.bx
            have f2 := frozen_of_row _ _ 2 _ _ hna.bx
            have hst := store3r (.int .i64 z.a) (.int .i64 z.b) (.int .i64 z.c) hna.bx
            go_simp
            have hHn := Lib.hid (grown_new hHeld.out hst.2 hna.lo)
            clear k0 k1 k2 f0 f1 f2 hst hna
            refine hK.out _ _ (hHn) (fun hH2 => ?_)
            clear hK Kz hHeld
            have hHeld := hH2
            clear hH2
            (try simp only [Act.put, List.setIfInBounds_toArray, List.set_cons_zero, List.set_cons_succ])
            refine wpAnyH_take (i := 15) (oi := { dst := some 13, op := Op.assign (Operand.tmp 67), type := 4, pos := "ref.go:125", after := #[{ on := 10, ground := Ground.data }, { on := 14, ground := Ground.chain }, { on := 0, ground := Ground.phase }, { on := 1, ground := Ground.phase }, { on := 2, ground := Ground.phase }, { on := 3, ground := Ground.phase }, { on := 4, ground := Ground.phase }, { on := 5, ground := Ground.phase }, { on := 6, ground := Ground.phase }, { on := 7, ground := Ground.phase }, { on := 8, ground := Ground.phase }, { on := 9, ground := Ground.phase }, { on := 10, ground := Ground.phase }, { on := 11, ground := Ground.phase }, { on := 12, ground := Ground.phase }, { on := 13, ground := Ground.phase }, { on := 14, ground := Ground.phase }], guard := none }) (v := ?_) rfl (by kernel_rfl) (by kernel_rfl) (by kernel_rfl) (fun _ _ _ h => h) (Or.inl ⟨by rfl, ?_⟩) hHeld ?_
            rotate_left 1
            · intro u hSu
              have hO := K2.out.keep hSu.out
              have c0 := cell_of_row _ _ 0 _ _ _ hO.d
              have hrow := hO.own.cells (g := gi) rfl i (.int .i64 A.r) (by rw [List.getElem?_map, HSI.out]; rfl)
              rw [add_plain, Nat.zero_add] at hrow
              go_simp
              first | done | with_reducible rfl
            (try simp only [Act.put, List.setIfInBounds_toArray, List.set_cons_zero, List.set_cons_succ])
            refine wpAnyH_done (by kernel_rfl) ?_ _
            have KR := Lib.hid (K2.out.keep hHeld.out)
            clear HD hHeld hHn HSa HSb
            go_wp2_with fail
            go_meet
            exact ⟨rfl, KR⟩
      case rest =>
      obtain ⟨rfl, K3⟩ := hcut
      clear K2
      cases kb with
      | false =>
        have HFN : Hid (((l.take (k + 1)).filter (lkAd A)).foldl addA (S, W') = (S2, W2)) := Lib.hid (by rw [HST.out, if_neg (by decide)])
        clear HST HFO
        go_wp2_with fail
        exact ⟨⟨k + 1, S2, W2, by omega, congrArg _ (by omega), hS2l, HFN, K3⟩, by simp only [RowKit.intOf]; omega⟩
      | true =>
        obtain ⟨hh, hhe⟩ : ∃ hh, inS S2 B.r = hh := ⟨_, rfl⟩
        have HHE := Lib.hid hhe
        clear hhe
        go_wp2_with fail
        refine (rhas4_any S2 B.r (some ⟨gi, 0, none⟩) ci2 _ _ (rd_of_own K3.out.own) (by omega)).mono ?_
        rw [has_inS, HHE.out]
        rintro e w5 ⟨rfl, rfl⟩
        cases hh with
        | true =>
          have HFN : Hid (((l.take (k + 1)).filter (lkAd A)).foldl addA (S, W') = (S2, W2)) := Lib.hid (by rw [HST.out, if_pos trivial]; unfold addA; rw [if_pos HHE.out])
          clear HST HFO
          go_wp2_with fail
          exact ⟨⟨k + 1, S2, W2, by omega, congrArg _ (by omega), hS2l, HFN, K3⟩, by simp only [RowKit.intOf]; omega⟩
        | false =>
          have HFN : Hid (((l.take (k + 1)).filter (lkAd A)).foldl addA (S, W') = (S2 ++ [B.r], W2 ++ [B])) := Lib.hid (by rw [HST.out, if_pos trivial]; unfold addA; rw [if_neg (by rw [HHE.out]; decide)])
          have HLS : Hid (S2.length ≤ 198) := Lib.hid (by
            have h1 := congrArg (fun st => st.1.length) HFO.out
            have := add_len ((l.take k).filter (lkAd A)) (S, W')
            have h3 := List.length_filter_le (lkAd A) (l.take k)
            rw [List.length_take] at h3
            simp only at h1 this
            omega)
          clear HST HFO
          have K4 := Lib.hid (K3.out.keep (tone_box _ #[.int .i64 B.r] 3).2)
          go_wp2_with (at_builtin; refine hold_on ?_)
          refine Lib.hid ?_
          refine wpList_append_lies _ rfl _ _ 22 rfl N 3 ii (.int .i64 0) 1 8 Try.underlying22 hii hi0 hi1 hi2 rfl (by decide) _ _ _ rfl K4.out.own ⟨_, 0, none⟩ 1 1 [.int .i64 B.r] rfl rfl (cell_one _ _ _) (by intro u hu; simp at hu; subst hu; rfl) (by decide) (by have := HLS.out; unfold maxLen; omega) (by have := HLS.out; omega) K4.out.lo.2 _ rfl ?_
          intro g6 cap6 w6 hown6 hg6 hat6 hlt6
          have K5 := Lib.hid (K4.out.app hown6 hg6)
          clear hown6 hg6 hat6 hlt6 K4 K3
          go_wp2_with fail
          exact ⟨⟨k + 1, S2 ++ [B.r], W2 ++ [B], by omega, congrArg _ (by omega), by have := HLS.out; simp; omega, HFN, K5⟩, by simp only [RowKit.intOf]; omega⟩
    · obtain rfl : k = l.length := by omega
      have HRI2 : Hid (RI l r S2 W2 (i + 1)) := Lib.hid (by
        have h1 := RIi.out.step HOV.out hlt
        have h2 := HFO.out
        rw [List.take_length] at h2
        rw [h2] at h1
        exact h1)
      clear HFO RIi HA
      go_wp2_with fail
      exact ⟨⟨i + 1, S2, W2, congrArg _ (by omega), HRI2, K2⟩, by simp only [RowKit.intOf]; omega⟩
  · obtain rfl : i = S.length := by omega
    have hSr := RIi.out.fin
    rw [← hSr] at HVW
    clear hSr RIi
    have ga := World.grownBy_alloc wr (.cells #[.slice none 0 0, .slice none 0 0] 59) none
    have hlo := K.out.lo
    have K0 : Hid (VS w l p c wr.heap.size [] (.map none) (.slice none 0 0) (.slice none 0 0) (.slice none 0 0) (.slice none 0 0) [] [] (wr.alloc (.cells #[.slice none 0 0, .slice none 0 0] 59)) ∧ InR w wr.heap.size (.slice pi S.length ci) S (wr.alloc (.cells #[.slice none 0 0, .slice none 0 0] 59))) := Lib.hid ⟨⟨K.out.db.keep ga, kept_row K.out.d ga (by simp), kept_row K.out.z ga (by simp), heap_alloc_new wr _, World.ownsRow_nil _ _ _ _, World.ownsRow_nil _ _ _ _, (fun g h => by cases h), .inl ⟨rfl, fun _ => rfl⟩, by omega, World.lt_of_row' (heap_alloc_new wr _), grown_trans K.out.gr ga⟩, (rd_of_own2I K.out.own).keep ga |>.mono (fun b hb => ⟨by omega, hb.2⟩)⟩
    clear ga K hlo
    go_upto_region 16 with fail
    generalize hw : wr.alloc _ = w5 at *
    generalize wr.heap.size = B at *
    clear hw wr
    go_wp2_with fail
    go_loopw [15] (fun x wr => ∃ (k : Nat) (vR vL : Value) (R : List Rt) (L : List Lk), k ≤ l.length ∧ x = .int .i64 (k : Int) ∧ R.length ≤ k ∧ L.length ≤ 23 * k ∧ Hid (((l.take k).filter (inV S)).map toR = R ∧ ((l.take k).filter (inV S)).flatMap (vL1 l) = L) ∧ Hid (VS w l p c B [] (.map none) vR vL vR vL R L wr ∧ InR w B (.slice pi S.length ci) S wr)) (fun x _ => l.length - (RowKit.intOf x).toNat)
    case atStart => exact ⟨0, _, _, [], [], Nat.zero_le _, rfl, Nat.le_refl _, Nat.zero_le _, Lib.hid ⟨rfl, rfl⟩, K0⟩
    case round =>
    obtain ⟨k, vR, vL, R, L, hk, rfl, hRk, hLk, HI, K⟩ := hrel
    clear K0
    have c0 := cell_of_row _ _ 0 _ _ _ K.out.1.d
    by_cases hlt : k < l.length
    · obtain ⟨-, b1, off1, rfl, -, -⟩ := rda_cells K.out.1.db (by omega)
      obtain ⟨A, hA⟩ : ∃ A, l[k]? = some A := ⟨_, List.getElem?_eq_getElem hlt⟩
      obtain ⟨a0, a1, a2, a3, a4⟩ := rda_at K.out.1.db hA
      have HAM := Lib.hid (And.intro hA (List.mem_of_getElem? hA))
      have HST := Lib.hid (vw_step (S := S) hA)
      have hAL := (HRNG.out A (List.mem_of_getElem? hA)).2
      have gal := World.grownBy_alloc wr (.cells #[.int .i64 A.r, .int .i64 A.q, .bool A.cp, .slice A.pL A.L.length A.cL, .slice A.pC A.C.length A.cC] 38) none
      have KB : Hid (VB w l (some ⟨b1, off1, none⟩) c B [] (.map none) vR vL vR vL R L A wr.heap.size (wr.alloc (.cells #[.int .i64 A.r, .int .i64 A.q, .bool A.cp, .slice A.pL A.L.length A.cL, .slice A.pC A.C.length A.cC] 38)) ∧ InR w B (.slice pi S.length ci) S (wr.alloc (.cells #[.int .i64 A.r, .int .i64 A.q, .bool A.cp, .slice A.pL A.L.length A.cL, .slice A.pC A.C.length A.cC] 38))) := Lib.hid
        ⟨⟨K.out.1.keep gal, heap_alloc_new wr _, fun e => by have := (K.out.1.oR.lt _ e).2; omega, fun e => by have := (K.out.1.oL.lt _ e).2; omega, K.out.1.sz, World.lt_of_row' (heap_alloc_new wr _)⟩, K.out.2.keep gal⟩
      clear hA gal K
      go_upto_region 20 with fail
      clear a0 a1 a2 a3 a4 c0
      generalize hw : wr.alloc _ = wy at *
      generalize wr.heap.size = X at *
      clear hw
      obtain ⟨d0, d1, d2, d3, d4⟩ := row5 KB.out.1.a
      obtain ⟨bs, hbs⟩ : ∃ bs, inS S A.r = bs := ⟨_, rfl⟩
      go_wp2_with fail
      refine (rhas4_any S A.r pi ci _ wy KB.out.2 (by omega)).mono ?_
      rw [has_inS, hbs]
      rintro e w5 ⟨rfl, rfl⟩
      cases bs with
      | false =>
        have HN : Hid (((l.take (k + 1)).filter (inV S)).map toR = R ∧ ((l.take (k + 1)).filter (inV S)).flatMap (vL1 l) = L) := Lib.hid (by rw [HST.out.1, HST.out.2, hbs, HI.out.1, HI.out.2]; simp)
        have KN := Lib.hid (And.intro KB.out.1.s KB.out.2)
        clear hbs KB
        go_wp2_with fail
        exact ⟨⟨k + 1, vR, vL, R, L, by omega, congrArg _ (by omega), by omega, by omega, HN, KN⟩, by simp only [RowKit.intOf]; omega⟩
      | true =>
        have HN : Hid (((l.take (k + 1)).filter (inV S)).map toR = R ++ [toR A] ∧ ((l.take (k + 1)).filter (inV S)).flatMap (vL1 l) = L ++ vL1 l A) := Lib.hid (by rw [HST.out.1, HST.out.2, hbs, HI.out.1, HI.out.2]; simp)
        clear hbs HST HI
        go_upto_region 21 with fail
        obtain ⟨b0, b2⟩ := row_cells KB.out.1.s.t
        go_wp2_with (at_builtin; refine hold_on ?_)
        refine Lib.hid ?_
        have gr2 := World.grownBy_alloc wy (.cells #[.int .i64 A.r, .bool A.cp] 69) none
        have KC := Lib.hid (And.intro (KB.out.1.keep gr2) (KB.out.2.keep gr2))
        clear gr2
        refine wpList_append_own_at _ rfl _ _ 56 rfl (B + 1) 69 ir (.agg #[.int .i64 0, .bool false]) 2 16 Try.underlying56 hir hr0 hr1 hr2 rfl (by decide) vR R.length (R.flatMap rtC) (by rfl) KC.out.1.s.oR ⟨wy.heap.size, 0, none⟩ 1 1 (rtC (toR A)) (by rfl) rfl (cells2V _ _ _ _) (rtV_one _) (by unfold maxLen; omega) (by omega) (by have := KC.out.1.s.sz; omega) ?_
        intro v' w9 hown hg _ hat
        have hfl : R.flatMap rtC ++ rtC (toR A) = (R ++ [toR A]).flatMap rtC := by rw [List.flatMap_append, List.flatMap_cons, List.flatMap_nil, List.append_nil]
        have hRl : (R ++ [toR A]).length = R.length + 1 := by rw [List.length_append]; rfl
        obtain ⟨p5, c5, rfl, -, -⟩ := own_shape hown
        have hown2 : w9.ownsRow (B + 1) 69 2 (.slice p5 (R.length + 1) c5) (R ++ [toR A]).length ((R ++ [toR A]).flatMap rtC) := by rw [hRl, ← hfl]; exact hown
        have K9 := Lib.hid (And.intro (KC.out.1.addR hown2 hg hat) (inr_grown KC.out.2 hg (fun x e => by have := (KC.out.1.s.oR.lt x e).1; omega)))
        clear hown hown2 hRl hg hat hfl KB KC b0 b2 d0 d1 d2 d3 d4
        simp only [Act.put, List.setIfInBounds_toArray, List.set_cons_zero, List.set_cons_succ]
        obtain ⟨b0, b2⟩ := row_cells K9.out.1.s.t
        have f0 := frozen_of_row _ _ 0 _ _ K9.out.1.s.t
        have K10 := Lib.hid (And.intro K9.out.1.putR (inr_grown K9.out.2 (grown_setCell w9 ⟨B, 0, none⟩ (.slice p5 (R.length + 1) c5)) (fun x e => by have : B = x := Option.some.inj e; omega)))
        go_upto_region 22 with fail
        clear b0 b2 f0 K9
        generalize w9.setCell _ _ = w10 at *
        go_wp2_with fail
        go_loopw [17] (fun x wq => ∃ (j : Nat) (vL2 : Value) (L2 : List Lk), k + 1 ≤ j ∧ j ≤ l.length ∧ x = .int .i64 (j : Int) ∧ L2.length ≤ L.length + j ∧ Hid (L ++ vLk l A k j = L2) ∧ Hid (VB w l (some ⟨b1, off1, none⟩) c B [] (.map none) (.slice p5 (R.length + 1) c5) vL2 (.slice p5 (R.length + 1) c5) vL2 (R ++ [toR A]) L2 A X wq ∧ InR w B (.slice pi S.length ci) S wq)) (fun x _ => l.length - (RowKit.intOf x).toNat)
        case atStart => exact ⟨k + 1, vL, L, Nat.le_refl _, by omega, by first | rfl | exact congrArg _ (by omega), by omega, Lib.hid (by rw [vLk_start, List.append_nil]), K10⟩
        case round =>
        obtain ⟨j, vL2, L2, hj1, hj, rfl, hL2, HL, C⟩ := hrel
        clear K10
        have c0 := cell_of_row _ _ 0 _ _ _ C.out.1.s.d
        by_cases hlt2 : j < l.length
        · obtain ⟨x, hx⟩ : ∃ x, l[j]? = some x := ⟨_, List.getElem?_eq_getElem hlt2⟩
          obtain ⟨a0, a1, a2, a3, a4⟩ := rda_at C.out.1.s.db hx
          have HX := Lib.hid (And.intro hx (List.mem_of_getElem? hx))
          have HLS := Lib.hid (vLk_step (A := A) hx hj1)
          have HLK : Hid (lkdB l A.r x.r = lkAd A x) := Lib.hid (lkd_eq HOV.out HAM.out.2 (List.mem_of_getElem? hx))
          have HFA := Lib.hid (And.intro (fnd_selfV HOV.out.asc A HAM.out.2) (fnd_selfV HOV.out.asc x (List.mem_of_getElem? hx)))
          clear hx
          obtain ⟨kb, hkb⟩ : ∃ kb, lkAd A x = kb := ⟨_, rfl⟩
          rw [hkb] at HLS HLK
          clear hkb
          go_upto_region 26 with fail
          clear a0 a1 a2 a3 a4
          obtain ⟨d0, d1, d2, d3, d4⟩ := row5 C.out.1.a
          go_wp2_with fail
          refine (rlinked_any l A.r x.r (some ⟨b1, off1, none⟩) c _ _ C.out.1.s.db (by omega)).mono ?_
          rintro e w11 ⟨u, z, rfl, huz, hg⟩
          rw [HLK.out]
          obtain ⟨hu, hz⟩ := huz A x HFA.out.1 HFA.out.2
          obtain ⟨n1, n2, n3, n4⟩ := two_boxes w11 #[.int .i64 u.a, .int .i64 u.b, .int .i64 u.c] #[.int .i64 z.a, .int .i64 z.b, .int .i64 z.c] 73 73
          have C1 := Lib.hid (And.intro ((C.out.1.keep hg).keep n3) (And.intro ((C.out.2.keep hg).keep n3) (And.intro n1 n2)))
          have HUZ := Lib.hid (And.intro hu hz)
          clear hu hz huz hg n1 n2 n3 n4 C d0 d1 d2 d3 d4 c0
          go_upto_region 27 with fail
          generalize hw : (w11.alloc _).alloc _ = w12 at *
          generalize w11.heap.size = nb at *
          clear hw w11
          cases kb with
          | false =>
            have HF : Hid (L ++ vLk l A k (j + 1) = L2) := Lib.hid (by rw [HLS.out, if_neg (by decide), List.append_nil]; exact HL.out)
            have C2 := Lib.hid (And.intro C1.out.1 C1.out.2.1)
            clear HLS HL C1
            go_wp2_with fail
            exact ⟨⟨j + 1, vL2, L2, by omega, by omega, congrArg _ (by omega), by omega, HF, C2⟩, by simp only [RowKit.intOf]; omega⟩
          | true =>
            obtain ⟨mc, hmc⟩ : ∃ mc, (if z.c < u.c then z.c else u.c) = mc := ⟨_, rfl⟩
            have HMC : Hid (btw A x = ⟨A.r, x.r, u.b, z.b, mc⟩) := Lib.hid (by unfold btw; rw [← HUZ.out.1, ← HUZ.out.2, ← hmc]; congr 1; split <;> omega)
            have HF : Hid (L ++ vLk l A k (j + 1) = L2 ++ [⟨A.r, x.r, u.b, z.b, mc⟩]) := Lib.hid (by rw [HLS.out, if_pos rfl, HMC.out, ← List.append_assoc, HL.out])
            clear HLS HL HMC HUZ
            obtain ⟨d0, d1, d2, d3, d4⟩ := row5 C1.out.1.a
            obtain ⟨b0, b2⟩ := row_cells C1.out.1.s.t
            obtain ⟨u0, u1, u2⟩ := row3 C1.out.2.2.1
            obtain ⟨z0, z1, z2⟩ := row3 C1.out.2.2.2
            have gl := World.grownBy_alloc w12 (.cells #[.int .i64 A.r, .int .i64 x.r, .int .i64 u.b, .int .i64 z.b, .int .i64 mc] 71) none
            have C2 := Lib.hid (And.intro (C1.out.1.keep gl) (C1.out.2.1.keep gl))
            clear gl
            go_wp2_with (at_builtin; refine hold_on ?_)
            refine Lib.hid ?_
            refine wpList_append_own_at _ rfl _ _ 57 rfl (B + 1) 71 il (.agg #[.int .i64 0, .int .i64 0, .int .i64 0, .int .i64 0, .int .i64 0]) 5 40 Try.underlying57 hil hl0 hl1 hl2 rfl (by decide) vL2 L2.length (L2.flatMap lkC) (by rfl) C2.out.1.s.oL ⟨w12.heap.size, 0, none⟩ 1 1 (lkC ⟨A.r, x.r, u.b, z.b, mc⟩) (by rfl) rfl (cells5V _ _ _ _ _ _ _) (lkV_one _) (by unfold maxLen; omega) (by omega) (by have := C2.out.1.s.sz; omega) ?_
            intro v' w13 hown hg _ hat
            have hfl : L2.flatMap lkC ++ lkC (⟨A.r, x.r, u.b, z.b, mc⟩ : Lk) = (L2 ++ [(⟨A.r, x.r, u.b, z.b, mc⟩ : Lk)]).flatMap lkC := by rw [List.flatMap_append, List.flatMap_cons, List.flatMap_nil, List.append_nil]
            have hLl : (L2 ++ [(⟨A.r, x.r, u.b, z.b, mc⟩ : Lk)]).length = L2.length + 1 := by rw [List.length_append]; rfl
            obtain ⟨p6, c6, rfl, -, -⟩ := own_shape hown
            have hown2 : w13.ownsRow (B + 1) 71 5 (.slice p6 (L2.length + 1) c6) (L2 ++ [(⟨A.r, x.r, u.b, z.b, mc⟩ : Lk)]).length ((L2 ++ [(⟨A.r, x.r, u.b, z.b, mc⟩ : Lk)]).flatMap lkC) := by rw [hLl, ← hfl]; exact hown
            have C3 := Lib.hid (And.intro (C2.out.1.addL hown2 hg hat) (inr_grown C2.out.2 hg (fun y e => by have := (C2.out.1.s.oL.lt y e).1; omega)))
            clear hown hown2 hg hat hfl C1 C2 b0 b2 d0 d1 d2 d3 d4 u0 u1 u2 z0 z1 z2
            simp only [Act.put, List.setIfInBounds_toArray, List.set_cons_zero, List.set_cons_succ]
            obtain ⟨b0, b2⟩ := row_cells C3.out.1.s.t
            have f1 := frozen_of_row _ _ 1 _ _ C3.out.1.s.t
            have C4 := Lib.hid (And.intro C3.out.1.putL (inr_grown C3.out.2 (grown_setCell w13 ⟨B, 1, none⟩ (.slice p6 (L2.length + 1) c6)) (fun y e => by have : B = y := Option.some.inj e; omega)))
            clear C3
            go_wp2_with fail
            exact ⟨⟨j + 1, _, _, by omega, by omega, congrArg _ (by omega), by rw [hLl]; omega, HF, C4⟩, by simp only [RowKit.intOf]; omega⟩
        · obtain rfl : j = l.length := by omega
          have hL9 := HL.out
          rw [vLk_fin HOV.out HAM.out.1] at hL9
          rw [hL9] at HN
          have KN := Lib.hid (And.intro C.out.1.s C.out.2)
          have hRl : (R ++ [toR A]).length = R.length + 1 := by rw [List.length_append]; rfl
          have hLL : L2.length ≤ L.length + 23 := by
            rw [← hL9, List.length_append]
            have := vL1_len l A
            omega
          clear C HL hL9
          go_wp2_with fail
          exact ⟨⟨k + 1, .slice p5 (R.length + 1) c5, vL2, R ++ [toR A], L2, by omega, congrArg _ (by omega), by omega, by omega, HN, KN⟩, by simp only [RowKit.intOf]; omega⟩
    · obtain rfl : k = l.length := by omega
      have hI := HI.out
      rw [List.take_length] at hI
      have hI1 : vwR l S = R := hI.1
      have hI2 : vwL l S = L := hI.2
      rw [hI1, hI2] at HVW
      obtain ⟨pR, cR, rfl, n1, m1⟩ := own_shape K.out.1.oR
      obtain ⟨pL, cL, rfl, n2, m2⟩ := own_shape K.out.1.oL
      have hlo := K.out.1.lo
      have HTG : Hid (TgOk wr (fun b => B + 1 ≤ b ∧ b < wr.heap.size) ⟨R, L, pR, cR, pL, cL⟩) := Lib.hid ⟨rdf_of_own2 K.out.1.oR, rdf_of_own2 K.out.1.oL, ⟨n1, m1⟩, ⟨n2, m2⟩⟩
      clear hI hI1 hI2 n1 m1 n2 m2 HI
      obtain ⟨b0, b2⟩ := row_cells K.out.1.t
      go_wp2_with fail
      refine (rcheck_any ⟨R, L, pR, cR, pL, cL⟩ _ wr HTG.out).mono ?_
      rintro e w5 ⟨rfl, hg⟩
      have HT5 := Lib.hid (HTG.out.keep hg)
      have K5 := Lib.hid (K.out.1.keep hg)
      clear hg K HTG b0 b2 c0
      simp only
      obtain ⟨z, hz⟩ : ∃ z, chk R L = z := ⟨_, rfl⟩
      rw [hz] at HVW ⊢
      clear hz
      obtain ⟨b0, b2⟩ := row_cells K5.out.t
      have z0 := cell_of_row _ _ 0 _ _ _ K5.out.z
      have z1 := cell_of_row _ _ 1 _ _ _ K5.out.z
      have f0 := frozen_of_row _ _ 0 _ _ K5.out.z
      have f1 := frozen_of_row _ _ 1 _ _ K5.out.z
      by_cases hz0 : z = 0
      · have HV : Hid ((R, L) = viewV l r) := Lib.hid (by rw [HVW.out, if_pos hz0])
        obtain ⟨t1, t2⟩ := store2c (.slice pR R.length cR) (.slice pL L.length cL) K5.out.z
        have HT := Lib.hid (And.intro t1 (And.intro (grown_new K5.out.gr t2 (by omega)) (HT5.out.grown t2 (fun b hb e => by have := Option.some.inj e; omega))))
        clear t1 t2 K5 HT5
        subst hz0
        go_wp2_with fail
        refine bodyPost_ret (res_topoV rfl _ _ (w.heap.size + 1) _ _ rfl HT.out.1) rfl ?_
        exact ⟨⟨R, L, pR, cR, pL, cL⟩, rfl, HV.out, HT.out.2.2.mono (fun b hb => by omega), HT.out.2.1⟩
      · have hzb : (z == 0) = false := by simpa using hz0
        have HV : Hid (viewV l r = ([], [])) := Lib.hid (by rw [HVW.out, if_neg hz0])
        obtain ⟨t1, t2⟩ := store2c (.slice none 0 0) (.slice none 0 0) K5.out.z
        have HT := Lib.hid (And.intro t1 (grown_new K5.out.gr t2 (by omega)))
        clear t1 t2 K5 HT5
        go_wp2_with fail
        refine bodyPost_ret (res_topoV rfl _ _ (w.heap.size + 1) _ _ rfl HT.out.1) rfl ?_
        exact vw_no HV.out HT.out.2
end Go.Proofs.Ytnpkihioklpnmaa
