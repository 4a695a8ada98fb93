/- Parts of the proof, packed: StEncF, StSame, PkAwake, StAwake. -/
import Derived.Test.YtpombmpkccnefaaDoorValid9
import Derived.Test.YtpombmpkccnefaaDoorValid12
import Derived.Test.YtpombmpkccnefaaDoorValid7
import Derived.Test.YtpombmpkccnefaaDoorValid8
import Derived.Test.YtpombmpkccnefaaDoorValid11
import Derived.Test.YtpombmpkccnefaaDoorValid10
/- stack: EncodeFrame. -/
namespace Go.Proofs.YtpombmpkccnefaaDoor
open Go.RowKit Bs
set_option maxRecDepth 100000 in
theorem rdb_row {w : World} {b : Nat} {t : TypeId} {vs : List Value} {Ls : List (List Nat)} (h : Row w b t vs) (hx : ∀ (i : Nat) (L : List Nat), Ls[i]? = some L → ∃ (p : Option Addr) (c : Nat), vs[i]? = some (Value.slice p L.length c) ∧ Rd w (fun _ => True) (.slice p L.length c) (L.map nv) ∧ (p = none → c = 0)) : RdB w (fun _ => True) (some ⟨b, 0, none⟩) Ls := by
  intro _
  refine ⟨b, 0, rfl, fun i L hL => ?_⟩
  obtain ⟨p, c, h1, h2, h3⟩ := hx i L hL
  exact ⟨p, c, by rw [Nat.zero_add]; exact h.cell h1, h2, h3⟩
set_option maxRecDepth 100000 in
theorem rdb2 {w : World} {x g : Nat} {E : List Nat} (h : Blk w g E) :
    RdB ((w.alloc (.cells #[.int .u8 (x : Int)] 5)).alloc (.cells #[.slice (some ⟨w.heap.size, 0, none⟩) 1 1, .slice (some ⟨g, 0, none⟩) E.length E.length] 23)) (fun _ => True) (some ⟨w.heap.size + 1, 0, none⟩) [[x], E] := by
  obtain ⟨k1, k2, k3, _⟩ := two_boxes w #[.int .u8 (x : Int)] #[.slice (some ⟨w.heap.size, 0, none⟩) 1 1, .slice (some ⟨g, 0, none⟩) E.length E.length] 5 23
  refine rdb_row (vs := [.slice (some ⟨w.heap.size, 0, none⟩) 1 1, .slice (some ⟨g, 0, none⟩) E.length E.length]) k2 fun i L hL => ?_
  rcases i with _ | _ | i
  · obtain rfl : [x] = L := by simpa using hL
    exact ⟨_, _, rfl, Blk.rd (l := [x]) k1 _ trivial 1, by exact nofun⟩
  · obtain rfl : E = L := by simpa using hL
    exact ⟨_, _, rfl, (h.keep k3).rd _ trivial _, by exact nofun⟩
  · simp at hL
set_option maxRecDepth 100000 in
theorem rdb3 {w : World} {x g c1 : Nat} {p1 : Option Addr} {D E : List Nat} (h1 : Rd w (fun _ => True) (.slice p1 D.length c1) (D.map nv)) (hp : p1 = none → c1 = 0) (h : Blk w g E) :
    RdB ((w.alloc (.cells #[.int .u8 (x : Int)] 5)).alloc (.cells #[.slice (some ⟨w.heap.size, 0, none⟩) 1 1, .slice p1 D.length c1, .slice (some ⟨g, 0, none⟩) E.length E.length] 23)) (fun _ => True) (some ⟨w.heap.size + 1, 0, none⟩) [[x], D, E] := by
  obtain ⟨k1, k2, k3, _⟩ := two_boxes w #[.int .u8 (x : Int)] #[.slice (some ⟨w.heap.size, 0, none⟩) 1 1, .slice p1 D.length c1, .slice (some ⟨g, 0, none⟩) E.length E.length] 5 23
  refine rdb_row (vs := [.slice (some ⟨w.heap.size, 0, none⟩) 1 1, .slice p1 D.length c1, .slice (some ⟨g, 0, none⟩) E.length E.length]) k2 fun i L hL => ?_
  rcases i with _ | _ | _ | i
  · obtain rfl : [x] = L := by simpa using hL
    exact ⟨_, _, rfl, Blk.rd (l := [x]) k1 _ trivial 1, by exact nofun⟩
  · obtain rfl : D = L := by simpa using hL
    exact ⟨_, _, rfl, h1.keep k3, hp⟩
  · obtain rfl : E = L := by simpa using hL
    exact ⟨_, _, rfl, (h.keep k3).rd _ trivial _, by exact nofun⟩
  · simp at hL
set_option maxRecDepth 100000 in
theorem by_one {x : Nat} (h : x < 256) : By [x] := fun y hy => by
  obtain rfl : y = x := by simpa using hy
  exact h
set_option maxRecDepth 100000 in
theorem by2 {x : Nat} {E : List Nat} (h : x < 256) (hE : By E) : ∀ L ∈ ([[x], E] : List (List Nat)), By L := by
  intro L hL
  rcases List.mem_cons.1 hL with rfl | hL
  · exact by_one h
  · obtain rfl : L = E := by simpa using hL
    exact hE
set_option maxRecDepth 100000 in
theorem by3 {x : Nat} {D E : List Nat} (h : x < 256) (hD : By D) (hE : By E) : ∀ L ∈ ([[x], D, E] : List (List Nat)), By L := by
  intro L hL
  rcases List.mem_cons.1 hL with rfl | hL
  · exact by_one h
  rcases List.mem_cons.1 hL with rfl | hL
  · exact hD
  · obtain rfl : L = E := by simpa using hL
    exact hE
set_option maxRecDepth 100000 in
theorem two_grown (w : World) (A Z : Array Value) (t u : TypeId) : w.grownBy ((w.alloc (.cells A t)).alloc (.cells Z u)) none := (two_boxes w A Z t u).2.2.1
set_option maxRecDepth 100000 in
theorem encF_nil {r : List Int} {P : Pk} (h : r.length = 0) : ([[0], enc P] : List (List Nat)).flatten = encF r P := by
  unfold encF
  rw [if_pos (List.eq_nil_of_length_eq_zero h)]
  simp
set_option maxRecDepth 100000 in
theorem encF_some {r : List Int} {P : Pk} (h : ¬ r.length = 0) : ([[1], encL (r.map lbR), enc P] : List (List Nat)).flatten = encF r P := by
  unfold encF
  rw [if_neg (fun e => h (by rw [e]; rfl))]
  simp
def EFPost (r : List Int) (P : Pk) (w : World) (e : Ending) (w' : World) : Prop :=
  (vfr r P = true ∧ ∃ p c, e = .returned (.tuple #[.slice p (encF r P).length c, .int .i64 0]) ∧ Own w' w.heap.size p c (encF r P) ∧ w.grownBy w' none) ∨
  (vfr r P = false ∧ e = .returned (.tuple #[.slice none 0 0, .int .i64 1]) ∧ w.grownBy w' none)
set_option maxRecDepth 100000 in
theorem vfr_parts {r : List Int} {P : Pk} (h : vfr r P = true) : r.length ≤ 24 ∧ allR r = true ∧ rep r = false ∧ vpk P = true := by
  unfold vfr at h
  simp only [Bool.and_eq_true, decide_eq_true_eq, Bool.not_eq_true'] at h
  exact ⟨h.1, h.2.1, h.2.2.1, h.2.2.2⟩
set_option maxRecDepth 100000 in
theorem enc_small {P : Pk} (h : vpk P = true) : (enc P).length ≤ 100 := by
  obtain ⟨_, hn⟩ := vpk_len h
  have hp := (vpk_parts h).2.2.2.2.2.2.2.1
  rw [enc_len]
  omega
set_option maxRecDepth 100000 in
theorem encL_route {r : List Int} (hr : allR r = true) (h1 : 1 ≤ r.length) (h24 : r.length ≤ 24) : encE (r.map lbR) = 0 ∧ encB (r.map lbR) = encL (r.map lbR) := by
  have he : encE (r.map lbR) = 0 := by
    unfold encE lenL
    rw [if_pos (by rw [List.length_map, decide_eq_true_eq]; omega), if_pos]
    rw [List.all_eq_true]
    intro x hx
    obtain ⟨z, hz, rfl⟩ := List.mem_map.1 hx
    exact lbR_v (List.all_eq_true.1 hr z hz)
  exact ⟨he, by unfold encB; rw [if_pos he]⟩
set_option maxRecDepth 100000 in
set_option maxHeartbeats 3200000 in
theorem sencf_any (r : List Int) (P : Pk) (hP : P.Wf) (p : Option Addr) (c : Nat) (hc0 : r.length ≤ c) (hcm : c ≤ 9223372036854775807) (q : Nat → Prop) (w : World) (hT : Tb w) (hR : Rd w q (.slice p r.length c) (r.map iv)) :
    Calls Tryd.prog 32 #[fval (.slice p r.length c) P] w fun e w' => EFPost r P w e w' := by
  have hfv : fval (.slice p r.length c) P = .agg #[.slice p r.length c, .int .i64 P.mode, .int .i64 P.sub, .int .i64 P.set, .int .i64 P.len, .int .i64 P.ttl, .int .i64 P.ent, .int .i64 P.ing, .int .i64 P.pro, .int .u64 (P.bits : Int), .string P.pay] := rfl
  rw [hfv]
  obtain ⟨k1, k2⟩ := sone_box w (frcells (.slice p r.length c) P) 43
  have HB := Lib.hid (And.intro k1 k2)
  obtain ⟨c0, c1, c2, c3, c4, c5, c6, c7, c8, c9, c10⟩ := fr_facts k1
  have HR := Lib.hid (hR.keep k2)
  have HTT := Lib.hid (hT.keep k2)
  have HFV := Lib.hid hfv
  have hval : P.val = .agg #[.int .i64 P.mode, .int .i64 P.sub, .int .i64 P.set, .int .i64 P.len, .int .i64 P.ttl, .int .i64 P.ent, .int .i64 P.ing, .int .i64 P.pro, .int .u64 (P.bits : Int), .string P.pay] := rfl
  have HV := Lib.hid hval
  have HC := Lib.hid (And.intro hc0 hcm)
  clear hR hT hfv hval hc0 hcm k1 k2
  go_enter Tryd.func32, Tryd.ntmps32
  go_upto_region 1 with fail
  have HB2 : Hid ((w.alloc (.cells #[.slice p r.length c, .int .i64 P.mode, .int .i64 P.sub, .int .i64 P.set, .int .i64 P.len, .int .i64 P.ttl, .int .i64 P.ent, .int .i64 P.ing, .int .i64 P.pro, .int .u64 (P.bits : Int), .string P.pay] 43)).heap[w.heap.size]? = some (.cells (frcells (.slice p r.length c) P) 43 (0, 0)) ∧ w.grownBy (w.alloc (.cells #[.slice p r.length c, .int .i64 P.mode, .int .i64 P.sub, .int .i64 P.set, .int .i64 P.len, .int .i64 P.ttl, .int .i64 P.ent, .int .i64 P.ing, .int .i64 P.pro, .int .u64 (P.bits : Int), .string P.pay] 43)) none) := HB
  clear HB
  unfold frcells at HR HTT c0 c1 c2 c3 c4 c5 c6 c7 c8 c9 c10
  generalize w.alloc _ = wa at *
  go_wp2_with fail
  rw [← HFV.out]
  refine (svfr_any r P hP p c HC.out.1 HC.out.2 q wa HR.out).mono ?_
  rintro e w1 ⟨rfl, hg⟩
  have HB1 := Lib.hid (And.intro (kept_row HB2.out.1 hg (by simp)) (grown_trans HB2.out.2 hg))
  have HR1 := Lib.hid (HR.out.keep hg)
  have HT1 := Lib.hid (HTT.out.keep hg)
  clear hg HB2 HR HTT c0 c1 c2 c3 c4 c5 c6 c7 c8 c9 c10
  cases hv : vfr r P
  · go_wp2_with fail
    go_ret2
    exact Or.inr ⟨hv, rfl, HB1.out.2⟩
  · obtain ⟨hr24, hra, hrr, hvp⟩ := vfr_parts hv
    obtain ⟨c0, c1, c2, c3, c4, c5, c6, c7, c8, c9, c10⟩ := fr_facts HB1.out.1
    have HVF := Lib.hid (And.intro hv (And.intro hra (And.intro hvp (enc_small hvp))))
    clear hv hra hrr hvp
    go_wp2_with fail
    rw [← HV.out]
    refine (pencode_any P hP w1 HT1.out).mono ?_
    intro e w2 hE
    rcases hE with ⟨-, g, rfl, hB, hge, hg⟩ | ⟨hbad, _⟩
    · have HB3 := Lib.hid (And.intro (kept_row HB1.out.1 hg (by simp)) (grown_trans HB1.out.2 hg))
      have HR3 := Lib.hid (HR1.out.keep hg)
      have HE := Lib.hid hB
      clear hg HB1 HR1 HT1 hB c0 c1 c2 c3 c4 c5 c6 c7 c8 c9 c10
      obtain ⟨c0, c1, c2, c3, c4, c5, c6, c7, c8, c9, c10⟩ := fr_facts HB3.out.1
      clear c1 c2 c3 c4 c5 c6 c7 c8 c9 c10
      by_cases hr0 : r.length = 0
      · go_wp2_with fail
        have RB := rdb2 (x := 0) HE.out
        refine (sjoin_any [[0], enc P] (by2 (by decide) (pk_by _)) (by have := HVF.out.2.2.2; simp; omega) _ 2 2 rfl (by simp) _ _ RB).mono ?_
        clear RB
        rw [encF_nil hr0]
        rintro e w3 ⟨p2, c2, rfl, hO, hg3⟩
        have HF := Lib.hid (And.intro hO (grown_trans (two_grown _ _ _ _ _) hg3))
        clear hO hg3
        go_wp2_with fail
        go_ret2
        have G2 := grown_trans HB3.out.2 HF.out.2
        exact Or.inl ⟨HVF.out.1, p2, c2, rfl, HF.out.1.mono (Nat.le_trans HB3.out.2.size (by simp; omega)), G2⟩
      · go_wp2_with fail
        refine (slabs_any r HVF.out.2.1 p c hr24 q w2 HR3.out).mono ?_
        rintro e w3 ⟨g3, rfl, hrow, hge3, hg3⟩
        have hlen : (r.map lbR).length = r.length := List.length_map _
        have hL : RdL w3 (· = g3) (.slice (some ⟨g3, 0, none⟩) (r.map lbR).length r.length) (r.map lbR) := hrow.rd _ _
        have C := sencl_any (r.map lbR) _ _ _ w3 hL
        rw [hlen] at C
        have HB4 := Lib.hid (grown_trans HB3.out.2 hg3)
        have HE4 := Lib.hid (HE.out.keep hg3)
        obtain ⟨q1, q2⟩ := encL_route HVF.out.2.1 (by omega) hr24
        have HQ := Lib.hid (And.intro q1 q2)
        clear hrow hL hg3 hlen q1 q2 HR3 c0
        go_wp2_with fail
        refine C.mono ?_
        clear C
        rintro e w4 ⟨p2, c2, rfl, hO, hg4⟩
        rw [HQ.out.1, HQ.out.2]
        rw [HQ.out.2] at hO
        obtain ⟨D, hD⟩ : ∃ D, encL (r.map lbR) = D := ⟨_, rfl⟩
        rw [hD] at hO ⊢
        have HD := Lib.hid hD
        have HF := Lib.hid (And.intro hO (And.intro (grown_trans HB4.out hg4) (HE4.out.keep hg4)))
        clear hO hg4 HE4 HB4 hD
        go_wp2_with fail
        have RB := rdb3 (x := 1) (HF.out.1.rd.mono fun _ _ => trivial) HF.out.1.pc HF.out.2.2
        refine (sjoin_any [[1], D, enc P] (by3 (by decide) HF.out.1.by_ (pk_by _)) (by have := HVF.out.2.2.2; have hl := encL_len (r.map lbR); rw [HD.out, List.length_map] at hl; simp; omega) _ 3 3 rfl (by simp) _ _ RB).mono ?_
        clear RB
        rw [← HD.out, encF_some hr0]
        rintro e w5 ⟨p3, c3, rfl, hO, hg5⟩
        have HF2 := Lib.hid (And.intro hO (grown_trans (two_grown _ _ _ _ _) hg5))
        clear hO hg5
        go_wp2_with fail
        go_ret2
        exact Or.inl ⟨HVF.out.1, p3, c3, rfl, HF2.out.1.mono (Nat.le_trans HF.out.2.1.size (by simp; omega)), grown_trans HF.out.2.1 HF2.out.2⟩
    · rw [HVF.out.2.2.1] at hbad; cases hbad
end Go.Proofs.YtpombmpkccnefaaDoor

/- The reference's Ints and Same, and the statements' sameLabels, at equal lists. -/
namespace Go.Proofs.YtpombmpkccnefaaDoor
open Go.RowKit Bs
set_option maxRecDepth 100000 in
set_option maxHeartbeats 3200000 in
theorem rints_any (r : List Int) (p1 p2 : Option Addr) (c1 c2 : Nat) (q1 q2 : Nat → Prop) (w : World) (h1 : Rd w q1 (.slice p1 r.length c1) (r.map iv)) (h2 : Rd w q2 (.slice p2 r.length c2) (r.map iv)) (hm : r.length ≤ 9223372036854775807) :
    Calls Tryd.prog 82 #[.slice p1 r.length c1, .slice p2 r.length c2] w fun e w' => e = .returned (.bool true) ∧ w.grownBy w' none := by
  have H := Lib.hid (And.intro h1 h2)
  clear h1 h2
  go_enter Tryd.func82, Tryd.ntmps82
  go_wp2_with fail
  go_loopw [5] (fun a wr => ∃ k : Nat, k ≤ r.length ∧ a = .int .i64 (k : Int) ∧ w.grownBy wr none) (fun a _ => r.length - (intOf a).toNat)
  case atStart => exact ⟨0, Nat.zero_le _, rfl, grown_refl _ _⟩
  case round =>
    obtain ⟨k, hk, rfl, hG⟩ := hrel
    by_cases hlt : k < r.length
    · obtain ⟨b1, o1, rfl, _, hc1⟩ := rdi_cells (H.out.1.keep hG) (by omega)
      obtain ⟨b2, o2, rfl, _, hc2⟩ := rdi_cells (H.out.2.keep hG) (by omega)
      have e1 := hc1 k hlt
      have e2 := hc2 k hlt
      have HG := Lib.hid hG
      clear hc1 hc2 hG
      generalize r.getD k 0 = y at *
      go_wp2_with fail
      go_region
      have HG2 := Lib.hid (grown_drew HG.out)
      clear HG e1 e2
      change Exit.then _ _ _ _ wr.drew
      generalize wr.drew = w2 at *
      go_wp2_with fail
      exact ⟨⟨k + 1, by omega, congrArg _ (by omega), HG2.out⟩, by simp only [intOf]; omega⟩
    · obtain rfl : k = r.length := by omega
      have HG := Lib.hid hG
      clear hG
      go_wp2_with fail
      go_ret
      exact ⟨rfl, HG.out⟩
set_option maxRecDepth 100000 in
set_option maxHeartbeats 3200000 in
theorem rsl_any (ls : List Lab) (p1 p2 : Option Addr) (c1 c2 : Nat) (q1 q2 : Nat → Prop) (w : World) (h1 : RdL w q1 (.slice p1 ls.length c1) ls) (h2 : RdL w q2 (.slice p2 ls.length c2) ls) (hm : ls.length ≤ 9223372036854775807) :
    Calls Tryd.prog 30 #[.slice p1 ls.length c1, .slice p2 ls.length c2] w fun e w' => e = .returned (.bool true) ∧ w.grownBy w' none := by
  have H := Lib.hid (And.intro h1 h2)
  clear h1 h2
  go_enter Tryd.func30, Tryd.ntmps30
  go_wp2_with fail
  go_loopw [5] (fun a wr => ∃ k : Nat, k ≤ ls.length ∧ a = .int .i64 (k : Int) ∧ w.grownBy wr none) (fun a _ => ls.length - (intOf a).toNat)
  case atStart => exact ⟨0, Nat.zero_le _, rfl, grown_refl _ _⟩
  case round =>
    obtain ⟨k, hk, rfl, hG⟩ := hrel
    by_cases hlt : k < ls.length
    · obtain ⟨-, b1, o1, rfl, _, hc1⟩ := (H.out.1.keep hG).cells (by omega)
      obtain ⟨-, b2, o2, rfl, _, hc2⟩ := (H.out.2.keep hG).cells (by omega)
      obtain ⟨e1, e2, e3⟩ := hc1 k hlt
      obtain ⟨e4, e5, e6⟩ := hc2 k hlt
      have HG := Lib.hid hG
      clear hc1 hc2 hG
      generalize ls[k] = l at *
      go_wp2_with fail
      go_region
      have HG2 := Lib.hid (grown_drew HG.out)
      clear HG e1 e2 e3 e4 e5 e6
      change Exit.then _ _ _ _ wr.drew
      generalize wr.drew = w2 at *
      go_wp2_with fail
      exact ⟨⟨k + 1, by omega, congrArg _ (by omega), HG2.out⟩, by simp only [intOf]; omega⟩
    · obtain rfl : k = ls.length := by omega
      have HG := Lib.hid hG
      clear hG
      go_wp2_with fail
      go_ret
      exact ⟨rfl, HG.out⟩
/-- The cells of a frame, each by its kind. -/
def gcells (v : Value) (n0 n1 n2 n3 n4 n5 n6 n7 n8 : Int) (s9 : ByteArray) : Array Value := #[v, .int .i64 n0, .int .i64 n1, .int .i64 n2, .int .i64 n3, .int .i64 n4, .int .i64 n5, .int .i64 n6, .int .i64 n7, .int .u64 n8, .string s9]
set_option maxRecDepth 100000 in
theorem g_facts {w : World} {b : Nat} {v : Value} {n0 n1 n2 n3 n4 n5 n6 n7 n8 : Int} {s9 : ByteArray} (h : w.heap[b]? = some (.cells (gcells v n0 n1 n2 n3 n4 n5 n6 n7 n8 s9) 43 (0, 0))) :
    w.cell? ⟨b, 0, none⟩ = some v ∧ w.cell? ⟨b, 1, none⟩ = some (.int .i64 n0) ∧ w.cell? ⟨b, 2, none⟩ = some (.int .i64 n1) ∧ w.cell? ⟨b, 3, none⟩ = some (.int .i64 n2) ∧ w.cell? ⟨b, 4, none⟩ = some (.int .i64 n3) ∧ w.cell? ⟨b, 5, none⟩ = some (.int .i64 n4) ∧ w.cell? ⟨b, 6, none⟩ = some (.int .i64 n5) ∧ w.cell? ⟨b, 7, none⟩ = some (.int .i64 n6) ∧ w.cell? ⟨b, 8, none⟩ = some (.int .i64 n7) ∧ w.cell? ⟨b, 9, none⟩ = some (.int .u64 n8) ∧ w.cell? ⟨b, 10, none⟩ = some (.string s9) :=
  ⟨cell_of_row _ _ _ _ _ _ h, cell_of_row _ _ _ _ _ _ h, cell_of_row _ _ _ _ _ _ h, cell_of_row _ _ _ _ _ _ h, cell_of_row _ _ _ _ _ _ h, cell_of_row _ _ _ _ _ _ h, cell_of_row _ _ _ _ _ _ h, cell_of_row _ _ _ _ _ _ h, cell_of_row _ _ _ _ _ _ h, cell_of_row _ _ _ _ _ _ h, cell_of_row _ _ _ _ _ _ h⟩
set_option maxRecDepth 100000 in
set_option maxHeartbeats 3200000 in
theorem rsame_any (r : List Int) (n0 n1 n2 n3 n4 n5 n6 n7 n8 : Int) (s9 : ByteArray) (p1 p2 : Option Addr) (c1 c2 : Nat) (q1 q2 : Nat → Prop) (w : World) (h1 : Rd w q1 (.slice p1 r.length c1) (r.map iv)) (h2 : Rd w q2 (.slice p2 r.length c2) (r.map iv)) (hm : r.length ≤ 9223372036854775807) :
    Calls Tryd.prog 35 #[.agg #[.slice p1 r.length c1, .int .i64 n0, .int .i64 n1, .int .i64 n2, .int .i64 n3, .int .i64 n4, .int .i64 n5, .int .i64 n6, .int .i64 n7, .int .u64 n8, .string s9], .agg #[.slice p2 r.length c2, .int .i64 n0, .int .i64 n1, .int .i64 n2, .int .i64 n3, .int .i64 n4, .int .i64 n5, .int .i64 n6, .int .i64 n7, .int .u64 n8, .string s9]] w fun e w' => e = .returned (.bool true) ∧ w.grownBy w' none := by
  obtain ⟨k1, k2, k3, k4⟩ := two_boxes w (gcells (.slice p1 r.length c1) n0 n1 n2 n3 n4 n5 n6 n7 n8 s9) (gcells (.slice p2 r.length c2) n0 n1 n2 n3 n4 n5 n6 n7 n8 s9) 43 43
  obtain ⟨a0, a1, a2, a3, a4, a5, a6, a7, a8, a9, a10⟩ := g_facts k1
  obtain ⟨b0, b1, b2, b3, b4, b5, b6, b7, b8, b9, b10⟩ := g_facts k2
  have H := Lib.hid (And.intro (h1.keep k3) (h2.keep k3))
  have K := Lib.hid k3
  clear k1 k2 k3 k4 h1 h2
  unfold gcells at *
  go_enter Tryd.func35, Tryd.ntmps35
  go_upto_region 1 with fail
  generalize (w.alloc _).alloc _ = wa at *
  go_wp2_with (go_at_call 82; refine (rints_any r p1 p2 c1 c2 _ _ wa H.out.1 H.out.2 hm).mono ?_; rintro e w' ⟨rfl, hg⟩; have G := Lib.hid hg; clear hg)
  go_ret
  exact ⟨rfl, grown_trans K.out G.out⟩
end Go.Proofs.YtpombmpkccnefaaDoor

/- packet: the chapter's example. -/
namespace Go.Proofs.YtpombmpkccnefaaDoor
open Go.RowKit Bs
/-- The example's packet. -/
def exP : Pk := ⟨1, 0, 0, 8, 0, 0, 0, 0, 0, ⟨#[]⟩⟩
set_option maxRecDepth 100000 in
theorem ex_valid : vpk exP = true := by decide +kernel
set_option maxRecDepth 100000 in
theorem ex_enc : enc exP = [144, 0, 0, 0, 0, 0, 0, 109, 76, 0] := by decide +kernel
set_option maxRecDepth 100000 in
theorem ex_size : sizeV exP = 10 := by decide +kernel
set_option maxRecDepth 100000 in
theorem ex_wf : exP.Wf := ⟨by unfold I64; decide, by unfold I64; decide, by unfold I64; decide, by unfold I64; decide, by unfold I64; decide, by unfold I64; decide, by unfold I64; decide, by unfold I64; decide, by unfold U64; decide, by decide⟩
set_option maxRecDepth 100000 in
theorem ex_dec : decV [144, 0, 0, 0, 0, 0, 0, 109, 76, 0] = (#[.int .i64 1, .int .i64 0, .int .i64 0, .int .i64 8, .int .i64 0, .int .i64 0, .int .i64 0, .int .i64 0, .int .u64 0, .string ⟨#[]⟩], 0) := by kernel_rfl
set_option maxRecDepth 100000 in
set_option maxHeartbeats 3200000 in
theorem awake_any (w : World) (hT : Tb w) :
    Calls Tryd.prog 17 #[] w fun e w' => e = .returned (.bool true) ∧ w.grownBy w' none := by
  go_enter Tryd.func17, Tryd.ntmps17
  go_wp2_with fail
  obtain ⟨k1, k2⟩ := one_box w #[.int .i64 1, .int .i64 0, .int .i64 0, .int .i64 8, .int .i64 0, .int .i64 0, .int .i64 0, .int .i64 0, .int .u64 0, .string ⟨#[]⟩] 31
  have HP := Lib.hid (And.intro k1 k2)
  have HT := Lib.hid (hT.keep k2)
  clear k1 k2
  generalize w.alloc _ = wa at *
  refine (pencode_any exP ex_wf wa HT.out).mono ?_
  rintro e w2 (⟨_, g, rfl, hB, hge, hg⟩ | ⟨h, _⟩)
  · rw [ex_enc] at hB ⊢
    have HQ := Lib.hid (And.intro (kept_row HP.out.1 hg (by simp)) (grown_trans HP.out.2 hg))
    have HB := Lib.hid hB
    clear hB hge hg HP
    go_wp2_with fail
    refine (pdecode_any [144, 0, 0, 0, 0, 0, 0, 109, 76, 0] (by intro x hx; simp at hx; omega) (some ⟨g, 0, none⟩) 10 (Nat.le_refl _) (fun _ => True) w2 (HB.out.rd _ trivial _)).mono ?_
    rintro e w3 ⟨rfl, hg⟩
    rw [ex_dec]
    have hgb := World.grownBy_alloc w3 (.cells #[.int .i64 1, .int .i64 0, .int .i64 0, .int .i64 8, .int .i64 0, .int .i64 0, .int .i64 0, .int .i64 0, .int .u64 0, .string ⟨#[]⟩] 31) none
    have HQ3 := Lib.hid (And.intro (kept_row HQ.out.1 (grown_trans hg hgb) (by simp)) (grown_trans HQ.out.2 (grown_trans hg hgb)))
    have hB3 := (HB.out.keep hg).keep hgb
    have b0 : (w3.alloc (.cells #[.int .i64 1, .int .i64 0, .int .i64 0, .int .i64 8, .int .i64 0, .int .i64 0, .int .i64 0, .int .i64 0, .int .u64 0, .string ⟨#[]⟩] 31)).cell? ⟨g, 0, none⟩ = some (.int .u8 144) := hB3.cell (j := 0) (by decide)
    have a0 : (w3.alloc (.cells #[.int .i64 1, .int .i64 0, .int .i64 0, .int .i64 8, .int .i64 0, .int .i64 0, .int .i64 0, .int .i64 0, .int .u64 0, .string ⟨#[]⟩] 31)).cell? ⟨w.heap.size, 0, none⟩ = some (.int .i64 1) := cell_of_row _ _ _ _ _ _ HQ3.out.1
    have a1 : (w3.alloc (.cells #[.int .i64 1, .int .i64 0, .int .i64 0, .int .i64 8, .int .i64 0, .int .i64 0, .int .i64 0, .int .i64 0, .int .u64 0, .string ⟨#[]⟩] 31)).cell? ⟨w.heap.size, 1, none⟩ = some (.int .i64 0) := cell_of_row _ _ _ _ _ _ HQ3.out.1
    have a2 : (w3.alloc (.cells #[.int .i64 1, .int .i64 0, .int .i64 0, .int .i64 8, .int .i64 0, .int .i64 0, .int .i64 0, .int .i64 0, .int .u64 0, .string ⟨#[]⟩] 31)).cell? ⟨w.heap.size, 2, none⟩ = some (.int .i64 0) := cell_of_row _ _ _ _ _ _ HQ3.out.1
    have a3 : (w3.alloc (.cells #[.int .i64 1, .int .i64 0, .int .i64 0, .int .i64 8, .int .i64 0, .int .i64 0, .int .i64 0, .int .i64 0, .int .u64 0, .string ⟨#[]⟩] 31)).cell? ⟨w.heap.size, 3, none⟩ = some (.int .i64 8) := cell_of_row _ _ _ _ _ _ HQ3.out.1
    have a4 : (w3.alloc (.cells #[.int .i64 1, .int .i64 0, .int .i64 0, .int .i64 8, .int .i64 0, .int .i64 0, .int .i64 0, .int .i64 0, .int .u64 0, .string ⟨#[]⟩] 31)).cell? ⟨w.heap.size, 4, none⟩ = some (.int .i64 0) := cell_of_row _ _ _ _ _ _ HQ3.out.1
    have a5 : (w3.alloc (.cells #[.int .i64 1, .int .i64 0, .int .i64 0, .int .i64 8, .int .i64 0, .int .i64 0, .int .i64 0, .int .i64 0, .int .u64 0, .string ⟨#[]⟩] 31)).cell? ⟨w.heap.size, 5, none⟩ = some (.int .i64 0) := cell_of_row _ _ _ _ _ _ HQ3.out.1
    have a6 : (w3.alloc (.cells #[.int .i64 1, .int .i64 0, .int .i64 0, .int .i64 8, .int .i64 0, .int .i64 0, .int .i64 0, .int .i64 0, .int .u64 0, .string ⟨#[]⟩] 31)).cell? ⟨w.heap.size, 6, none⟩ = some (.int .i64 0) := cell_of_row _ _ _ _ _ _ HQ3.out.1
    have a7 : (w3.alloc (.cells #[.int .i64 1, .int .i64 0, .int .i64 0, .int .i64 8, .int .i64 0, .int .i64 0, .int .i64 0, .int .i64 0, .int .u64 0, .string ⟨#[]⟩] 31)).cell? ⟨w.heap.size, 7, none⟩ = some (.int .i64 0) := cell_of_row _ _ _ _ _ _ HQ3.out.1
    have a8 : (w3.alloc (.cells #[.int .i64 1, .int .i64 0, .int .i64 0, .int .i64 8, .int .i64 0, .int .i64 0, .int .i64 0, .int .i64 0, .int .u64 0, .string ⟨#[]⟩] 31)).cell? ⟨w.heap.size, 8, none⟩ = some (.int .u64 0) := cell_of_row _ _ _ _ _ _ HQ3.out.1
    have a9 : (w3.alloc (.cells #[.int .i64 1, .int .i64 0, .int .i64 0, .int .i64 8, .int .i64 0, .int .i64 0, .int .i64 0, .int .i64 0, .int .u64 0, .string ⟨#[]⟩] 31)).cell? ⟨w.heap.size, 9, none⟩ = some (.string ⟨#[]⟩) := cell_of_row _ _ _ _ _ _ HQ3.out.1
    clear hg hgb hB3 HQ HB
    go_wp2_with fail
    refine (psize_any exP ex_wf _).mono ?_
    rintro e w5 ⟨rfl, hg⟩
    rw [ex_size]
    have GE := Lib.hid (grown_trans HQ3.out.2 hg)
    clear hg b0 a0 a1 a2 a3 a4 a5 a6 a7 a8 a9
    go_wp2_with fail
    go_ret
    exact ⟨rfl, GE.out⟩
  · rw [ex_valid] at h; cases h
end Go.Proofs.YtpombmpkccnefaaDoor

/- stack: the chapter's example. -/
namespace Go.Proofs.YtpombmpkccnefaaDoor
open Go.RowKit Bs
def exLs : List Lab := [⟨17, 0, 255⟩, ⟨20, 0, 255⟩]
set_option maxRecDepth 100000 in
theorem exE : encE exLs = 0 := by decide
set_option maxRecDepth 100000 in
theorem exB : encB exLs = [0, 1, 16, 255, 0, 1, 65, 255] := by decide
set_option maxRecDepth 100000 in
theorem exF : encF [1, 4] exP = [1, 0, 1, 16, 255, 0, 1, 65, 255, 144, 0, 0, 0, 0, 0, 0, 109, 76, 0] := by
  unfold encF
  rw [if_neg (by decide), ex_enc]
  decide
set_option maxRecDepth 100000 in
theorem exVF : vfr [1, 4] exP = true := by
  unfold vfr
  rw [ex_valid]
  decide
set_option maxRecDepth 100000 in
theorem exDF : decF [1, 0, 1, 16, 255, 0, 1, 65, 255, 144, 0, 0, 0, 0, 0, 0, 109, 76, 0] = ([1, 4], pcells exP, 0) := by
  rw [← exF]
  exact dec_encF ex_wf exVF
set_option maxRecDepth 100000 in
theorem own_room {w : World} {base c : Nat} {p : Option Addr} {l : List Nat} (h : Own w base p c l) : l.length ≤ c ∧ c ≤ 9223372036854775807 := by
  rcases Nat.eq_zero_or_pos l.length with h0 | h0
  · rcases Joins.ownsRow_forms h.own with ⟨e, _⟩ | ⟨g, cap, e⟩
    · injection e with _ _ e3
      subst e3
      omega
    · injection e with e1 e2 e3
      subst e1
      subst e3
      exact own_cap h.own
  · obtain ⟨g, cap, e⟩ := Joins.ownsRow_form h.own h0
    injection e with e1 e2 e3
    subst e1
    subst e3
    exact own_cap h.own
set_option maxRecDepth 100000 in
theorem exBS : bs [0, 1, 16, 255, 0, 1, 65, 255] = ⟨#[0, 1, 16, 255, 0, 1, 65, 255]⟩ := by rfl
set_option maxRecDepth 100000 in
set_option maxHeartbeats 3200000 in
theorem sawake_any (w : World) (hT : Tb w) :
    Calls Tryd.prog 24 #[] w fun e w' => e = .returned (.bool true) ∧ w.grownBy w' none := by
  have HT := Lib.hid hT
  clear hT
  go_enter Tryd.func24, Tryd.ntmps24
  go_wp2_with fail
  obtain ⟨k1, k2⟩ := sone_box w #[.int .i64 17, .int .i64 0, .int .i64 255, .int .i64 20, .int .i64 0, .int .i64 255] 41
  have hrow : Row (w.alloc (.cells #[.int .i64 17, .int .i64 0, .int .i64 255, .int .i64 20, .int .i64 0, .int .i64 255] 41)) w.heap.size 41 (labsC exLs) := k1
  have C : Calls Tryd.prog 27 #[.slice (some ⟨w.heap.size, 0, none⟩) 2 2] (w.alloc (.cells #[.int .i64 17, .int .i64 0, .int .i64 255, .int .i64 20, .int .i64 0, .int .i64 255] 41)) fun e w' => ELPost exLs _ e w' :=
    sencl_any exLs _ 2 _ _ (hrow.rd 2 2)
  refine C.mono ?_
  clear C hrow k1
  rintro e w1 ⟨p1, c1, rfl, hO, hg⟩
  rw [exB] at hO ⊢
  rw [exE]
  have H1 := Lib.hid (And.intro hO (grown_trans k2 hg))
  have HT1 := Lib.hid (HT.out.keep (grown_trans k2 hg))
  clear hO hg k2
  go_wp2_with fail
  obtain ⟨k1, k2, k3, k4⟩ := two_boxes w1 #[.int .i64 1, .int .i64 4] #[.slice (some ⟨w1.heap.size, 0, none⟩) 2 2, .int .i64 1, .int .i64 0, .int .i64 0, .int .i64 8, .int .i64 0, .int .i64 0, .int .i64 0, .int .i64 0, .int .u64 0, .string ⟨#[]⟩] 3 43
  have G2 : Hid (w.grownBy ((w1.alloc (.cells #[.int .i64 1, .int .i64 4] 3)).alloc (.cells #[.slice (some ⟨w1.heap.size, 0, none⟩) 2 2, .int .i64 1, .int .i64 0, .int .i64 0, .int .i64 8, .int .i64 0, .int .i64 0, .int .i64 0, .int .i64 0, .int .u64 0, .string ⟨#[]⟩] 43)) none) := Lib.hid (grown_trans H1.out.2 k3)
  have HK := Lib.hid (And.intro k1 k2)
  have HT2 := Lib.hid (HT1.out.keep k3)
  have HO2 := Lib.hid (H1.out.1.keep k3)
  clear k1 k2 k3 k4 HT1 H1
  generalize (w1.alloc _).alloc _ = w2 at *
  have hrt : Row w2 w1.heap.size 3 (([1, 4] : List Int).map iv) := HK.out.1
  have hRd : Rd w2 (fun _ => True) (.slice (some ⟨w1.heap.size, 0, none⟩) 2 2) (([1, 4] : List Int).map iv) := ⟨_, 2, rfl, fun _ => ⟨w1.heap.size, 0, rfl, trivial, fun i x hi => by rw [Nat.zero_add]; exact hrt.cell hi⟩⟩
  have HRd := Lib.hid hRd
  have C : Calls Tryd.prog 32 #[.agg #[.slice (some ⟨w1.heap.size, 0, none⟩) 2 2, .int .i64 1, .int .i64 0, .int .i64 0, .int .i64 8, .int .i64 0, .int .i64 0, .int .i64 0, .int .i64 0, .int .u64 0, .string ⟨#[]⟩]] w2 fun e w' => EFPost [1, 4] exP w2 e w' :=
    sencf_any [1, 4] exP ex_wf (some ⟨w1.heap.size, 0, none⟩) 2 (by decide) (by omega) _ w2 HT2.out hRd
  clear hrt hRd
  refine C.mono ?_
  clear C
  intro e w3 hE
  rcases hE with ⟨-, p3, c3, rfl, hO3, hg3⟩ | ⟨hbad, _⟩
  case inr => rw [exVF] at hbad; cases hbad
  rw [exF] at hO3 ⊢
  have G3 := Lib.hid (grown_trans G2.out hg3)
  have HB3 := Lib.hid (kept_row HK.out.2 hg3 (by simp))
  have HO4 := Lib.hid (HO2.out.keep hg3)
  have HRd3 := Lib.hid (HRd.out.keep hg3)
  have HO3 := Lib.hid hO3
  clear hO3 hg3 HO2 HRd HK HT2 G2
  go_wp2_with fail
  have D : Calls Tryd.prog 34 #[.slice p3 19 c3] w3 fun e w' => DFPost [1, 0, 1, 16, 255, 0, 1, 65, 255, 144, 0, 0, 0, 0, 0, 0, 109, 76, 0] w3 e w' :=
    sdecf_any _ HO3.out.by_ p3 c3 (own_room HO3.out).1 (own_room HO3.out).2 _ w3 HO3.out.rd
  refine D.mono ?_
  clear D
  rintro e w4 ⟨p4, c4, rfl, hR4, hl4, hm4, hp4, hg4⟩
  rw [exDF] at hR4 hl4 ⊢
  simp only at hR4 hl4 ⊢
  have hag : #[Value.slice p4 ([1, 4] : List Int).length c4] ++ pcells exP = #[.slice p4 2 c4, .int .i64 1, .int .i64 0, .int .i64 0, .int .i64 8, .int .i64 0, .int .i64 0, .int .i64 0, .int .i64 0, .int .u64 0, .string ⟨#[]⟩] := rfl
  rw [hag]
  have G4 := Lib.hid (grown_trans G3.out hg4)
  have HB4 := Lib.hid (kept_row HB3.out hg4 (by simp))
  have HO5 := Lib.hid (HO4.out.keep hg4)
  have HRd4 := Lib.hid (HRd3.out.keep hg4)
  have HR4 := Lib.hid hR4
  clear hR4 hg4 HO4 HRd3 HB3 G3 hag HO3 hl4 hm4 hp4
  go_upto_region 5 with fail
  obtain ⟨k1, k2⟩ := sone_box w4 #[.slice p4 2 c4, .int .i64 1, .int .i64 0, .int .i64 0, .int .i64 8, .int .i64 0, .int .i64 0, .int .i64 0, .int .i64 0, .int .u64 0, .string ⟨#[]⟩] 43
  obtain ⟨a0, a1, a2, a3, a4, a5, a6, a7, a8, a9, a10⟩ := g_facts (n0 := 1) (n1 := 0) (n2 := 0) (n3 := 8) (n4 := 0) (n5 := 0) (n6 := 0) (n7 := 0) (n8 := 0) (s9 := ⟨#[]⟩) (kept_row HB4.out k2 (by simp))
  obtain ⟨b0, b1, b2, b3, b4, b5, b6, b7, b8, b9, b10⟩ := g_facts (n0 := 1) (n1 := 0) (n2 := 0) (n3 := 8) (n4 := 0) (n5 := 0) (n6 := 0) (n7 := 0) (n8 := 0) (s9 := ⟨#[]⟩) k1
  have hO := HO5.out.keep k2
  have E := conv_nv hO.by_ rfl hO.rd hO.pc
  rw [exBS] at E
  have G5 := Lib.hid (grown_trans G4.out k2)
  have HA := Lib.hid (HRd4.out.keep k2)
  have HB := Lib.hid (HR4.out.keep k2)
  clear k1 k2 hO HO5 HB4 HRd4 HR4 G4
  generalize w4.alloc _ = w5 at *
  have E2 : (convert 23 9 (.slice p1 8 c1)).run Tryd.prog w5 = .ok (.string ⟨#[0, 1, 16, 255, 0, 1, 65, 255]⟩) w5 := E
  clear E
  go_wp2_with (go_at_call 35; refine (rsame_any [1, 4] _ _ _ _ _ _ _ _ _ _ _ _ _ _ _ _ w5 HA.out HB.out (by decide)).mono ?_; rintro e w' ⟨rfl, hg⟩; have G := Lib.hid hg; clear hg)
  go_ret
  exact ⟨rfl, grown_trans G5.out G.out⟩
end Go.Proofs.YtpombmpkccnefaaDoor
