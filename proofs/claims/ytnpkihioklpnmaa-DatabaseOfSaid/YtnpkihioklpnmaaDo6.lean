/- Parts of the proof, packed: AdCf, AdLs, AdCpA, AdNew, AdOrd, AdOrd2, AdDecM, AdGrow, AdRdr, PkRest, AdDec, ToLook, AdOfC. -/
import Derived.Test.YtnpkihioklpnmaaDo5
import Derived.Laws.OwnMore
import Derived.Deep.RegionHeld3
import Derived.Deep.CutBlock
import Derived.Deep.CutRange
import Derived.Test.YtnpkihioklpnmaaDo4
import Derived.Lib.SliceRun
/- advert: slices.CompareFunc of links and of claims. -/
namespace Go.Proofs.Ytnpkihioklpnmaa
open Go.RowKit Bs
def cfL : List T3 → List T3 → Int
  | [], [] => 0
  | [], _ :: _ => -1
  | _ :: _, [] => 1
  | x :: s, y :: t => if cmp3 x y = 0 then cfL s t else cmp3 x y
set_option maxRecDepth 100000 in
theorem cfL_step {L M : List T3} {k : Nat} {x y : T3} (hx : L[k]? = some x) (hy : M[k]? = some y) : cfL (L.drop k) (M.drop k) = if cmp3 x y = 0 then cfL (L.drop (k + 1)) (M.drop (k + 1)) else cmp3 x y := by
  rw [drop_at hx, drop_at hy, cfL]
set_option maxRecDepth 100000 in
theorem cfL_more {L M : List T3} {k : Nat} {x : T3} (hx : L[k]? = some x) (hy : M.length ≤ k) : cfL (L.drop k) (M.drop k) = 1 := by
  rw [drop_at hx, List.drop_eq_nil_of_le hy, cfL]
set_option maxRecDepth 100000 in
theorem cfL_end {L M : List T3} : cfL (L.drop L.length) (M.drop L.length) = if L.length < M.length then -1 else 0 := by
  rw [List.drop_length]
  by_cases h : L.length < M.length
  · rw [if_pos h, drop_at (List.getElem?_eq_getElem h), cfL]
  · rw [if_neg h, List.drop_eq_nil_of_le (by omega), cfL]
set_option maxRecDepth 100000 in
set_option maxHeartbeats 6400000 in
theorem acfR_any (L M : List T3) (p p2 : Option Addr) (c c2 : Nat) (q q2 : Nat → Prop) (w : World) (hL : Rd3 w q (.slice p L.length c) L) (hM : Rd3 w q2 (.slice p2 M.length c2) M) (hm : L.length ≤ 9223372036854775807) (hm2 : M.length ≤ 9223372036854775807) :
    Calls Try.prog 131 #[.slice p L.length c, .slice p2 M.length c2, .func (.func 115) #[] #[]] w fun e w' => e = .returned (.int .i64 (cfL L M)) ∧ w.grownBy w' none := by
  have HR := Lib.hid hL
  have HR2 := Lib.hid hM
  clear hL hM
  obtain ⟨X, hX⟩ : ∃ X, cfL L M = X := ⟨_, rfl⟩
  rw [hX]
  have I0 : Hid (cfL (L.drop 0) (M.drop 0) = X) := Lib.hid hX
  have G0 : Hid (w.grownBy w none) := Lib.hid (grown_refl _ _)
  clear hX
  go_enter Try.func131, Try.ntmps131
  go_wp2_with fail
  go_loopw [13] (fun a wr => ∃ k : Nat, k ≤ L.length ∧ a = .int .i64 (k : Int) ∧ Hid (cfL (L.drop k) (M.drop k) = X) ∧ Hid (w.grownBy wr none)) (fun a _ => L.length - (RowKit.intOf a).toNat)
  case atStart => exact ⟨0, Nat.zero_le _, rfl, I0, G0⟩
  case round =>
    obtain ⟨w2, rfl⟩ : ∃ w2, w2 = wr := ⟨_, rfl⟩
    obtain ⟨k, hk, rfl, HI, HG⟩ := hrel
    clear I0 G0
    by_cases hlt : k < L.length
    · obtain ⟨-, b, off, rfl, -, hc⟩ := rd3_cells (HR.out.keep HG.out) (by omega)
      obtain ⟨x, hx⟩ : ∃ x, L[k]? = some x := ⟨_, List.getElem?_eq_getElem hlt⟩
      obtain ⟨a0, a1, a2⟩ := hc k x hx
      have HXK := Lib.hid hx
      have HBX := Lib.hid (heap_alloc_new w2 (.cells #[.int .i64 x.a, .int .i64 x.b, .int .i64 x.c] 73))
      have HGA := Lib.hid (World.grownBy_alloc w2 (.cells #[.int .i64 x.a, .int .i64 x.b, .int .i64 x.c] 73) none)
      clear hc hx
      go_upto_region 4 with fail
      clear a0 a1 a2
      generalize w2.alloc _ = w3 at *
      have HG3 := Lib.hid (grown_trans HG.out HGA.out)
      clear HG HGA
      by_cases hl2 : k < M.length
      · have hl2' : ¬ ((M.length : Int) ≤ (k : Int)) := by omega
        obtain ⟨-, b2, off2, rfl, -, hc⟩ := rd3_cells (HR2.out.keep HG3.out) (by omega)
        obtain ⟨y, hy⟩ : ∃ y, M[k]? = some y := ⟨_, List.getElem?_eq_getElem hl2⟩
        obtain ⟨a0, a1, a2⟩ := hc k y hy
        have HS := Lib.hid (HI.out.symm.trans (cfL_step HXK.out hy))
        have HBY := Lib.hid (heap_alloc_new w3 (.cells #[.int .i64 y.a, .int .i64 y.b, .int .i64 y.c] 73))
        have HGB := Lib.hid (World.grownBy_alloc w3 (.cells #[.int .i64 y.a, .int .i64 y.b, .int .i64 y.c] 73) none)
        clear hc hy HI HXK
        go_upto_region 7 with fail
        clear a0 a1 a2
        generalize w3.alloc _ = w4 at *
        have HG4 := Lib.hid (grown_trans HG3.out HGB.out)
        have HBX4 := Lib.hid (kept_row HBX.out HGB.out (by simp))
        clear HG3 HGB HBX
        obtain ⟨d0, d1, d2⟩ := row3 HBX4.out
        obtain ⟨e0, e1, e2⟩ := row3 HBY.out
        go_wp2_with fail
        refine (acmpR_any x y _).mono ?_
        rintro e w5 ⟨rfl, hg⟩
        have HG5 := Lib.hid (grown_trans HG4.out hg)
        clear hg HG4 d0 d1 d2 e0 e1 e2 HBX4 HBY
        obtain ⟨z, hz⟩ : ∃ z, cmp3 x y = z := ⟨_, rfl⟩
        rw [hz] at HS ⊢
        clear hz
        by_cases h0 : z = 0
        · subst h0
          have HI2 : Hid (cfL (L.drop (k + 1)) (M.drop (k + 1)) = X) := Lib.hid (by rw [HS.out, if_pos rfl])
          clear HS
          go_wp2_with fail
          exact ⟨⟨k + 1, by omega, congrArg _ (by omega), HI2, HG5⟩, by simp only [RowKit.intOf]; omega⟩
        · have hX : X = z := by rw [HS.out, if_neg h0]
          have h0' : (z == 0) = false := by simpa using h0
          subst hX
          clear h0 HS
          go_wp2_with fail
          go_ret
          exact ⟨rfl, HG5.out⟩
      · have hl2' : (M.length : Int) ≤ (k : Int) := by omega
        have hX : X = 1 := by rw [← HI.out, cfL_more HXK.out (by omega)]
        subst hX
        go_wp2_with fail
        go_ret
        exact ⟨rfl, HG3.out⟩
    · obtain rfl : k = L.length := by omega
      have HE := Lib.hid (HI.out.symm.trans cfL_end)
      by_cases h : L.length < M.length
      · have h' : (L.length : Int) < (M.length : Int) := by omega
        have hX : X = -1 := by rw [HE.out, if_pos h]
        subst hX
        go_wp2_with fail
        go_ret
        exact ⟨rfl, HG.out⟩
      · have h' : ¬ (L.length : Int) < (M.length : Int) := by omega
        have hX : X = 0 := by rw [HE.out, if_neg h]
        subst hX
        go_wp2_with fail
        go_ret
        exact ⟨rfl, HG.out⟩
set_option maxRecDepth 100000 in
set_option maxHeartbeats 6400000 in
theorem acfC_any (L M : List T3) (p p2 : Option Addr) (c c2 : Nat) (q q2 : Nat → Prop) (w : World) (hL : Rd3 w q (.slice p L.length c) L) (hM : Rd3 w q2 (.slice p2 M.length c2) M) (hm : L.length ≤ 9223372036854775807) (hm2 : M.length ≤ 9223372036854775807) :
    Calls Try.prog 132 #[.slice p L.length c, .slice p2 M.length c2, .func (.func 117) #[] #[]] w fun e w' => e = .returned (.int .i64 (cfL L M)) ∧ w.grownBy w' none := by
  have HR := Lib.hid hL
  have HR2 := Lib.hid hM
  clear hL hM
  obtain ⟨X, hX⟩ : ∃ X, cfL L M = X := ⟨_, rfl⟩
  rw [hX]
  have I0 : Hid (cfL (L.drop 0) (M.drop 0) = X) := Lib.hid hX
  have G0 : Hid (w.grownBy w none) := Lib.hid (grown_refl _ _)
  clear hX
  go_enter Try.func132, Try.ntmps132
  go_wp2_with fail
  go_loopw [13] (fun a wr => ∃ k : Nat, k ≤ L.length ∧ a = .int .i64 (k : Int) ∧ Hid (cfL (L.drop k) (M.drop k) = X) ∧ Hid (w.grownBy wr none)) (fun a _ => L.length - (RowKit.intOf a).toNat)
  case atStart => exact ⟨0, Nat.zero_le _, rfl, I0, G0⟩
  case round =>
    obtain ⟨w2, rfl⟩ : ∃ w2, w2 = wr := ⟨_, rfl⟩
    obtain ⟨k, hk, rfl, HI, HG⟩ := hrel
    clear I0 G0
    by_cases hlt : k < L.length
    · obtain ⟨-, b, off, rfl, -, hc⟩ := rd3_cells (HR.out.keep HG.out) (by omega)
      obtain ⟨x, hx⟩ : ∃ x, L[k]? = some x := ⟨_, List.getElem?_eq_getElem hlt⟩
      obtain ⟨a0, a1, a2⟩ := hc k x hx
      have HXK := Lib.hid hx
      have HBX := Lib.hid (heap_alloc_new w2 (.cells #[.int .i64 x.a, .int .i64 x.b, .int .i64 x.c] 62))
      have HGA := Lib.hid (World.grownBy_alloc w2 (.cells #[.int .i64 x.a, .int .i64 x.b, .int .i64 x.c] 62) none)
      clear hc hx
      go_upto_region 4 with fail
      clear a0 a1 a2
      generalize w2.alloc _ = w3 at *
      have HG3 := Lib.hid (grown_trans HG.out HGA.out)
      clear HG HGA
      by_cases hl2 : k < M.length
      · have hl2' : ¬ ((M.length : Int) ≤ (k : Int)) := by omega
        obtain ⟨-, b2, off2, rfl, -, hc⟩ := rd3_cells (HR2.out.keep HG3.out) (by omega)
        obtain ⟨y, hy⟩ : ∃ y, M[k]? = some y := ⟨_, List.getElem?_eq_getElem hl2⟩
        obtain ⟨a0, a1, a2⟩ := hc k y hy
        have HS := Lib.hid (HI.out.symm.trans (cfL_step HXK.out hy))
        have HBY := Lib.hid (heap_alloc_new w3 (.cells #[.int .i64 y.a, .int .i64 y.b, .int .i64 y.c] 62))
        have HGB := Lib.hid (World.grownBy_alloc w3 (.cells #[.int .i64 y.a, .int .i64 y.b, .int .i64 y.c] 62) none)
        clear hc hy HI HXK
        go_upto_region 7 with fail
        clear a0 a1 a2
        generalize w3.alloc _ = w4 at *
        have HG4 := Lib.hid (grown_trans HG3.out HGB.out)
        have HBX4 := Lib.hid (kept_row HBX.out HGB.out (by simp))
        clear HG3 HGB HBX
        obtain ⟨d0, d1, d2⟩ := row3 HBX4.out
        obtain ⟨e0, e1, e2⟩ := row3 HBY.out
        go_wp2_with fail
        refine (acmpC_any x y _).mono ?_
        rintro e w5 ⟨rfl, hg⟩
        have HG5 := Lib.hid (grown_trans HG4.out hg)
        clear hg HG4 d0 d1 d2 e0 e1 e2 HBX4 HBY
        obtain ⟨z, hz⟩ : ∃ z, cmp3 x y = z := ⟨_, rfl⟩
        rw [hz] at HS ⊢
        clear hz
        by_cases h0 : z = 0
        · subst h0
          have HI2 : Hid (cfL (L.drop (k + 1)) (M.drop (k + 1)) = X) := Lib.hid (by rw [HS.out, if_pos rfl])
          clear HS
          go_wp2_with fail
          exact ⟨⟨k + 1, by omega, congrArg _ (by omega), HI2, HG5⟩, by simp only [RowKit.intOf]; omega⟩
        · have hX : X = z := by rw [HS.out, if_neg h0]
          have h0' : (z == 0) = false := by simpa using h0
          subst hX
          clear h0 HS
          go_wp2_with fail
          go_ret
          exact ⟨rfl, HG5.out⟩
      · have hl2' : (M.length : Int) ≤ (k : Int) := by omega
        have hX : X = 1 := by rw [← HI.out, cfL_more HXK.out (by omega)]
        subst hX
        go_wp2_with fail
        go_ret
        exact ⟨rfl, HG3.out⟩
    · obtain rfl : k = L.length := by omega
      have HE := Lib.hid (HI.out.symm.trans cfL_end)
      by_cases h : L.length < M.length
      · have h' : (L.length : Int) < (M.length : Int) := by omega
        have hX : X = -1 := by rw [HE.out, if_pos h]
        subst hX
        go_wp2_with fail
        go_ret
        exact ⟨rfl, HG.out⟩
      · have h' : ¬ (L.length : Int) < (M.length : Int) := by omega
        have hX : X = 0 := by rw [HE.out, if_neg h]
        subst hX
        go_wp2_with fail
        go_ret
        exact ⟨rfl, HG.out⟩
end Go.Proofs.Ytnpkihioklpnmaa

/- advert: compareLists, compare. -/
namespace Go.Proofs.Ytnpkihioklpnmaa
open Go.RowKit Bs
def cLs (L M : List T3) : Int := orV [cmpV (L.length : Int) (M.length : Int), cfL L M]
set_option maxRecDepth 100000 in
set_option maxHeartbeats 3200000 in
theorem aclR_any (L M : List T3) (p p2 : Option Addr) (c c2 : Nat) (q q2 : Nat → Prop) (w : World) (hL : Rd3 w q (.slice p L.length c) L) (hM : Rd3 w q2 (.slice p2 M.length c2) M) (hm : L.length ≤ 9223372036854775807) (hm2 : M.length ≤ 9223372036854775807) :
    Calls Try.prog 114 #[.slice p L.length c, .slice p2 M.length c2, .func (.func 115) #[] #[]] w fun e w' => e = .returned (.int .i64 (cLs L M)) ∧ w.grownBy w' none := by
  have HR := Lib.hid (And.intro hL hM)
  clear hL hM
  go_enter Try.func114, Try.ntmps114
  go_wp2_with fail
  refine (tcmp_any _ _ _).mono ?_
  rintro e w' ⟨rfl, rfl⟩
  go_wp2_with fail
  refine (acfR_any L M p p2 c c2 q q2 _ HR.out.1 HR.out.2 hm hm2).mono ?_
  rintro e w1 ⟨rfl, hg⟩
  have HG := Lib.hid hg
  clear hg HR
  go_wp2_with fail
  refine (tor_any [cmpV (L.length : Int) (M.length : Int), cfL L M] _ _ (fun _ => True) _ (rd_pair _ _ _ _ trivial) (by simp)).mono ?_
  rintro e w' ⟨rfl, rfl⟩
  go_wp2_with fail
  go_ret
  exact ⟨rfl, grown_trans HG.out (World.grownBy_alloc _ _ _)⟩
set_option maxRecDepth 100000 in
set_option maxHeartbeats 3200000 in
theorem aclC_any (L M : List T3) (p p2 : Option Addr) (c c2 : Nat) (q q2 : Nat → Prop) (w : World) (hL : Rd3 w q (.slice p L.length c) L) (hM : Rd3 w q2 (.slice p2 M.length c2) M) (hm : L.length ≤ 9223372036854775807) (hm2 : M.length ≤ 9223372036854775807) :
    Calls Try.prog 116 #[.slice p L.length c, .slice p2 M.length c2, .func (.func 117) #[] #[]] w fun e w' => e = .returned (.int .i64 (cLs L M)) ∧ w.grownBy w' none := by
  have HR := Lib.hid (And.intro hL hM)
  clear hL hM
  go_enter Try.func116, Try.ntmps116
  go_wp2_with fail
  refine (tcmp_any _ _ _).mono ?_
  rintro e w' ⟨rfl, rfl⟩
  go_wp2_with fail
  refine (acfC_any L M p p2 c c2 q q2 _ HR.out.1 HR.out.2 hm hm2).mono ?_
  rintro e w1 ⟨rfl, hg⟩
  have HG := Lib.hid hg
  clear hg HR
  go_wp2_with fail
  refine (tor_any [cmpV (L.length : Int) (M.length : Int), cfL L M] _ _ (fun _ => True) _ (rd_pair _ _ _ _ trivial) (by simp)).mono ?_
  rintro e w' ⟨rfl, rfl⟩
  go_wp2_with fail
  go_ret
  exact ⟨rfl, grown_trans HG.out (World.grownBy_alloc _ _ _)⟩
end Go.Proofs.Ytnpkihioklpnmaa

/- advert: compare. -/
namespace Go.Proofs.Ytnpkihioklpnmaa
open Go.RowKit Bs
/-- The order of adverts. -/
def cmpA (A B : Ad) : Int := orV [cmpV A.r B.r, cmpV A.q B.q, cmpV ((A.cp.toNat : Nat) : Int) ((B.cp.toNat : Nat) : Int), cLs A.L B.L, cLs A.C B.C]
set_option maxRecDepth 100000 in
theorem keepTA {w5 w' : World} {b g : Nat} {A B : Ad} (h : w5.heap[b]? = some (.cells (adC A) 38 (0, 0)) ∧ w5.heap[g]? = some (.cells (adC B) 38 (0, 0))) (hg : Hid (w5.grownBy w' none)) :
    w'.cell? ⟨b, 0, none⟩ = some (.int .i64 A.r) ∧ w'.cell? ⟨b, 1, none⟩ = some (.int .i64 A.q) ∧ w'.cell? ⟨b, 2, none⟩ = some (.bool A.cp) ∧ w'.cell? ⟨b, 3, none⟩ = some (.slice A.pL A.L.length A.cL) ∧ w'.cell? ⟨b, 4, none⟩ = some (.slice A.pC A.C.length A.cC) ∧
    w'.cell? ⟨g, 0, none⟩ = some (.int .i64 B.r) ∧ w'.cell? ⟨g, 1, none⟩ = some (.int .i64 B.q) ∧ w'.cell? ⟨g, 2, none⟩ = some (.bool B.cp) ∧ w'.cell? ⟨g, 3, none⟩ = some (.slice B.pL B.L.length B.cL) ∧ w'.cell? ⟨g, 4, none⟩ = some (.slice B.pC B.C.length B.cC) ∧ Hid (w5.grownBy w' none) := by
  obtain ⟨a0, a1, a2, a3, a4⟩ := ad_facts (kept_row h.1 hg.out (by simp))
  obtain ⟨b0, b1, b2, b3, b4⟩ := ad_facts (kept_row h.2 hg.out (by simp))
  exact ⟨a0, a1, a2, a3, a4, b0, b1, b2, b3, b4, hg⟩
set_option maxRecDepth 100000 in
theorem rd_five (w : World) (x y z u v : Int) (q : Nat → Prop) (hq : q w.heap.size) : Rd (w.alloc (.cells #[.int .i64 x, .int .i64 y, .int .i64 z, .int .i64 u, .int .i64 v] 3)) q (.slice (some ⟨w.heap.size, 0, none⟩) 5 5) ([x, y, z, u, v].map (fun z => Value.int .i64 z)) := by
  have hb : (w.alloc (.cells #[.int .i64 x, .int .i64 y, .int .i64 z, .int .i64 u, .int .i64 v] 3)).heap[w.heap.size]? = some (.cells #[.int .i64 x, .int .i64 y, .int .i64 z, .int .i64 u, .int .i64 v] 3 (0, 0)) := heap_alloc_new w _
  refine ⟨_, 5, rfl, fun _ => ⟨_, _, rfl, hq, fun i u hi => ?_⟩⟩
  rw [Nat.zero_add, cell_of_row _ _ _ _ _ _ hb]
  simpa using hi
structure TwoA (w : World) (A B : Ad) (q q2 : Nat → Prop) : Prop where
  a : AdOk w q A
  b : AdOk w q2 B
set_option maxRecDepth 100000 in
theorem aclR_at {w0 w : World} {A B : Ad} {q q2 : Nat → Prop} (h : Hid (w0.grownBy w none)) (H : Hid (TwoA w0 A B q q2)) :
    Calls Try.prog 114 #[.slice A.pL A.L.length A.cL, .slice B.pL B.L.length B.cL, .func (.func 115) #[] #[]] w fun e w' => e = .returned (.int .i64 (cLs A.L B.L)) ∧ w.grownBy w' none :=
  aclR_any A.L B.L _ _ _ _ _ _ w (H.out.a.keep h.out).l (H.out.b.keep h.out).l (Nat.le_trans H.out.a.hl.1 H.out.a.hl.2) (Nat.le_trans H.out.b.hl.1 H.out.b.hl.2)
set_option maxRecDepth 100000 in
theorem aclC_at {w0 w : World} {A B : Ad} {q q2 : Nat → Prop} (h : Hid (w0.grownBy w none)) (H : Hid (TwoA w0 A B q q2)) :
    Calls Try.prog 116 #[.slice A.pC A.C.length A.cC, .slice B.pC B.C.length B.cC, .func (.func 117) #[] #[]] w fun e w' => e = .returned (.int .i64 (cLs A.C B.C)) ∧ w.grownBy w' none :=
  aclC_any A.C B.C _ _ _ _ _ _ w (H.out.a.keep h.out).c (H.out.b.keep h.out).c (Nat.le_trans H.out.a.hc.1 H.out.a.hc.2) (Nat.le_trans H.out.b.hc.1 H.out.b.hc.2)
set_option maxRecDepth 100000 in
theorem two_ads (w : World) (A B : Ad) : (((w.alloc (.cells (adC A) 38)).alloc (.cells (adC B) 38)).heap[w.heap.size]? = some (.cells (adC A) 38 (0, 0)) ∧ ((w.alloc (.cells (adC A) 38)).alloc (.cells (adC B) 38)).heap[w.heap.size + 1]? = some (.cells (adC B) 38 (0, 0))) ∧ w.grownBy ((w.alloc (.cells (adC A) 38)).alloc (.cells (adC B) 38)) none := by
  have g1 := World.grownBy_alloc w (.cells (adC A) 38) none
  have g2 := World.grownBy_alloc (w.alloc (.cells (adC A) 38)) (.cells (adC B) 38) none
  have b1 := kept_row (heap_alloc_new w (.cells (adC A) 38)) g2 (by simp)
  have b2 := heap_alloc_new (w.alloc (.cells (adC A) 38)) (.cells (adC B) 38)
  have s1 : (w.alloc (.cells (adC A) 38)).heap.size = w.heap.size + 1 := by simp
  rw [s1] at b2
  exact ⟨⟨b1, b2⟩, grown_trans g1 g2⟩
set_option maxRecDepth 100000 in
set_option maxHeartbeats 6400000 in
theorem acmpA_any (A B : Ad) (q q2 : Nat → Prop) (w : World) (hA : AdOk w q A) (hB : AdOk w q2 B) :
    Calls Try.prog 84 #[A.val, B.val] w fun e w' => e = .returned (.int .i64 (cmpA A B)) ∧ w.grownBy w' none := by
  have HZ := Lib.hid (two_ads w A B)
  have HOK : Hid (TwoA _ A B q q2) := Lib.hid ⟨hA.keep HZ.out.2, hB.keep HZ.out.2⟩
  have HB := Lib.hid HZ.out.1
  have K := Lib.hid HZ.out.2
  clear HZ hA hB
  unfold Ad.val
  go_enter Try.func84, Try.ntmps84
  go_upto_region 1 with fail
  unfold adC at HB K HOK
  generalize (w.alloc _).alloc _ = wa at *
  have HB : Hid (wa.heap[w.heap.size]? = some (.cells (adC A) 38 (0, 0)) ∧ wa.heap[w.heap.size + 1]? = some (.cells (adC B) 38 (0, 0))) := HB
  have GZ : Hid (wa.grownBy wa none) := Lib.hid (grown_refl _ _)
  obtain ⟨a0, a1, a2, a3, a4, b0, b1, b2, b3, b4, -⟩ := keepTA HB.out GZ
  go_region_held3 (fun w' => w'.cell? ⟨w.heap.size, 0, none⟩ = some (.int .i64 A.r) ∧ w'.cell? ⟨w.heap.size, 1, none⟩ = some (.int .i64 A.q) ∧ w'.cell? ⟨w.heap.size, 2, none⟩ = some (.bool A.cp) ∧ w'.cell? ⟨w.heap.size, 3, none⟩ = some (.slice A.pL A.L.length A.cL) ∧ w'.cell? ⟨w.heap.size, 4, none⟩ = some (.slice A.pC A.C.length A.cC) ∧ w'.cell? ⟨w.heap.size + 1, 0, none⟩ = some (.int .i64 B.r) ∧ w'.cell? ⟨w.heap.size + 1, 1, none⟩ = some (.int .i64 B.q) ∧ w'.cell? ⟨w.heap.size + 1, 2, none⟩ = some (.bool B.cp) ∧ w'.cell? ⟨w.heap.size + 1, 3, none⟩ = some (.slice B.pL B.L.length B.cL) ∧ w'.cell? ⟨w.heap.size + 1, 4, none⟩ = some (.slice B.pC B.C.length B.cC) ∧ Hid (wa.grownBy w' none))
    (first | with_reducible exact keepTA HB.out (hid_drew GZ) | with_reducible exact keepTA HB.out (hid_drew (hid_more GZ (World.grownBy_alloc _ _ _))) | (go_split_ands; with_reducible refine keepTA HB.out ?_; with_reducible assumption) | (go_split_ands; with_reducible refine keepTA HB.out (hid_more ?_ hap); with_reducible assumption) | (go_split_ands; with_reducible refine keepTA HB.out (hid_more ?_ (World.grownBy_alloc _ _ _)); with_reducible assumption))
    (first
      | (go_at_call 112; refine (tcmp_any _ _ _).mono ?_; rintro e w' ⟨rfl, rfl⟩)
      | (go_at_call 113; refine (abit_any _ _).mono ?_; rintro e w' ⟨rfl, rfl⟩)
      | (go_at_call 114; go_split_ands; refine (aclR_at (w0 := wa) ?_ HOK).mono ?_; assumption; rintro e wb ⟨rfl, hap⟩)
      | (go_at_call 116; go_split_ands; refine (aclC_at (w0 := wa) ?_ HOK).mono ?_; assumption; rintro e wc ⟨rfl, hap⟩)
      | (go_at_call 111; refine (tor_any [cmpV A.r B.r, cmpV A.q B.q, cmpV ((A.cp.toNat : Nat) : Int) ((B.cp.toNat : Nat) : Int), cLs A.L B.L, cLs A.C B.C] _ _ (fun _ => True) _ ?_ (by simp)).mono ?_; (first | exact rd_five _ _ _ _ _ _ _ trivial | exact (rd_five _ _ _ _ _ _ _ trivial).keep (grown_drew (grown_refl _ _))); rintro e w' ⟨rfl, rfl⟩))
  all_goals
    go_split_ands
    go_wp2_with fail
    go_ret
    exact ⟨rfl, grown_trans K.out (Hid.out (by assumption))⟩
end Go.Proofs.Ytnpkihioklpnmaa

/- advert: Same, Newer. -/
namespace Go.Proofs.Ytnpkihioklpnmaa
open Go.RowKit Bs
/-- Newer. -/
def nwA (A B : Ad) : Bool := vAd A && (vAd B && (decide (A.r = B.r) && decide (0 < cmpA A B)))
set_option maxRecDepth 100000 in
theorem TwoA.keep {w w' : World} {A B : Ad} {q q2 : Nat → Prop} (h : TwoA w A B q q2) (g : w.grownBy w' none) : TwoA w' A B q q2 := ⟨h.a.keep g, h.b.keep g⟩
set_option maxRecDepth 100000 in
set_option maxHeartbeats 6400000 in
theorem anewer_any (A B : Ad) (q q2 : Nat → Prop) (w : World) (hA : AdOk w q A) (hB : AdOk w q2 B) :
    Calls Try.prog 90 #[A.val, B.val] w fun e w' => e = .returned (.bool (nwA A B)) ∧ w.grownBy w' none := by
  have HZ := Lib.hid (two_ads w A B)
  have HOK : Hid (TwoA _ A B q q2) := Lib.hid ⟨hA.keep HZ.out.2, hB.keep HZ.out.2⟩
  have HB := Lib.hid HZ.out.1
  have K := Lib.hid HZ.out.2
  clear HZ hA hB
  obtain ⟨X, hX⟩ : ∃ X, nwA A B = X := ⟨_, rfl⟩
  rw [hX]
  have HX := Lib.hid hX
  clear hX
  unfold Ad.val
  go_enter Try.func90, Try.ntmps90
  go_upto_region 1 with fail
  unfold adC at HB K HOK
  generalize (w.alloc _).alloc _ = wa at *
  have HB : Hid (wa.heap[w.heap.size]? = some (.cells (adC A) 38 (0, 0)) ∧ wa.heap[w.heap.size + 1]? = some (.cells (adC B) 38 (0, 0))) := HB
  have GZ : Hid (wa.grownBy wa none) := Lib.hid (grown_refl _ _)
  obtain ⟨a0, a1, a2, a3, a4, b0, b1, b2, b3, b4, -⟩ := keepTA HB.out GZ
  go_wp2_with fail
  refine (avalid_any A q _ HOK.out.a).mono ?_
  rintro e w1 ⟨rfl, hg⟩
  have G1 := Lib.hid hg
  clear hg a0 a1 a2 a3 a4 b0 b1 b2 b3 b4
  obtain ⟨a0, a1, a2, a3, a4, b0, b1, b2, b3, b4, -⟩ := keepTA HB.out G1
  obtain ⟨v1, hv1⟩ : ∃ v, vAd A = v := ⟨_, rfl⟩
  have HV1 := Lib.hid hv1
  rw [hv1]
  clear hv1
  cases v1 with
  | false =>
    obtain rfl : X = false := by rw [← HX.out]; unfold nwA; rw [HV1.out]; rfl
    go_wp2_with fail
    go_ret
    exact ⟨rfl, grown_trans K.out G1.out⟩
  | true =>
    go_wp2_with fail
    refine (avalid_any B q2 _ (HOK.out.b.keep G1.out)).mono ?_
    rintro e w2 ⟨rfl, hg⟩
    have G2 := Lib.hid (grown_trans G1.out hg)
    clear hg a0 a1 a2 a3 a4 b0 b1 b2 b3 b4
    obtain ⟨a0, a1, a2, a3, a4, b0, b1, b2, b3, b4, -⟩ := keepTA HB.out G2
    obtain ⟨v2, hv2⟩ : ∃ v, vAd B = v := ⟨_, rfl⟩
    have HV2 := Lib.hid hv2
    rw [hv2]
    clear hv2
    cases v2 with
    | false =>
      obtain rfl : X = false := by rw [← HX.out]; unfold nwA; rw [HV1.out, HV2.out]; rfl
      go_wp2_with fail
      go_ret
      exact ⟨rfl, grown_trans K.out G2.out⟩
    | true =>
      by_cases h : A.r = B.r
      · have h' : (A.r == B.r) = true := by simpa using h
        have HH := Lib.hid h
        clear h
        go_wp2_with fail
        refine (acmpA_any A B q q2 _ (HOK.out.a.keep G2.out) (HOK.out.b.keep G2.out)).mono ?_
        rintro e w3 ⟨rfl, hg⟩
        have G3 := Lib.hid (grown_trans G2.out hg)
        obtain ⟨z, hz⟩ : ∃ z, cmpA A B = z := ⟨_, rfl⟩
        have HZ := Lib.hid hz
        rw [hz]
        clear hz hg a0 a1 a2 a3 a4 b0 b1 b2 b3 b4
        obtain rfl : X = decide (0 < z) := by rw [← HX.out]; unfold nwA; rw [HV1.out, HV2.out, HZ.out, decide_eq_true HH.out]; rfl
        go_wp2_with fail
        go_ret
        exact ⟨rfl, grown_trans K.out G3.out⟩
      · have h' : (A.r == B.r) = false := by simpa using h
        obtain rfl : X = false := by rw [← HX.out]; unfold nwA; rw [HV1.out, HV2.out, decide_eq_false h]; rfl
        clear h
        go_wp2_with fail
        go_ret
        exact ⟨rfl, grown_trans K.out G2.out⟩
end Go.Proofs.Ytnpkihioklpnmaa

/- advert: the order is total. -/
namespace Go.Proofs.Ytnpkihioklpnmaa
open Go.RowKit Bs
end Go.Proofs.Ytnpkihioklpnmaa

/- advert: equal adverts, newer adverts. -/
namespace Go.Proofs.Ytnpkihioklpnmaa
open Go.RowKit Bs
/-- Two adverts are equal. -/
def smA (A B : Ad) : Prop := A.r = B.r ∧ A.q = B.q ∧ A.cp = B.cp ∧ A.L = B.L ∧ A.C = B.C
end Go.Proofs.Ytnpkihioklpnmaa

/- advert: what bytes say; Decode undoes Encode, the mathematics. -/
namespace Go.Proofs.Ytnpkihioklpnmaa
open Go.RowKit Bs
end Go.Proofs.Ytnpkihioklpnmaa

/- advert: an advert while its lists grow; the reader while fields are taken. -/
namespace Go.Proofs.Ytnpkihioklpnmaa
open Go.RowKit Bs
section
variable {W w w1 : World} {Z B : Nat} {r q : Int} {cp : Bool} {uL uC vL vC v' : Value} {L C : List T3}
end
section
variable {W w w1 : World} {S : Nat} {l : List Nat} {p : Option Addr} {c pos : Nat}
end
end Go.Proofs.Ytnpkihioklpnmaa

/- advert: the reader's advert: the fields that the bytes say. -/
namespace Go.Proofs.Ytnpkihioklpnmaa
open Go.RowKit Bs
set_option maxRecDepth 100000 in
theorem adv_size : (Try.prog.info? 38).map (·.size) = some 5 := by kernel_rfl
set_option maxRecDepth 100000 in
theorem res_adv {fn : Func} {p : Tmp} (h : fn.results = #[.cell p 38]) (tmps : Array Value) (w : World) (g : Nat) (x y z u v : Value) (hp : tmps.getD p undef = .pointer (some ⟨g, 0, none⟩)) (hg : w.heap[g]? = some (.cells #[x, y, z, u, v] 38 (0, 0))) :
    (results fn tmps).run Try.prog w = .ok (.agg #[x, y, z, u, v]) w :=
  results_cell_row h tmps w g _ _ _ _ hp hg Try.underlying38 rfl adv_size
set_option maxRecDepth 100000 in
theorem row5 {w : World} {b : Nat} {t : TypeId} {x0 x1 x2 x3 x4 : Value} (h : w.heap[b]? = some (.cells #[x0, x1, x2, x3, x4] t (0, 0))) :
    w.cell? ⟨b, 0, none⟩ = some x0 ∧ w.cell? ⟨b, 1, none⟩ = some x1 ∧ w.cell? ⟨b, 2, none⟩ = some x2 ∧ w.cell? ⟨b, 3, none⟩ = some x3 ∧ w.cell? ⟨b, 4, none⟩ = some x4 := by
  refine ⟨?_, ?_, ?_, ?_, ?_⟩ <;> (rw [cell_of_row _ _ _ _ _ _ h]; rfl)
set_option maxRecDepth 100000 in
theorem store5 {w : World} {b : Nat} {t : TypeId} {x0 x1 x2 x3 x4 : Value} (u0 u1 u2 u3 u4 : Value) (h : w.heap[b]? = some (.cells #[x0, x1, x2, x3, x4] t (0, 0))) :
    (((((w.setCell ⟨b, 0, none⟩ u0).setCell ⟨b, 1, none⟩ u1).setCell ⟨b, 2, none⟩ u2).setCell ⟨b, 3, none⟩ u3).setCell ⟨b, 4, none⟩ u4).heap[b]? = some (.cells #[u0, u1, u2, u3, u4] t (0, 0)) ∧
    w.grownBy (((((w.setCell ⟨b, 0, none⟩ u0).setCell ⟨b, 1, none⟩ u1).setCell ⟨b, 2, none⟩ u2).setCell ⟨b, 3, none⟩ u3).setCell ⟨b, 4, none⟩ u4) (some b) := by
  have h1 := heap_setCell_same w b 0 _ _ u0 h
  have h2 := heap_setCell_same _ b 1 _ _ u1 h1
  have h3 := heap_setCell_same _ b 2 _ _ u2 h2
  have h4 := heap_setCell_same _ b 3 _ _ u3 h3
  have h5 := heap_setCell_same _ b 4 _ _ u4 h4
  refine ⟨by rw [h5]; rfl, ?_⟩
  have g1 := grown_setCell w ⟨b, 0, none⟩ u0
  have g2 := grown_setCell (w.setCell ⟨b, 0, none⟩ u0) ⟨b, 1, none⟩ u1
  have g3 := grown_setCell ((w.setCell ⟨b, 0, none⟩ u0).setCell ⟨b, 1, none⟩ u1) ⟨b, 2, none⟩ u2
  have g4 := grown_setCell (((w.setCell ⟨b, 0, none⟩ u0).setCell ⟨b, 1, none⟩ u1).setCell ⟨b, 2, none⟩ u2) ⟨b, 3, none⟩ u3
  have g5 := grown_setCell ((((w.setCell ⟨b, 0, none⟩ u0).setCell ⟨b, 1, none⟩ u1).setCell ⟨b, 2, none⟩ u2).setCell ⟨b, 3, none⟩ u3) ⟨b, 4, none⟩ u4
  exact grown_trans (grown_trans (grown_trans (grown_trans g1 g2) g3) g4) g5
end Go.Proofs.Ytnpkihioklpnmaa

/- packet: the rest of a packet is read. -/
namespace Go.Proofs.Ytnpkihioklpnmaa
open Go.RowKit Bs
section
variable {W w w1 : World} {V : Nat → Nat} {n b : Nat} {s : ByteArray} {l : List Nat} {p : Option Addr} {c : Nat}
end
section
variable {w : World} {q : Nat → Prop} {l : List Nat} {p : Option Addr} {c : Nat}
end
end Go.Proofs.Ytnpkihioklpnmaa

/- advert.Decode. -/
namespace Go.Proofs.Ytnpkihioklpnmaa
open Go.RowKit Bs
set_option maxRecDepth 100000 in
theorem res_adv_err {fn : Func} {p u : Tmp} (h : fn.results = #[.cell p 38, .tmp u]) (tmps : Array Value) (w : World) (g : Nat) (x y z s t : Value) (hp : tmps.getD p undef = .pointer (some ⟨g, 0, none⟩)) (hg : w.heap[g]? = some (.cells #[x, y, z, s, t] 38 (0, 0))) :
    (results fn tmps).run Try.prog w = .ok (.tuple #[.agg #[x, y, z, s, t], tmps.getD u undef]) w := by
  have hp' : tmps[p]?.getD undef = .pointer (some ⟨g, 0, none⟩) := by simpa using hp
  rw [results_cell_tmp h]
  simp [hp', asAddr, run_loadVar_row w g _ _ _ _ _ hg Try.underlying38 rfl adv_size, Result.andThen]
end Go.Proofs.Ytnpkihioklpnmaa

/- topology: routerAt, linkAt, Has, Capable, Cost, Neighbours. -/
namespace Go.Proofs.Ytnpkihioklpnmaa
open Go.RowKit Bs
/-- The results of Has, Capable, Cost, Neighbours. -/
def hasV (R : List Rt) (L : List Lk) (x : Int) : Bool := okT R L && hasR R x
def capV (R : List Rt) (L : List Lk) (x : Int) : Bool := okT R L && capR R x
set_option maxRecDepth 100000 in
theorem capR_has {R : List Rt} {x : Int} (h : hasR R x = false) : capR R x = false := by
  unfold capR
  cases hf : R.find? (fun r => decide (r.id = x)) with
  | none => rfl
  | some r =>
    have h2 := List.find?_some hf
    have : hasR R x = true := List.any_eq_true.2 ⟨r, List.mem_of_find?_eq_some hf, h2⟩
    rw [h] at this; cases this
set_option maxRecDepth 100000 in
theorem okT_all {R : List Rt} {L : List Lk} (h : okT R L = true) : OkAll R L := chk_okAll (by unfold okT at h; simpa using h)
end Go.Proofs.Ytnpkihioklpnmaa

/- advert.Of: slices.Clone of claims; what Of returns; what memory holds meanwhile. -/
namespace Go.Proofs.Ytnpkihioklpnmaa
open Go.RowKit Bs
/-- The advert that Of makes, its lists nowhere. -/
def ofA (R : List Rt) (L : List Lk) (x s : Int) (C : List T3) : Ad := ⟨x, s, capV R L x, reL L x, C, none, 0, none, 0⟩
/-- The error of Of. -/
def ofE (R : List Rt) (L : List Lk) (x s : Int) (C : List T3) : Int := if chk R L ≠ 0 then 1 else if hasV R L x = false then 4 else if vAd (ofA R L x s C) = false then 2 else 0
def zAo : Ad := ⟨0, 0, false, [], [], none, 0, none, 0⟩
set_option maxRecDepth 100000 in
theorem zAo_ok (w : World) (q : Nat → Prop) : AdOk w q zAo := ⟨⟨none, 0, rfl, fun h => absurd rfl h⟩, ⟨none, 0, rfl, fun h => absurd rfl h⟩, ⟨Nat.le_refl _, by show (0 : Nat) ≤ _; omega⟩, ⟨Nat.le_refl _, by show (0 : Nat) ≤ _; omega⟩⟩
set_option maxRecDepth 100000 in
theorem rdfO {w : World} {q : Nat → Prop} {v : Value} {n : Nat} {xs : List Value} (h : RdF w q v n xs) : RdF w (· < w.heap.size) v n xs := rdfA_old h
/-- While Of works: the topology's box, the result's box. -/
structure OF (W : World) (T : Tg) (C : List T3) (pC : Option Addr) (cC : Nat) (wr : World) : Prop where
  tb : wr.heap[W.heap.size]? = some (.cells #[.slice T.pR T.R.length T.cR, .slice T.pL T.L.length T.cL] 59 (0, 0))
  rb : wr.heap[W.heap.size + 1]? = some (.cells #[.int .i64 0, .int .i64 0, .bool false, .slice none 0 0, .slice none 0 0] 38 (0, 0))
  t : TgOk wr (· < W.heap.size) T
  c : Rd3 wr (· < W.heap.size) (.slice pC C.length cC) C
  gr : W.grownBy wr none
section
variable {W w w1 : World} {T : Tg} {C : List T3} {pC : Option Addr} {cC : Nat}
set_option maxRecDepth 100000 in
theorem OF.keep (h : OF W T C pC cC w) (g : w.grownBy w1 none) : OF W T C pC cC w1 := ⟨kept_row h.tb g (by simp), kept_row h.rb g (by simp), h.t.keep g, h.c.grown g (fun _ _ => by simp), grown_trans h.gr g⟩
set_option maxRecDepth 100000 in
theorem OF.new (h : OF W T C pC cC w) {b : Nat} (g : w.grownBy w1 (some b)) (hb : W.heap.size + 1 < b) : OF W T C pC cC w1 :=
  ⟨kept_row h.tb g (fun e => by have := Option.some.inj e; omega), kept_row h.rb g (fun e => by have := Option.some.inj e; omega), h.t.grown g (fun x hx e => by have := Option.some.inj e; omega), h.c.grown g (fun x hx e => by have := Option.some.inj e; omega), grown_new h.gr g (by omega)⟩
set_option maxRecDepth 100000 in
theorem OF.start (T : Tg) (q q2 : Nat → Prop) (hT : TgOk w q T) (hC : Rd3 w q2 (.slice pC C.length cC) C) :
    OF w T C pC cC ((w.alloc (.cells #[.slice T.pR T.R.length T.cR, .slice T.pL T.L.length T.cL] 59)).alloc (.cells #[.int .i64 0, .int .i64 0, .bool false, .slice none 0 0, .slice none 0 0] 38)) := by
  obtain ⟨k1, k2, k3, k4⟩ := two_boxes w #[.slice T.pR T.R.length T.cR, .slice T.pL T.L.length T.cL] #[.int .i64 0, .int .i64 0, .bool false, .slice none 0 0, .slice none 0 0] 59 38
  exact ⟨k1, k2, hT.old.keep k3, (rdfO hC).grown k3 (fun _ _ => by simp), k3⟩
set_option maxRecDepth 100000 in
theorem OF.facts (h : OF W T C pC cC w) : w.cell? ⟨W.heap.size, 0, none⟩ = some (.slice T.pR T.R.length T.cR) ∧ w.cell? ⟨W.heap.size, 1, none⟩ = some (.slice T.pL T.L.length T.cL) := row_cells h.tb
/-- A box for an advert has come. -/
structure NBo (W : World) (B : Nat) (w : World) : Prop where
  ab : w.heap[B]? = some (.cells #[.int .i64 0, .int .i64 0, .bool false, .slice none 0 0, .slice none 0 0] 38 (0, 0))
  lt : W.heap.size + 1 < B
set_option maxRecDepth 100000 in
theorem NBo.keep {B : Nat} (h : NBo W B w) (g : w.grownBy w1 none) : NBo W B w1 := ⟨kept_row h.ab g (by simp), h.lt⟩
set_option maxRecDepth 100000 in
theorem OF.nb (h : OF W T C pC cC w) : ∀ b, b = w.heap.size → NBo W b (w.alloc (.cells #[.int .i64 0, .int .i64 0, .bool false, .slice none 0 0, .slice none 0 0] 38)) := by
  rintro b rfl
  exact ⟨heap_alloc_new w _, World.lt_of_row' h.rb⟩
end
set_option maxRecDepth 100000 in
theorem vAd_sm2 {A B : Ad} (h : smA A B) : vAd A = vAd B := by
  obtain ⟨h1, h2, h3, h4, h5⟩ := h
  unfold vAd vHd
  rw [h1, h2, h4, h5]
end Go.Proofs.Ytnpkihioklpnmaa
