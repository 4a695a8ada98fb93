/- Parts of the proof, packed: AdCmp, AdCf, AdLs, AdCpA, AdNew, AdOrd, AdOrd2, AdDecM, AdGrow, AdRdr. -/
import Derived.Test.YtnpkihioklpnmaaPu4
import Derived.Test.YtnpkihioklpnmaaPu5
import Derived.Test.YtnpkihioklpnmaaPu2
import Derived.Deep.RegionHeld3
import Derived.Laws.OwnMore
import Derived.Deep.CutBlock
import Derived.Deep.CutRange
/- advert: the orders of links and of claims. -/
namespace Go.Proofs.Ytnpkihioklpnmaa
open Go.RowKit Bs
def cmp3 (x y : T3) : Int := orV [cmpV x.a y.a, cmpV x.b y.b, cmpV x.c y.c]
set_option maxRecDepth 100000 in
theorem keep6A {t : TypeId} {w5 w' : World} {b g : Nat} {x y : T3} (h : w5.heap[b]? = some (.cells #[.int .i64 x.a, .int .i64 x.b, .int .i64 x.c] t (0, 0)) ∧ w5.heap[g]? = some (.cells #[.int .i64 y.a, .int .i64 y.b, .int .i64 y.c] t (0, 0))) (hg : Hid (w5.grownBy w' none)) :
    w'.cell? ⟨b, 0, none⟩ = some (.int .i64 x.a) ∧ w'.cell? ⟨b, 1, none⟩ = some (.int .i64 x.b) ∧ w'.cell? ⟨b, 2, none⟩ = some (.int .i64 x.c) ∧ w'.cell? ⟨g, 0, none⟩ = some (.int .i64 y.a) ∧ w'.cell? ⟨g, 1, none⟩ = some (.int .i64 y.b) ∧ w'.cell? ⟨g, 2, none⟩ = some (.int .i64 y.c) ∧ Hid (w5.grownBy w' none) := by
  obtain ⟨a0, a1, a2⟩ := row3 (kept_row h.1 hg.out (by simp))
  obtain ⟨b0, b1, b2⟩ := row3 (kept_row h.2 hg.out (by simp))
  exact ⟨a0, a1, a2, b0, b1, b2, hg⟩
set_option maxRecDepth 100000 in
theorem rd_trip (w : World) (x y z : Int) (q : Nat → Prop) (hq : q w.heap.size) : Rd (w.alloc (.cells #[.int .i64 x, .int .i64 y, .int .i64 z] 3)) q (.slice (some ⟨w.heap.size, 0, none⟩) 3 3) ([x, y, z].map (fun z => Value.int .i64 z)) := by
  have hb : (w.alloc (.cells #[.int .i64 x, .int .i64 y, .int .i64 z] 3)).heap[w.heap.size]? = some (.cells #[.int .i64 x, .int .i64 y, .int .i64 z] 3 (0, 0)) := heap_alloc_new w _
  refine ⟨_, 3, rfl, fun _ => ⟨_, _, rfl, hq, fun i u hi => ?_⟩⟩
  rw [Nat.zero_add, cell_of_row _ _ _ _ _ _ hb]
  simpa using hi
set_option maxRecDepth 100000 in
theorem two_boxesA (w : World) (x y : T3) (t : TypeId) :
    (((w.alloc (.cells #[.int .i64 x.a, .int .i64 x.b, .int .i64 x.c] t)).alloc (.cells #[.int .i64 y.a, .int .i64 y.b, .int .i64 y.c] t)).heap[w.heap.size]? = some (.cells #[.int .i64 x.a, .int .i64 x.b, .int .i64 x.c] t (0, 0)) ∧
     ((w.alloc (.cells #[.int .i64 x.a, .int .i64 x.b, .int .i64 x.c] t)).alloc (.cells #[.int .i64 y.a, .int .i64 y.b, .int .i64 y.c] t)).heap[w.heap.size + 1]? = some (.cells #[.int .i64 y.a, .int .i64 y.b, .int .i64 y.c] t (0, 0))) ∧
    w.grownBy ((w.alloc (.cells #[.int .i64 x.a, .int .i64 x.b, .int .i64 x.c] t)).alloc (.cells #[.int .i64 y.a, .int .i64 y.b, .int .i64 y.c] t)) none := by
  have g1 := World.grownBy_alloc w (.cells #[.int .i64 x.a, .int .i64 x.b, .int .i64 x.c] t) none
  have g2 := World.grownBy_alloc (w.alloc (.cells #[.int .i64 x.a, .int .i64 x.b, .int .i64 x.c] t)) (.cells #[.int .i64 y.a, .int .i64 y.b, .int .i64 y.c] t) none
  have b1 := kept_row (heap_alloc_new w (.cells #[.int .i64 x.a, .int .i64 x.b, .int .i64 x.c] t)) g2 (by simp)
  have b2 := heap_alloc_new (w.alloc (.cells #[.int .i64 x.a, .int .i64 x.b, .int .i64 x.c] t)) (.cells #[.int .i64 y.a, .int .i64 y.b, .int .i64 y.c] t)
  have s1 : (w.alloc (.cells #[.int .i64 x.a, .int .i64 x.b, .int .i64 x.c] t)).heap.size = w.heap.size + 1 := by simp
  rw [s1] at b2
  exact ⟨⟨b1, b2⟩, grown_trans g1 g2⟩
set_option maxRecDepth 100000 in
set_option maxHeartbeats 3200000 in
theorem acmpR_any (x y : T3) (w : World) :
    Calls Try.prog 115 #[.agg #[.int .i64 x.a, .int .i64 x.b, .int .i64 x.c], .agg #[.int .i64 y.a, .int .i64 y.b, .int .i64 y.c]] w fun e w' => e = .returned (.int .i64 (cmp3 x y)) ∧ w.grownBy w' none := by
  have HZ := Lib.hid (two_boxesA w x y 73)
  have HB := Lib.hid HZ.out.1
  have K := Lib.hid HZ.out.2
  clear HZ
  go_enter Try.func115, Try.ntmps115
  go_upto_region 1 with fail
  generalize (w.alloc _).alloc _ = wa at *
  have GZ : Hid (wa.grownBy wa none) := Lib.hid (grown_refl _ _)
  obtain ⟨a0, a1, a2, b0, b1, b2, -⟩ := keep6A HB.out GZ
  go_region_held3 (fun w' => w'.cell? ⟨w.heap.size, 0, none⟩ = some (.int .i64 x.a) ∧ w'.cell? ⟨w.heap.size, 1, none⟩ = some (.int .i64 x.b) ∧ w'.cell? ⟨w.heap.size, 2, none⟩ = some (.int .i64 x.c) ∧ w'.cell? ⟨w.heap.size + 1, 0, none⟩ = some (.int .i64 y.a) ∧ w'.cell? ⟨w.heap.size + 1, 1, none⟩ = some (.int .i64 y.b) ∧ w'.cell? ⟨w.heap.size + 1, 2, none⟩ = some (.int .i64 y.c) ∧ Hid (wa.grownBy w' none))
    (first | with_reducible exact keep6A HB.out (hid_drew GZ) | with_reducible exact keep6A HB.out (hid_drew (hid_more GZ (World.grownBy_alloc _ _ _))) | (go_split_ands; with_reducible refine keep6A HB.out ?_; with_reducible assumption) | (go_split_ands; with_reducible refine keep6A HB.out (hid_more ?_ (World.grownBy_alloc _ _ _)); with_reducible assumption))
    (first
      | (go_at_call 112; refine (tcmp_any _ _ _).mono ?_; rintro e w' ⟨rfl, rfl⟩)
      | (go_at_call 111; refine (tor_any [cmpV x.a y.a, cmpV x.b y.b, cmpV x.c y.c] _ _ (fun _ => True) _ ?_ (by simp)).mono ?_; exact (rd_trip _ _ _ _ _ trivial).keep (grown_drew (grown_refl _ _)); rintro e w' ⟨rfl, rfl⟩))
  all_goals
    go_split_ands
    go_wp2_with fail
    go_ret
    exact ⟨rfl, grown_trans K.out (Hid.out (by assumption))⟩
set_option maxRecDepth 100000 in
set_option maxHeartbeats 3200000 in
theorem acmpC_any (x y : T3) (w : World) :
    Calls Try.prog 117 #[.agg #[.int .i64 x.a, .int .i64 x.b, .int .i64 x.c], .agg #[.int .i64 y.a, .int .i64 y.b, .int .i64 y.c]] w fun e w' => e = .returned (.int .i64 (cmp3 x y)) ∧ w.grownBy w' none := by
  have HZ := Lib.hid (two_boxesA w x y 62)
  have HB := Lib.hid HZ.out.1
  have K := Lib.hid HZ.out.2
  clear HZ
  go_enter Try.func117, Try.ntmps117
  go_upto_region 1 with fail
  generalize (w.alloc _).alloc _ = wa at *
  have GZ : Hid (wa.grownBy wa none) := Lib.hid (grown_refl _ _)
  obtain ⟨a0, a1, a2, b0, b1, b2, -⟩ := keep6A HB.out GZ
  go_region_held3 (fun w' => w'.cell? ⟨w.heap.size, 0, none⟩ = some (.int .i64 x.a) ∧ w'.cell? ⟨w.heap.size, 1, none⟩ = some (.int .i64 x.b) ∧ w'.cell? ⟨w.heap.size, 2, none⟩ = some (.int .i64 x.c) ∧ w'.cell? ⟨w.heap.size + 1, 0, none⟩ = some (.int .i64 y.a) ∧ w'.cell? ⟨w.heap.size + 1, 1, none⟩ = some (.int .i64 y.b) ∧ w'.cell? ⟨w.heap.size + 1, 2, none⟩ = some (.int .i64 y.c) ∧ Hid (wa.grownBy w' none))
    (first | with_reducible exact keep6A HB.out (hid_drew GZ) | with_reducible exact keep6A HB.out (hid_drew (hid_more GZ (World.grownBy_alloc _ _ _))) | (go_split_ands; with_reducible refine keep6A HB.out ?_; with_reducible assumption) | (go_split_ands; with_reducible refine keep6A HB.out (hid_more ?_ (World.grownBy_alloc _ _ _)); with_reducible assumption))
    (first
      | (go_at_call 112; refine (tcmp_any _ _ _).mono ?_; rintro e w' ⟨rfl, rfl⟩)
      | (go_at_call 111; refine (tor_any [cmpV x.a y.a, cmpV x.b y.b, cmpV x.c y.c] _ _ (fun _ => True) _ ?_ (by simp)).mono ?_; exact (rd_trip _ _ _ _ _ trivial).keep (grown_drew (grown_refl _ _)); rintro e w' ⟨rfl, rfl⟩))
  all_goals
    go_split_ands
    go_wp2_with fail
    go_ret
    exact ⟨rfl, grown_trans K.out (Hid.out (by assumption))⟩
end Go.Proofs.Ytnpkihioklpnmaa

/- advert: slices.CompareFunc of links and of claims. -/
namespace Go.Proofs.Ytnpkihioklpnmaa
open Go.RowKit Bs
def cfL : List T3 → List T3 → Int
  | [], [] => 0
  | [], _ :: _ => -1
  | _ :: _, [] => 1
  | x :: s, y :: t => if cmp3 x y = 0 then cfL s t else cmp3 x y
set_option maxRecDepth 100000 in
theorem cfL_step {L M : List T3} {k : Nat} {x y : T3} (hx : L[k]? = some x) (hy : M[k]? = some y) : cfL (L.drop k) (M.drop k) = if cmp3 x y = 0 then cfL (L.drop (k + 1)) (M.drop (k + 1)) else cmp3 x y := by
  rw [drop_at hx, drop_at hy, cfL]
set_option maxRecDepth 100000 in
theorem cfL_more {L M : List T3} {k : Nat} {x : T3} (hx : L[k]? = some x) (hy : M.length ≤ k) : cfL (L.drop k) (M.drop k) = 1 := by
  rw [drop_at hx, List.drop_eq_nil_of_le hy, cfL]
set_option maxRecDepth 100000 in
theorem cfL_end {L M : List T3} : cfL (L.drop L.length) (M.drop L.length) = if L.length < M.length then -1 else 0 := by
  rw [List.drop_length]
  by_cases h : L.length < M.length
  · rw [if_pos h, drop_at (List.getElem?_eq_getElem h), cfL]
  · rw [if_neg h, List.drop_eq_nil_of_le (by omega), cfL]
set_option maxRecDepth 100000 in
set_option maxHeartbeats 6400000 in
theorem acfR_any (L M : List T3) (p p2 : Option Addr) (c c2 : Nat) (q q2 : Nat → Prop) (w : World) (hL : Rd3 w q (.slice p L.length c) L) (hM : Rd3 w q2 (.slice p2 M.length c2) M) (hm : L.length ≤ 9223372036854775807) (hm2 : M.length ≤ 9223372036854775807) :
    Calls Try.prog 131 #[.slice p L.length c, .slice p2 M.length c2, .func (.func 115) #[] #[]] w fun e w' => e = .returned (.int .i64 (cfL L M)) ∧ w.grownBy w' none := by
  have HR := Lib.hid hL
  have HR2 := Lib.hid hM
  clear hL hM
  obtain ⟨X, hX⟩ : ∃ X, cfL L M = X := ⟨_, rfl⟩
  rw [hX]
  have I0 : Hid (cfL (L.drop 0) (M.drop 0) = X) := Lib.hid hX
  have G0 : Hid (w.grownBy w none) := Lib.hid (grown_refl _ _)
  clear hX
  go_enter Try.func131, Try.ntmps131
  go_wp2_with fail
  go_loopw [13] (fun a wr => ∃ k : Nat, k ≤ L.length ∧ a = .int .i64 (k : Int) ∧ Hid (cfL (L.drop k) (M.drop k) = X) ∧ Hid (w.grownBy wr none)) (fun a _ => L.length - (RowKit.intOf a).toNat)
  case atStart => exact ⟨0, Nat.zero_le _, rfl, I0, G0⟩
  case round =>
    obtain ⟨w2, rfl⟩ : ∃ w2, w2 = wr := ⟨_, rfl⟩
    obtain ⟨k, hk, rfl, HI, HG⟩ := hrel
    clear I0 G0
    by_cases hlt : k < L.length
    · obtain ⟨-, b, off, rfl, -, hc⟩ := rd3_cells (HR.out.keep HG.out) (by omega)
      obtain ⟨x, hx⟩ : ∃ x, L[k]? = some x := ⟨_, List.getElem?_eq_getElem hlt⟩
      obtain ⟨a0, a1, a2⟩ := hc k x hx
      have HXK := Lib.hid hx
      have HBX := Lib.hid (heap_alloc_new w2 (.cells #[.int .i64 x.a, .int .i64 x.b, .int .i64 x.c] 73))
      have HGA := Lib.hid (World.grownBy_alloc w2 (.cells #[.int .i64 x.a, .int .i64 x.b, .int .i64 x.c] 73) none)
      clear hc hx
      go_upto_region 4 with fail
      clear a0 a1 a2
      generalize w2.alloc _ = w3 at *
      have HG3 := Lib.hid (grown_trans HG.out HGA.out)
      clear HG HGA
      by_cases hl2 : k < M.length
      · have hl2' : ¬ ((M.length : Int) ≤ (k : Int)) := by omega
        obtain ⟨-, b2, off2, rfl, -, hc⟩ := rd3_cells (HR2.out.keep HG3.out) (by omega)
        obtain ⟨y, hy⟩ : ∃ y, M[k]? = some y := ⟨_, List.getElem?_eq_getElem hl2⟩
        obtain ⟨a0, a1, a2⟩ := hc k y hy
        have HS := Lib.hid (HI.out.symm.trans (cfL_step HXK.out hy))
        have HBY := Lib.hid (heap_alloc_new w3 (.cells #[.int .i64 y.a, .int .i64 y.b, .int .i64 y.c] 73))
        have HGB := Lib.hid (World.grownBy_alloc w3 (.cells #[.int .i64 y.a, .int .i64 y.b, .int .i64 y.c] 73) none)
        clear hc hy HI HXK
        go_upto_region 7 with fail
        clear a0 a1 a2
        generalize w3.alloc _ = w4 at *
        have HG4 := Lib.hid (grown_trans HG3.out HGB.out)
        have HBX4 := Lib.hid (kept_row HBX.out HGB.out (by simp))
        clear HG3 HGB HBX
        obtain ⟨d0, d1, d2⟩ := row3 HBX4.out
        obtain ⟨e0, e1, e2⟩ := row3 HBY.out
        go_wp2_with fail
        refine (acmpR_any x y _).mono ?_
        rintro e w5 ⟨rfl, hg⟩
        have HG5 := Lib.hid (grown_trans HG4.out hg)
        clear hg HG4 d0 d1 d2 e0 e1 e2 HBX4 HBY
        obtain ⟨z, hz⟩ : ∃ z, cmp3 x y = z := ⟨_, rfl⟩
        rw [hz] at HS ⊢
        clear hz
        by_cases h0 : z = 0
        · subst h0
          have HI2 : Hid (cfL (L.drop (k + 1)) (M.drop (k + 1)) = X) := Lib.hid (by rw [HS.out, if_pos rfl])
          clear HS
          go_wp2_with fail
          exact ⟨⟨k + 1, by omega, congrArg _ (by omega), HI2, HG5⟩, by simp only [RowKit.intOf]; omega⟩
        · have hX : X = z := by rw [HS.out, if_neg h0]
          have h0' : (z == 0) = false := by simpa using h0
          subst hX
          clear h0 HS
          go_wp2_with fail
          go_ret
          exact ⟨rfl, HG5.out⟩
      · have hl2' : (M.length : Int) ≤ (k : Int) := by omega
        have hX : X = 1 := by rw [← HI.out, cfL_more HXK.out (by omega)]
        subst hX
        go_wp2_with fail
        go_ret
        exact ⟨rfl, HG3.out⟩
    · obtain rfl : k = L.length := by omega
      have HE := Lib.hid (HI.out.symm.trans cfL_end)
      by_cases h : L.length < M.length
      · have h' : (L.length : Int) < (M.length : Int) := by omega
        have hX : X = -1 := by rw [HE.out, if_pos h]
        subst hX
        go_wp2_with fail
        go_ret
        exact ⟨rfl, HG.out⟩
      · have h' : ¬ (L.length : Int) < (M.length : Int) := by omega
        have hX : X = 0 := by rw [HE.out, if_neg h]
        subst hX
        go_wp2_with fail
        go_ret
        exact ⟨rfl, HG.out⟩
set_option maxRecDepth 100000 in
set_option maxHeartbeats 6400000 in
theorem acfC_any (L M : List T3) (p p2 : Option Addr) (c c2 : Nat) (q q2 : Nat → Prop) (w : World) (hL : Rd3 w q (.slice p L.length c) L) (hM : Rd3 w q2 (.slice p2 M.length c2) M) (hm : L.length ≤ 9223372036854775807) (hm2 : M.length ≤ 9223372036854775807) :
    Calls Try.prog 132 #[.slice p L.length c, .slice p2 M.length c2, .func (.func 117) #[] #[]] w fun e w' => e = .returned (.int .i64 (cfL L M)) ∧ w.grownBy w' none := by
  have HR := Lib.hid hL
  have HR2 := Lib.hid hM
  clear hL hM
  obtain ⟨X, hX⟩ : ∃ X, cfL L M = X := ⟨_, rfl⟩
  rw [hX]
  have I0 : Hid (cfL (L.drop 0) (M.drop 0) = X) := Lib.hid hX
  have G0 : Hid (w.grownBy w none) := Lib.hid (grown_refl _ _)
  clear hX
  go_enter Try.func132, Try.ntmps132
  go_wp2_with fail
  go_loopw [13] (fun a wr => ∃ k : Nat, k ≤ L.length ∧ a = .int .i64 (k : Int) ∧ Hid (cfL (L.drop k) (M.drop k) = X) ∧ Hid (w.grownBy wr none)) (fun a _ => L.length - (RowKit.intOf a).toNat)
  case atStart => exact ⟨0, Nat.zero_le _, rfl, I0, G0⟩
  case round =>
    obtain ⟨w2, rfl⟩ : ∃ w2, w2 = wr := ⟨_, rfl⟩
    obtain ⟨k, hk, rfl, HI, HG⟩ := hrel
    clear I0 G0
    by_cases hlt : k < L.length
    · obtain ⟨-, b, off, rfl, -, hc⟩ := rd3_cells (HR.out.keep HG.out) (by omega)
      obtain ⟨x, hx⟩ : ∃ x, L[k]? = some x := ⟨_, List.getElem?_eq_getElem hlt⟩
      obtain ⟨a0, a1, a2⟩ := hc k x hx
      have HXK := Lib.hid hx
      have HBX := Lib.hid (heap_alloc_new w2 (.cells #[.int .i64 x.a, .int .i64 x.b, .int .i64 x.c] 62))
      have HGA := Lib.hid (World.grownBy_alloc w2 (.cells #[.int .i64 x.a, .int .i64 x.b, .int .i64 x.c] 62) none)
      clear hc hx
      go_upto_region 4 with fail
      clear a0 a1 a2
      generalize w2.alloc _ = w3 at *
      have HG3 := Lib.hid (grown_trans HG.out HGA.out)
      clear HG HGA
      by_cases hl2 : k < M.length
      · have hl2' : ¬ ((M.length : Int) ≤ (k : Int)) := by omega
        obtain ⟨-, b2, off2, rfl, -, hc⟩ := rd3_cells (HR2.out.keep HG3.out) (by omega)
        obtain ⟨y, hy⟩ : ∃ y, M[k]? = some y := ⟨_, List.getElem?_eq_getElem hl2⟩
        obtain ⟨a0, a1, a2⟩ := hc k y hy
        have HS := Lib.hid (HI.out.symm.trans (cfL_step HXK.out hy))
        have HBY := Lib.hid (heap_alloc_new w3 (.cells #[.int .i64 y.a, .int .i64 y.b, .int .i64 y.c] 62))
        have HGB := Lib.hid (World.grownBy_alloc w3 (.cells #[.int .i64 y.a, .int .i64 y.b, .int .i64 y.c] 62) none)
        clear hc hy HI HXK
        go_upto_region 7 with fail
        clear a0 a1 a2
        generalize w3.alloc _ = w4 at *
        have HG4 := Lib.hid (grown_trans HG3.out HGB.out)
        have HBX4 := Lib.hid (kept_row HBX.out HGB.out (by simp))
        clear HG3 HGB HBX
        obtain ⟨d0, d1, d2⟩ := row3 HBX4.out
        obtain ⟨e0, e1, e2⟩ := row3 HBY.out
        go_wp2_with fail
        refine (acmpC_any x y _).mono ?_
        rintro e w5 ⟨rfl, hg⟩
        have HG5 := Lib.hid (grown_trans HG4.out hg)
        clear hg HG4 d0 d1 d2 e0 e1 e2 HBX4 HBY
        obtain ⟨z, hz⟩ : ∃ z, cmp3 x y = z := ⟨_, rfl⟩
        rw [hz] at HS ⊢
        clear hz
        by_cases h0 : z = 0
        · subst h0
          have HI2 : Hid (cfL (L.drop (k + 1)) (M.drop (k + 1)) = X) := Lib.hid (by rw [HS.out, if_pos rfl])
          clear HS
          go_wp2_with fail
          exact ⟨⟨k + 1, by omega, congrArg _ (by omega), HI2, HG5⟩, by simp only [RowKit.intOf]; omega⟩
        · have hX : X = z := by rw [HS.out, if_neg h0]
          have h0' : (z == 0) = false := by simpa using h0
          subst hX
          clear h0 HS
          go_wp2_with fail
          go_ret
          exact ⟨rfl, HG5.out⟩
      · have hl2' : (M.length : Int) ≤ (k : Int) := by omega
        have hX : X = 1 := by rw [← HI.out, cfL_more HXK.out (by omega)]
        subst hX
        go_wp2_with fail
        go_ret
        exact ⟨rfl, HG3.out⟩
    · obtain rfl : k = L.length := by omega
      have HE := Lib.hid (HI.out.symm.trans cfL_end)
      by_cases h : L.length < M.length
      · have h' : (L.length : Int) < (M.length : Int) := by omega
        have hX : X = -1 := by rw [HE.out, if_pos h]
        subst hX
        go_wp2_with fail
        go_ret
        exact ⟨rfl, HG.out⟩
      · have h' : ¬ (L.length : Int) < (M.length : Int) := by omega
        have hX : X = 0 := by rw [HE.out, if_neg h]
        subst hX
        go_wp2_with fail
        go_ret
        exact ⟨rfl, HG.out⟩
end Go.Proofs.Ytnpkihioklpnmaa

/- advert: compareLists, compare. -/
namespace Go.Proofs.Ytnpkihioklpnmaa
open Go.RowKit Bs
def cLs (L M : List T3) : Int := orV [cmpV (L.length : Int) (M.length : Int), cfL L M]
set_option maxRecDepth 100000 in
set_option maxHeartbeats 3200000 in
theorem aclR_any (L M : List T3) (p p2 : Option Addr) (c c2 : Nat) (q q2 : Nat → Prop) (w : World) (hL : Rd3 w q (.slice p L.length c) L) (hM : Rd3 w q2 (.slice p2 M.length c2) M) (hm : L.length ≤ 9223372036854775807) (hm2 : M.length ≤ 9223372036854775807) :
    Calls Try.prog 114 #[.slice p L.length c, .slice p2 M.length c2, .func (.func 115) #[] #[]] w fun e w' => e = .returned (.int .i64 (cLs L M)) ∧ w.grownBy w' none := by
  have HR := Lib.hid (And.intro hL hM)
  clear hL hM
  go_enter Try.func114, Try.ntmps114
  go_wp2_with fail
  refine (tcmp_any _ _ _).mono ?_
  rintro e w' ⟨rfl, rfl⟩
  go_wp2_with fail
  refine (acfR_any L M p p2 c c2 q q2 _ HR.out.1 HR.out.2 hm hm2).mono ?_
  rintro e w1 ⟨rfl, hg⟩
  have HG := Lib.hid hg
  clear hg HR
  go_wp2_with fail
  refine (tor_any [cmpV (L.length : Int) (M.length : Int), cfL L M] _ _ (fun _ => True) _ (rd_pair _ _ _ _ trivial) (by simp)).mono ?_
  rintro e w' ⟨rfl, rfl⟩
  go_wp2_with fail
  go_ret
  exact ⟨rfl, grown_trans HG.out (World.grownBy_alloc _ _ _)⟩
set_option maxRecDepth 100000 in
set_option maxHeartbeats 3200000 in
theorem aclC_any (L M : List T3) (p p2 : Option Addr) (c c2 : Nat) (q q2 : Nat → Prop) (w : World) (hL : Rd3 w q (.slice p L.length c) L) (hM : Rd3 w q2 (.slice p2 M.length c2) M) (hm : L.length ≤ 9223372036854775807) (hm2 : M.length ≤ 9223372036854775807) :
    Calls Try.prog 116 #[.slice p L.length c, .slice p2 M.length c2, .func (.func 117) #[] #[]] w fun e w' => e = .returned (.int .i64 (cLs L M)) ∧ w.grownBy w' none := by
  have HR := Lib.hid (And.intro hL hM)
  clear hL hM
  go_enter Try.func116, Try.ntmps116
  go_wp2_with fail
  refine (tcmp_any _ _ _).mono ?_
  rintro e w' ⟨rfl, rfl⟩
  go_wp2_with fail
  refine (acfC_any L M p p2 c c2 q q2 _ HR.out.1 HR.out.2 hm hm2).mono ?_
  rintro e w1 ⟨rfl, hg⟩
  have HG := Lib.hid hg
  clear hg HR
  go_wp2_with fail
  refine (tor_any [cmpV (L.length : Int) (M.length : Int), cfL L M] _ _ (fun _ => True) _ (rd_pair _ _ _ _ trivial) (by simp)).mono ?_
  rintro e w' ⟨rfl, rfl⟩
  go_wp2_with fail
  go_ret
  exact ⟨rfl, grown_trans HG.out (World.grownBy_alloc _ _ _)⟩
end Go.Proofs.Ytnpkihioklpnmaa

/- advert: compare. -/
namespace Go.Proofs.Ytnpkihioklpnmaa
open Go.RowKit Bs
/-- The order of adverts. -/
def cmpA (A B : Ad) : Int := orV [cmpV A.r B.r, cmpV A.q B.q, cmpV ((A.cp.toNat : Nat) : Int) ((B.cp.toNat : Nat) : Int), cLs A.L B.L, cLs A.C B.C]
set_option maxRecDepth 100000 in
theorem keepTA {w5 w' : World} {b g : Nat} {A B : Ad} (h : w5.heap[b]? = some (.cells (adC A) 38 (0, 0)) ∧ w5.heap[g]? = some (.cells (adC B) 38 (0, 0))) (hg : Hid (w5.grownBy w' none)) :
    w'.cell? ⟨b, 0, none⟩ = some (.int .i64 A.r) ∧ w'.cell? ⟨b, 1, none⟩ = some (.int .i64 A.q) ∧ w'.cell? ⟨b, 2, none⟩ = some (.bool A.cp) ∧ w'.cell? ⟨b, 3, none⟩ = some (.slice A.pL A.L.length A.cL) ∧ w'.cell? ⟨b, 4, none⟩ = some (.slice A.pC A.C.length A.cC) ∧
    w'.cell? ⟨g, 0, none⟩ = some (.int .i64 B.r) ∧ w'.cell? ⟨g, 1, none⟩ = some (.int .i64 B.q) ∧ w'.cell? ⟨g, 2, none⟩ = some (.bool B.cp) ∧ w'.cell? ⟨g, 3, none⟩ = some (.slice B.pL B.L.length B.cL) ∧ w'.cell? ⟨g, 4, none⟩ = some (.slice B.pC B.C.length B.cC) ∧ Hid (w5.grownBy w' none) := by
  obtain ⟨a0, a1, a2, a3, a4⟩ := ad_facts (kept_row h.1 hg.out (by simp))
  obtain ⟨b0, b1, b2, b3, b4⟩ := ad_facts (kept_row h.2 hg.out (by simp))
  exact ⟨a0, a1, a2, a3, a4, b0, b1, b2, b3, b4, hg⟩
set_option maxRecDepth 100000 in
theorem rd_five (w : World) (x y z u v : Int) (q : Nat → Prop) (hq : q w.heap.size) : Rd (w.alloc (.cells #[.int .i64 x, .int .i64 y, .int .i64 z, .int .i64 u, .int .i64 v] 3)) q (.slice (some ⟨w.heap.size, 0, none⟩) 5 5) ([x, y, z, u, v].map (fun z => Value.int .i64 z)) := by
  have hb : (w.alloc (.cells #[.int .i64 x, .int .i64 y, .int .i64 z, .int .i64 u, .int .i64 v] 3)).heap[w.heap.size]? = some (.cells #[.int .i64 x, .int .i64 y, .int .i64 z, .int .i64 u, .int .i64 v] 3 (0, 0)) := heap_alloc_new w _
  refine ⟨_, 5, rfl, fun _ => ⟨_, _, rfl, hq, fun i u hi => ?_⟩⟩
  rw [Nat.zero_add, cell_of_row _ _ _ _ _ _ hb]
  simpa using hi
structure TwoA (w : World) (A B : Ad) (q q2 : Nat → Prop) : Prop where
  a : AdOk w q A
  b : AdOk w q2 B
set_option maxRecDepth 100000 in
theorem aclR_at {w0 w : World} {A B : Ad} {q q2 : Nat → Prop} (h : Hid (w0.grownBy w none)) (H : Hid (TwoA w0 A B q q2)) :
    Calls Try.prog 114 #[.slice A.pL A.L.length A.cL, .slice B.pL B.L.length B.cL, .func (.func 115) #[] #[]] w fun e w' => e = .returned (.int .i64 (cLs A.L B.L)) ∧ w.grownBy w' none :=
  aclR_any A.L B.L _ _ _ _ _ _ w (H.out.a.keep h.out).l (H.out.b.keep h.out).l (Nat.le_trans H.out.a.hl.1 H.out.a.hl.2) (Nat.le_trans H.out.b.hl.1 H.out.b.hl.2)
set_option maxRecDepth 100000 in
theorem aclC_at {w0 w : World} {A B : Ad} {q q2 : Nat → Prop} (h : Hid (w0.grownBy w none)) (H : Hid (TwoA w0 A B q q2)) :
    Calls Try.prog 116 #[.slice A.pC A.C.length A.cC, .slice B.pC B.C.length B.cC, .func (.func 117) #[] #[]] w fun e w' => e = .returned (.int .i64 (cLs A.C B.C)) ∧ w.grownBy w' none :=
  aclC_any A.C B.C _ _ _ _ _ _ w (H.out.a.keep h.out).c (H.out.b.keep h.out).c (Nat.le_trans H.out.a.hc.1 H.out.a.hc.2) (Nat.le_trans H.out.b.hc.1 H.out.b.hc.2)
set_option maxRecDepth 100000 in
theorem two_ads (w : World) (A B : Ad) : (((w.alloc (.cells (adC A) 38)).alloc (.cells (adC B) 38)).heap[w.heap.size]? = some (.cells (adC A) 38 (0, 0)) ∧ ((w.alloc (.cells (adC A) 38)).alloc (.cells (adC B) 38)).heap[w.heap.size + 1]? = some (.cells (adC B) 38 (0, 0))) ∧ w.grownBy ((w.alloc (.cells (adC A) 38)).alloc (.cells (adC B) 38)) none := by
  have g1 := World.grownBy_alloc w (.cells (adC A) 38) none
  have g2 := World.grownBy_alloc (w.alloc (.cells (adC A) 38)) (.cells (adC B) 38) none
  have b1 := kept_row (heap_alloc_new w (.cells (adC A) 38)) g2 (by simp)
  have b2 := heap_alloc_new (w.alloc (.cells (adC A) 38)) (.cells (adC B) 38)
  have s1 : (w.alloc (.cells (adC A) 38)).heap.size = w.heap.size + 1 := by simp
  rw [s1] at b2
  exact ⟨⟨b1, b2⟩, grown_trans g1 g2⟩
set_option maxRecDepth 100000 in
set_option maxHeartbeats 6400000 in
theorem acmpA_any (A B : Ad) (q q2 : Nat → Prop) (w : World) (hA : AdOk w q A) (hB : AdOk w q2 B) :
    Calls Try.prog 84 #[A.val, B.val] w fun e w' => e = .returned (.int .i64 (cmpA A B)) ∧ w.grownBy w' none := by
  have HZ := Lib.hid (two_ads w A B)
  have HOK : Hid (TwoA _ A B q q2) := Lib.hid ⟨hA.keep HZ.out.2, hB.keep HZ.out.2⟩
  have HB := Lib.hid HZ.out.1
  have K := Lib.hid HZ.out.2
  clear HZ hA hB
  unfold Ad.val
  go_enter Try.func84, Try.ntmps84
  go_upto_region 1 with fail
  unfold adC at HB K HOK
  generalize (w.alloc _).alloc _ = wa at *
  have HB : Hid (wa.heap[w.heap.size]? = some (.cells (adC A) 38 (0, 0)) ∧ wa.heap[w.heap.size + 1]? = some (.cells (adC B) 38 (0, 0))) := HB
  have GZ : Hid (wa.grownBy wa none) := Lib.hid (grown_refl _ _)
  obtain ⟨a0, a1, a2, a3, a4, b0, b1, b2, b3, b4, -⟩ := keepTA HB.out GZ
  go_region_held3 (fun w' => w'.cell? ⟨w.heap.size, 0, none⟩ = some (.int .i64 A.r) ∧ w'.cell? ⟨w.heap.size, 1, none⟩ = some (.int .i64 A.q) ∧ w'.cell? ⟨w.heap.size, 2, none⟩ = some (.bool A.cp) ∧ w'.cell? ⟨w.heap.size, 3, none⟩ = some (.slice A.pL A.L.length A.cL) ∧ w'.cell? ⟨w.heap.size, 4, none⟩ = some (.slice A.pC A.C.length A.cC) ∧ w'.cell? ⟨w.heap.size + 1, 0, none⟩ = some (.int .i64 B.r) ∧ w'.cell? ⟨w.heap.size + 1, 1, none⟩ = some (.int .i64 B.q) ∧ w'.cell? ⟨w.heap.size + 1, 2, none⟩ = some (.bool B.cp) ∧ w'.cell? ⟨w.heap.size + 1, 3, none⟩ = some (.slice B.pL B.L.length B.cL) ∧ w'.cell? ⟨w.heap.size + 1, 4, none⟩ = some (.slice B.pC B.C.length B.cC) ∧ Hid (wa.grownBy w' none))
    (first | with_reducible exact keepTA HB.out (hid_drew GZ) | with_reducible exact keepTA HB.out (hid_drew (hid_more GZ (World.grownBy_alloc _ _ _))) | (go_split_ands; with_reducible refine keepTA HB.out ?_; with_reducible assumption) | (go_split_ands; with_reducible refine keepTA HB.out (hid_more ?_ hap); with_reducible assumption) | (go_split_ands; with_reducible refine keepTA HB.out (hid_more ?_ (World.grownBy_alloc _ _ _)); with_reducible assumption))
    (first
      | (go_at_call 112; refine (tcmp_any _ _ _).mono ?_; rintro e w' ⟨rfl, rfl⟩)
      | (go_at_call 113; refine (abit_any _ _).mono ?_; rintro e w' ⟨rfl, rfl⟩)
      | (go_at_call 114; go_split_ands; refine (aclR_at (w0 := wa) ?_ HOK).mono ?_; assumption; rintro e wb ⟨rfl, hap⟩)
      | (go_at_call 116; go_split_ands; refine (aclC_at (w0 := wa) ?_ HOK).mono ?_; assumption; rintro e wc ⟨rfl, hap⟩)
      | (go_at_call 111; refine (tor_any [cmpV A.r B.r, cmpV A.q B.q, cmpV ((A.cp.toNat : Nat) : Int) ((B.cp.toNat : Nat) : Int), cLs A.L B.L, cLs A.C B.C] _ _ (fun _ => True) _ ?_ (by simp)).mono ?_; (first | exact rd_five _ _ _ _ _ _ _ trivial | exact (rd_five _ _ _ _ _ _ _ trivial).keep (grown_drew (grown_refl _ _))); rintro e w' ⟨rfl, rfl⟩))
  all_goals
    go_split_ands
    go_wp2_with fail
    go_ret
    exact ⟨rfl, grown_trans K.out (Hid.out (by assumption))⟩
end Go.Proofs.Ytnpkihioklpnmaa

/- advert: Same, Newer. -/
namespace Go.Proofs.Ytnpkihioklpnmaa
open Go.RowKit Bs
/-- Newer. -/
def nwA (A B : Ad) : Bool := vAd A && (vAd B && (decide (A.r = B.r) && decide (0 < cmpA A B)))
set_option maxRecDepth 100000 in
theorem TwoA.keep {w w' : World} {A B : Ad} {q q2 : Nat → Prop} (h : TwoA w A B q q2) (g : w.grownBy w' none) : TwoA w' A B q q2 := ⟨h.a.keep g, h.b.keep g⟩
set_option maxRecDepth 100000 in
set_option maxHeartbeats 6400000 in
theorem anewer_any (A B : Ad) (q q2 : Nat → Prop) (w : World) (hA : AdOk w q A) (hB : AdOk w q2 B) :
    Calls Try.prog 90 #[A.val, B.val] w fun e w' => e = .returned (.bool (nwA A B)) ∧ w.grownBy w' none := by
  have HZ := Lib.hid (two_ads w A B)
  have HOK : Hid (TwoA _ A B q q2) := Lib.hid ⟨hA.keep HZ.out.2, hB.keep HZ.out.2⟩
  have HB := Lib.hid HZ.out.1
  have K := Lib.hid HZ.out.2
  clear HZ hA hB
  obtain ⟨X, hX⟩ : ∃ X, nwA A B = X := ⟨_, rfl⟩
  rw [hX]
  have HX := Lib.hid hX
  clear hX
  unfold Ad.val
  go_enter Try.func90, Try.ntmps90
  go_upto_region 1 with fail
  unfold adC at HB K HOK
  generalize (w.alloc _).alloc _ = wa at *
  have HB : Hid (wa.heap[w.heap.size]? = some (.cells (adC A) 38 (0, 0)) ∧ wa.heap[w.heap.size + 1]? = some (.cells (adC B) 38 (0, 0))) := HB
  have GZ : Hid (wa.grownBy wa none) := Lib.hid (grown_refl _ _)
  obtain ⟨a0, a1, a2, a3, a4, b0, b1, b2, b3, b4, -⟩ := keepTA HB.out GZ
  go_wp2_with fail
  refine (avalid_any A q _ HOK.out.a).mono ?_
  rintro e w1 ⟨rfl, hg⟩
  have G1 := Lib.hid hg
  clear hg a0 a1 a2 a3 a4 b0 b1 b2 b3 b4
  obtain ⟨a0, a1, a2, a3, a4, b0, b1, b2, b3, b4, -⟩ := keepTA HB.out G1
  obtain ⟨v1, hv1⟩ : ∃ v, vAd A = v := ⟨_, rfl⟩
  have HV1 := Lib.hid hv1
  rw [hv1]
  clear hv1
  cases v1 with
  | false =>
    obtain rfl : X = false := by rw [← HX.out]; unfold nwA; rw [HV1.out]; rfl
    go_wp2_with fail
    go_ret
    exact ⟨rfl, grown_trans K.out G1.out⟩
  | true =>
    go_wp2_with fail
    refine (avalid_any B q2 _ (HOK.out.b.keep G1.out)).mono ?_
    rintro e w2 ⟨rfl, hg⟩
    have G2 := Lib.hid (grown_trans G1.out hg)
    clear hg a0 a1 a2 a3 a4 b0 b1 b2 b3 b4
    obtain ⟨a0, a1, a2, a3, a4, b0, b1, b2, b3, b4, -⟩ := keepTA HB.out G2
    obtain ⟨v2, hv2⟩ : ∃ v, vAd B = v := ⟨_, rfl⟩
    have HV2 := Lib.hid hv2
    rw [hv2]
    clear hv2
    cases v2 with
    | false =>
      obtain rfl : X = false := by rw [← HX.out]; unfold nwA; rw [HV1.out, HV2.out]; rfl
      go_wp2_with fail
      go_ret
      exact ⟨rfl, grown_trans K.out G2.out⟩
    | true =>
      by_cases h : A.r = B.r
      · have h' : (A.r == B.r) = true := by simpa using h
        have HH := Lib.hid h
        clear h
        go_wp2_with fail
        refine (acmpA_any A B q q2 _ (HOK.out.a.keep G2.out) (HOK.out.b.keep G2.out)).mono ?_
        rintro e w3 ⟨rfl, hg⟩
        have G3 := Lib.hid (grown_trans G2.out hg)
        obtain ⟨z, hz⟩ : ∃ z, cmpA A B = z := ⟨_, rfl⟩
        have HZ := Lib.hid hz
        rw [hz]
        clear hz hg a0 a1 a2 a3 a4 b0 b1 b2 b3 b4
        obtain rfl : X = decide (0 < z) := by rw [← HX.out]; unfold nwA; rw [HV1.out, HV2.out, HZ.out, decide_eq_true HH.out]; rfl
        go_wp2_with fail
        go_ret
        exact ⟨rfl, grown_trans K.out G3.out⟩
      · have h' : (A.r == B.r) = false := by simpa using h
        obtain rfl : X = false := by rw [← HX.out]; unfold nwA; rw [HV1.out, HV2.out, decide_eq_false h]; rfl
        clear h
        go_wp2_with fail
        go_ret
        exact ⟨rfl, grown_trans K.out G2.out⟩
end Go.Proofs.Ytnpkihioklpnmaa

/- advert: the order is total. -/
namespace Go.Proofs.Ytnpkihioklpnmaa
open Go.RowKit Bs
/-- A total order up to what compares as nought. -/
structure Cmp {α : Type} (f : α → α → Int) : Prop where
  anti : ∀ x y, f y x = - f x y
  tr : ∀ x y z, 0 < f x y → 0 < f y z → 0 < f x z
  eq0 : ∀ x y, f x y = 0 → ∀ z, f x z = f y z
def lex {α : Type} (f g : α → α → Int) (x y : α) : Int := if f x y = 0 then g x y else f x y
set_option maxRecDepth 100000 in
theorem Cmp.lex {α : Type} {f g : α → α → Int} (hf : Cmp f) (hg : Cmp g) : Cmp (lex f g) := by
  refine ⟨fun x y => ?_, fun x y z h1 h2 => ?_, fun x y h z => ?_⟩
  · have a1 := hf.anti x y
    have a2 := hg.anti x y
    unfold Go.Proofs.Ytnpkihioklpnmaa.lex
    split <;> split <;> omega
  · unfold Go.Proofs.Ytnpkihioklpnmaa.lex at h1 h2 ⊢
    by_cases e1 : f x y = 0
    · rw [if_pos e1] at h1
      have e := hf.eq0 x y e1 z
      by_cases e2 : f y z = 0
      · rw [if_pos e2] at h2
        rw [e, if_pos e2]
        exact hg.tr x y z h1 h2
      · rw [if_neg e2] at h2
        rw [e, if_neg e2]
        exact h2
    · rw [if_neg e1] at h1
      by_cases e2 : f y z = 0
      · have e3 := hf.eq0 y z e2 x
        have a1 := hf.anti x y
        have a2 := hf.anti x z
        have : 0 < f x z := by omega
        rw [if_neg (by omega)]
        exact this
      · rw [if_neg e2] at h2
        have := hf.tr x y z h1 h2
        rw [if_neg (by omega)]
        exact this
  · unfold Go.Proofs.Ytnpkihioklpnmaa.lex at h ⊢
    by_cases e1 : f x y = 0
    · rw [if_pos e1] at h
      rw [hf.eq0 x y e1 z, hg.eq0 x y h z]
    · rw [if_neg e1] at h
      exact absurd h e1
set_option maxRecDepth 100000 in
theorem cmpV_cmp {α : Type} (h : α → Int) : Cmp (fun x y => cmpV (h x) (h y)) := by
  refine ⟨fun x y => ?_, fun x y z => ?_, fun x y e z => ?_⟩ <;> unfold cmpV at *
  · repeat' split
    all_goals omega
  · repeat' split
    all_goals omega
  · repeat' split at e
    all_goals (repeat' split)
    all_goals omega
set_option maxRecDepth 100000 in
theorem orV_two (a b : Int) : orV [a, b] = if a = 0 then b else a := by
  unfold orV orV orV
  split <;> (try split) <;> (try rfl)
  all_goals omega
set_option maxRecDepth 100000 in
theorem orV_cons (a : Int) (r : List Int) : orV (a :: r) = if a = 0 then orV r else a := rfl
set_option maxRecDepth 100000 in
theorem cmp3_cmp : Cmp cmp3 := by
  have h : cmp3 = lex (fun x y => cmpV x.a y.a) (lex (fun x y => cmpV x.b y.b) (fun x y => cmpV x.c y.c)) := by
    funext x y
    unfold cmp3 lex
    rw [orV_cons, orV_two]
  rw [h]
  exact (cmpV_cmp _).lex ((cmpV_cmp _).lex (cmpV_cmp _))
set_option maxRecDepth 100000 in
theorem cfL_anti : ∀ L M : List T3, cfL M L = - cfL L M
  | [], [] => rfl
  | [], _ :: _ => rfl
  | _ :: _, [] => rfl
  | x :: s, y :: t => by
    rw [cfL, cfL, cfL_anti s t]
    have := cmp3_cmp.anti x y
    split <;> split <;> omega
set_option maxRecDepth 100000 in
theorem cfL_eq0 : ∀ L M : List T3, cfL L M = 0 → ∀ N, cfL L N = cfL M N
  | [], [], _, _ => rfl
  | [], _ :: _, h, _ => by rw [cfL] at h; exact absurd h (by decide)
  | _ :: _, [], h, _ => by rw [cfL] at h; exact absurd h (by decide)
  | x :: s, y :: t, h, N => by
    rw [cfL] at h
    by_cases e : cmp3 x y = 0
    · rw [if_pos e] at h
      cases N with
      | nil => rfl
      | cons z u => rw [cfL, cfL, cmp3_cmp.eq0 x y e z, cfL_eq0 s t h u]
    · rw [if_neg e] at h
      exact absurd h e
set_option maxRecDepth 100000 in
theorem cfL_tr : ∀ L M N : List T3, 0 < cfL L M → 0 < cfL M N → 0 < cfL L N
  | [], [], _, h, _ => by rw [cfL] at h; exact absurd h (by decide)
  | [], _ :: _, _, h, _ => by rw [cfL] at h; exact absurd h (by decide)
  | _ :: _, [], [], _, h => by rw [cfL] at h; exact absurd h (by decide)
  | _ :: _, [], _ :: _, _, h => by rw [cfL] at h; exact absurd h (by decide)
  | _ :: _, _ :: _, [], _, _ => by rw [cfL]; decide
  | x :: s, y :: t, z :: u, h1, h2 => by
    rw [cfL] at h1 h2 ⊢
    have ih := cfL_tr s t u
    have a1 := cmp3_cmp.anti x y
    have a2 := cmp3_cmp.anti x z
    have a3 := cmp3_cmp.anti y z
    by_cases e1 : cmp3 x y = 0
    · rw [if_pos e1] at h1
      rw [cmp3_cmp.eq0 x y e1 z]
      by_cases e2 : cmp3 y z = 0
      · rw [if_pos e2] at h2 ⊢; exact ih h1 h2
      · rw [if_neg e2] at h2 ⊢; exact h2
    · rw [if_neg e1] at h1
      by_cases e2 : cmp3 y z = 0
      · have e3 := cmp3_cmp.eq0 y z e2 x
        have : 0 < cmp3 x z := by have := cmp3_cmp.anti x z; have := cmp3_cmp.anti x y; omega
        rw [if_neg (by omega)]; exact this
      · rw [if_neg e2] at h2
        have := cmp3_cmp.tr x y z h1 h2
        rw [if_neg (by omega)]; exact this
set_option maxRecDepth 100000 in
theorem cfL_cmp : Cmp cfL := ⟨cfL_anti, cfL_tr, cfL_eq0⟩
set_option maxRecDepth 100000 in
theorem Cmp.on {α β : Type} {f : β → β → Int} (h : Cmp f) (g : α → β) : Cmp (fun x y => f (g x) (g y)) := ⟨fun _ _ => h.anti _ _, fun _ _ _ h1 h2 => h.tr _ _ _ h1 h2, fun _ _ e z => h.eq0 _ _ e (g z)⟩
set_option maxRecDepth 100000 in
theorem cLs_cmp : Cmp cLs := by
  have h : cLs = lex (fun L M => cmpV (L.length : Int) (M.length : Int)) cfL := by
    funext L M
    unfold cLs lex
    rw [orV_two]
  rw [h]
  exact (cmpV_cmp _).lex cfL_cmp
set_option maxRecDepth 100000 in
/-- The order of adverts is total. -/
theorem cmpA_cmp : Cmp cmpA := by
  have h : cmpA = lex (fun A B => cmpV A.r B.r) (lex (fun A B => cmpV A.q B.q) (lex (fun A B => cmpV ((A.cp.toNat : Nat) : Int) ((B.cp.toNat : Nat) : Int)) (lex (fun A B => cLs A.L B.L) (fun A B => cLs A.C B.C)))) := by
    funext A B
    unfold cmpA lex
    rw [orV_cons, orV_cons, orV_cons, orV_two]
  rw [h]
  exact (cmpV_cmp _).lex ((cmpV_cmp _).lex ((cmpV_cmp _).lex ((cLs_cmp.on _).lex (cLs_cmp.on _))))
end Go.Proofs.Ytnpkihioklpnmaa

/- advert: equal adverts, newer adverts. -/
namespace Go.Proofs.Ytnpkihioklpnmaa
open Go.RowKit Bs
set_option maxRecDepth 100000 in
theorem cmpV_zero {x y : Int} : cmpV x y = 0 ↔ x = y := by
  unfold cmpV
  repeat' split
  all_goals omega
set_option maxRecDepth 100000 in
theorem orV_zero {a : Int} {r : List Int} : orV (a :: r) = 0 ↔ (a = 0 ∧ orV r = 0) := by
  rw [orV_cons]
  by_cases e : a = 0
  · rw [if_pos e]; exact ⟨fun h => ⟨e, h⟩, fun h => h.2⟩
  · rw [if_neg e]; exact ⟨fun h => absurd h e, fun h => absurd h.1 e⟩
set_option maxRecDepth 100000 in
theorem orV_nil : orV [] = 0 := rfl
set_option maxRecDepth 100000 in
theorem cmp3_zero {x y : T3} : cmp3 x y = 0 ↔ x = y := by
  unfold cmp3
  rw [orV_zero, orV_zero, orV_zero, orV_nil, cmpV_zero, cmpV_zero, cmpV_zero]
  cases x; cases y
  simp
set_option maxRecDepth 100000 in
theorem cfL_zero : ∀ {L M : List T3}, cfL L M = 0 ↔ L = M
  | [], [] => by rw [cfL]; simp
  | [], _ :: _ => by rw [cfL]; simp
  | _ :: _, [] => by rw [cfL]; simp
  | x :: s, y :: t => by
    rw [cfL]
    by_cases e : cmp3 x y = 0
    · rw [if_pos e, cfL_zero (L := s) (M := t), cmp3_zero.1 e]; simp
    · rw [if_neg e]
      have : x ≠ y := fun h => e (cmp3_zero.2 h)
      simp [e, this]
set_option maxRecDepth 100000 in
theorem cLs_zero {L M : List T3} : cLs L M = 0 ↔ L = M := by
  unfold cLs
  rw [orV_zero, orV_zero, orV_nil, cmpV_zero, cfL_zero]
  exact ⟨fun h => h.2.1, fun h => ⟨by rw [h], h, rfl⟩⟩
/-- Two adverts are equal. -/
def smA (A B : Ad) : Prop := A.r = B.r ∧ A.q = B.q ∧ A.cp = B.cp ∧ A.L = B.L ∧ A.C = B.C
set_option maxRecDepth 100000 in
theorem cmpA_zero {A B : Ad} : cmpA A B = 0 ↔ smA A B := by
  unfold cmpA smA
  rw [orV_zero, orV_zero, orV_zero, orV_zero, orV_zero, orV_nil, cmpV_zero, cmpV_zero, cmpV_zero, cLs_zero, cLs_zero]
  cases A.cp <;> cases B.cp <;> simp
end Go.Proofs.Ytnpkihioklpnmaa

/- advert: what bytes say; Decode undoes Encode, the mathematics. -/
namespace Go.Proofs.Ytnpkihioklpnmaa
open Go.RowKit Bs
/-- The bits of an encoding. -/
def alB (A : Ad) : List Bool := adB A ++ nb (ck (adB A)) 16
set_option maxRecDepth 100000 in
theorem encA_al (A : Ad) : encA A = pk (alB A) := rfl
set_option maxRecDepth 100000 in
theorem flatA_at {f : T3 → List Bool} {l : List T3} {k : Nat} {x : T3} (h : l[k]? = some x) : l.flatMap f = (l.take k).flatMap f ++ f x ++ (l.drop (k + 1)).flatMap f := by
  have e : l = l.take k ++ x :: l.drop (k + 1) := by
    obtain ⟨hk, he⟩ := List.getElem?_eq_some_iff.1 h
    rw [← he, ← List.drop_eq_getElem_cons hk, List.take_append_drop]
  have e2 : l.flatMap f = (l.take k ++ x :: l.drop (k + 1)).flatMap f := congrArg (List.flatMap f) e
  rw [e2, List.flatMap_append, List.flatMap_cons, ← List.append_assoc]
set_option maxRecDepth 100000 in
theorem alB_lk {A : Ad} {k : Nat} {x : T3} (h : A.L[k]? = some x) : ∃ Q, alB A = lkB A k ++ nb x.a.toNat 7 ++ nb x.b.toNat 10 ++ nb x.c.toNat 10 ++ Q := by
  refine ⟨(A.L.drop (k + 1)).flatMap encR ++ nb A.C.length 4 ++ (A.C.take A.C.length).flatMap encK ++ nb (ck (adB A)) 16, ?_⟩
  unfold alB
  generalize nb (ck (adB A)) 16 = T
  unfold adB cmB mdB lkB
  rw [List.take_length, flatA_at (f := encR) h]
  simp only [encR, List.append_assoc]
set_option maxRecDepth 100000 in
theorem alB_cm {A : Ad} {k : Nat} {x : T3} (h : A.C[k]? = some x) : ∃ Q, alB A = cmB A k ++ nb x.a.toNat 3 ++ nb x.b.toNat 9 ++ nb (codeN x.c) 2 ++ Q := by
  refine ⟨(A.C.drop (k + 1)).flatMap encK ++ nb (ck (adB A)) 16, ?_⟩
  unfold alB
  generalize nb (ck (adB A)) 16 = T
  unfold adB cmB
  rw [List.take_length, flatA_at (f := encK) h]
  simp only [encK, List.append_assoc]
end Go.Proofs.Ytnpkihioklpnmaa

/- advert: an advert while its lists grow; the reader while fields are taken. -/
namespace Go.Proofs.Ytnpkihioklpnmaa
open Go.RowKit Bs
/-- While an advert is made in block B: the block holds uL, uC; its lists lie in rows of the call's own, vL and vC. Z is the result's block. -/
structure AG (W : World) (Z B : Nat) (r q : Int) (cp : Bool) (uL uC vL vC : Value) (L C : List T3) (w : World) : Prop where
  zb : w.heap[Z]? = some (.cells #[.int .i64 0, .int .i64 0, .bool false, .slice none 0 0, .slice none 0 0] 38 (0, 0))
  ab : w.heap[B]? = some (.cells #[.int .i64 r, .int .i64 q, .bool cp, uL, uC] 38 (0, 0))
  oL : w.ownsRow (B + 1) 73 3 vL L.length (L.flatMap t3C)
  oC : w.ownsRow (B + 1) 62 3 vC C.length (C.flatMap t3C)
  ap : ∀ g, vL.ownBlock = some g → vC.ownBlock ≠ some g
  lo : W.heap.size ≤ Z ∧ Z < B
  sz : B < w.heap.size
section
variable {W w w1 : World} {Z B : Nat} {r q : Int} {cp : Bool} {uL uC vL vC v' : Value} {L C : List T3}
set_option maxRecDepth 100000 in
theorem AG.keep (h : AG W Z B r q cp uL uC vL vC L C w) (g : w.grownBy w1 none) : AG W Z B r q cp uL uC vL vC L C w1 :=
  ⟨kept_row h.zb g (by simp), kept_row h.ab g (by simp), h.oL.kept g (by cases vL.ownBlock <;> simp), h.oC.kept g (by cases vC.ownBlock <;> simp), h.ap, h.lo, Nat.lt_of_lt_of_le h.sz g.size⟩
set_option maxRecDepth 100000 in
theorem AG.out (h : AG W Z B r q cp uL uC vL vC L C w) {b : Nat} (g : w.grownBy w1 (some b)) (hb : b < W.heap.size) : AG W Z B r q cp uL uC vL vC L C w1 := by
  have hlo := h.lo
  exact ⟨kept_row h.zb g (fun e => by have := Option.some.inj e; omega), kept_row h.ab g (fun e => by have := Option.some.inj e; omega), own_otherA h.oL g (by omega), own_otherA h.oC g (by omega), h.ap, h.lo, Nat.lt_of_lt_of_le h.sz g.size⟩
set_option maxRecDepth 100000 in
theorem AG.geL (h : AG W Z B r q cp uL uC vL vC L C w) : ∀ g, vL.ownBlock = some g → B + 1 ≤ g ∧ g < w.heap.size := fun g hg => h.oL.lt g hg
set_option maxRecDepth 100000 in
theorem AG.geC (h : AG W Z B r q cp uL uC vL vC L C w) : ∀ g, vC.ownBlock = some g → B + 1 ≤ g ∧ g < w.heap.size := fun g hg => h.oC.lt g hg
set_option maxRecDepth 100000 in
theorem AG.addL (h : AG W Z B r q cp uL uC vL vC L C w) {M : List T3} (hown : w1.ownsRow (B + 1) 73 3 v' M.length (M.flatMap t3C)) (hg : w.grownBy w1 vL.ownBlock) (hat : v'.ownBlock = vL.ownBlock ∨ v'.ownBlock = some w.heap.size) : AG W Z B r q cp uL uC v' vC M C w1 := by
  have hlo := h.lo
  have hne : ∀ k, k < B + 1 → some k ≠ vL.ownBlock := fun k hk e => by have := (h.geL k e.symm).1; omega
  refine ⟨kept_row h.zb hg (hne _ (by omega)), kept_row h.ab hg (hne _ (by omega)), hown, h.oC.kept hg ?_, ?_, h.lo, Nat.lt_of_lt_of_le h.sz hg.size⟩
  · cases hv : vC.ownBlock with
    | none => exact .inl rfl
    | some k => exact .inr (fun e => h.ap k e.symm hv)
  · intro g2 hg2 e
    rcases hat with h1 | h1
    · exact h.ap g2 (by rw [← h1]; exact hg2) e
    · rw [h1] at hg2
      have := Option.some.inj hg2
      have := (h.geC g2 e).2
      omega
set_option maxRecDepth 100000 in
theorem AG.addC (h : AG W Z B r q cp uL uC vL vC L C w) {M : List T3} (hown : w1.ownsRow (B + 1) 62 3 v' M.length (M.flatMap t3C)) (hg : w.grownBy w1 vC.ownBlock) (hat : v'.ownBlock = vC.ownBlock ∨ v'.ownBlock = some w.heap.size) : AG W Z B r q cp uL uC vL v' L M w1 := by
  have hlo := h.lo
  have hne : ∀ k, k < B + 1 → some k ≠ vC.ownBlock := fun k hk e => by have := (h.geC k e.symm).1; omega
  refine ⟨kept_row h.zb hg (hne _ (by omega)), kept_row h.ab hg (hne _ (by omega)), h.oL.kept hg ?_, hown, ?_, h.lo, Nat.lt_of_lt_of_le h.sz hg.size⟩
  · cases hv : vL.ownBlock with
    | none => exact .inl rfl
    | some k => exact .inr (fun e => h.ap k hv e.symm)
  · intro g2 hg2 e
    rcases hat with h1 | h1
    · exact h.ap g2 hg2 (by rw [← h1]; exact e)
    · rw [h1] at e
      have := Option.some.inj e
      have := (h.geL g2 hg2).2
      omega
set_option maxRecDepth 100000 in
theorem AG.putL (h : AG W Z B r q cp uL uC vL vC L C w) : AG W Z B r q cp vL uC vL vC L C (w.setCell ⟨B, 3, none⟩ vL) := by
  have g := grown_setCell w ⟨B, 3, none⟩ vL
  have hlo := h.lo
  refine ⟨kept_row h.zb g (fun e => by have : Z = B := Option.some.inj e; omega), ?_, own_otherA h.oL g (Nat.lt_succ_self _), own_otherA h.oC g (Nat.lt_succ_self _), h.ap, h.lo, Nat.lt_of_lt_of_le h.sz g.size⟩
  have h1 := heap_setCell_same w B 3 _ _ vL h.ab
  rw [h1]; rfl
set_option maxRecDepth 100000 in
theorem AG.putC (h : AG W Z B r q cp uL uC vL vC L C w) : AG W Z B r q cp uL vC vL vC L C (w.setCell ⟨B, 4, none⟩ vC) := by
  have g := grown_setCell w ⟨B, 4, none⟩ vC
  have hlo := h.lo
  refine ⟨kept_row h.zb g (fun e => by have : Z = B := Option.some.inj e; omega), ?_, own_otherA h.oL g (Nat.lt_succ_self _), own_otherA h.oC g (Nat.lt_succ_self _), h.ap, h.lo, Nat.lt_of_lt_of_le h.sz g.size⟩
  have h1 := heap_setCell_same w B 4 _ _ vC h.ab
  rw [h1]; rfl
set_option maxRecDepth 100000 in
theorem AG.cells (h : AG W Z B r q cp uL uC vL vC L C w) : w.cell? ⟨B, 0, none⟩ = some (.int .i64 r) ∧ w.cell? ⟨B, 1, none⟩ = some (.int .i64 q) ∧ w.cell? ⟨B, 2, none⟩ = some (.bool cp) ∧ w.cell? ⟨B, 3, none⟩ = some uL ∧ w.cell? ⟨B, 4, none⟩ = some uC := by
  refine ⟨?_, ?_, ?_, ?_, ?_⟩ <;> (rw [cell_of_row _ _ _ _ _ _ h.ab]; rfl)
set_option maxRecDepth 100000 in
theorem AG.ok (h : AG W Z B r q cp uL uC vL vC L C w) {pL pC : Option Addr} {cL cC : Nat} (h1 : vL = .slice pL L.length cL) (h2 : vC = .slice pC C.length cC) : AdOk w (B < ·) ⟨r, q, cp, L, C, pL, cL, pC, cC⟩ := by
  obtain ⟨p1, c1, e1, n1, m1⟩ := own_shape h.oL
  obtain ⟨p2, c2, e2, n2, m2⟩ := own_shape h.oC
  have r1 := rdf_of_own h.oL
  have r2 := rdf_of_own h.oC
  subst h1
  subst h2
  injection e1 with a1 a2 a3
  injection e2 with b1 b2 b3
  subst a3
  subst b3
  exact ⟨r1.mono fun b hb => hb, r2.mono fun b hb => hb, ⟨n1, m1⟩, ⟨n2, m2⟩⟩
end
section
variable {W w w1 : World} {S : Nat} {l : List Nat} {p : Option Addr} {c pos : Nat}
end
end Go.Proofs.Ytnpkihioklpnmaa

/- advert: the reader's advert: the fields that the bytes say. -/
namespace Go.Proofs.Ytnpkihioklpnmaa
open Go.RowKit Bs
set_option maxRecDepth 100000 in
theorem ag_start {W w : World} {Z : Nat} {r q : Int} {cp : Bool} (hz : w.heap[Z]? = some (.cells #[.int .i64 0, .int .i64 0, .bool false, .slice none 0 0, .slice none 0 0] 38 (0, 0))) (h1 : W.heap.size ≤ Z) (h2 : Z < w.heap.size) :
    AG W Z w.heap.size r q cp (.slice none 0 0) (.slice none 0 0) (.slice none 0 0) (.slice none 0 0) [] [] (w.alloc (.cells #[.int .i64 r, .int .i64 q, .bool cp, .slice none 0 0, .slice none 0 0] 38)) := by
  have g := World.grownBy_alloc w (.cells #[.int .i64 r, .int .i64 q, .bool cp, .slice none 0 0, .slice none 0 0] 38) none
  exact ⟨kept_row hz g (by simp), heap_alloc_new w _, World.ownsRow_nil _ _ _ _, World.ownsRow_nil _ _ _ _, fun g hg => (by cases hg), ⟨h1, h2⟩, by simp⟩
set_option maxRecDepth 100000 in
theorem adv_size : (Try.prog.info? 38).map (·.size) = some 5 := by kernel_rfl
set_option maxRecDepth 100000 in
theorem res_adv {fn : Func} {p : Tmp} (h : fn.results = #[.cell p 38]) (tmps : Array Value) (w : World) (g : Nat) (x y z u v : Value) (hp : tmps.getD p undef = .pointer (some ⟨g, 0, none⟩)) (hg : w.heap[g]? = some (.cells #[x, y, z, u, v] 38 (0, 0))) :
    (results fn tmps).run Try.prog w = .ok (.agg #[x, y, z, u, v]) w :=
  results_cell_row h tmps w g _ _ _ _ hp hg Try.underlying38 rfl adv_size
set_option maxRecDepth 100000 in
theorem row5 {w : World} {b : Nat} {t : TypeId} {x0 x1 x2 x3 x4 : Value} (h : w.heap[b]? = some (.cells #[x0, x1, x2, x3, x4] t (0, 0))) :
    w.cell? ⟨b, 0, none⟩ = some x0 ∧ w.cell? ⟨b, 1, none⟩ = some x1 ∧ w.cell? ⟨b, 2, none⟩ = some x2 ∧ w.cell? ⟨b, 3, none⟩ = some x3 ∧ w.cell? ⟨b, 4, none⟩ = some x4 := by
  refine ⟨?_, ?_, ?_, ?_, ?_⟩ <;> (rw [cell_of_row _ _ _ _ _ _ h]; rfl)
set_option maxRecDepth 100000 in
theorem store5 {w : World} {b : Nat} {t : TypeId} {x0 x1 x2 x3 x4 : Value} (u0 u1 u2 u3 u4 : Value) (h : w.heap[b]? = some (.cells #[x0, x1, x2, x3, x4] t (0, 0))) :
    (((((w.setCell ⟨b, 0, none⟩ u0).setCell ⟨b, 1, none⟩ u1).setCell ⟨b, 2, none⟩ u2).setCell ⟨b, 3, none⟩ u3).setCell ⟨b, 4, none⟩ u4).heap[b]? = some (.cells #[u0, u1, u2, u3, u4] t (0, 0)) ∧
    w.grownBy (((((w.setCell ⟨b, 0, none⟩ u0).setCell ⟨b, 1, none⟩ u1).setCell ⟨b, 2, none⟩ u2).setCell ⟨b, 3, none⟩ u3).setCell ⟨b, 4, none⟩ u4) (some b) := by
  have h1 := heap_setCell_same w b 0 _ _ u0 h
  have h2 := heap_setCell_same _ b 1 _ _ u1 h1
  have h3 := heap_setCell_same _ b 2 _ _ u2 h2
  have h4 := heap_setCell_same _ b 3 _ _ u3 h3
  have h5 := heap_setCell_same _ b 4 _ _ u4 h4
  refine ⟨by rw [h5]; rfl, ?_⟩
  have g1 := grown_setCell w ⟨b, 0, none⟩ u0
  have g2 := grown_setCell (w.setCell ⟨b, 0, none⟩ u0) ⟨b, 1, none⟩ u1
  have g3 := grown_setCell ((w.setCell ⟨b, 0, none⟩ u0).setCell ⟨b, 1, none⟩ u1) ⟨b, 2, none⟩ u2
  have g4 := grown_setCell (((w.setCell ⟨b, 0, none⟩ u0).setCell ⟨b, 1, none⟩ u1).setCell ⟨b, 2, none⟩ u2) ⟨b, 3, none⟩ u3
  have g5 := grown_setCell ((((w.setCell ⟨b, 0, none⟩ u0).setCell ⟨b, 1, none⟩ u1).setCell ⟨b, 2, none⟩ u2).setCell ⟨b, 3, none⟩ u3) ⟨b, 4, none⟩ u4
  exact grown_trans (grown_trans (grown_trans (grown_trans g1 g2) g3) g4) g5
end Go.Proofs.Ytnpkihioklpnmaa
