/- Parts of the proof, packed: AdVal, IoZeros, IoTake, IoAppend, IoAppendR, IoSlice, IoJoin, IoAlign, IoCheck. -/
import Derived.Test.YtnpkihioklpnmaaMg6
import Derived.Test.YtnpkihioklpnmaaMg1
import Derived.Deep.CutRange
import Derived.BigQuiet
import Derived.Test.YtnpkihioklpnmaaMg2
import Derived.Deep.OwnRows
import Derived.WalkMore
/- advert.Valid. -/
namespace Go.Proofs.Ytnpkihioklpnmaa
open Go.RowKit Bs
set_option maxRecDepth 100000 in
theorem vl_dec (n : Int) : vl n = decide (n = 8 ∨ n = 16 ∨ n = 32 ∨ n = 64) := by
  rw [Bool.eq_iff_iff]
  unfold vl
  simp [or_assoc]
set_option maxRecDepth 100000 in
theorem awi_any (n lo hi : Int) (w : World) :
    Calls Try.prog 79 #[.int .i64 n, .int .i64 lo, .int .i64 hi] w fun e w' => e = .returned (.bool (decide (lo ≤ n ∧ n ≤ hi))) ∧ w = w' := by
  by_cases h1 : lo ≤ n
  · by_cases h2 : n ≤ hi
    · rw [decide_eq_true (show lo ≤ n ∧ n ≤ hi from ⟨h1, h2⟩)]
      go_enter Try.func79, Try.ntmps79
      go_wp2_with fail
      go_ret
      exact ⟨rfl, rfl⟩
    · rw [decide_eq_false (show ¬ (lo ≤ n ∧ n ≤ hi) from fun h => h2 h.2)]
      go_enter Try.func79, Try.ntmps79
      go_wp2_with fail
      go_ret
      exact ⟨rfl, rfl⟩
  · rw [decide_eq_false (show ¬ (lo ≤ n ∧ n ≤ hi) from fun h => h1 h.1)]
    go_enter Try.func79, Try.ntmps79
    go_wp2_with fail
    go_ret
    exact ⟨rfl, rfl⟩
set_option maxRecDepth 100000 in
theorem row3 {w : World} {b : Nat} {t : TypeId} {x y z : Value} (h : w.heap[b]? = some (.cells #[x, y, z] t (0, 0))) : w.cell? ⟨b, 0, none⟩ = some x ∧ w.cell? ⟨b, 1, none⟩ = some y ∧ w.cell? ⟨b, 2, none⟩ = some z := by
  refine ⟨?_, ?_, ?_⟩ <;> (rw [cell_of_row _ _ _ _ _ _ h]; rfl)
set_option maxRecDepth 100000 in
set_option maxHeartbeats 3200000 in
theorem avl_any (L : List T3) (r : Int) (p : Option Addr) (c : Nat) (q : Nat → Prop) (w : World) (hR : Rd3 w q (.slice p L.length c) L) (hm : L.length ≤ 9223372036854775807) :
    Calls Try.prog 80 #[.slice p L.length c, .int .i64 r] w fun e w' => e = .returned (.bool (vRe r 0 L)) ∧ w.grownBy w' none := by
  have HR := Lib.hid hR
  clear hR
  obtain ⟨X, hX⟩ : ∃ X, vRe r 0 L = X := ⟨_, rfl⟩
  rw [hX]
  have I0 : Hid (vRe r (lastA 0 L 0) (L.drop 0) = X) := Lib.hid (by rw [lastA_zero]; exact hX)
  have G0 : Hid (w.grownBy w none) := Lib.hid (grown_refl _ _)
  clear hX
  go_enter Try.func80, Try.ntmps80
  go_wp2_with fail
  go_loopw [5, 10] (fun la a wr => ∃ k : Nat, k ≤ L.length ∧ a = .int .i64 (k : Int) ∧ la = .int .i64 (lastA 0 L k) ∧ Hid (vRe r (lastA 0 L k) (L.drop k) = X) ∧ Hid (w.grownBy wr none)) (fun _ a _ => L.length - (RowKit.intOf a).toNat)
  case atStart => exact ⟨0, Nat.zero_le _, rfl, by rw [lastA_zero], I0, G0⟩
  case round =>
    obtain ⟨w2, rfl⟩ : ∃ w2, w2 = wr := ⟨_, rfl⟩
    obtain ⟨k, hk, rfl, rfl, HI, HG⟩ := hrel
    clear I0 G0
    by_cases hlt : k < L.length
    · obtain ⟨-, b, off, rfl, -, hc⟩ := rd3_cells (HR.out.keep HG.out) (by omega)
      obtain ⟨x, hx⟩ : ∃ x, L[k]? = some x := ⟨_, List.getElem?_eq_getElem hlt⟩
      obtain ⟨a0, a1, a2⟩ := hc k x hx
      have HS := Lib.hid (HI.out.symm.trans (vRe_step (r := r) (d := 0) hx))
      have HLA := Lib.hid (lastA_succ (d := 0) hx)
      have HBX := Lib.hid (heap_alloc_new w2 (.cells #[.int .i64 x.a, .int .i64 x.b, .int .i64 x.c] 73))
      have HGA := Lib.hid (World.grownBy_alloc w2 (.cells #[.int .i64 x.a, .int .i64 x.b, .int .i64 x.c] 73) none)
      clear hc hx
      go_upto_region 5 with fail
      clear a0 a1 a2
      generalize w2.alloc _ = w3 at *
      have HG3 := Lib.hid (grown_trans HG.out HGA.out)
      obtain ⟨d0, d1, d2⟩ := row3 HBX.out
      obtain ⟨t, ht⟩ : ∃ t, lastA 0 L k = t := ⟨_, rfl⟩
      rw [ht] at HS ⊢
      clear ht HI HG HGA
      by_cases h1 : x.a ≤ t
      · have hX : X = false := by rw [HS.out, show okRe r t x = false by unfold okRe; exact decide_eq_false (fun h => by omega)]; rfl
        subst hX
        go_wp2_with fail
        go_ret
        exact ⟨rfl, HG3.out⟩
      · by_cases h2 : 99 < x.a
        · have hX : X = false := by rw [HS.out, show okRe r t x = false by unfold okRe; exact decide_eq_false (fun h => by omega)]; rfl
          subst hX
          go_wp2_with fail
          go_ret
          exact ⟨rfl, HG3.out⟩
        · by_cases h3 : x.a = r
          · have hX : X = false := by rw [HS.out, show okRe r t x = false by unfold okRe; exact decide_eq_false (fun h => h.2.2.1 h3)]; rfl
            have h3' : (x.a == r) = true := by simpa using h3
            clear h3
            subst hX
            go_wp2_with fail
            go_ret
            exact ⟨rfl, HG3.out⟩
          · have h3' : (x.a == r) = false := by simpa using h3
            have H3 := Lib.hid h3
            clear h3
            obtain ⟨v1, hv1⟩ : ∃ v1, decide ((1 : Int) ≤ x.b ∧ x.b ≤ 1000) = v1 := ⟨_, rfl⟩
            obtain ⟨v2, hv2⟩ : ∃ v2, decide ((0 : Int) ≤ x.c ∧ x.c ≤ 1000) = v2 := ⟨_, rfl⟩
            have HV1 := Lib.hid hv1
            have HV2 := Lib.hid hv2
            have HO : Hid (okRe r t x = (v1 && v2)) := Lib.hid (by
              rw [← hv1, ← hv2, ← Bool.decide_and]
              unfold okRe
              exact decide_eq_decide.2 ⟨fun h => ⟨h.2.2.2.1, h.2.2.2.2⟩, fun h => ⟨by omega, by omega, H3.out, h.1, h.2⟩⟩)
            clear hv1 hv2
            go_wp2_with fail
            refine (awi_any x.b 1 1000 _).mono ?_
            rintro e w' ⟨rfl, rfl⟩
            rw [HV1.out]
            cases v1 with
            | false =>
              have hX : X = false := by rw [HS.out, HO.out]; rfl
              subst hX
              go_wp2_with fail
              go_ret
              exact ⟨rfl, HG3.out⟩
            | true =>
              go_wp2_with fail
              refine (awi_any x.c 0 1000 _).mono ?_
              rintro e w' ⟨rfl, rfl⟩
              rw [HV2.out]
              cases v2 with
              | false =>
                have hX : X = false := by rw [HS.out, HO.out]; rfl
                subst hX
                go_wp2_with fail
                go_ret
                exact ⟨rfl, HG3.out⟩
              | true =>
                have HI2 : Hid (vRe r (lastA 0 L (k + 1)) (L.drop (k + 1)) = X) := Lib.hid (by rw [HS.out, HO.out]; rfl)
                have hl2 : Value.int .i64 x.a = .int .i64 (lastA 0 L (k + 1)) := by rw [HLA.out]
                have HL2 := Lib.hid hl2
                clear hl2
                go_wp2_with fail
                exact ⟨⟨k + 1, by omega, congrArg _ (by omega), HL2.out, HI2, HG3⟩, by simp only [RowKit.intOf]; omega⟩
    · obtain rfl : k = L.length := by omega
      obtain rfl : X = true := by rw [← HI.out]; exact vRe_end
      go_wp2_with fail
      go_ret
      exact ⟨rfl, HG.out⟩
set_option maxRecDepth 100000 in
set_option maxHeartbeats 3200000 in
theorem avc_any (L : List T3) (p : Option Addr) (c : Nat) (q : Nat → Prop) (w : World) (hR : Rd3 w q (.slice p L.length c) L) (hm : L.length ≤ 9223372036854775807) :
    Calls Try.prog 81 #[.slice p L.length c] w fun e w' => e = .returned (.bool (vCm (-1) L)) ∧ w.grownBy w' none := by
  have HR := Lib.hid hR
  clear hR
  obtain ⟨X, hX⟩ : ∃ X, vCm (-1) L = X := ⟨_, rfl⟩
  rw [hX]
  have I0 : Hid (vCm (lastA (-1) L 0) (L.drop 0) = X) := Lib.hid (by rw [lastA_zero]; exact hX)
  have G0 : Hid (w.grownBy w none) := Lib.hid (grown_refl _ _)
  clear hX
  go_enter Try.func81, Try.ntmps81
  go_wp2_with fail
  go_loopw [3, 8] (fun la a wr => ∃ k : Nat, k ≤ L.length ∧ a = .int .i64 (k : Int) ∧ la = .int .i64 (lastA (-1) L k) ∧ Hid (vCm (lastA (-1) L k) (L.drop k) = X) ∧ Hid (w.grownBy wr none)) (fun _ a _ => L.length - (RowKit.intOf a).toNat)
  case atStart => exact ⟨0, Nat.zero_le _, rfl, by rw [lastA_zero], I0, G0⟩
  case round =>
    obtain ⟨w2, rfl⟩ : ∃ w2, w2 = wr := ⟨_, rfl⟩
    obtain ⟨k, hk, rfl, rfl, HI, HG⟩ := hrel
    clear I0 G0
    by_cases hlt : k < L.length
    · obtain ⟨-, b, off, rfl, -, hc⟩ := rd3_cells (HR.out.keep HG.out) (by omega)
      obtain ⟨x, hx⟩ : ∃ x, L[k]? = some x := ⟨_, List.getElem?_eq_getElem hlt⟩
      obtain ⟨a0, a1, a2⟩ := hc k x hx
      have HS := Lib.hid (HI.out.symm.trans (vCm_step (d := -1) hx))
      have HLA := Lib.hid (lastA_succ (d := -1) hx)
      have HBX := Lib.hid (heap_alloc_new w2 (.cells #[.int .i64 x.a, .int .i64 x.b, .int .i64 x.c] 62))
      have HGA := Lib.hid (World.grownBy_alloc w2 (.cells #[.int .i64 x.a, .int .i64 x.b, .int .i64 x.c] 62) none)
      clear hc hx
      go_upto_region 5 with fail
      clear a0 a1 a2
      generalize w2.alloc _ = w3 at *
      have HG3 := Lib.hid (grown_trans HG.out HGA.out)
      obtain ⟨d0, d1, d2⟩ := row3 HBX.out
      obtain ⟨t, ht⟩ : ∃ t, lastA (-1) L k = t := ⟨_, rfl⟩
      rw [ht] at HS ⊢
      clear ht HI HG HGA
      by_cases h1 : x.a ≤ t
      · have hX : X = false := by rw [HS.out, show okCm t x = false by unfold okCm; exact decide_eq_false (fun h => by omega)]; rfl
        subst hX
        go_wp2_with fail
        go_ret
        exact ⟨rfl, HG3.out⟩
      · by_cases h2 : 7 < x.a
        · have hX : X = false := by rw [HS.out, show okCm t x = false by unfold okCm; exact decide_eq_false (fun h => by omega)]; rfl
          subst hX
          go_wp2_with fail
          go_ret
          exact ⟨rfl, HG3.out⟩
        · obtain ⟨v1, hv1⟩ : ∃ v1, decide ((1 : Int) ≤ x.b ∧ x.b ≤ 256) = v1 := ⟨_, rfl⟩
          obtain ⟨v2, hv2⟩ : ∃ v2, decide (x.c = 8 ∨ x.c = 16 ∨ x.c = 32 ∨ x.c = 64) = v2 := ⟨_, rfl⟩
          have HV1 := Lib.hid hv1
          have HV2 : Hid (vl x.c = v2) := Lib.hid (by rw [← hv2]; exact vl_dec x.c)
          have HO : Hid (okCm t x = (v1 && v2)) := Lib.hid (by
            rw [← hv1, ← hv2, ← Bool.decide_and]
            unfold okCm
            exact decide_eq_decide.2 ⟨fun h => ⟨h.2.2.1, h.2.2.2⟩, fun h => ⟨by omega, by omega, h.1, h.2⟩⟩)
          clear hv1 hv2
          go_wp2_with fail
          refine (awi_any x.b 1 256 _).mono ?_
          rintro e w' ⟨rfl, rfl⟩
          rw [HV1.out]
          cases v1 with
          | false =>
            have hX : X = false := by rw [HS.out, HO.out]; rfl
            subst hX
            go_wp2_with fail
            go_ret
            exact ⟨rfl, HG3.out⟩
          | true =>
            go_wp2_with fail
            refine (vlp_any x.c _).mono ?_
            rintro e w' ⟨rfl, rfl⟩
            rw [HV2.out]
            cases v2 with
            | false =>
              have hX : X = false := by rw [HS.out, HO.out]; rfl
              subst hX
              go_wp2_with fail
              go_ret
              exact ⟨rfl, HG3.out⟩
            | true =>
              have HI2 : Hid (vCm (lastA (-1) L (k + 1)) (L.drop (k + 1)) = X) := Lib.hid (by rw [HS.out, HO.out]; rfl)
              have hl2 : Value.int .i64 x.a = .int .i64 (lastA (-1) L (k + 1)) := by rw [HLA.out]
              have HL2 := Lib.hid hl2
              clear hl2
              go_wp2_with fail
              exact ⟨⟨k + 1, by omega, congrArg _ (by omega), HL2.out, HI2, HG3⟩, by simp only [RowKit.intOf]; omega⟩
    · obtain rfl : k = L.length := by omega
      obtain rfl : X = true := by rw [← HI.out]; exact vCm_end
      go_wp2_with fail
      go_ret
      exact ⟨rfl, HG.out⟩
/-- The box of an advert. -/
def adC (A : Ad) : Array Value := #[.int .i64 A.r, .int .i64 A.q, .bool A.cp, .slice A.pL A.L.length A.cL, .slice A.pC A.C.length A.cC]
set_option maxRecDepth 100000 in
theorem ad_facts {w : World} {b : Nat} {A : Ad} (h : w.heap[b]? = some (.cells (adC A) 38 (0, 0))) :
    w.cell? ⟨b, 0, none⟩ = some (.int .i64 A.r) ∧ w.cell? ⟨b, 1, none⟩ = some (.int .i64 A.q) ∧ w.cell? ⟨b, 2, none⟩ = some (.bool A.cp) ∧ w.cell? ⟨b, 3, none⟩ = some (.slice A.pL A.L.length A.cL) ∧ w.cell? ⟨b, 4, none⟩ = some (.slice A.pC A.C.length A.cC) := by
  refine ⟨?_, ?_, ?_, ?_, ?_⟩ <;> (rw [cell_of_row _ _ _ _ _ _ h]; rfl)
set_option maxRecDepth 100000 in
set_option maxHeartbeats 3200000 in
theorem avalid_any (A : Ad) (q : Nat → Prop) (w : World) (hA : AdOk w q A) :
    Calls Try.prog 49 #[A.val] w fun e w' => e = .returned (.bool (vAd A)) ∧ w.grownBy w' none := by
  have hm1 := Nat.le_trans hA.hl.1 hA.hl.2
  have hm2 := Nat.le_trans hA.hc.1 hA.hc.2
  have hb := heap_alloc_new w (.cells (adC A) 38)
  have hg := World.grownBy_alloc w (.cells (adC A) 38) none
  have HB := Lib.hid (And.intro hb (And.intro hg (hA.keep hg)))
  clear hb hg hA
  obtain ⟨X, hX⟩ : ∃ X, vAd A = X := ⟨_, rfl⟩
  have HX := Lib.hid hX
  rw [hX]
  clear hX
  unfold Ad.val
  obtain ⟨v1, hv1⟩ : ∃ v, decide ((1 : Int) ≤ A.r ∧ A.r ≤ 99) = v := ⟨_, rfl⟩
  obtain ⟨v2, hv2⟩ : ∃ v, decide ((1 : Int) ≤ A.q ∧ A.q ≤ 1000000) = v := ⟨_, rfl⟩
  obtain ⟨v3, hv3⟩ : ∃ v, vRe A.r 0 A.L = v := ⟨_, rfl⟩
  obtain ⟨v4, hv4⟩ : ∃ v, vCm (-1) A.C = v := ⟨_, rfl⟩
  have HV := Lib.hid (And.intro hv1 (And.intro hv2 (And.intro hv3 hv4)))
  have HS : Hid (X = ((v1 && (v2 && decide (A.L.length ≤ 23))) && (v3 && (decide (A.C.length ≤ 8) && v4)))) := Lib.hid (by
    rw [← HX.out]; unfold vAd vHd vClaims; rw [hv3, hv4, ← hv1, ← hv2, Bool.decide_and, Bool.decide_and (p := (1 : Int) ≤ A.q ∧ A.q ≤ 1000000)])
  clear hv1 hv2 hv3 hv4
  go_enter Try.func49, Try.ntmps49
  go_upto_region 1 with fail
  unfold adC at HB
  generalize w.alloc _ = w0 at *
  obtain ⟨c0, c1, c2, c3, c4⟩ := ad_facts (A := A) HB.out.1
  go_wp2_with fail
  refine (awi_any A.r 1 99 _).mono ?_
  rintro e w' ⟨rfl, rfl⟩
  rw [HV.out.1]
  cases v1 with
  | false =>
    have hX : X = false := by rw [HS.out]; rfl
    subst hX
    go_wp2_with fail
    go_ret
    exact ⟨rfl, HB.out.2.1⟩
  | true =>
    go_wp2_with fail
    refine (awi_any A.q 1 1000000 _).mono ?_
    rintro e w' ⟨rfl, rfl⟩
    rw [HV.out.2.1]
    cases v2 with
    | false =>
      have hX : X = false := by rw [HS.out]; rfl
      subst hX
      go_wp2_with fail
      go_ret
      exact ⟨rfl, HB.out.2.1⟩
    | true =>
      by_cases h1 : 23 < A.L.length
      · have hX : X = false := by rw [HS.out, decide_eq_false (show ¬ A.L.length ≤ 23 by omega)]; rfl
        have h1' : (23 : Int) < (A.L.length : Int) := by omega
        subst hX
        go_wp2_with fail
        go_ret
        exact ⟨rfl, HB.out.2.1⟩
      · have h1' : ¬ (23 : Int) < (A.L.length : Int) := by omega
        by_cases h2 : 8 < A.C.length
        · have hX : X = false := by rw [HS.out, decide_eq_false (show ¬ A.C.length ≤ 8 by omega)]; simp
          have h2' : (8 : Int) < (A.C.length : Int) := by omega
          subst hX
          go_wp2_with fail
          go_ret
          exact ⟨rfl, HB.out.2.1⟩
        · have h2' : ¬ (8 : Int) < (A.C.length : Int) := by omega
          have HS2 : Hid (X = (v3 && v4)) := Lib.hid (by rw [HS.out, decide_eq_true (show A.L.length ≤ 23 by omega), decide_eq_true (show A.C.length ≤ 8 by omega)]; rfl)
          go_wp2_with fail
          refine (avl_any A.L A.r _ _ _ _ HB.out.2.2.l hm1).mono ?_
          rintro e w1 ⟨rfl, g1⟩
          rw [HV.out.2.2.1]
          have HB1 := Lib.hid (And.intro (kept_row HB.out.1 g1 (by simp)) (And.intro (grown_trans HB.out.2.1 g1) (HB.out.2.2.keep g1)))
          clear g1 c0 c1 c2 c3 c4
          obtain ⟨c0, c1, c2, c3, c4⟩ := ad_facts (A := A) HB1.out.1
          cases v3 with
          | false =>
            have hX : X = false := by rw [HS2.out]; rfl
            subst hX
            go_wp2_with fail
            go_ret
            exact ⟨rfl, HB1.out.2.1⟩
          | true =>
            have hX : X = v4 := by rw [HS2.out]; rfl
            subst hX
            go_wp2_with fail
            refine (avc_any A.C _ _ _ _ HB1.out.2.2.c hm2).mono ?_
            rintro e w2 ⟨rfl, g2⟩
            rw [HV.out.2.2.2]
            have HG := Lib.hid (grown_trans HB1.out.2.1 g2)
            clear g2 c0 c1 c2 c3 c4
            go_wp2_with fail
            go_ret
            exact ⟨rfl, HG.out⟩
end Go.Proofs.Ytnpkihioklpnmaa

/- The program's zeros; copy into a row of the call's own. -/
namespace Go.Proofs.Ytnpkihioklpnmaa
open Go.RowKit Bs
set_option maxRecDepth 100000 in
theorem made_zero (N : Nat) : madeCells #[Value.int .u8 0] N = ((List.replicate N 0).map nv).toArray := by
  unfold madeCells
  apply Array.ext'
  rw [Array.toList_map, Array.toList_range, List.map_replicate]
  apply List.ext_getElem?
  intro i
  rw [List.getElem?_map, List.getElem?_replicate]
  by_cases h : i < N
  · rw [List.getElem?_range h, if_pos h]
    simp [nv, Nat.mod_one]
  · rw [List.getElem?_eq_none (by simpa using h), if_neg h]; rfl
/-- A stream of zero bits: its block is new. -/
def ZerosPost (n : Nat) (w : World) (e : Ending) (w' : World) : Prop :=
  ∃ g, e = .returned (.agg #[.slice (some ⟨g, 0, none⟩) ((n + 7) / 8) ((n + 7) / 8), .int .i64 (n : Int)]) ∧ w.heap.size ≤ g ∧ Blk w' g (List.replicate ((n + 7) / 8) 0) ∧ w.grownBy w' none
set_option maxRecDepth 100000 in
/-- make of bytes, as a law for the walk: the block a letter. -/
theorem wpList_make_bytes (w : World) {ops : Array Oper} {rest : List Oper} {o : Oper} {a : Act} {Q : Exit → Act → World → Prop} (hg : o.guard = none) (l c : Operand) (hop : o.op = Op.makeSlice 99 l c) (M : Nat)
    (hl : a.eval l = .int .i64 (M : Int)) (hc : a.eval c = .int .i64 (M : Int)) (hM : M ≤ 100000)
    (hK : ∀ g w', w.heap.size ≤ g → Blk w' g (List.replicate M 0) → w.grownBy w' none → wpList Try.prog ops Q rest (a.put o.dst (.slice (some ⟨g, 0, none⟩) M M)) w') : wpList Try.prog ops Q (o :: rest) a w := by
  obtain ⟨i0, hi, hz0, hz1, hz2⟩ := info_parts info_u8
  refine wpList_make_row w hg l c 99 hop 5 i0 (.int .u8 0) Try.underlying99 hi hz0 hz1 rfl .i64 .i64 M hl hc (by rw [hz2]; omega) (by omega) ?_
  refine hK w.heap.size _ (Nat.le_refl _) ?_ (World.grownBy_alloc w _ _)
  refine (heap_alloc_new w _).trans ?_
  rw [made_zero]
set_option maxRecDepth 100000 in
theorem zeros_fin {w w3 : World} {n M g : Nat} (hrow : w3.heap[w.heap.size]? = some (.cells #[.slice none 0 0, .int .i64 0] 123 (0, 0))) (hg : w.heap.size + 1 ≤ g) (hB : Blk w3 g (List.replicate M 0)) (hgr : w.grownBy w3 none) (hM : M = (n + 7) / 8) :
    (((w3.setCell ⟨w.heap.size, 0, none⟩ (.slice (some ⟨g, 0, none⟩) M M)).setCell ⟨w.heap.size, 1, none⟩ (.int .i64 (n : Int)))).heap[w.heap.size]? = some (.cells #[.slice (some ⟨g, 0, none⟩) M M, .int .i64 (n : Int)] 123 (0, 0)) ∧
      ZerosPost n w (.returned (.agg #[.slice (some ⟨g, 0, none⟩) M M, .int .i64 (n : Int)])) ((w3.setCell ⟨w.heap.size, 0, none⟩ (.slice (some ⟨g, 0, none⟩) M M)).setCell ⟨w.heap.size, 1, none⟩ (.int .i64 (n : Int))) := by
  subst hM
  have gr := grown_store2 w3 w.heap.size (.slice (some ⟨g, 0, none⟩) ((n + 7) / 8) ((n + 7) / 8)) (.int .i64 (n : Int))
  exact ⟨store2 hrow, g, rfl, by omega, hB.grown gr (by intro e; have := Option.some.inj e; omega), grown_new hgr gr (Nat.le_refl _)⟩
end Go.Proofs.Ytnpkihioklpnmaa

/- Take, of the program and of the reference. -/
namespace Go.Proofs.Ytnpkihioklpnmaa
open Go.RowKit Bs
/-- What Take returns. -/
def takeV (l : List Nat) (n a k : Int) : Nat × Int :=
  if vs l n = false then (0, 1) else if vw k = false then (0, 2) else if a < 0 then (0, 2) else if n - k < a then (0, 20) else (num (bt l) a.toNat k.toNat, 0)
set_option maxRecDepth 100000 in
theorem takeV_inv {l : List Nat} {n a k : Int} (h : vs l n = false) : takeV l n a k = (0, 1) := by unfold takeV; rw [if_pos h]
set_option maxRecDepth 100000 in
theorem takeV_width {l : List Nat} {n a k : Int} (h : vs l n = true) (h2 : vw k = false) : takeV l n a k = (0, 2) := by unfold takeV; rw [if_neg (by simp [h]), if_pos h2]
set_option maxRecDepth 100000 in
theorem takeV_neg {l : List Nat} {n a k : Int} (h : vs l n = true) (h2 : vw k = true) (h3 : a < 0) : takeV l n a k = (0, 2) := by unfold takeV; rw [if_neg (by simp [h]), if_neg (by simp [h2]), if_pos h3]
set_option maxRecDepth 100000 in
theorem takeV_short {l : List Nat} {n a k : Int} (h : vs l n = true) (h2 : vw k = true) (h3 : ¬ a < 0) (h4 : n - k < a) : takeV l n a k = (0, 20) := by unfold takeV; rw [if_neg (by simp [h]), if_neg (by simp [h2]), if_neg h3, if_pos h4]
set_option maxRecDepth 100000 in
theorem takeV_ok {l : List Nat} {n a k : Int} (h : vs l n = true) (h2 : vw k = true) (h3 : ¬ a < 0) (h4 : ¬ n - k < a) : takeV l n a k = (num (bt l) a.toNat k.toNat, 0) := by unfold takeV; rw [if_neg (by simp [h]), if_neg (by simp [h2]), if_neg h3, if_neg h4]
def TakePost (l : List Nat) (n a k : Int) (w : World) (e : Ending) (w' : World) : Prop := e = .returned (.tuple #[.int .u64 (((takeV l n a k).1 : Nat) : Int), .int .i64 (takeV l n a k).2]) ∧ w.grownBy w' none
set_option maxRecDepth 100000 in
theorem take_end {l : List Nat} {n a k : Int} {x : Nat} {y : Int} {w w' : World} (h : takeV l n a k = (x, y)) (g : w.grownBy w' none) : TakePost l n a k w (.returned (.tuple #[.int .u64 (x : Int), .int .i64 y])) w' := ⟨by rw [h], g⟩
set_option maxRecDepth 100000 in
theorem vw_nat {k : Int} (h : vw k = true) : ∃ K : Nat, k = (K : Int) ∧ K ≤ 64 := by
  unfold vw at h
  simp at h
  exact ⟨k.toNat, by omega, by omega⟩
set_option maxRecDepth 100000 in
theorem vs_bits {l : List Nat} {N : Nat} (h : vs l (N : Int) = true) : N ≤ 8192 ∧ l.length = (N + 7) / 8 := ⟨(vs_iff.1 h).1, (vs_iff.1 h).2.1⟩
set_option maxRecDepth 100000 in
/-- One block laid. -/
theorem one_box (w : World) (A : Array Value) (t : TypeId) : (w.alloc (.cells A t)).heap[w.heap.size]? = some (.cells A t (0, 0)) ∧ w.grownBy (w.alloc (.cells A t)) none := ⟨heap_alloc_new w _, World.grownBy_alloc w _ _⟩
set_option maxRecDepth 100000 in
theorem tk_word (v b : Nat) (hb : b ≤ 1) (hv : v * 2 + 2 ≤ 18446744073709551616) : bits .or .u64 (IntKind.u64.wrap ((v : Int) * 2)) (b : Int) = ((2 * v + b : Nat) : Int) := by
  rw [show IntKind.u64.wrap ((v : Int) * 2) = ((v * 2 : Nat) : Int) by rw [IntKind.wrap_u64]; omega, orU _ _ (u64_mk (by omega)) (u64_mk (by omega))]
  rw [nat_join 1 (v * 2) b (by omega) (by omega)]
  congr 1; omega
set_option maxRecDepth 100000 in
theorem tk_step {l : List Nat} {a j : Nat} (hj : j < 64) : bits .or .u64 (IntKind.u64.wrap (((num (bt l) a j : Nat) : Int) * 2)) (((bt l (a + j)).toNat : Nat) : Int) = ((num (bt l) a (j + 1) : Nat) : Int) := by
  have h1 := num_lt (bt l) a j
  have h2 : 2 ^ (j + 1) ≤ 2 ^ 64 := Nat.pow_le_pow_right (by decide) hj
  rw [Nat.pow_succ] at h2
  rw [tk_word _ _ (Bool.toNat_le _) (by have h3 : (2 : Nat) ^ 64 = 18446744073709551616 := rfl; omega)]
  rfl
end Go.Proofs.Ytnpkihioklpnmaa

/- The program's Append. -/
namespace Go.Proofs.Ytnpkihioklpnmaa
open Go.RowKit Bs
/-- The bits of a stream, then the k lowest bits of v. -/
def apf (l : List Nat) (N v K : Nat) : Nat → Bool := fun i => if i < N then bt l i else v.testBit (K - 1 - (i - N))
/-- What Append returns: the bytes, the number of bits, the error. -/
def apV (l : List Nat) (n : Int) (v : Nat) (k : Int) : List Nat × Int × Int :=
  if vs l n = false then ([], 0, 1) else if vw k = false then ([], 0, 2) else if 2 ^ k.toNat ≤ v then ([], 0, 2) else if 8192 < n + k then ([], 0, 3) else
    (pz (apf l n.toNat v k.toNat) (n.toNat + k.toNat) ((n.toNat + k.toNat + 7) / 8), n + k, 0)
set_option maxRecDepth 100000 in
theorem apV_inv {l : List Nat} {n k : Int} {v : Nat} (h : vs l n = false) : apV l n v k = ([], 0, 1) := by unfold apV; rw [if_pos h]
set_option maxRecDepth 100000 in
theorem apV_width {l : List Nat} {n k : Int} {v : Nat} (h : vs l n = true) (h2 : vw k = false) : apV l n v k = ([], 0, 2) := by unfold apV; rw [if_neg (by simp [h]), if_pos h2]
set_option maxRecDepth 100000 in
theorem apV_value {l : List Nat} {n : Int} {K v : Nat} (h : vs l n = true) (h2 : vw (K : Int) = true) (h3 : 2 ^ K ≤ v) : apV l n v (K : Int) = ([], 0, 2) := by unfold apV; rw [if_neg (by simp [h]), if_neg (by simp [h2]), Int.toNat_natCast, if_pos h3]
set_option maxRecDepth 100000 in
theorem apV_limit {l : List Nat} {N K v : Nat} (h : vs l (N : Int) = true) (h2 : vw (K : Int) = true) (h3 : ¬ 2 ^ K ≤ v) (h4 : 8192 < N + K) : apV l (N : Int) v (K : Int) = ([], 0, 3) := by
  unfold apV; rw [if_neg (by simp [h]), if_neg (by simp [h2]), Int.toNat_natCast, if_neg h3, if_pos (by omega)]
set_option maxRecDepth 100000 in
theorem apV_ok {l : List Nat} {N K v : Nat} (h : vs l (N : Int) = true) (h2 : vw (K : Int) = true) (h3 : ¬ 2 ^ K ≤ v) (h4 : ¬ 8192 < N + K) : apV l (N : Int) v (K : Int) = (pz (apf l N v K) (N + K) ((N + K + 7) / 8), ((N + K : Nat) : Int), 0) := by
  unfold apV; rw [if_neg (by simp [h]), if_neg (by simp [h2]), Int.toNat_natCast, Int.toNat_natCast, if_neg h3, if_neg (by omega)]; rfl
/-- A stream and an error come back. -/
def SPost (r : List Nat × Int × Int) (w : World) (e : Ending) (w' : World) : Prop := StreamErr r.1 r.2.1 r.2.2 w e w'
set_option maxRecDepth 100000 in
theorem SPost.of {r : List Nat × Int × Int} {l : List Nat} {n x : Int} {w w' : World} {e : Ending} (h : r = (l, n, x)) (k : StreamErr l n x w e w') : SPost r w e w' := by subst h; exact k
set_option maxRecDepth 100000 in
theorem sr_nil (w : World) (q : Nat → Prop) (n : Int) : SR w q (.agg #[.slice none 0 0, .int .i64 n]) [] n := ⟨none, 0, rfl, Rd.nil_ _ _ _ _, fun _ => rfl, fun x hx => by cases hx⟩
set_option maxRecDepth 100000 in
theorem err_end {w w2 : World} {b : Nat} {x : Int} (h : w.grownBy w2 none) (hb : w.heap.size ≤ b) : StreamErr [] 0 x w (.returned (.tuple #[.agg #[.slice none 0 0, .int .i64 0], .int .i64 x])) ((w2.setCell ⟨b, 0, none⟩ (.slice none 0 0)).setCell ⟨b, 1, none⟩ (.int .i64 0)) :=
  ⟨_, rfl, sr_nil _ _ _, grown_new h (grown_store2 w2 b _ _) hb⟩
set_option maxRecDepth 100000 in
/-- copy into a block of the call's own. -/
theorem wpList_copy_into {w : World} {ops : Array Oper} {rest : List Oper} {o : Oper} {a : Act} {Q : Exit → Act → World → Prop} (hgd : o.guard = none) (d s : Operand)
    (ho : o.op = .call { callee := .builtin .copy, args := #[d, s], argTypes := #[99, 99] }) (g N c : Nat) (hd : a.eval d = .slice (some ⟨g, 0, none⟩) N c) (p : Option Addr) (k c' : Nat) (hs : a.eval s = .slice p k c')
    (L : List Nat) (hB : Blk w g L) (hL : L.length = N) (l : List Nat) (hk : k = l.length) (q : Nat → Prop) (hR : Rd w q (.slice p k c') (l.map nv)) (hle : l.length ≤ N)
    (h : ∀ w', Blk w' g (l ++ L.drop l.length) → w.grownBy w' (some g) → wpList Try.prog ops Q rest (a.put o.dst (goInt l.length)) w') : wpList Try.prog ops Q (o :: rest) a w := by
  subst hk
  have hsz : (Try.prog.info? 5).map (·.size) = some 1 := by
    obtain ⟨i0, hi, hz0, hz1, hz2⟩ := info_parts info_u8
    rw [hi]; simp [hz1]
  by_cases h0 : l = []
  · subst h0
    refine wpList_copy_nothing hgd d s 99 99 ho 5 Try.underlying99 hsz _ _ _ _ _ _ hd hs (by simp) ?_
    exact h w (by simpa using hB) (grown_refl _ _)
  · obtain ⟨p1, c1, e1, hx⟩ := id hR
    injection e1 with a1 a2 a3
    subst a1
    obtain ⟨b, off, rfl, _, _⟩ := hx (by simpa using h0)
    have hBl : w.heap[g]? = some (.cells (L.map nv).toArray 5 (0, 0)) := hB
    refine wpList_copy_own hgd d s 99 99 ho 5 Try.underlying99 hsz g 0 N c ⟨b, off, none⟩ l.length c' hd hs _ _ hBl (l.map nv) (by rw [List.length_map]; exact (Nat.min_eq_left hle).symm) hR.news (by simp; omega) nv_one ?_
    rw [List.length_map]
    refine h _ ?_ ⟨rfl, rfl, rfl, by simp [World.setRow], fun k _ hk => setRow_other _ _ _ _ (by intro e; exact hk (by rw [e]))⟩
    refine (setRow_heap w g _ _ _ _ hBl).trans ?_
    congr 2
    simp [List.map_drop]
set_option maxRecDepth 100000 in
theorem pz_copy {l : List Nat} {N M : Nat} {f : Nat → Bool} (hl : By l) (hv : vs l (N : Int) = true) (hM : l.length ≤ M) (hf : ∀ i, i < N → f i = bt l i) : l ++ (List.replicate M 0).drop l.length = pz f N M := by
  obtain ⟨h1, h2, h3⟩ := vs_iff.1 hv
  have e := pz_bt l N hl fun i hi hi2 => h3 i hi2 hi
  apply List.ext_getElem?
  intro j
  by_cases hj : j < M
  · rw [pz_at _ _ _ _ hj]
    by_cases hjl : j < l.length
    · rw [List.getElem?_append_left hjl]
      have e2 : l[j]? = (pz (bt l) N l.length)[j]? := congrArg (fun x : List Nat => x[j]?) e
      rw [e2, pz_at _ _ _ _ hjl]
      refine congrArg some (py_congr fun i _ _ => ?_)
      by_cases hi : i < N
      · rw [hf i hi]
      · simp [hi]
    · rw [List.getElem?_append_right (by omega), List.getElem?_drop, List.getElem?_replicate, if_pos (by omega), py_zero f (by omega)]
  · rw [List.getElem?_eq_none (by simp; omega), List.getElem?_eq_none (by rw [pz_len]; omega)]
set_option maxRecDepth 100000 in
theorem ok_end {w w6 : World} {b g M : Nat} {L : List Nat} {T : Int} (hB : Blk w6 g L) (hM : M = L.length) (hL : By L) (hg : w.heap.size ≤ g) (h : w.grownBy w6 none) (hb : w.heap.size ≤ b) (hne : b ≠ g) :
    StreamErr L T 0 w (.returned (.tuple #[.agg #[.slice (some ⟨g, 0, none⟩) M M, .int .i64 T], .int .i64 0])) ((w6.setCell ⟨b, 0, none⟩ (.slice (some ⟨g, 0, none⟩) M M)).setCell ⟨b, 1, none⟩ (.int .i64 T)) := by
  subst hM
  have gr := grown_store2 w6 b (.slice (some ⟨g, 0, none⟩) L.length L.length) (.int .i64 T)
  refine ⟨_, rfl, ⟨some ⟨g, 0, none⟩, L.length, rfl, ?_, (by intro e; cases e), hL⟩, grown_new h gr hb⟩
  exact (hB.grown gr (by intro e; exact hne (Option.some.inj e).symm)).rd _ hg _
/-- Zeros' struct has been laid into a block of its own. -/
structure Made (W : World) (g M : Nat) (T : Int) (L : List Nat) (t : Nat) (w' : World) : Prop where
  blk : Blk w' g L
  row : w'.heap[t]? = some (.cells #[.slice (some ⟨g, 0, none⟩) M M, .int .i64 T] 123 (0, 0))
  gr : W.grownBy w' none
  ne : t ≠ g
  lo : W.heap.size ≤ g
set_option maxRecDepth 100000 in
theorem made_of {W w3 : World} {g M : Nat} {T : Int} {L : List Nat} (hB : Blk w3 g L) (hg : W.heap.size ≤ g) (h : W.grownBy w3 none) :
    Made W g M T L w3.heap.size (w3.alloc (.cells #[.slice (some ⟨g, 0, none⟩) M M, .int .i64 T] 123)) := by
  have hlt := hB.lt
  exact ⟨hB.keep (World.grownBy_alloc w3 _ _), heap_alloc_new w3 _, grown_trans h (World.grownBy_alloc w3 _ _), by omega, hg⟩
set_option maxRecDepth 100000 in
theorem grown_at {W w1 w2 : World} {g : Nat} (h : W.grownBy w1 none) (k : w1.grownBy w2 (some g)) (hb : W.heap.size ≤ g) : W.grownBy w2 none := grown_new h k hb
set_option maxRecDepth 100000 in
theorem Made.next {W w1 w2 : World} {g M t : Nat} {T : Int} {L L' : List Nat} (h : Made W g M T L t w1) (k : w1.grownBy w2 (some g)) (hB : Blk w2 g L') : Made W g M T L' t w2 :=
  ⟨hB, kept_row h.row k (by intro e; exact h.ne (Option.some.inj e)), grown_at h.gr k h.lo, h.ne, h.lo⟩
set_option maxRecDepth 100000 in
theorem apf_low {l : List Nat} {N v K : Nat} : ∀ i, i < N → apf l N v K i = bt l i := fun i hi => by unfold apf; rw [if_pos hi]
set_option maxRecDepth 100000 in
theorem apf_high {l : List Nat} {N v K : Nat} : ∀ t, t < K → apf l N v K (N + t) = v.testBit (K - 1 - t) := fun t _ => by
  unfold apf; rw [if_neg (by omega), show N + t - N = t by omega]
end Go.Proofs.Ytnpkihioklpnmaa

/- The reference's Append. -/
namespace Go.Proofs.Ytnpkihioklpnmaa
open Go.RowKit Bs
/-- A stream and an error come back, the bytes wherever they lie. -/
def RPost (r : List Nat × Int × Int) (w : World) (e : Ending) (w' : World) : Prop := ∃ v, e = .returned (.tuple #[v, .int .i64 r.2.2]) ∧ SR w' (fun _ => True) v r.1 r.2.1 ∧ w.grownBy w' none
set_option maxRecDepth 100000 in
theorem RPost.of {r : List Nat × Int × Int} {l : List Nat} {n x : Int} {w w' : World} {v : Value} (h : r = (l, n, x)) (k : SR w' (fun _ => True) v l n) (g : w.grownBy w' none) : RPost r w (.returned (.tuple #[v, .int .i64 x])) w' := by subst h; exact ⟨v, rfl, k, g⟩
set_option maxRecDepth 100000 in
theorem RPost.err {r : List Nat × Int × Int} {x : Int} {w w2 : World} {b : Nat} (h : r = ([], 0, x)) (hg : w.grownBy w2 none) (hb : w.heap.size ≤ b) :
    RPost r w (.returned (.tuple #[.agg #[.slice none 0 0, .int .i64 0], .int .i64 x])) ((w2.setCell ⟨b, 0, none⟩ (.slice none 0 0)).setCell ⟨b, 1, none⟩ (.int .i64 0)) :=
  RPost.of h (sr_nil _ _ _) (grown_new hg (grown_store2 w2 b _ _) hb)
/-- The box at b holds a stream whose bytes lie outside the blocks b and r; block r awaits the result. -/
structure BoxAt (W : World) (b r : Nat) (p : Option Addr) (c : Nat) (l : List Nat) (n : Int) (w' : World) : Prop where
  row : w'.heap[b]? = some (.cells #[.slice p l.length c, .int .i64 n] 123 (0, 0))
  res : w'.heap[r]? = some (.cells #[.slice none 0 0, .int .i64 0] 123 (0, 0))
  rd : Rd w' (fun x => x ≠ b ∧ x ≠ r) (.slice p l.length c) (l.map nv)
  pc : p = none → c = 0
  by_ : By l
  gr : W.grownBy w' none
section
variable {W w' w2 : World} {b r : Nat} {p : Option Addr} {c : Nat} {l : List Nat} {n : Int}
set_option maxRecDepth 100000 in
theorem BoxAt.limbs (h : BoxAt W b r p c l n w') : w'.cell? ⟨b, 0, none⟩ = some (.slice p l.length c) ∧ w'.cell? ⟨b, 1, none⟩ = some (.int .i64 n) ∧ w'.frozen? ⟨b, 0, none⟩ = false ∧ w'.frozen? ⟨b, 1, none⟩ = false ∧
    w'.cell? ⟨r, 0, none⟩ = some (.slice none 0 0) ∧ w'.cell? ⟨r, 1, none⟩ = some (.int .i64 0) ∧ w'.frozen? ⟨r, 0, none⟩ = false ∧ w'.frozen? ⟨r, 1, none⟩ = false :=
  ⟨(row_cells h.row).1, (row_cells h.row).2, frozen_of_row _ _ _ _ _ h.row, frozen_of_row _ _ _ _ _ h.row, (row_cells h.res).1, (row_cells h.res).2, frozen_of_row _ _ _ _ _ h.res, frozen_of_row _ _ _ _ _ h.res⟩
set_option maxRecDepth 100000 in
theorem BoxAt.keep (h : BoxAt W b r p c l n w') (k : w'.grownBy w2 none) : BoxAt W b r p c l n w2 := ⟨kept_row h.row k (by simp), kept_row h.res k (by simp), h.rd.keep k, h.pc, h.by_, grown_trans h.gr k⟩
set_option maxRecDepth 100000 in
theorem BoxAt.store {p' : Option Addr} {c' : Nat} {l' : List Nat} {n' : Int} {base : Nat} (h : BoxAt W b r p c l n w') (o : Own w' base p' c' l') (hb : W.heap.size ≤ b) (hbr : b ≠ r) (hb2 : b < base) (hr2 : r < base) :
    BoxAt W b r p' c' l' n' ((w'.setCell ⟨b, 0, none⟩ (.slice p' l'.length c')).setCell ⟨b, 1, none⟩ (.int .i64 n')) := by
  have g := grown_store2 w' b (.slice p' l'.length c') (.int .i64 n')
  exact ⟨store2 h.row, kept_row h.res g (by intro e; exact hbr (Option.some.inj e).symm), (o.rd.mono fun x hx => ⟨by omega, by omega⟩).grown g (by rintro x ⟨hx, _⟩ e; exact hx (Option.some.inj e)), o.pc, o.by_, grown_new h.gr g hb⟩
set_option maxRecDepth 100000 in
theorem BoxAt.fin {V : List Nat × Int × Int} (h : BoxAt W b r p c l n w') (hV : V = (l, n, 0)) (hr : W.heap.size ≤ r) :
    ((w'.setCell ⟨r, 0, none⟩ (.slice p l.length c)).setCell ⟨r, 1, none⟩ (.int .i64 n)).heap[r]? = some (.cells #[.slice p l.length c, .int .i64 n] 123 (0, 0)) ∧
      RPost V W (.returned (.tuple #[.agg #[.slice p l.length c, .int .i64 n], .int .i64 0])) ((w'.setCell ⟨r, 0, none⟩ (.slice p l.length c)).setCell ⟨r, 1, none⟩ (.int .i64 n)) := by
  have g := grown_store2 w' r (.slice p l.length c) (.int .i64 n)
  refine ⟨store2 h.res, RPost.of hV ⟨p, c, rfl, ?_, h.pc, h.by_⟩ (grown_new h.gr g hr)⟩
  exact (h.rd.grown g (by rintro x ⟨_, hx⟩ e; exact hx (Option.some.inj e))).mono fun _ _ => trivial
end
set_option maxRecDepth 100000 in
theorem and_one (v i : Nat) (hv : U64 v) : bits .and .u64 ((v : Int) / 2 ^ i) 1 = (((v.testBit i).toNat : Nat) : Int) := by
  rw [bitW v i hv, Nat.toNat_testBit]
/-- Behind j puts. -/
def PutsRel (f : Nat → Bool) (W : World) (b r N j : Nat) (w' : World) : Prop := ∃ p c, BoxAt W b r p c (pz f (N + j) ((N + j + 7) / 8)) ((N + j : Nat) : Int) w'
set_option maxRecDepth 100000 in
theorem PutsRel.open_ {f : Nat → Bool} {W w' : World} {b r N j : Nat} (h : PutsRel f W b r N j w') : ∃ p c l, Hid (l = pz f (N + j) ((N + j + 7) / 8)) ∧ BoxAt W b r p c l ((N + j : Nat) : Int) w' := by
  obtain ⟨p, c, h⟩ := h
  exact ⟨p, c, _, Lib.hid rfl, h⟩
set_option maxRecDepth 100000 in
theorem puts_next {f : Nat → Bool} {W w2 : World} {b r N j m base : Nat} {p p' : Option Addr} {c c' : Nat} {l l' : List Nat} {n : Int} (h : Hid (BoxAt W b r p c l n w2)) (hm : N + j = m) (hl : l' = pz f (m + 1) ((m + 8) / 8)) (o : Own w2 base p' c' l')
    (hb : W.heap.size ≤ b) (hbr : b ≠ r) (hb2 : b < base) (hr2 : r < base) :
    Hid (PutsRel f W b r N (j + 1) ((w2.setCell ⟨b, 0, none⟩ (.slice p' l'.length c')).setCell ⟨b, 1, none⟩ (.int .i64 ((m : Int) + 1)))) := by
  subst hm
  subst hl
  refine Lib.hid ⟨p', c', ?_⟩
  exact h.out.store o hb hbr hb2 hr2
set_option maxRecDepth 100000 in
set_option maxHeartbeats 3200000 in
theorem appendr_any (l : List Nat) (n : Int) (v : Nat) (k : Int) (q : Nat → Prop) (p : Option Addr) (c : Nat) (hl : By l) (hv64 : U64 v) (hpc : p = none → c = 0) (w : World) (hq : ∀ b, q b → b < w.heap.size) (hR : Rd w q (.slice p l.length c) (l.map nv)) :
    Calls Try.prog 122 #[.agg #[.slice p l.length c, .int .i64 n], .int .u64 (v : Int), .int .i64 k] w fun e w' => RPost (apV l n v k) w e w' := by
  obtain ⟨k1, k2, k3, k4⟩ := two_boxes w #[.slice p l.length c, .int .i64 n] #[.slice none 0 0, .int .i64 0] 123 123
  have hR1 := hR.keep k3
  have H0 := Lib.hid (show BoxAt w w.heap.size (w.heap.size + 1) p c l n _ from ⟨k1, k2, hR1.mono fun x hx => by have := hq x hx; exact ⟨by omega, by omega⟩, hpc, hl, k3⟩)
  have hq1 : ∀ b, q b → b < ((w.alloc (.cells #[.slice p l.length c, .int .i64 n] 123)).alloc (.cells #[.slice none 0 0, .int .i64 0] 123)).heap.size := fun b hb => Nat.lt_of_lt_of_le (hq b hb) k3.size
  have HSZ : Hid (w.heap.size + 2 ≤ ((w.alloc (.cells #[.slice p l.length c, .int .i64 n] 123)).alloc (.cells #[.slice none 0 0, .int .i64 0] 123)).heap.size) := Lib.hid (Nat.le_of_eq k4.symm)
  clear k1 k2 k3 k4 hR
  go_enter Try.func122, Try.ntmps122
  go_wp2_with fail
  generalize (w.alloc (.cells #[.slice p l.length c, .int .i64 n] 123)).alloc (.cells #[.slice none 0 0, .int .i64 0] 123) = w1 at *
  refine (validr_any l n q p c hl _ hq1 hR1).mono ?_
  rintro e w2 ⟨rfl, hg⟩
  have HB := Lib.hid (H0.out.keep hg)
  have HSZ2 : Hid (w.heap.size + 2 ≤ w2.heap.size) := Lib.hid (Nat.le_trans HSZ.out hg.size)
  obtain ⟨c0, c1, f0, f1, r0, r1, g0, g1⟩ := HB.out.limbs
  clear hg hR1 H0 hq1 HSZ
  by_cases hv : vs l n = true
  · obtain ⟨N, rfl⟩ := vs_nat hv
    obtain ⟨hN, hlen⟩ := vs_bits hv
    rw [hv]
    by_cases hw : vw k = true
    · obtain ⟨K, rfl, hK⟩ := vw_nat hw
      by_cases h3 : 2 ^ K ≤ v
      · have V := Lib.hid (apV_value hv hw h3)
        have hK64 : (K : Int) < 64 := by
          rcases Nat.lt_or_ge K 64 with h | h
          · omega
          · obtain rfl : K = 64 := by omega
            unfold U64 at hv64
            omega
        have hne : ((v : Int) / 2 ^ K == 0) = false := by
          rw [shrW]
          have := Nat.div_pos h3 (Nat.pow_pos (by decide))
          generalize v / 2 ^ K = z at *
          simp; omega
        have hne2 : ((v : Int) / 2 ^ K != 0) = true := by simp [bne, hne]
        have dk1 : decide ((K : Int) < 0) = false := by simp
        have dk2 : decide (64 < (K : Int)) = false := by simp; omega
        clear hv hlen hw
        go_wp2_with fail
        refine bodyPost_ret (res_stream_err rfl _ _ (w.heap.size + 1) _ _ rfl (store2 HB.out.res)) rfl ?_
        exact RPost.err V.out HB.out.gr (by omega)
      · have hz : (v : Int) / 2 ^ K = 0 := by
          rw [shrW, Nat.div_eq_of_lt (by omega)]; rfl
        have HL : Hid (l = pz (apf l N v K) N ((N + 7) / 8)) := by
          have e := pz_copy (M := l.length) hl hv (Nat.le_refl _) (apf_low (v := v) (K := K))
          rw [hlen] at e
          refine Lib.hid ?_
          rw [← e]; simp [hlen]
        by_cases h4 : 8192 < N + K
        · have V := Lib.hid (apV_limit hv hw h3 h4)
          have h4' : (8192 : Int) < (N : Int) + (K : Int) := by omega
          clear hv hlen hw
          rcases Nat.lt_or_ge K 64 with h | h
          · go_wp2_with fail
            refine bodyPost_ret (res_stream_err rfl _ _ (w.heap.size + 1) _ _ rfl (store2 HB.out.res)) rfl ?_
            exact RPost.err V.out HB.out.gr (by omega)
          · have hge : ¬ ((K : Int) < 64) := by omega
            go_wp2_with fail
            refine bodyPost_ret (res_stream_err rfl _ _ (w.heap.size + 1) _ _ rfl (store2 HB.out.res)) rfl ?_
            exact RPost.err V.out HB.out.gr (by omega)
        · have V := Lib.hid (apV_ok hv hw h3 h4)
          have h4' : ¬ (8192 : Int) < (N : Int) + (K : Int) := by omega
          have P0 : Hid (PutsRel (apf l N v K) w w.heap.size (w.heap.size + 1) N 0 w2) := by
            refine Lib.hid ⟨p, c, ?_⟩
            show BoxAt w w.heap.size (w.heap.size + 1) p c (pz (apf l N v K) N ((N + 7) / 8)) (N : Int) w2
            rw [← HL.out]
            exact HB.out
          have dk1 : decide ((K : Int) < 0) = false := by simp
          have dk2 : decide (64 < (K : Int)) = false := by simp; omega
          rcases Nat.lt_or_ge K 64 with h | h
          · clear hv hlen hw HL
            go_wp2_with fail
            go_loopw [8] (fun i wr => ∃ j : Nat, j ≤ K ∧ i = .int .i64 ((K : Int) - 1 - (j : Int)) ∧ PutsRel (apf l N v K) w w.heap.size (w.heap.size + 1) N j wr ∧ w.heap.size + 2 ≤ wr.heap.size) (fun i _ => (RowKit.intOf i + 1).toNat)
            case atStart => exact ⟨0, Nat.zero_le _, by simp, P0.out, HSZ2.out⟩
            case round =>
              obtain ⟨j, hj, rfl, hP, hsz⟩ := hrel
              obtain ⟨p1, c1, l1, HL1, hB1⟩ := hP.open_
              have HB1 := Lib.hid hB1
              have HZ := Lib.hid hsz
              clear hP hB1 P0 hsz
              by_cases hlt : j < K
              · obtain ⟨i, hi⟩ : ∃ i : Nat, i = K - 1 - j := ⟨_, rfl⟩
                have hii : (K : Int) - 1 - (j : Int) = (i : Int) := by omega
                have hi64 : i < 64 := by omega
                obtain ⟨m, hm⟩ : ∃ m : Nat, N + j = m := ⟨_, rfl⟩
                have hbit : bits .and .u64 ((v : Int) / 2 ^ i) 1 = (((apf l N v K m).toNat : Nat) : Int) := by
                  rw [and_one v i hv64, ← hm, apf_high j hlt, hi]
                have hbl := Bool.toNat_le (apf l N v K m)
                have C : ∀ (l1 : List Nat) (p1 : Option Addr) (c1 : Nat), l1 = pz (apf l N v K) m ((m + 7) / 8) → (p1 = none → c1 = 0) → Rd wr (fun x => x ≠ w.heap.size ∧ x ≠ w.heap.size + 1) (.slice p1 l1.length c1) (l1.map nv) → Calls Try.prog 125 #[.agg #[.slice p1 l1.length c1, .int .i64 (m : Int)], .int .u64 (((apf l N v K m).toNat : Nat) : Int)] wr fun e w' => StreamPost (pz (apf l N v K) (m + 1) ((m + 8) / 8)) ((m + 1 : Nat) : Int) wr e w' :=
                  fun l1 p1 c1 h1 h2 h3 => put_any (apf l N v K) m l1 _ p1 c1 (by omega) h1 h2 wr h3
                rw [hm] at HL1 HB1
                have H1 := Lib.hid (C l1 p1 c1 HL1.out HB1.out.pc HB1.out.rd)
                obtain ⟨c0, c2, f0, f1, r0, r1, g0, g1⟩ := HB1.out.limbs
                have HI := Lib.hid hi
                have HM := Lib.hid hm
                have hm9 : m ≤ 8192 := by omega
                clear C hi hm
                generalize (apf l N v K m).toNat = bb at *
                rw [hii]
                have HII := Lib.hid hii
                clear hii
                go_wp2_with fail
                refine H1.out.mono ?_
                rintro e w3 ⟨p3, c3, rfl, hown3, hg3⟩
                have hm8 : m / 8 + 1 = (m + 8) / 8 := by omega
                obtain ⟨l3, hl3⟩ : ∃ l3, l3 = pz (apf l N v K) (m + 1) ((m + 8) / 8) := ⟨_, rfl⟩
                rw [← hl3] at hown3
                rw [← hl3]
                have HB3 := Lib.hid (HB1.out.keep hg3)
                have R := puts_next (f := apf l N v K) (N := N) (j := j) HB3 HM.out hl3 hown3 (by omega) (by omega) (by have := HZ.out; omega) (by have := HZ.out; omega)
                have R2 := Nat.le_trans HZ.out hg3.size
                have R3 := Lib.hid R2
                obtain ⟨c0, c2, f0, f1, r0, r1, g0, g1⟩ := HB3.out.limbs
                clear hown3 hg3 hm8 hl3 R2
                go_wp2_with fail
                go_roundw
                case rel => exact ⟨j + 1, by omega, by congr 1; have := HI.out; omega, R.out, by simpa using R3.out⟩
                case measure => have := HI.out; simp [RowKit.intOf] <;> omega
              · obtain rfl : j = K := by omega
                obtain ⟨c0, c2, f0, f1, r0, r1, g0, g1⟩ := HB1.out.limbs
                have F := Lib.hid (HB1.out.fin (V := apV l (N : Int) v (j : Int)) (by rw [V.out, HL1.out]) (by omega))
                clear HB1
                go_wp2_with fail
                refine bodyPost_ret (res_stream_err rfl _ _ (w.heap.size + 1) _ _ rfl F.out.1) rfl ?_
                exact F.out.2
          · have hge : ¬ ((K : Int) < 64) := by omega
            clear hv hlen hw HL
            go_wp2_with fail
            go_loopw [8] (fun i wr => ∃ j : Nat, j ≤ K ∧ i = .int .i64 ((K : Int) - 1 - (j : Int)) ∧ PutsRel (apf l N v K) w w.heap.size (w.heap.size + 1) N j wr ∧ w.heap.size + 2 ≤ wr.heap.size) (fun i _ => (RowKit.intOf i + 1).toNat)
            case atStart => exact ⟨0, Nat.zero_le _, by simp, P0.out, HSZ2.out⟩
            case round =>
              obtain ⟨j, hj, rfl, hP, hsz⟩ := hrel
              obtain ⟨p1, c1, l1, HL1, hB1⟩ := hP.open_
              have HB1 := Lib.hid hB1
              have HZ := Lib.hid hsz
              clear hP hB1 P0 hsz
              by_cases hlt : j < K
              · obtain ⟨i, hi⟩ : ∃ i : Nat, i = K - 1 - j := ⟨_, rfl⟩
                have hii : (K : Int) - 1 - (j : Int) = (i : Int) := by omega
                have hi64 : i < 64 := by omega
                obtain ⟨m, hm⟩ : ∃ m : Nat, N + j = m := ⟨_, rfl⟩
                have hbit : bits .and .u64 ((v : Int) / 2 ^ i) 1 = (((apf l N v K m).toNat : Nat) : Int) := by
                  rw [and_one v i hv64, ← hm, apf_high j hlt, hi]
                have hbl := Bool.toNat_le (apf l N v K m)
                have C : ∀ (l1 : List Nat) (p1 : Option Addr) (c1 : Nat), l1 = pz (apf l N v K) m ((m + 7) / 8) → (p1 = none → c1 = 0) → Rd wr (fun x => x ≠ w.heap.size ∧ x ≠ w.heap.size + 1) (.slice p1 l1.length c1) (l1.map nv) → Calls Try.prog 125 #[.agg #[.slice p1 l1.length c1, .int .i64 (m : Int)], .int .u64 (((apf l N v K m).toNat : Nat) : Int)] wr fun e w' => StreamPost (pz (apf l N v K) (m + 1) ((m + 8) / 8)) ((m + 1 : Nat) : Int) wr e w' :=
                  fun l1 p1 c1 h1 h2 h3 => put_any (apf l N v K) m l1 _ p1 c1 (by omega) h1 h2 wr h3
                rw [hm] at HL1 HB1
                have H1 := Lib.hid (C l1 p1 c1 HL1.out HB1.out.pc HB1.out.rd)
                obtain ⟨c0, c2, f0, f1, r0, r1, g0, g1⟩ := HB1.out.limbs
                have HI := Lib.hid hi
                have HM := Lib.hid hm
                have hm9 : m ≤ 8192 := by omega
                clear C hi hm
                generalize (apf l N v K m).toNat = bb at *
                rw [hii]
                have HII := Lib.hid hii
                clear hii
                go_wp2_with fail
                refine H1.out.mono ?_
                rintro e w3 ⟨p3, c3, rfl, hown3, hg3⟩
                have hm8 : m / 8 + 1 = (m + 8) / 8 := by omega
                obtain ⟨l3, hl3⟩ : ∃ l3, l3 = pz (apf l N v K) (m + 1) ((m + 8) / 8) := ⟨_, rfl⟩
                rw [← hl3] at hown3
                rw [← hl3]
                have HB3 := Lib.hid (HB1.out.keep hg3)
                have R := puts_next (f := apf l N v K) (N := N) (j := j) HB3 HM.out hl3 hown3 (by omega) (by omega) (by have := HZ.out; omega) (by have := HZ.out; omega)
                have R2 := Nat.le_trans HZ.out hg3.size
                have R3 := Lib.hid R2
                obtain ⟨c0, c2, f0, f1, r0, r1, g0, g1⟩ := HB3.out.limbs
                clear hown3 hg3 hm8 hl3 R2
                go_wp2_with fail
                go_roundw
                case rel => exact ⟨j + 1, by omega, by congr 1; have := HI.out; omega, R.out, by simpa using R3.out⟩
                case measure => have := HI.out; simp [RowKit.intOf] <;> omega
              · obtain rfl : j = K := by omega
                obtain ⟨c0, c2, f0, f1, r0, r1, g0, g1⟩ := HB1.out.limbs
                have F := Lib.hid (HB1.out.fin (V := apV l (N : Int) v (j : Int)) (by rw [V.out, HL1.out]) (by omega))
                clear HB1
                go_wp2_with fail
                refine bodyPost_ret (res_stream_err rfl _ _ (w.heap.size + 1) _ _ rfl F.out.1) rfl ?_
                exact F.out.2
    · have hw0 : vw k = false := by simpa using hw
      have V := Lib.hid (apV_width (v := v) hv hw0)
      have hk : k < 0 ∨ 64 < k := by unfold vw at hw0; simp at hw0; omega
      clear hv hlen hw hw0
      rcases hk with hk | hk
      · go_wp2_with fail
        refine bodyPost_ret (res_stream_err rfl _ _ (w.heap.size + 1) _ _ rfl (store2 HB.out.res)) rfl ?_
        exact RPost.err V.out HB.out.gr (by omega)
      · have hk0 : ¬ k < 0 := by omega
        go_wp2_with fail
        refine bodyPost_ret (res_stream_err rfl _ _ (w.heap.size + 1) _ _ rfl (store2 HB.out.res)) rfl ?_
        exact RPost.err V.out HB.out.gr (by omega)
  · have hv0 : vs l n = false := by simpa using hv
    have V := Lib.hid (apV_inv (v := v) (k := k) hv0)
    rw [hv0]
    go_wp2_with fail
    refine bodyPost_ret (res_stream_err rfl _ _ (w.heap.size + 1) _ _ rfl (store2 HB.out.res)) rfl ?_
    exact RPost.err V.out HB.out.gr (by omega)
end Go.Proofs.Ytnpkihioklpnmaa

/- Slice, of the program and of the reference. -/
namespace Go.Proofs.Ytnpkihioklpnmaa
open Go.RowKit Bs
/-- What Slice returns. -/
def slV (l : List Nat) (n a b : Int) : List Nat × Int × Int :=
  if vs l n = false then ([], 0, 1) else if a < 0 then ([], 0, 2) else if b < a then ([], 0, 2) else if n < b then ([], 0, 2) else
    (pz (fun i => bt l (a.toNat + i)) (b.toNat - a.toNat) ((b.toNat - a.toNat + 7) / 8), ((b.toNat - a.toNat : Nat) : Int), 0)
set_option maxRecDepth 100000 in
theorem slV_inv {l : List Nat} {n a b : Int} (h : vs l n = false) : slV l n a b = ([], 0, 1) := by unfold slV; rw [if_pos h]
set_option maxRecDepth 100000 in
theorem slV_range {l : List Nat} {n a b : Int} (h : vs l n = true) (h2 : a < 0 ∨ b < a ∨ n < b) : slV l n a b = ([], 0, 2) := by
  unfold slV; rw [if_neg (by simp [h])]
  by_cases x1 : a < 0
  · rw [if_pos x1]
  · rw [if_neg x1]
    by_cases x2 : b < a
    · rw [if_pos x2]
    · rw [if_neg x2, if_pos (by omega)]
set_option maxRecDepth 100000 in
theorem slV_ok {l : List Nat} {N A T B : Nat} (h : vs l (N : Int) = true) (hB : A + T = B) (h2 : B ≤ N) : slV l (N : Int) (A : Int) (B : Int) = (pz (fun i => bt l (A + i)) T ((T + 7) / 8), (T : Int), 0) := by
  subst hB
  unfold slV
  rw [if_neg (by simp [h]), if_neg (by omega), if_neg (by omega), if_neg (by omega), Int.toNat_natCast, Int.toNat_natCast, show A + T - A = T by omega]
set_option maxRecDepth 100000 in
theorem pz_none (f : Nat → Bool) (M : Nat) : List.replicate M 0 = pz f 0 M := (pz_zero f M).symm
end Go.Proofs.Ytnpkihioklpnmaa

/- Join and Align of the program. -/
namespace Go.Proofs.Ytnpkihioklpnmaa
open Go.RowKit Bs
/-- The bits of a, then those of b. -/
def jnf (l : List Nat) (N : Nat) (l' : List Nat) : Nat → Bool := fun i => if i < N then bt l i else bt l' (i - N)
/-- What Join returns. -/
def jnV (l : List Nat) (n : Int) (l' : List Nat) (n' : Int) : List Nat × Int × Int :=
  if vs l n = false then ([], 0, 1) else if vs l' n' = false then ([], 0, 1) else if 8192 < n + n' then ([], 0, 3) else
    (pz (jnf l n.toNat l') (n.toNat + n'.toNat) ((n.toNat + n'.toNat + 7) / 8), ((n.toNat + n'.toNat : Nat) : Int), 0)
set_option maxRecDepth 100000 in
theorem jnV_inv {l l' : List Nat} {n n' : Int} (h : vs l n = false) : jnV l n l' n' = ([], 0, 1) := by unfold jnV; rw [if_pos h]
set_option maxRecDepth 100000 in
theorem jnV_inv2 {l l' : List Nat} {n n' : Int} (h : vs l n = true) (h2 : vs l' n' = false) : jnV l n l' n' = ([], 0, 1) := by unfold jnV; rw [if_neg (by simp [h]), if_pos h2]
set_option maxRecDepth 100000 in
theorem jnV_limit {l l' : List Nat} {N N' : Nat} (h : vs l (N : Int) = true) (h2 : vs l' (N' : Int) = true) (h3 : 8192 < N + N') : jnV l (N : Int) l' (N' : Int) = ([], 0, 3) := by
  unfold jnV; rw [if_neg (by simp [h]), if_neg (by simp [h2]), if_pos (by omega)]
set_option maxRecDepth 100000 in
theorem jnV_ok {l l' : List Nat} {N N' T : Nat} (h : vs l (N : Int) = true) (h2 : vs l' (N' : Int) = true) (hT : N + N' = T) (h3 : ¬ 8192 < T) : jnV l (N : Int) l' (N' : Int) = (pz (jnf l N l') T ((T + 7) / 8), (T : Int), 0) := by
  subst hT
  unfold jnV; rw [if_neg (by simp [h]), if_neg (by simp [h2]), if_neg (by omega), Int.toNat_natCast, Int.toNat_natCast]
set_option maxRecDepth 100000 in
theorem jnf_low {l l' : List Nat} {N : Nat} : ∀ i, i < N → jnf l N l' i = bt l i := fun i hi => by unfold jnf; rw [if_pos hi]
set_option maxRecDepth 100000 in
theorem jnf_high {l l' : List Nat} {N K : Nat} : ∀ t, t < K → jnf l N l' (N + t) = bt l' (0 + t) := fun t _ => by
  unfold jnf; rw [if_neg (by omega), show N + t - N = t by omega, Nat.zero_add]
set_option maxRecDepth 100000 in
/-- Three blocks laid one behind the other. -/
theorem three_boxes (w : World) (A B Z : Array Value) (t : TypeId) :
    (((w.alloc (.cells A t)).alloc (.cells B t)).alloc (.cells Z t)).heap[w.heap.size]? = some (.cells A t (0, 0)) ∧ (((w.alloc (.cells A t)).alloc (.cells B t)).alloc (.cells Z t)).heap[w.heap.size + 1]? = some (.cells B t (0, 0)) ∧
      (((w.alloc (.cells A t)).alloc (.cells B t)).alloc (.cells Z t)).heap[w.heap.size + 2]? = some (.cells Z t (0, 0)) ∧ w.grownBy (((w.alloc (.cells A t)).alloc (.cells B t)).alloc (.cells Z t)) none ∧ (((w.alloc (.cells A t)).alloc (.cells B t)).alloc (.cells Z t)).heap.size = w.heap.size + 3 := by
  obtain ⟨k1, k2, k3, k4⟩ := two_boxes w A B t t
  have g := World.grownBy_alloc ((w.alloc (.cells A t)).alloc (.cells B t)) (.cells Z t) none
  refine ⟨kept_row k1 g (by simp), kept_row k2 g (by simp), ?_, grown_trans k3 g, by simp⟩
  rw [← k4]; exact heap_alloc_new _ _
end Go.Proofs.Ytnpkihioklpnmaa

/- Align of the program. -/
namespace Go.Proofs.Ytnpkihioklpnmaa
open Go.RowKit Bs
/-- What Align returns. -/
def alV (l : List Nat) (n : Int) : List Nat × Int × Int := if vs l n = false then ([], 0, 1) else (l, ((8 * l.length : Nat) : Int), 0)
set_option maxRecDepth 100000 in
theorem alV_inv {l : List Nat} {n : Int} (h : vs l n = false) : alV l n = ([], 0, 1) := by unfold alV; rw [if_pos h]
set_option maxRecDepth 100000 in
theorem alV_ok {l : List Nat} {n : Int} (h : vs l n = true) : alV l n = (l, ((8 * l.length : Nat) : Int), 0) := by unfold alV; rw [if_neg (by simp [h])]
end Go.Proofs.Ytnpkihioklpnmaa

/- The program's check number. -/
namespace Go.Proofs.Ytnpkihioklpnmaa
open Go.RowKit Bs
namespace Bs
/-- The register behind one bit. -/
def stp (r : Nat) (b : Bool) : Nat := if (r.testBit 15 != b) = true then (2 * r % 65536) ^^^ 4129 else 2 * r % 65536
/-- The register behind k bits. -/
def crcB (f : Nat → Bool) : Nat → Nat
  | 0 => 65535
  | k + 1 => stp (crcB f k) (f k)
set_option maxRecDepth 100000 in
theorem stp_lt (r : Nat) (b : Bool) : stp r b < 65536 := by
  have h : 2 * r % 65536 < 65536 := Nat.mod_lt _ (by decide)
  unfold stp
  split
  · exact Nat.xor_lt_two_pow (n := 16) h (by decide)
  · exact h
set_option maxRecDepth 100000 in
theorem chk_lt (f : Nat → Bool) : ∀ k, crcB f k < 65536
  | 0 => by simp [crcB]
  | k + 1 => stp_lt _ _
set_option maxRecDepth 100000 in
theorem stp_diff {r : Nat} {b : Bool} (h : (r.testBit 15 != b) = true) : stp r b = (2 * r % 65536) ^^^ 4129 := by unfold stp; rw [if_pos h]
set_option maxRecDepth 100000 in
theorem stp_same {r : Nat} {b : Bool} (h : (r.testBit 15 != b) = false) : stp r b = 2 * r % 65536 := by unfold stp; rw [if_neg (by simp [h])]
set_option maxRecDepth 100000 in
theorem bit15 {r : Nat} (h : r < 65536) : r / 32768 = (r.testBit 15).toNat := by
  rw [Nat.toNat_testBit, show (2 : Nat) ^ 15 = 32768 from rfl]; omega
end Bs
/-- What Check returns. -/
def chkV (l : List Nat) (n : Int) : Nat × Int := if vs l n = false then (0, 1) else (crcB (bt l) n.toNat, 0)
set_option maxRecDepth 100000 in
theorem chkV_inv {l : List Nat} {n : Int} (h : vs l n = false) : chkV l n = (0, 1) := by unfold chkV; rw [if_pos h]
set_option maxRecDepth 100000 in
theorem chkV_ok {l : List Nat} {N : Nat} (h : vs l (N : Int) = true) : chkV l (N : Int) = (crcB (bt l) N, 0) := by unfold chkV; rw [if_neg (by simp [h]), Int.toNat_natCast]
def CheckPost (l : List Nat) (n : Int) (w : World) (e : Ending) (w' : World) : Prop := e = .returned (.tuple #[.int .u64 (((chkV l n).1 : Nat) : Int), .int .i64 (chkV l n).2]) ∧ w.grownBy w' none
set_option maxRecDepth 100000 in
theorem check_end {l : List Nat} {n : Int} {x : Nat} {y : Int} {w w' : World} (h : chkV l n = (x, y)) (g : w.grownBy w' none) : CheckPost l n w (.returned (.tuple #[.int .u64 (x : Int), .int .i64 y])) w' := ⟨by rw [h], g⟩
set_option maxRecDepth 100000 in
theorem ne_bits (a b : Bool) : ((((a.toNat : Nat) : Int)) != ((b.toNat : Nat) : Int)) = (a != b) := by cases a <;> cases b <;> rfl
set_option maxRecDepth 100000 in
theorem diff_word {r x s : Nat} (hr : r < 65536) (hx : x < 256) : ((r : Int) / 32768 != bits .and .u8 ((x : Int) / 2 ^ s) 1) = (r.testBit 15 != x.testBit s) := by
  have e1 : ((r : Int) / 32768) = (((r.testBit 15).toNat : Nat) : Int) := by rw [← bit15 hr]; omega
  have h2 : x / 2 ^ s ≤ x := Nat.div_le_self _ _
  have e2 : bits .and .u8 ((x : Int) / 2 ^ s) 1 = (((x.testBit s).toNat : Nat) : Int) := by
    rw [shrW, show (1 : Int) = ((1 : Nat) : Int) from rfl, u8_and_nat _ 1 (by omega) (by omega), nat_mask1, Nat.toNat_testBit]
  rw [e1, e2, ne_bits]
set_option maxRecDepth 100000 in
theorem shift16 {r : Nat} (hr : r < 65536) : IntKind.u16.wrap ((r : Int) * 2) = ((2 * r % 65536 : Nat) : Int) := by rw [IntKind.wrap_u16]; omega
set_option maxRecDepth 100000 in
theorem xor16 {r : Nat} (hr : r < 65536) : bits .xor .u16 (IntKind.u16.wrap ((r : Int) * 2)) 4129 = (((2 * r % 65536) ^^^ 4129 : Nat) : Int) := by
  rw [shift16 hr, show (4129 : Int) = ((4129 : Nat) : Int) from rfl, u16_xor_nat _ _ (Nat.mod_lt _ (by decide)) (by decide)]
end Go.Proofs.Ytnpkihioklpnmaa
