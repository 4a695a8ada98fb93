/- Parts of the proof, packed: AdRea, AdVal, IoZeros, IoTake, IoAppend. -/
import Derived.Test.YtpoocenooomghaaDoorOf7
import Derived.Test.YtpoocenooomghaaDoorOf4
import Derived.Test.YtpoocenooomghaaDoorOf1
import Derived.Deep.CutRange
import Derived.BigQuiet
import Derived.Test.YtpoocenooomghaaDoorOf3
import Derived.Deep.OwnRows
/- advert.reaches: what a router advertises of its links. -/
namespace Go.Proofs.YtpoocenooomghaaDoor
open Go.RowKit Bs
/-- Links of an advert in a row of the call's own. -/
structure RK3 (w : World) (v : Value) (l : List T3) (wr : World) : Prop where
  own : wr.ownsRow w.heap.size 70 3 v l.length (l.flatMap t3C)
  gr : w.grownBy wr none
set_option maxRecDepth 100000 in
theorem RK3.keep {w wr w' : World} {v : Value} {l : List T3} (h : RK3 w v l wr) (g : wr.grownBy w' none) : RK3 w v l w' :=
  ⟨h.own.kept g (by cases hv : v.ownBlock <;> simp), grown_trans h.gr g⟩
set_option maxRecDepth 100000 in
theorem RK3.more {w wr wy w1 : World} {v v' : Value} {l : List T3} {x : T3} {o : Obj} (h : RK3 w v l wr) (g : wr.grownBy wy none) (hown' : w1.ownsRow w.heap.size 70 3 v' (l.length + 1) (l.flatMap t3C ++ t3C x)) (hg : (wy.alloc o).grownBy w1 v.ownBlock) :
    RK3 w v' (l ++ [x]) w1 ∧ (∀ b ob, wr.heap.size ≤ b → wy.heap[b]? = some ob → w1.heap[b]? = some ob) := by
  have hy := h.keep g
  refine ⟨⟨by rw [List.flatMap_append, List.length_append, List.flatMap_cons, List.flatMap_nil, List.append_nil]; exact hown', own_step hy.gr hy.own hg⟩, fun b ob hb he => ?_⟩
  have k0 := World.grownBy_alloc wy o none
  refine kept_row (kept_row he k0 (by simp)) hg (fun e => ?_)
  have := (h.own.lt b e.symm).2
  omega
set_option maxRecDepth 100000 in
theorem one_row (w : World) (t : TypeId) (z : T3) (j : Nat) (u : Value) (hu : ([z].flatMap t3C)[j]? = some u) : (w.alloc (.cells #[.int .i64 z.a, .int .i64 z.b, .int .i64 z.c] t)).cell? ((⟨w.heap.size, 0, none⟩ : Addr).add j) = some u := by
  have h := heap_alloc_new w (.cells #[.int .i64 z.a, .int .i64 z.b, .int .i64 z.c] t)
  rw [add_plain, Nat.zero_add, cell_of_row _ _ _ _ _ _ h]
  have : [z].flatMap t3C = [.int .i64 z.a, .int .i64 z.b, .int .i64 z.c] := rfl
  rw [this] at hu
  simpa using hu
def ReaPost (l : List T3) (w : World) (e : Ending) (w' : World) : Prop := ∃ p c, e = .returned (.slice p l.length c) ∧ Rd3 w' (w.heap.size ≤ ·) (.slice p l.length c) l ∧ (l.length ≤ c ∧ c ≤ 9223372036854775807) ∧ (p = none → c = 0) ∧ w.grownBy w' none
set_option maxRecDepth 100000 in
theorem RK3.ret {w wr : World} {v : Value} {l : List T3} (h : RK3 w v l wr) : ReaPost l w (.returned v) wr := by
  obtain ⟨p, c, rfl, h1, h2⟩ := own_shape h.own
  refine ⟨p, c, rfl, rdf_of_own h.own, ⟨h1, h2⟩, fun hp => ?_, h.gr⟩
  subst hp
  rcases h.own.2 with ⟨e, _⟩ | ⟨g', cap', cur, hv, _⟩
  · injection e with _ _ e3
  · cases hv
set_option maxRecDepth 100000 in
set_option maxHeartbeats 6400000 in
theorem areach_any (L : List Lk) (x : Int) (p : Option Addr) (c : Nat) (q : Nat → Prop) (w : World) (hR : RdL5 w q (.slice p L.length c) L) (hm : L.length ≤ 1000) :
    Calls Tryd.prog 66 #[.slice p L.length c, .int .i64 x] w fun e w' => ReaPost (reL L x) w e w' := by
  obtain ⟨ir, hir, hr0, hr1, hr2⟩ := info_parts info_re
  have HR := Lib.hid hR
  clear hR
  have N0 : Hid (RK3 w (.slice none 0 0) (reL (L.take 0) x) w) := Lib.hid ⟨World.ownsRow_nil _ _ _ _, grown_refl _ _⟩
  go_enter Tryd.func66, Tryd.ntmps66
  go_wp2_with fail
  go_loopw [5, 10] (fun v a wr => ∃ k : Nat, k ≤ L.length ∧ a = .int .i64 (k : Int) ∧ (∃ pv nv cv, v = .slice pv nv cv) ∧ Hid (RK3 w v (reL (L.take k) x) wr)) (fun _ a _ => L.length - (RowKit.intOf a).toNat)
  case atStart => exact ⟨0, Nat.zero_le _, rfl, ⟨_, _, _, rfl⟩, N0⟩
  case round =>
    obtain ⟨k, hk, rfl, ⟨pv, nv, cv, rfl⟩, N⟩ := hrel
    clear N0
    by_cases hlt : k < L.length
    · obtain ⟨-, b, off, rfl, hq, hc⟩ := rdl_cells (HR.out.keep N.out.gr) (by omega)
      obtain ⟨y, hy⟩ : ∃ y, L[k]? = some y := ⟨_, List.getElem?_eq_getElem hlt⟩
      obtain ⟨a0, a1, a2, a3, a4⟩ := hc k y hy
      have gal := World.grownBy_alloc wr (.cells #[.int .i64 y.a, .int .i64 y.b, .int .i64 y.ca, .int .i64 y.cb, .int .i64 y.cp] 92) none
      have hbx := heap_alloc_new wr (.cells #[.int .i64 y.a, .int .i64 y.b, .int .i64 y.ca, .int .i64 y.cb, .int .i64 y.cp] 92)
      have HG := Lib.hid gal
      have HB := Lib.hid hbx
      have HL : Hid (reL (L.take (k + 1)) x = reL (L.take k) x ++ re1 x y) := Lib.hid (reL_snoc x hy)
      have hln := reL_len x (L.take k)
      have hlt2 : (L.take k).length ≤ k := List.length_take_le _ _
      clear hc hy gal hbx
      go_upto_region 5 with fail
      clear a0 a1 a2 a3 a4
      generalize wr.alloc _ = wy at *
      have hsz : w.heap.size ≤ wy.heap.size := Nat.le_trans N.out.gr.size HG.out.size
      have hown := (N.out.keep HG.out).own
      obtain ⟨d0, d1, d2, d3, d4⟩ := lk_facts HB.out
      obtain ⟨M, hM⟩ : ∃ M, reL (L.take k) x = M := ⟨_, rfl⟩
      rw [hM] at N HL hln hown
      have hMl : M.length ≤ 2000 := by omega
      clear hM hln hlt2
      obtain rfl : nv = M.length := by
        obtain ⟨p', c', e, _⟩ := own_shape hown
        injection e
      have HO := Lib.hid hown
      clear hown
      by_cases e1 : y.b = x
      · have e1' : (y.b == x) = true := by simpa using e1
        have HE1 := Lib.hid e1
        clear e1
        go_wp2_with (at_builtin; refine wpList_append_f t3C 3 24 (by decide) (fun _ => rfl) t3_one 70 23 ir _ Tryd.underlying23 hir hr0 hr1 hr2 rfl (by decide) rfl _ _ rfl w.heap.size _ M _ ?c0 rfl (HO.out.alloc _) (some ⟨wy.heap.size, 0, none⟩) 1 1 [⟨y.a, y.cb, y.cp⟩] rfl rfl (by simp) (fun _ => True) (rdf_one _ trivial (fun j u hu => by (first | exact one_row _ _ _ _ _ hu | (simp at hu))) 1) (by decide) (by simp; omega) (by simp; omega) ?_)
        try (case c0 => rfl)
        intro v' w1 hown' hg
        obtain ⟨n1, n2⟩ := N.out.more HG.out hown' hg
        have N1 := Lib.hid n1
        have HB1 := Lib.hid (n2 wr.heap.size _ (Nat.le_refl _) HB.out)
        obtain ⟨p1, c1, rfl, -, -⟩ := own_shape n1.own
        clear hown' hg n1 n2 HO d0 d1 d2 d3 d4
        obtain ⟨d0, d1, d2, d3, d4⟩ := lk_facts HB1.out
        have hsz1 := N1.out.gr.size
        have hMl1 : (M ++ [(⟨y.a, y.cb, y.cp⟩ : T3)]).length ≤ 2001 := by rw [List.length_append]; simp; omega
        obtain ⟨M1, hM1⟩ : ∃ M1, M ++ [(⟨y.a, y.cb, y.cp⟩ : T3)] = M1 := ⟨_, rfl⟩
        have HM1 := Lib.hid hM1
        rw [hM1] at N1 hMl1 ⊢
        clear hM1
        by_cases e2 : y.a = x
        · have e2' : (y.a == x) = true := by simpa using e2
          have HE2 := Lib.hid e2
          have HO := Lib.hid N1.out.own
          clear e2
          go_wp2_with (at_builtin; refine wpList_append_f t3C 3 24 (by decide) (fun _ => rfl) t3_one 70 23 ir _ Tryd.underlying23 hir hr0 hr1 hr2 rfl (by decide) rfl _ _ rfl w.heap.size _ M1 _ ?c0 rfl (HO.out.alloc _) (some ⟨w1.heap.size, 0, none⟩) 1 1 [⟨y.b, y.ca, y.cp⟩] rfl rfl (by simp) (fun _ => True) (rdf_one _ trivial (fun j u hu => by (first | exact one_row _ _ _ _ _ hu | (simp at hu))) 1) (by decide) (by simp; omega) (by simp; omega) ?_)
          try (case c0 => rfl)
          intro v2 w2 hown' hg
          obtain ⟨n1, -⟩ := N1.out.more (grown_refl _ _) hown' hg
          obtain ⟨p2, c2, rfl, -, -⟩ := own_shape n1.own
          have N2 : Hid (RK3 w _ (reL (L.take (k + 1)) x) w2) := Lib.hid (by rw [HL.out]; unfold re1; rw [if_pos HE1.out, if_pos HE2.out, ← List.append_assoc, HM1.out]; exact n1)
          clear hown' hg n1 HO d0 d1 d2 d3 d4
          go_wp2_with fail
          exact ⟨⟨k + 1, by omega, congrArg _ (by omega), ⟨_, _, _, rfl⟩, N2⟩, by simp only [RowKit.intOf]; omega⟩
        · have e2' : (y.a == x) = false := by simpa using e2
          have N2 : Hid (RK3 w _ (reL (L.take (k + 1)) x) w1) := Lib.hid (by rw [HL.out]; unfold re1; rw [if_pos HE1.out, if_neg e2, List.append_nil, HM1.out]; exact N1.out)
          clear e2
          go_wp2_with fail
          exact ⟨⟨k + 1, by omega, congrArg _ (by omega), ⟨_, _, _, rfl⟩, N2⟩, by simp only [RowKit.intOf]; omega⟩
      · have e1' : (y.b == x) = false := by simpa using e1
        have HE1 := Lib.hid e1
        clear e1
        by_cases e2 : y.a = x
        · have e2' : (y.a == x) = true := by simpa using e2
          have HE2 := Lib.hid e2
          clear e2
          go_wp2_with (at_builtin; refine wpList_append_f t3C 3 24 (by decide) (fun _ => rfl) t3_one 70 23 ir _ Tryd.underlying23 hir hr0 hr1 hr2 rfl (by decide) rfl _ _ rfl w.heap.size _ M _ ?c0 rfl (HO.out.alloc _) (some ⟨wy.heap.size, 0, none⟩) 1 1 [⟨y.b, y.ca, y.cp⟩] rfl rfl (by simp) (fun _ => True) (rdf_one _ trivial (fun j u hu => by (first | exact one_row _ _ _ _ _ hu | (simp at hu))) 1) (by decide) (by simp; omega) (by simp; omega) ?_)
          try (case c0 => rfl)
          intro v2 w2 hown' hg
          obtain ⟨n1, -⟩ := N.out.more HG.out hown' hg
          obtain ⟨p2, c2, rfl, -, -⟩ := own_shape n1.own
          have N2 : Hid (RK3 w _ (reL (L.take (k + 1)) x) w2) := Lib.hid (by rw [HL.out]; unfold re1; rw [if_neg HE1.out, if_pos HE2.out, List.nil_append]; exact n1)
          clear hown' hg n1 HO d0 d1 d2 d3 d4
          go_wp2_with fail
          exact ⟨⟨k + 1, by omega, congrArg _ (by omega), ⟨_, _, _, rfl⟩, N2⟩, by simp only [RowKit.intOf]; omega⟩
        · have e2' : (y.a == x) = false := by simpa using e2
          have N2 : Hid (RK3 w (.slice pv M.length cv) (reL (L.take (k + 1)) x) wy) := Lib.hid (by rw [HL.out]; unfold re1; rw [if_neg HE1.out, if_neg e2, List.append_nil, List.append_nil]; exact N.out.keep HG.out)
          clear e2 HO
          go_wp2_with fail
          exact ⟨⟨k + 1, by omega, congrArg _ (by omega), ⟨_, _, _, rfl⟩, N2⟩, by simp only [RowKit.intOf]; omega⟩
    · obtain rfl : k = L.length := by omega
      have hN := N.out
      rw [List.take_length] at hN
      have H9 := Lib.hid hN.ret
      clear hN N
      go_wp2_with fail
      go_ret
      exact H9.out
end Go.Proofs.YtpoocenooomghaaDoor

/- advert.Valid. -/
namespace Go.Proofs.YtpoocenooomghaaDoor
open Go.RowKit Bs
set_option maxRecDepth 100000 in
theorem vl_dec (n : Int) : vl n = decide (n = 8 ∨ n = 16 ∨ n = 32 ∨ n = 64) := by
  rw [Bool.eq_iff_iff]
  unfold vl
  simp [or_assoc]
set_option maxRecDepth 100000 in
theorem awi_any (n lo hi : Int) (w : World) :
    Calls Tryd.prog 38 #[.int .i64 n, .int .i64 lo, .int .i64 hi] w fun e w' => e = .returned (.bool (decide (lo ≤ n ∧ n ≤ hi))) ∧ w = w' := by
  by_cases h1 : lo ≤ n
  · by_cases h2 : n ≤ hi
    · rw [decide_eq_true (show lo ≤ n ∧ n ≤ hi from ⟨h1, h2⟩)]
      go_enter Tryd.func38, Tryd.ntmps38
      go_wp2_with fail
      go_ret
      exact ⟨rfl, rfl⟩
    · rw [decide_eq_false (show ¬ (lo ≤ n ∧ n ≤ hi) from fun h => h2 h.2)]
      go_enter Tryd.func38, Tryd.ntmps38
      go_wp2_with fail
      go_ret
      exact ⟨rfl, rfl⟩
  · rw [decide_eq_false (show ¬ (lo ≤ n ∧ n ≤ hi) from fun h => h1 h.1)]
    go_enter Tryd.func38, Tryd.ntmps38
    go_wp2_with fail
    go_ret
    exact ⟨rfl, rfl⟩
set_option maxRecDepth 100000 in
theorem row3 {w : World} {b : Nat} {t : TypeId} {x y z : Value} (h : w.heap[b]? = some (.cells #[x, y, z] t (0, 0))) : w.cell? ⟨b, 0, none⟩ = some x ∧ w.cell? ⟨b, 1, none⟩ = some y ∧ w.cell? ⟨b, 2, none⟩ = some z := by
  refine ⟨?_, ?_, ?_⟩ <;> (rw [cell_of_row _ _ _ _ _ _ h]; rfl)
set_option maxRecDepth 100000 in
set_option maxHeartbeats 3200000 in
theorem avl_any (L : List T3) (r : Int) (p : Option Addr) (c : Nat) (q : Nat → Prop) (w : World) (hR : Rd3 w q (.slice p L.length c) L) (hm : L.length ≤ 9223372036854775807) :
    Calls Tryd.prog 39 #[.slice p L.length c, .int .i64 r] w fun e w' => e = .returned (.bool (vRe r 0 L)) ∧ w.grownBy w' none := by
  have HR := Lib.hid hR
  clear hR
  obtain ⟨X, hX⟩ : ∃ X, vRe r 0 L = X := ⟨_, rfl⟩
  rw [hX]
  have I0 : Hid (vRe r (lastA 0 L 0) (L.drop 0) = X) := Lib.hid (by rw [lastA_zero]; exact hX)
  have G0 : Hid (w.grownBy w none) := Lib.hid (grown_refl _ _)
  clear hX
  go_enter Tryd.func39, Tryd.ntmps39
  go_wp2_with fail
  go_loopw [5, 10] (fun la a wr => ∃ k : Nat, k ≤ L.length ∧ a = .int .i64 (k : Int) ∧ la = .int .i64 (lastA 0 L k) ∧ Hid (vRe r (lastA 0 L k) (L.drop k) = X) ∧ Hid (w.grownBy wr none)) (fun _ a _ => L.length - (RowKit.intOf a).toNat)
  case atStart => exact ⟨0, Nat.zero_le _, rfl, by rw [lastA_zero], I0, G0⟩
  case round =>
    obtain ⟨w2, rfl⟩ : ∃ w2, w2 = wr := ⟨_, rfl⟩
    obtain ⟨k, hk, rfl, rfl, HI, HG⟩ := hrel
    clear I0 G0
    by_cases hlt : k < L.length
    · obtain ⟨-, b, off, rfl, -, hc⟩ := rd3_cells (HR.out.keep HG.out) (by omega)
      obtain ⟨x, hx⟩ : ∃ x, L[k]? = some x := ⟨_, List.getElem?_eq_getElem hlt⟩
      obtain ⟨a0, a1, a2⟩ := hc k x hx
      have HS := Lib.hid (HI.out.symm.trans (vRe_step (r := r) (d := 0) hx))
      have HLA := Lib.hid (lastA_succ (d := 0) hx)
      have HBX := Lib.hid (heap_alloc_new w2 (.cells #[.int .i64 x.a, .int .i64 x.b, .int .i64 x.c] 70))
      have HGA := Lib.hid (World.grownBy_alloc w2 (.cells #[.int .i64 x.a, .int .i64 x.b, .int .i64 x.c] 70) none)
      clear hc hx
      go_upto_region 5 with fail
      clear a0 a1 a2
      generalize w2.alloc _ = w3 at *
      have HG3 := Lib.hid (grown_trans HG.out HGA.out)
      obtain ⟨d0, d1, d2⟩ := row3 HBX.out
      obtain ⟨t, ht⟩ : ∃ t, lastA 0 L k = t := ⟨_, rfl⟩
      rw [ht] at HS ⊢
      clear ht HI HG HGA
      by_cases h1 : x.a ≤ t
      · have hX : X = false := by rw [HS.out, show okRe r t x = false by unfold okRe; exact decide_eq_false (fun h => by omega)]; rfl
        subst hX
        go_wp2_with fail
        go_ret
        exact ⟨rfl, HG3.out⟩
      · by_cases h2 : 99 < x.a
        · have hX : X = false := by rw [HS.out, show okRe r t x = false by unfold okRe; exact decide_eq_false (fun h => by omega)]; rfl
          subst hX
          go_wp2_with fail
          go_ret
          exact ⟨rfl, HG3.out⟩
        · by_cases h3 : x.a = r
          · have hX : X = false := by rw [HS.out, show okRe r t x = false by unfold okRe; exact decide_eq_false (fun h => h.2.2.1 h3)]; rfl
            have h3' : (x.a == r) = true := by simpa using h3
            clear h3
            subst hX
            go_wp2_with fail
            go_ret
            exact ⟨rfl, HG3.out⟩
          · have h3' : (x.a == r) = false := by simpa using h3
            have H3 := Lib.hid h3
            clear h3
            obtain ⟨v1, hv1⟩ : ∃ v1, decide ((1 : Int) ≤ x.b ∧ x.b ≤ 1000) = v1 := ⟨_, rfl⟩
            obtain ⟨v2, hv2⟩ : ∃ v2, decide ((0 : Int) ≤ x.c ∧ x.c ≤ 1000) = v2 := ⟨_, rfl⟩
            have HV1 := Lib.hid hv1
            have HV2 := Lib.hid hv2
            have HO : Hid (okRe r t x = (v1 && v2)) := Lib.hid (by
              rw [← hv1, ← hv2, ← Bool.decide_and]
              unfold okRe
              exact decide_eq_decide.2 ⟨fun h => ⟨h.2.2.2.1, h.2.2.2.2⟩, fun h => ⟨by omega, by omega, H3.out, h.1, h.2⟩⟩)
            clear hv1 hv2
            go_wp2_with fail
            refine (awi_any x.b 1 1000 _).mono ?_
            rintro e w' ⟨rfl, rfl⟩
            rw [HV1.out]
            cases v1 with
            | false =>
              have hX : X = false := by rw [HS.out, HO.out]; rfl
              subst hX
              go_wp2_with fail
              go_ret
              exact ⟨rfl, HG3.out⟩
            | true =>
              go_wp2_with fail
              refine (awi_any x.c 0 1000 _).mono ?_
              rintro e w' ⟨rfl, rfl⟩
              rw [HV2.out]
              cases v2 with
              | false =>
                have hX : X = false := by rw [HS.out, HO.out]; rfl
                subst hX
                go_wp2_with fail
                go_ret
                exact ⟨rfl, HG3.out⟩
              | true =>
                have HI2 : Hid (vRe r (lastA 0 L (k + 1)) (L.drop (k + 1)) = X) := Lib.hid (by rw [HS.out, HO.out]; rfl)
                have hl2 : Value.int .i64 x.a = .int .i64 (lastA 0 L (k + 1)) := by rw [HLA.out]
                have HL2 := Lib.hid hl2
                clear hl2
                go_wp2_with fail
                exact ⟨⟨k + 1, by omega, congrArg _ (by omega), HL2.out, HI2, HG3⟩, by simp only [RowKit.intOf]; omega⟩
    · obtain rfl : k = L.length := by omega
      obtain rfl : X = true := by rw [← HI.out]; exact vRe_end
      go_wp2_with fail
      go_ret
      exact ⟨rfl, HG.out⟩
set_option maxRecDepth 100000 in
set_option maxHeartbeats 3200000 in
theorem avc_any (L : List T3) (p : Option Addr) (c : Nat) (q : Nat → Prop) (w : World) (hR : Rd3 w q (.slice p L.length c) L) (hm : L.length ≤ 9223372036854775807) :
    Calls Tryd.prog 40 #[.slice p L.length c] w fun e w' => e = .returned (.bool (vCm (-1) L)) ∧ w.grownBy w' none := by
  have HR := Lib.hid hR
  clear hR
  obtain ⟨X, hX⟩ : ∃ X, vCm (-1) L = X := ⟨_, rfl⟩
  rw [hX]
  have I0 : Hid (vCm (lastA (-1) L 0) (L.drop 0) = X) := Lib.hid (by rw [lastA_zero]; exact hX)
  have G0 : Hid (w.grownBy w none) := Lib.hid (grown_refl _ _)
  clear hX
  go_enter Tryd.func40, Tryd.ntmps40
  go_wp2_with fail
  go_loopw [3, 8] (fun la a wr => ∃ k : Nat, k ≤ L.length ∧ a = .int .i64 (k : Int) ∧ la = .int .i64 (lastA (-1) L k) ∧ Hid (vCm (lastA (-1) L k) (L.drop k) = X) ∧ Hid (w.grownBy wr none)) (fun _ a _ => L.length - (RowKit.intOf a).toNat)
  case atStart => exact ⟨0, Nat.zero_le _, rfl, by rw [lastA_zero], I0, G0⟩
  case round =>
    obtain ⟨w2, rfl⟩ : ∃ w2, w2 = wr := ⟨_, rfl⟩
    obtain ⟨k, hk, rfl, rfl, HI, HG⟩ := hrel
    clear I0 G0
    by_cases hlt : k < L.length
    · obtain ⟨-, b, off, rfl, -, hc⟩ := rd3_cells (HR.out.keep HG.out) (by omega)
      obtain ⟨x, hx⟩ : ∃ x, L[k]? = some x := ⟨_, List.getElem?_eq_getElem hlt⟩
      obtain ⟨a0, a1, a2⟩ := hc k x hx
      have HS := Lib.hid (HI.out.symm.trans (vCm_step (d := -1) hx))
      have HLA := Lib.hid (lastA_succ (d := -1) hx)
      have HBX := Lib.hid (heap_alloc_new w2 (.cells #[.int .i64 x.a, .int .i64 x.b, .int .i64 x.c] 73))
      have HGA := Lib.hid (World.grownBy_alloc w2 (.cells #[.int .i64 x.a, .int .i64 x.b, .int .i64 x.c] 73) none)
      clear hc hx
      go_upto_region 5 with fail
      clear a0 a1 a2
      generalize w2.alloc _ = w3 at *
      have HG3 := Lib.hid (grown_trans HG.out HGA.out)
      obtain ⟨d0, d1, d2⟩ := row3 HBX.out
      obtain ⟨t, ht⟩ : ∃ t, lastA (-1) L k = t := ⟨_, rfl⟩
      rw [ht] at HS ⊢
      clear ht HI HG HGA
      by_cases h1 : x.a ≤ t
      · have hX : X = false := by rw [HS.out, show okCm t x = false by unfold okCm; exact decide_eq_false (fun h => by omega)]; rfl
        subst hX
        go_wp2_with fail
        go_ret
        exact ⟨rfl, HG3.out⟩
      · by_cases h2 : 7 < x.a
        · have hX : X = false := by rw [HS.out, show okCm t x = false by unfold okCm; exact decide_eq_false (fun h => by omega)]; rfl
          subst hX
          go_wp2_with fail
          go_ret
          exact ⟨rfl, HG3.out⟩
        · obtain ⟨v1, hv1⟩ : ∃ v1, decide ((1 : Int) ≤ x.b ∧ x.b ≤ 256) = v1 := ⟨_, rfl⟩
          obtain ⟨v2, hv2⟩ : ∃ v2, decide (x.c = 8 ∨ x.c = 16 ∨ x.c = 32 ∨ x.c = 64) = v2 := ⟨_, rfl⟩
          have HV1 := Lib.hid hv1
          have HV2 : Hid (vl x.c = v2) := Lib.hid (by rw [← hv2]; exact vl_dec x.c)
          have HO : Hid (okCm t x = (v1 && v2)) := Lib.hid (by
            rw [← hv1, ← hv2, ← Bool.decide_and]
            unfold okCm
            exact decide_eq_decide.2 ⟨fun h => ⟨h.2.2.1, h.2.2.2⟩, fun h => ⟨by omega, by omega, h.1, h.2⟩⟩)
          clear hv1 hv2
          go_wp2_with fail
          refine (awi_any x.b 1 256 _).mono ?_
          rintro e w' ⟨rfl, rfl⟩
          rw [HV1.out]
          cases v1 with
          | false =>
            have hX : X = false := by rw [HS.out, HO.out]; rfl
            subst hX
            go_wp2_with fail
            go_ret
            exact ⟨rfl, HG3.out⟩
          | true =>
            go_wp2_with fail
            refine (vlp_any x.c _).mono ?_
            rintro e w' ⟨rfl, rfl⟩
            rw [HV2.out]
            cases v2 with
            | false =>
              have hX : X = false := by rw [HS.out, HO.out]; rfl
              subst hX
              go_wp2_with fail
              go_ret
              exact ⟨rfl, HG3.out⟩
            | true =>
              have HI2 : Hid (vCm (lastA (-1) L (k + 1)) (L.drop (k + 1)) = X) := Lib.hid (by rw [HS.out, HO.out]; rfl)
              have hl2 : Value.int .i64 x.a = .int .i64 (lastA (-1) L (k + 1)) := by rw [HLA.out]
              have HL2 := Lib.hid hl2
              clear hl2
              go_wp2_with fail
              exact ⟨⟨k + 1, by omega, congrArg _ (by omega), HL2.out, HI2, HG3⟩, by simp only [RowKit.intOf]; omega⟩
    · obtain rfl : k = L.length := by omega
      obtain rfl : X = true := by rw [← HI.out]; exact vCm_end
      go_wp2_with fail
      go_ret
      exact ⟨rfl, HG.out⟩
/-- The box of an advert. -/
def adC (A : Ad) : Array Value := #[.int .i64 A.r, .int .i64 A.q, .bool A.cp, .slice A.pL A.L.length A.cL, .slice A.pC A.C.length A.cC]
set_option maxRecDepth 100000 in
theorem ad_facts {w : World} {b : Nat} {A : Ad} (h : w.heap[b]? = some (.cells (adC A) 26 (0, 0))) :
    w.cell? ⟨b, 0, none⟩ = some (.int .i64 A.r) ∧ w.cell? ⟨b, 1, none⟩ = some (.int .i64 A.q) ∧ w.cell? ⟨b, 2, none⟩ = some (.bool A.cp) ∧ w.cell? ⟨b, 3, none⟩ = some (.slice A.pL A.L.length A.cL) ∧ w.cell? ⟨b, 4, none⟩ = some (.slice A.pC A.C.length A.cC) := by
  refine ⟨?_, ?_, ?_, ?_, ?_⟩ <;> (rw [cell_of_row _ _ _ _ _ _ h]; rfl)
set_option maxRecDepth 100000 in
set_option maxHeartbeats 3200000 in
theorem avalid_any (A : Ad) (q : Nat → Prop) (w : World) (hA : AdOk w q A) :
    Calls Tryd.prog 14 #[A.val] w fun e w' => e = .returned (.bool (vAd A)) ∧ w.grownBy w' none := by
  have hm1 := Nat.le_trans hA.hl.1 hA.hl.2
  have hm2 := Nat.le_trans hA.hc.1 hA.hc.2
  have hb := heap_alloc_new w (.cells (adC A) 26)
  have hg := World.grownBy_alloc w (.cells (adC A) 26) none
  have HB := Lib.hid (And.intro hb (And.intro hg (hA.keep hg)))
  clear hb hg hA
  obtain ⟨X, hX⟩ : ∃ X, vAd A = X := ⟨_, rfl⟩
  have HX := Lib.hid hX
  rw [hX]
  clear hX
  unfold Ad.val
  obtain ⟨v1, hv1⟩ : ∃ v, decide ((1 : Int) ≤ A.r ∧ A.r ≤ 99) = v := ⟨_, rfl⟩
  obtain ⟨v2, hv2⟩ : ∃ v, decide ((1 : Int) ≤ A.q ∧ A.q ≤ 1000000) = v := ⟨_, rfl⟩
  obtain ⟨v3, hv3⟩ : ∃ v, vRe A.r 0 A.L = v := ⟨_, rfl⟩
  obtain ⟨v4, hv4⟩ : ∃ v, vCm (-1) A.C = v := ⟨_, rfl⟩
  have HV := Lib.hid (And.intro hv1 (And.intro hv2 (And.intro hv3 hv4)))
  have HS : Hid (X = ((v1 && (v2 && decide (A.L.length ≤ 23))) && (v3 && (decide (A.C.length ≤ 8) && v4)))) := Lib.hid (by
    rw [← HX.out]; unfold vAd vHd vClaims; rw [hv3, hv4, ← hv1, ← hv2, Bool.decide_and, Bool.decide_and (p := (1 : Int) ≤ A.q ∧ A.q ≤ 1000000)])
  clear hv1 hv2 hv3 hv4
  go_enter Tryd.func14, Tryd.ntmps14
  go_upto_region 1 with fail
  unfold adC at HB
  generalize w.alloc _ = w0 at *
  obtain ⟨c0, c1, c2, c3, c4⟩ := ad_facts (A := A) HB.out.1
  go_wp2_with fail
  refine (awi_any A.r 1 99 _).mono ?_
  rintro e w' ⟨rfl, rfl⟩
  rw [HV.out.1]
  cases v1 with
  | false =>
    have hX : X = false := by rw [HS.out]; rfl
    subst hX
    go_wp2_with fail
    go_ret
    exact ⟨rfl, HB.out.2.1⟩
  | true =>
    go_wp2_with fail
    refine (awi_any A.q 1 1000000 _).mono ?_
    rintro e w' ⟨rfl, rfl⟩
    rw [HV.out.2.1]
    cases v2 with
    | false =>
      have hX : X = false := by rw [HS.out]; rfl
      subst hX
      go_wp2_with fail
      go_ret
      exact ⟨rfl, HB.out.2.1⟩
    | true =>
      by_cases h1 : 23 < A.L.length
      · have hX : X = false := by rw [HS.out, decide_eq_false (show ¬ A.L.length ≤ 23 by omega)]; rfl
        have h1' : (23 : Int) < (A.L.length : Int) := by omega
        subst hX
        go_wp2_with fail
        go_ret
        exact ⟨rfl, HB.out.2.1⟩
      · have h1' : ¬ (23 : Int) < (A.L.length : Int) := by omega
        by_cases h2 : 8 < A.C.length
        · have hX : X = false := by rw [HS.out, decide_eq_false (show ¬ A.C.length ≤ 8 by omega)]; simp
          have h2' : (8 : Int) < (A.C.length : Int) := by omega
          subst hX
          go_wp2_with fail
          go_ret
          exact ⟨rfl, HB.out.2.1⟩
        · have h2' : ¬ (8 : Int) < (A.C.length : Int) := by omega
          have HS2 : Hid (X = (v3 && v4)) := Lib.hid (by rw [HS.out, decide_eq_true (show A.L.length ≤ 23 by omega), decide_eq_true (show A.C.length ≤ 8 by omega)]; rfl)
          go_wp2_with fail
          refine (avl_any A.L A.r _ _ _ _ HB.out.2.2.l hm1).mono ?_
          rintro e w1 ⟨rfl, g1⟩
          rw [HV.out.2.2.1]
          have HB1 := Lib.hid (And.intro (kept_row HB.out.1 g1 (by simp)) (And.intro (grown_trans HB.out.2.1 g1) (HB.out.2.2.keep g1)))
          clear g1 c0 c1 c2 c3 c4
          obtain ⟨c0, c1, c2, c3, c4⟩ := ad_facts (A := A) HB1.out.1
          cases v3 with
          | false =>
            have hX : X = false := by rw [HS2.out]; rfl
            subst hX
            go_wp2_with fail
            go_ret
            exact ⟨rfl, HB1.out.2.1⟩
          | true =>
            have hX : X = v4 := by rw [HS2.out]; rfl
            subst hX
            go_wp2_with fail
            refine (avc_any A.C _ _ _ _ HB1.out.2.2.c hm2).mono ?_
            rintro e w2 ⟨rfl, g2⟩
            rw [HV.out.2.2.2]
            have HG := Lib.hid (grown_trans HB1.out.2.1 g2)
            clear g2 c0 c1 c2 c3 c4
            go_wp2_with fail
            go_ret
            exact ⟨rfl, HG.out⟩
end Go.Proofs.YtpoocenooomghaaDoor

/- The program's zeros; copy into a row of the call's own. -/
namespace Go.Proofs.YtpoocenooomghaaDoor
open Go.RowKit Bs
set_option maxRecDepth 100000 in
theorem made_zero (N : Nat) : madeCells #[Value.int .u8 0] N = ((List.replicate N 0).map nv).toArray := by
  unfold madeCells
  apply Array.ext'
  rw [Array.toList_map, Array.toList_range, List.map_replicate]
  apply List.ext_getElem?
  intro i
  rw [List.getElem?_map, List.getElem?_replicate]
  by_cases h : i < N
  · rw [List.getElem?_range h, if_pos h]
    simp [nv, Nat.mod_one]
  · rw [List.getElem?_eq_none (by simpa using h), if_neg h]; rfl
/-- A stream of zero bits: its block is new. -/
def ZerosPost (n : Nat) (w : World) (e : Ending) (w' : World) : Prop :=
  ∃ g, e = .returned (.agg #[.slice (some ⟨g, 0, none⟩) ((n + 7) / 8) ((n + 7) / 8), .int .i64 (n : Int)]) ∧ w.heap.size ≤ g ∧ Blk w' g (List.replicate ((n + 7) / 8) 0) ∧ w.grownBy w' none
set_option maxRecDepth 100000 in
/-- make of bytes, as a law for the walk: the block a letter. -/
theorem wpList_make_bytes (w : World) {ops : Array Oper} {rest : List Oper} {o : Oper} {a : Act} {Q : Exit → Act → World → Prop} (hg : o.guard = none) (l c : Operand) (hop : o.op = Op.makeSlice 36 l c) (M : Nat)
    (hl : a.eval l = .int .i64 (M : Int)) (hc : a.eval c = .int .i64 (M : Int)) (hM : M ≤ 100000)
    (hK : ∀ g w', w.heap.size ≤ g → Blk w' g (List.replicate M 0) → w.grownBy w' none → wpList Tryd.prog ops Q rest (a.put o.dst (.slice (some ⟨g, 0, none⟩) M M)) w') : wpList Tryd.prog ops Q (o :: rest) a w := by
  obtain ⟨i0, hi, hz0, hz1, hz2⟩ := info_parts info_u8
  refine wpList_make_row w hg l c 36 hop 5 i0 (.int .u8 0) Tryd.underlying36 hi hz0 hz1 rfl .i64 .i64 M hl hc (by rw [hz2]; omega) (by omega) ?_
  refine hK w.heap.size _ (Nat.le_refl _) ?_ (World.grownBy_alloc w _ _)
  refine (heap_alloc_new w _).trans ?_
  rw [made_zero]
set_option maxRecDepth 100000 in
theorem zeros_fin {w w3 : World} {n M g : Nat} (hrow : w3.heap[w.heap.size]? = some (.cells #[.slice none 0 0, .int .i64 0] 47 (0, 0))) (hg : w.heap.size + 1 ≤ g) (hB : Blk w3 g (List.replicate M 0)) (hgr : w.grownBy w3 none) (hM : M = (n + 7) / 8) :
    (((w3.setCell ⟨w.heap.size, 0, none⟩ (.slice (some ⟨g, 0, none⟩) M M)).setCell ⟨w.heap.size, 1, none⟩ (.int .i64 (n : Int)))).heap[w.heap.size]? = some (.cells #[.slice (some ⟨g, 0, none⟩) M M, .int .i64 (n : Int)] 47 (0, 0)) ∧
      ZerosPost n w (.returned (.agg #[.slice (some ⟨g, 0, none⟩) M M, .int .i64 (n : Int)])) ((w3.setCell ⟨w.heap.size, 0, none⟩ (.slice (some ⟨g, 0, none⟩) M M)).setCell ⟨w.heap.size, 1, none⟩ (.int .i64 (n : Int))) := by
  subst hM
  have gr := grown_store2 w3 w.heap.size (.slice (some ⟨g, 0, none⟩) ((n + 7) / 8) ((n + 7) / 8)) (.int .i64 (n : Int))
  exact ⟨store2 hrow, g, rfl, by omega, hB.grown gr (by intro e; have := Option.some.inj e; omega), grown_new hgr gr (Nat.le_refl _)⟩
set_option maxRecDepth 100000 in
set_option maxHeartbeats 800000 in
theorem zeros_any (n : Nat) (hn : n ≤ 20000) (w : World) :
    Calls Tryd.prog 86 #[.int .i64 (n : Int)] w fun e w' => ZerosPost n w e w' := by
  obtain ⟨M, hM⟩ : ∃ M : Nat, M = (n + 7) / 8 := ⟨_, rfl⟩
  have hB := fun w => bytesFor_any n (by omega) w
  rw [← hM] at hB
  have HM := Lib.hid hM
  have hM9 : M ≤ 20000 := by omega
  clear hM
  go_enter Tryd.func86, Tryd.ntmps86
  go_wp2_with fail
  generalize hw2 : w.alloc (.cells #[.slice none 0 0, .int .i64 0] 47) = w2
  have hs : w2.heap.size = w.heap.size + 1 := by rw [← hw2]; simp
  have hrow : Hid (w2.heap[w.heap.size]? = some (.cells #[.slice none 0 0, .int .i64 0] 47 (0, 0))) := Lib.hid (by rw [← hw2]; exact heap_alloc_new w _)
  have hgw : Hid (w.grownBy w2 none) := Lib.hid (by rw [← hw2]; exact World.grownBy_alloc w _ _)
  have HS := Lib.hid hs
  clear hw2 hs
  go_wp2_with (first
    | (go_at_call 88; refine (hB _).mono ?_; rintro e w' ⟨rfl, rfl⟩)
    | (at_make; refine wpList_make_bytes _ rfl _ _ rfl M rfl rfl (by omega) ?_; intro g w3 hge hB3 hg3; have hrow3 := kept_row hrow.out hg3 (by simp); obtain ⟨r0, r1⟩ := row_cells hrow3; have g0 := frozen_of_row _ _ 0 _ _ hrow3; have g1 := frozen_of_row _ _ 1 _ _ hrow3; have HB := Lib.hid (zeros_fin (n := n) hrow3 (by rw [← HS.out]; exact hge) hB3 (grown_trans hgw.out hg3) HM.out); clear hrow3 hB3 hg3))
  refine bodyPost_ret (res_stream rfl _ _ w.heap.size _ _ rfl HB.out.1) rfl ?_
  exact HB.out.2
end Go.Proofs.YtpoocenooomghaaDoor

/- Take, of the program and of the reference. -/
namespace Go.Proofs.YtpoocenooomghaaDoor
open Go.RowKit Bs
/-- What Take returns. -/
def takeV (l : List Nat) (n a k : Int) : Nat × Int :=
  if vs l n = false then (0, 1) else if vw k = false then (0, 2) else if a < 0 then (0, 2) else if n - k < a then (0, 20) else (num (bt l) a.toNat k.toNat, 0)
set_option maxRecDepth 100000 in
theorem takeV_inv {l : List Nat} {n a k : Int} (h : vs l n = false) : takeV l n a k = (0, 1) := by unfold takeV; rw [if_pos h]
set_option maxRecDepth 100000 in
theorem takeV_width {l : List Nat} {n a k : Int} (h : vs l n = true) (h2 : vw k = false) : takeV l n a k = (0, 2) := by unfold takeV; rw [if_neg (by simp [h]), if_pos h2]
set_option maxRecDepth 100000 in
theorem takeV_neg {l : List Nat} {n a k : Int} (h : vs l n = true) (h2 : vw k = true) (h3 : a < 0) : takeV l n a k = (0, 2) := by unfold takeV; rw [if_neg (by simp [h]), if_neg (by simp [h2]), if_pos h3]
set_option maxRecDepth 100000 in
theorem takeV_short {l : List Nat} {n a k : Int} (h : vs l n = true) (h2 : vw k = true) (h3 : ¬ a < 0) (h4 : n - k < a) : takeV l n a k = (0, 20) := by unfold takeV; rw [if_neg (by simp [h]), if_neg (by simp [h2]), if_neg h3, if_pos h4]
set_option maxRecDepth 100000 in
theorem takeV_ok {l : List Nat} {n a k : Int} (h : vs l n = true) (h2 : vw k = true) (h3 : ¬ a < 0) (h4 : ¬ n - k < a) : takeV l n a k = (num (bt l) a.toNat k.toNat, 0) := by unfold takeV; rw [if_neg (by simp [h]), if_neg (by simp [h2]), if_neg h3, if_neg h4]
def TakePost (l : List Nat) (n a k : Int) (w : World) (e : Ending) (w' : World) : Prop := e = .returned (.tuple #[.int .u64 (((takeV l n a k).1 : Nat) : Int), .int .i64 (takeV l n a k).2]) ∧ w.grownBy w' none
set_option maxRecDepth 100000 in
theorem take_end {l : List Nat} {n a k : Int} {x : Nat} {y : Int} {w w' : World} (h : takeV l n a k = (x, y)) (g : w.grownBy w' none) : TakePost l n a k w (.returned (.tuple #[.int .u64 (x : Int), .int .i64 y])) w' := ⟨by rw [h], g⟩
set_option maxRecDepth 100000 in
theorem vw_nat {k : Int} (h : vw k = true) : ∃ K : Nat, k = (K : Int) ∧ K ≤ 64 := by
  unfold vw at h
  simp at h
  exact ⟨k.toNat, by omega, by omega⟩
set_option maxRecDepth 100000 in
theorem vs_bits {l : List Nat} {N : Nat} (h : vs l (N : Int) = true) : N ≤ 8192 ∧ l.length = (N + 7) / 8 := ⟨(vs_iff.1 h).1, (vs_iff.1 h).2.1⟩
set_option maxRecDepth 100000 in
/-- One block laid. -/
theorem one_box (w : World) (A : Array Value) (t : TypeId) : (w.alloc (.cells A t)).heap[w.heap.size]? = some (.cells A t (0, 0)) ∧ w.grownBy (w.alloc (.cells A t)) none := ⟨heap_alloc_new w _, World.grownBy_alloc w _ _⟩
set_option maxRecDepth 100000 in
set_option maxHeartbeats 1600000 in
theorem takep_any (l : List Nat) (n a k : Int) (q : Nat → Prop) (p : Option Addr) (c : Nat) (hl : By l) (ha : I64 a) (w : World) (hR : Rd w q (.slice p l.length c) (l.map nv)) :
    Calls Tryd.prog 90 #[.agg #[.slice p l.length c, .int .i64 n], .int .i64 a, .int .i64 k] w fun e w' => TakePost l n a k w e w' := by
  obtain ⟨k1, k2⟩ := one_box w #[.slice p l.length c, .int .i64 n] 47
  have H0 := Lib.hid (And.intro k1 k2)
  have hR1 := hR.keep k2
  unfold I64 at ha
  clear k1 k2 hR
  go_enter Tryd.func90, Tryd.ntmps90
  go_wp2_with fail
  generalize w.alloc (.cells #[.slice p l.length c, .int .i64 n] 47) = w1 at *
  refine (validp_any l n q p c hl _ hR1).mono ?_
  rintro e w2 ⟨rfl, hg⟩
  have hrow := kept_row H0.out.1 hg (by simp)
  obtain ⟨c0, c1⟩ := row_cells hrow
  have HG := Lib.hid (grown_trans H0.out.2 hg)
  have hR2 := hR1.keep hg
  clear hrow hg hR1 H0
  by_cases hv : vs l n = true
  · obtain ⟨N, rfl⟩ := vs_nat hv
    obtain ⟨hN, hlen⟩ := vs_bits hv
    rw [hv]
    by_cases hw : vw k = true
    · obtain ⟨K, rfl, hK⟩ := vw_nat hw
      by_cases h3 : a < 0
      · have V := Lib.hid (takeV_neg hv hw h3)
        clear hv hlen
        go_wp2_with (go_at_call 85; refine (width_any _ _).mono ?_; rintro e w' ⟨rfl, rfl⟩; rw [hw])
        go_ret2
        exact take_end V.out HG.out
      · by_cases h4 : (N : Int) - (K : Int) < a
        · have V := Lib.hid (takeV_short hv hw h3 h4)
          clear hv hlen
          go_wp2_with (go_at_call 85; refine (width_any _ _).mono ?_; rintro e w' ⟨rfl, rfl⟩; rw [hw])
          go_ret2
          exact take_end V.out HG.out
        · have V := Lib.hid (takeV_ok hv hw h3 h4)
          obtain ⟨A, rfl⟩ := Int.eq_ofNat_of_zero_le (show 0 ≤ a by omega)
          have C := read_any l q p c A K hl (by omega) (by omega) hK w2 hR2
          have H1 := Lib.hid C
          clear hv hlen C
          go_wp2_with (first
            | (go_at_call 85; refine (width_any _ _).mono ?_; rintro e w' ⟨rfl, rfl⟩; rw [hw])
            | (go_at_call 110; refine H1.out.mono ?_; rintro e w' ⟨rfl, m, rfl⟩))
          go_ret2
          exact take_end V.out (grown_trans HG.out (grown_drewN _ _ _))
    · have hw0 : vw k = false := by simpa using hw
      have V := Lib.hid (takeV_width (a := a) hv hw0)
      clear hv hlen
      go_wp2_with (go_at_call 85; refine (width_any _ _).mono ?_; rintro e w' ⟨rfl, rfl⟩; rw [hw0])
      go_ret2
      exact take_end V.out HG.out
  · have hv0 : vs l n = false := by simpa using hv
    have V := Lib.hid (takeV_inv (a := a) (k := k) hv0)
    rw [hv0]
    go_wp2_with fail
    go_ret2
    exact take_end V.out HG.out
set_option maxRecDepth 100000 in
theorem tk_word (v b : Nat) (hb : b ≤ 1) (hv : v * 2 + 2 ≤ 18446744073709551616) : bits .or .u64 (IntKind.u64.wrap ((v : Int) * 2)) (b : Int) = ((2 * v + b : Nat) : Int) := by
  rw [show IntKind.u64.wrap ((v : Int) * 2) = ((v * 2 : Nat) : Int) by rw [IntKind.wrap_u64]; omega, orU _ _ (u64_mk (by omega)) (u64_mk (by omega))]
  rw [nat_join 1 (v * 2) b (by omega) (by omega)]
  congr 1; omega
set_option maxRecDepth 100000 in
theorem tk_step {l : List Nat} {a j : Nat} (hj : j < 64) : bits .or .u64 (IntKind.u64.wrap (((num (bt l) a j : Nat) : Int) * 2)) (((bt l (a + j)).toNat : Nat) : Int) = ((num (bt l) a (j + 1) : Nat) : Int) := by
  have h1 := num_lt (bt l) a j
  have h2 : 2 ^ (j + 1) ≤ 2 ^ 64 := Nat.pow_le_pow_right (by decide) hj
  rw [Nat.pow_succ] at h2
  rw [tk_word _ _ (Bool.toNat_le _) (by have h3 : (2 : Nat) ^ 64 = 18446744073709551616 := rfl; omega)]
  rfl
set_option maxRecDepth 100000 in
set_option maxHeartbeats 1600000 in
theorem taker_any (l : List Nat) (n a k : Int) (q : Nat → Prop) (p : Option Addr) (c : Nat) (hl : By l) (ha : I64 a) (w : World) (hq : ∀ b, q b → b < w.heap.size) (hR : Rd w q (.slice p l.length c) (l.map nv)) :
    Calls Tryd.prog 91 #[.agg #[.slice p l.length c, .int .i64 n], .int .i64 a, .int .i64 k] w fun e w' => TakePost l n a k w e w' := by
  obtain ⟨k1, k2⟩ := one_box w #[.slice p l.length c, .int .i64 n] 47
  have H0 := Lib.hid (And.intro k1 k2)
  have hR1 := hR.keep k2
  have hq1 : ∀ b, q b → b < (w.alloc (.cells #[.slice p l.length c, .int .i64 n] 47)).heap.size := fun b hb => Nat.lt_of_lt_of_le (hq b hb) k2.size
  unfold I64 at ha
  clear k1 k2 hR
  go_enter Tryd.func91, Tryd.ntmps91
  go_wp2_with fail
  generalize w.alloc (.cells #[.slice p l.length c, .int .i64 n] 47) = w1 at *
  refine (validr_any l n q p c hl _ hq1 hR1).mono ?_
  rintro e w2 ⟨rfl, hg⟩
  have hrow := kept_row H0.out.1 hg (by simp)
  obtain ⟨c0, c1⟩ := row_cells hrow
  have HG := Lib.hid (grown_trans H0.out.2 hg)
  have hR2 := hR1.keep hg
  clear hrow hg hR1 H0 hq1
  by_cases hv : vs l n = true
  · obtain ⟨N, rfl⟩ := vs_nat hv
    obtain ⟨hN, hlen⟩ := vs_bits hv
    rw [hv]
    by_cases hw : vw k = true
    · obtain ⟨K, rfl, hK⟩ := vw_nat hw
      by_cases h3 : a < 0
      · have V := Lib.hid (takeV_neg hv hw h3)
        clear hv hlen hw
        go_wp2_with fail
        go_ret2
        exact take_end V.out HG.out
      · by_cases h4 : (N : Int) - (K : Int) < a
        · have V := Lib.hid (takeV_short hv hw h3 h4)
          clear hv hlen hw
          go_wp2_with fail
          go_ret2
          exact take_end V.out HG.out
        · have V := Lib.hid (takeV_ok hv hw h3 h4)
          obtain ⟨A, rfl⟩ := Int.eq_ofNat_of_zero_le (show 0 ≤ a by omega)
          have hA : A ≤ 8192 := by omega
          have hAK : A + K ≤ 8 * l.length := by omega
          rw [Int.toNat_natCast, Int.toNat_natCast] at V
          clear hv hw hlen
          go_wp2_with fail
          go_loop [8, 9] (fun x i => ∃ j : Nat, j ≤ K ∧ i = .int .i64 ((A + j : Nat) : Int) ∧ x = .int .u64 ((num (bt l) A j : Nat) : Int)) (fun _ i => (A + K - (RowKit.intOf i).toNat))
          case atStart => exact ⟨0, Nat.zero_le _, rfl, rfl⟩
          case round =>
            obtain ⟨j, hj, rfl, rfl⟩ := hrel
            by_cases hlt : j < K
            · have C := bitr_any l (A + j) q p c hl (by omega) (by omega) w2 hR2
              unfold bw at C
              have H1 := Lib.hid C
              have S := Lib.hid (tk_step (l := l) (a := A) (j := j) (by omega))
              have hAj : A + j ≤ 9000 := by omega
              clear C
              generalize (bt l (A + j)).toNat = x at *
              generalize num (bt l) A j = y at *
              go_wp2_with (go_at_call 60; refine H1.out.mono ?_; rintro e w' ⟨rfl, rfl⟩)
              go_round
              case rel => exact ⟨j + 1, by omega, by simp; omega, by rw [S.out]⟩
              case measure => simp [RowKit.intOf]; omega
            · obtain rfl : j = K := by omega
              go_wp2_with fail
              go_ret2
              exact take_end V.out HG.out
    · have hw0 : vw k = false := by simpa using hw
      have V := Lib.hid (takeV_width (a := a) hv hw0)
      have hk : k < 0 ∨ 64 < k := by unfold vw at hw0; simp at hw0; omega
      clear hv hlen hw hw0
      rcases hk with hk | hk
      · go_wp2_with fail
        go_ret2
        exact take_end V.out HG.out
      · have hk0 : ¬ k < 0 := by omega
        go_wp2_with fail
        go_ret2
        exact take_end V.out HG.out
  · have hv0 : vs l n = false := by simpa using hv
    have V := Lib.hid (takeV_inv (a := a) (k := k) hv0)
    rw [hv0]
    go_wp2_with fail
    go_ret2
    exact take_end V.out HG.out
end Go.Proofs.YtpoocenooomghaaDoor

/- The program's Append. -/
namespace Go.Proofs.YtpoocenooomghaaDoor
open Go.RowKit Bs
/-- The bits of a stream, then the k lowest bits of v. -/
def apf (l : List Nat) (N v K : Nat) : Nat → Bool := fun i => if i < N then bt l i else v.testBit (K - 1 - (i - N))
/-- What Append returns: the bytes, the number of bits, the error. -/
def apV (l : List Nat) (n : Int) (v : Nat) (k : Int) : List Nat × Int × Int :=
  if vs l n = false then ([], 0, 1) else if vw k = false then ([], 0, 2) else if 2 ^ k.toNat ≤ v then ([], 0, 2) else if 8192 < n + k then ([], 0, 3) else
    (pz (apf l n.toNat v k.toNat) (n.toNat + k.toNat) ((n.toNat + k.toNat + 7) / 8), n + k, 0)
set_option maxRecDepth 100000 in
theorem apV_inv {l : List Nat} {n k : Int} {v : Nat} (h : vs l n = false) : apV l n v k = ([], 0, 1) := by unfold apV; rw [if_pos h]
set_option maxRecDepth 100000 in
theorem apV_width {l : List Nat} {n k : Int} {v : Nat} (h : vs l n = true) (h2 : vw k = false) : apV l n v k = ([], 0, 2) := by unfold apV; rw [if_neg (by simp [h]), if_pos h2]
set_option maxRecDepth 100000 in
theorem apV_value {l : List Nat} {n : Int} {K v : Nat} (h : vs l n = true) (h2 : vw (K : Int) = true) (h3 : 2 ^ K ≤ v) : apV l n v (K : Int) = ([], 0, 2) := by unfold apV; rw [if_neg (by simp [h]), if_neg (by simp [h2]), Int.toNat_natCast, if_pos h3]
set_option maxRecDepth 100000 in
theorem apV_limit {l : List Nat} {N K v : Nat} (h : vs l (N : Int) = true) (h2 : vw (K : Int) = true) (h3 : ¬ 2 ^ K ≤ v) (h4 : 8192 < N + K) : apV l (N : Int) v (K : Int) = ([], 0, 3) := by
  unfold apV; rw [if_neg (by simp [h]), if_neg (by simp [h2]), Int.toNat_natCast, if_neg h3, if_pos (by omega)]
set_option maxRecDepth 100000 in
theorem apV_ok {l : List Nat} {N K v : Nat} (h : vs l (N : Int) = true) (h2 : vw (K : Int) = true) (h3 : ¬ 2 ^ K ≤ v) (h4 : ¬ 8192 < N + K) : apV l (N : Int) v (K : Int) = (pz (apf l N v K) (N + K) ((N + K + 7) / 8), ((N + K : Nat) : Int), 0) := by
  unfold apV; rw [if_neg (by simp [h]), if_neg (by simp [h2]), Int.toNat_natCast, Int.toNat_natCast, if_neg h3, if_neg (by omega)]; rfl
/-- A stream and an error come back. -/
def SPost (r : List Nat × Int × Int) (w : World) (e : Ending) (w' : World) : Prop := StreamErr r.1 r.2.1 r.2.2 w e w'
set_option maxRecDepth 100000 in
theorem SPost.of {r : List Nat × Int × Int} {l : List Nat} {n x : Int} {w w' : World} {e : Ending} (h : r = (l, n, x)) (k : StreamErr l n x w e w') : SPost r w e w' := by subst h; exact k
set_option maxRecDepth 100000 in
theorem sr_nil (w : World) (q : Nat → Prop) (n : Int) : SR w q (.agg #[.slice none 0 0, .int .i64 n]) [] n := ⟨none, 0, rfl, Rd.nil_ _ _ _ _, fun _ => rfl, fun x hx => by cases hx⟩
set_option maxRecDepth 100000 in
theorem err_end {w w2 : World} {b : Nat} {x : Int} (h : w.grownBy w2 none) (hb : w.heap.size ≤ b) : StreamErr [] 0 x w (.returned (.tuple #[.agg #[.slice none 0 0, .int .i64 0], .int .i64 x])) ((w2.setCell ⟨b, 0, none⟩ (.slice none 0 0)).setCell ⟨b, 1, none⟩ (.int .i64 0)) :=
  ⟨_, rfl, sr_nil _ _ _, grown_new h (grown_store2 w2 b _ _) hb⟩
set_option maxRecDepth 100000 in
/-- copy into a block of the call's own. -/
theorem wpList_copy_into {w : World} {ops : Array Oper} {rest : List Oper} {o : Oper} {a : Act} {Q : Exit → Act → World → Prop} (hgd : o.guard = none) (d s : Operand)
    (ho : o.op = .call { callee := .builtin .copy, args := #[d, s], argTypes := #[36, 36] }) (g N c : Nat) (hd : a.eval d = .slice (some ⟨g, 0, none⟩) N c) (p : Option Addr) (k c' : Nat) (hs : a.eval s = .slice p k c')
    (L : List Nat) (hB : Blk w g L) (hL : L.length = N) (l : List Nat) (hk : k = l.length) (q : Nat → Prop) (hR : Rd w q (.slice p k c') (l.map nv)) (hle : l.length ≤ N)
    (h : ∀ w', Blk w' g (l ++ L.drop l.length) → w.grownBy w' (some g) → wpList Tryd.prog ops Q rest (a.put o.dst (goInt l.length)) w') : wpList Tryd.prog ops Q (o :: rest) a w := by
  subst hk
  have hsz : (Tryd.prog.info? 5).map (·.size) = some 1 := by
    obtain ⟨i0, hi, hz0, hz1, hz2⟩ := info_parts info_u8
    rw [hi]; simp [hz1]
  by_cases h0 : l = []
  · subst h0
    refine wpList_copy_nothing hgd d s 36 36 ho 5 Tryd.underlying36 hsz _ _ _ _ _ _ hd hs (by simp) ?_
    exact h w (by simpa using hB) (grown_refl _ _)
  · obtain ⟨p1, c1, e1, hx⟩ := id hR
    injection e1 with a1 a2 a3
    subst a1
    obtain ⟨b, off, rfl, _, _⟩ := hx (by simpa using h0)
    have hBl : w.heap[g]? = some (.cells (L.map nv).toArray 5 (0, 0)) := hB
    refine wpList_copy_own hgd d s 36 36 ho 5 Tryd.underlying36 hsz g 0 N c ⟨b, off, none⟩ l.length c' hd hs _ _ hBl (l.map nv) (by rw [List.length_map]; exact (Nat.min_eq_left hle).symm) hR.news (by simp; omega) nv_one ?_
    rw [List.length_map]
    refine h _ ?_ ⟨rfl, rfl, rfl, by simp [World.setRow], fun k _ hk => setRow_other _ _ _ _ (by intro e; exact hk (by rw [e]))⟩
    refine (setRow_heap w g _ _ _ _ hBl).trans ?_
    congr 2
    simp [List.map_drop]
set_option maxRecDepth 100000 in
theorem pz_copy {l : List Nat} {N M : Nat} {f : Nat → Bool} (hl : By l) (hv : vs l (N : Int) = true) (hM : l.length ≤ M) (hf : ∀ i, i < N → f i = bt l i) : l ++ (List.replicate M 0).drop l.length = pz f N M := by
  obtain ⟨h1, h2, h3⟩ := vs_iff.1 hv
  have e := pz_bt l N hl fun i hi hi2 => h3 i hi2 hi
  apply List.ext_getElem?
  intro j
  by_cases hj : j < M
  · rw [pz_at _ _ _ _ hj]
    by_cases hjl : j < l.length
    · rw [List.getElem?_append_left hjl]
      have e2 : l[j]? = (pz (bt l) N l.length)[j]? := congrArg (fun x : List Nat => x[j]?) e
      rw [e2, pz_at _ _ _ _ hjl]
      refine congrArg some (py_congr fun i _ _ => ?_)
      by_cases hi : i < N
      · rw [hf i hi]
      · simp [hi]
    · rw [List.getElem?_append_right (by omega), List.getElem?_drop, List.getElem?_replicate, if_pos (by omega), py_zero f (by omega)]
  · rw [List.getElem?_eq_none (by simp; omega), List.getElem?_eq_none (by rw [pz_len]; omega)]
set_option maxRecDepth 100000 in
theorem ok_end {w w6 : World} {b g M : Nat} {L : List Nat} {T : Int} (hB : Blk w6 g L) (hM : M = L.length) (hL : By L) (hg : w.heap.size ≤ g) (h : w.grownBy w6 none) (hb : w.heap.size ≤ b) (hne : b ≠ g) :
    StreamErr L T 0 w (.returned (.tuple #[.agg #[.slice (some ⟨g, 0, none⟩) M M, .int .i64 T], .int .i64 0])) ((w6.setCell ⟨b, 0, none⟩ (.slice (some ⟨g, 0, none⟩) M M)).setCell ⟨b, 1, none⟩ (.int .i64 T)) := by
  subst hM
  have gr := grown_store2 w6 b (.slice (some ⟨g, 0, none⟩) L.length L.length) (.int .i64 T)
  refine ⟨_, rfl, ⟨some ⟨g, 0, none⟩, L.length, rfl, ?_, (by intro e; cases e), hL⟩, grown_new h gr hb⟩
  exact (hB.grown gr (by intro e; exact hne (Option.some.inj e).symm)).rd _ hg _
/-- Zeros' struct has been laid into a block of its own. -/
structure Made (W : World) (g M : Nat) (T : Int) (L : List Nat) (t : Nat) (w' : World) : Prop where
  blk : Blk w' g L
  row : w'.heap[t]? = some (.cells #[.slice (some ⟨g, 0, none⟩) M M, .int .i64 T] 47 (0, 0))
  gr : W.grownBy w' none
  ne : t ≠ g
  lo : W.heap.size ≤ g
set_option maxRecDepth 100000 in
theorem made_of {W w3 : World} {g M : Nat} {T : Int} {L : List Nat} (hB : Blk w3 g L) (hg : W.heap.size ≤ g) (h : W.grownBy w3 none) :
    Made W g M T L w3.heap.size (w3.alloc (.cells #[.slice (some ⟨g, 0, none⟩) M M, .int .i64 T] 47)) := by
  have hlt := hB.lt
  exact ⟨hB.keep (World.grownBy_alloc w3 _ _), heap_alloc_new w3 _, grown_trans h (World.grownBy_alloc w3 _ _), by omega, hg⟩
set_option maxRecDepth 100000 in
theorem grown_at {W w1 w2 : World} {g : Nat} (h : W.grownBy w1 none) (k : w1.grownBy w2 (some g)) (hb : W.heap.size ≤ g) : W.grownBy w2 none := grown_new h k hb
set_option maxRecDepth 100000 in
theorem Made.next {W w1 w2 : World} {g M t : Nat} {T : Int} {L L' : List Nat} (h : Made W g M T L t w1) (k : w1.grownBy w2 (some g)) (hB : Blk w2 g L') : Made W g M T L' t w2 :=
  ⟨hB, kept_row h.row k (by intro e; exact h.ne (Option.some.inj e)), grown_at h.gr k h.lo, h.ne, h.lo⟩
set_option maxRecDepth 100000 in
theorem apf_low {l : List Nat} {N v K : Nat} : ∀ i, i < N → apf l N v K i = bt l i := fun i hi => by unfold apf; rw [if_pos hi]
set_option maxRecDepth 100000 in
theorem apf_high {l : List Nat} {N v K : Nat} : ∀ t, t < K → apf l N v K (N + t) = v.testBit (K - 1 - t) := fun t _ => by
  unfold apf; rw [if_neg (by omega), show N + t - N = t by omega]
set_option maxRecDepth 100000 in
set_option maxHeartbeats 3200000 in
theorem appendp_any (l : List Nat) (n : Int) (v : Nat) (k : Int) (q : Nat → Prop) (p : Option Addr) (c : Nat) (hl : By l) (hv64 : U64 v) (w : World) (hq : ∀ b, q b → b < w.heap.size) (hR : Rd w q (.slice p l.length c) (l.map nv)) :
    Calls Tryd.prog 46 #[.agg #[.slice p l.length c, .int .i64 n], .int .u64 (v : Int), .int .i64 k] w fun e w' => SPost (apV l n v k) w e w' := by
  obtain ⟨k1, k2, k3, k4⟩ := two_boxes w #[.slice p l.length c, .int .i64 n] #[.slice none 0 0, .int .i64 0] 47 47
  have H0 := Lib.hid (And.intro k1 (And.intro k2 (And.intro k3 k4)))
  have hR1 := hR.keep k3
  clear k1 k2 k3 k4 hR
  go_enter Tryd.func46, Tryd.ntmps46
  go_wp2_with fail
  generalize (w.alloc (.cells #[.slice p l.length c, .int .i64 n] 47)).alloc (.cells #[.slice none 0 0, .int .i64 0] 47) = w1 at *
  refine (validp_any l n q p c hl _ hR1).mono ?_
  rintro e w2 ⟨rfl, hg⟩
  have hrow := kept_row H0.out.1 hg (by simp)
  have hres := kept_row H0.out.2.1 hg (by simp)
  obtain ⟨c0, c1⟩ := row_cells hrow
  obtain ⟨r0, r1⟩ := row_cells hres
  have g0 := frozen_of_row _ _ 0 _ _ hres
  have g1 := frozen_of_row _ _ 1 _ _ hres
  have HG := Lib.hid (grown_trans H0.out.2.2.1 hg)
  have HRES := Lib.hid hres
  have HROW := Lib.hid hrow
  have HSZ : Hid (w.heap.size + 2 ≤ w2.heap.size) := Lib.hid (by rw [← H0.out.2.2.2]; exact hg.size)
  have hR2 := hR1.keep hg
  clear hrow hres hg hR1 H0
  by_cases hv : vs l n = true
  · obtain ⟨N, rfl⟩ := vs_nat hv
    obtain ⟨hN, hlen⟩ := vs_bits hv
    rw [hv]
    by_cases hw : vw k = true
    · obtain ⟨K, rfl, hK⟩ := vw_nat hw
      have hKu : (K : Int) < 65 := by omega
      by_cases h3 : 2 ^ K ≤ v
      · have V := Lib.hid (apV_value hv hw h3)
        have hne : ((v : Int) / 2 ^ K == 0) = false := by
          rw [shrW]
          have := Nat.div_pos h3 (Nat.pow_pos (by decide))
          generalize v / 2 ^ K = z at *
          simp; omega
        clear hv hlen
        go_wp2_with (go_at_call 85; refine (width_any _ _).mono ?_; rintro e w' ⟨rfl, rfl⟩; rw [hw])
        refine bodyPost_ret (res_stream_err rfl _ _ (w.heap.size + 1) _ _ rfl (store2 HRES.out)) rfl ?_
        exact SPost.of V.out (err_end HG.out (by omega))
      · have hz : (v : Int) / 2 ^ K = 0 := by
          rw [shrW, Nat.div_eq_of_lt (by omega)]; rfl
        by_cases h4 : 8192 < N + K
        · have V := Lib.hid (apV_limit hv hw h3 h4)
          have h4' : (8192 : Int) < (N : Int) + (K : Int) := by omega
          clear hv hlen
          go_wp2_with (go_at_call 85; refine (width_any _ _).mono ?_; rintro e w' ⟨rfl, rfl⟩; rw [hw])
          refine bodyPost_ret (res_stream_err rfl _ _ (w.heap.size + 1) _ _ rfl (store2 HRES.out)) rfl ?_
          exact SPost.of V.out (err_end HG.out (by omega))
        · have V := Lib.hid (apV_ok hv hw h3 h4)
          have h4' : ¬ (8192 : Int) < (N : Int) + (K : Int) := by omega
          obtain ⟨T, hT⟩ : ∃ T : Nat, N + K = T := ⟨_, rfl⟩
          have hTi : (N : Int) + (K : Int) = (T : Int) := by omega
          have hT8 : T ≤ 8192 := by omega
          have C := zeros_any T (by omega) w2
          unfold ZerosPost at C
          generalize hM : (T + 7) / 8 = M at C
          have H1 := Lib.hid C
          have HM := Lib.hid hM
          have HT := Lib.hid hT
          have HL := Lib.hid hlen
          have HV := Lib.hid hv
          clear hv hlen C hM hT
          go_wp2_with (go_at_call 85; refine (width_any _ _).mono ?_; rintro e w' ⟨rfl, rfl⟩; rw [hw])
          refine H1.out.mono ?_
          rintro e w3 ⟨g, rfl, hgg, hB3, hg3⟩
          have hrow := kept_row HROW.out hg3 (by simp)
          have hres := kept_row HRES.out hg3 (by simp)
          obtain ⟨c0, c1⟩ := row_cells hrow
          obtain ⟨r0, r1⟩ := row_cells hres
          have g0 := frozen_of_row _ _ 0 _ _ hres
          have g1 := frozen_of_row _ _ 1 _ _ hres
          have hgne : ∀ b, q b → some b ≠ some g := fun b hb e => by have := hq b hb; have := Option.some.inj e; have := HG.out.size; omega
          have M4 := Lib.hid (made_of (W := w) (M := M) (T := (T : Int)) hB3 (by have := HG.out.size; omega) (grown_trans HG.out hg3))
          have hR4 := (hR2.keep hg3).keep (World.grownBy_alloc w3 (.cells #[.slice (some ⟨g, 0, none⟩) M M, .int .i64 (T : Int)] 47) none)
          have HR4 := Lib.hid hR4
          have n1 : ¬ w.heap.size = w3.heap.size := by have := HSZ.out; have := hg3.size; omega
          have n2 : w.heap.size ≠ w3.heap.size := n1
          have n3 : w.heap.size < w3.heap.size := by have := HSZ.out; have := hg3.size; omega
          have hgw : w.heap.size + 2 ≤ g := by have := HSZ.out; omega
          have HRES3 := Lib.hid (kept_row hres (World.grownBy_alloc w3 (.cells #[.slice (some ⟨g, 0, none⟩) M M, .int .i64 (T : Int)] 47) none) (by simp))
          have HROW3 := Lib.hid (kept_row hrow (World.grownBy_alloc w3 (.cells #[.slice (some ⟨g, 0, none⟩) M M, .int .i64 (T : Int)] 47) none) (by simp))
          clear hR4 hB3 hrow hres H1 hR2
          go_wp2_with (first
            | (refine wpList_copy_into rfl _ _ rfl g M M rfl p l.length c rfl (List.replicate M 0) M4.out.blk (by simp) l rfl q HR4.out (by have := HM.out; have := HL.out; have := HT.out; omega) ?_; intro w5 hB5 hg5; rw [pz_copy (f := apf l N v K) hl HV.out (by have := HM.out; have := HL.out; have := HT.out; omega) apf_low] at hB5; have M5 := Lib.hid (M4.out.next hg5 hB5); have HR5 := Lib.hid (kept_row HRES3.out hg5 (by intro e; have := Option.some.inj e; omega)); obtain ⟨d0, d1⟩ := row_cells (kept_row HROW3.out hg5 (by intro e; have := Option.some.inj e; omega)); obtain ⟨e0, e1⟩ := row_cells M5.out.row; clear hB5 hg5)
            | (go_at_call 87; refine (write_any (apf l N v K) M g M N K v (by have := HM.out; omega) (by have := HM.out; have := HT.out; omega) hK hv64 apf_high _ M5.out.blk).mono ?_; rintro e w6 ⟨rfl, hw6⟩; have M6 := Lib.hid (M5.out.next hw6.2 hw6.1); have HR6 := Lib.hid (kept_row HR5.out hw6.2 (by intro e; have := Option.some.inj e; omega)); obtain ⟨f0, f1⟩ := row_cells M6.out.row; obtain ⟨r0, r1⟩ := row_cells HR6.out; have g0 := frozen_of_row _ _ 0 _ _ HR6.out; have g1 := frozen_of_row _ _ 1 _ _ HR6.out; clear hw6))
          refine bodyPost_ret (res_stream_err rfl _ _ (w.heap.size + 1) _ _ rfl (store2 HR6.out)) rfl ?_
          refine SPost.of V.out ?_
          rw [HT.out, HM.out]
          have M6' := M6.out
          rw [HT.out] at M6'
          exact ok_end M6'.blk (by rw [pz_len]) (pz_lt _ _ _) M6'.lo M6'.gr (by omega) (by omega)
    · have hw0 : vw k = false := by simpa using hw
      have V := Lib.hid (apV_width (v := v) hv hw0)
      clear hv hlen
      go_wp2_with (go_at_call 85; refine (width_any _ _).mono ?_; rintro e w' ⟨rfl, rfl⟩; rw [hw0])
      refine bodyPost_ret (res_stream_err rfl _ _ (w.heap.size + 1) _ _ rfl (store2 HRES.out)) rfl ?_
      exact SPost.of V.out (err_end HG.out (by omega))
  · have hv0 : vs l n = false := by simpa using hv
    have V := Lib.hid (apV_inv (v := v) (k := k) hv0)
    rw [hv0]
    go_wp2_with fail
    refine bodyPost_ret (res_stream_err rfl _ _ (w.heap.size + 1) _ _ rfl (store2 HRES.out)) rfl ?_
    exact SPost.of V.out (err_end HG.out (by omega))
end Go.Proofs.YtpoocenooomghaaDoor
