/- Parts of the proof, packed: ToOrd. -/
import Derived.Test.YtpogblengagpaaaGreatDoorPa3
import Derived.Test.YtpogblengagpaaaGreatDoorPa6
import Derived.Test.YtpogblengagpaaaGreatDoorPa1
import Derived.BigQuiet
import Derived.Deep.CutBlock
import Derived.Deep.Onto
/- The tape's order of links: the links in order, in a block of the call's own. -/
namespace Go.Proofs.YtpogblengagpaaaGreatDoor
set_option maxRecDepth 100000
open Go.RowKit Bs
structure OM (w0 : World) (L : List Lk) (p : Option Addr) (c : Nat) (O : List Lk) (v : Value) (w : World) : Prop where
 l : RdL5 w (· < w0.heap.size) (.slice p L.length c) L
 own : w.ownsRow w0.heap.size 135 5 v O.length (O.flatMap lkC)
 gr : w0.grownBy w none
theorem OM.keep {w0 w w' : World} {L O : List Lk} {p : Option Addr} {c : Nat} {v : Value} (h : OM w0 L p c O v w) (g : w.grownBy w' none) : OM w0 L p c O v w' :=
 ⟨h.l.keep g, h.own.kept g (by cases hv : v.ownBlock <;> simp), grown_trans h.gr g⟩
theorem OM.cells {w0 w : World} {L O : List Lk} {b off c b3 off3 c3 k j : Nat} {x y : Lk} (h : OM w0 L (some ⟨b, off, none⟩) c O (.slice (some ⟨b3, off3, none⟩) O.length c3) w) (hy : L[k]? = some y) (hx : O[j]? = some x) :
  (w.cell? ⟨b, off + k * 5, none⟩ = some (.int .i64 y.a) ∧ w.cell? ⟨b, off + k * 5 + 1, none⟩ = some (.int .i64 y.b)) ∧ w.cell? ⟨b3, off3 + j * 5, none⟩ = some (.int .i64 x.a) ∧ w.cell? ⟨b3, off3 + j * 5 + 1, none⟩ = some (.int .i64 x.b) := by
 have h1 := (List.getElem?_eq_some_iff.1 hy).1
 have h2 := (List.getElem?_eq_some_iff.1 hx).1
 obtain ⟨-, b', off', e, -, hc⟩ := rdl_cells (L := L) h.l (by omega)
 injection e with e
 injection e with e4 e5
 subst e4
 subst e5
 obtain ⟨-, b', off', e, -, hc3⟩ := rdl_cells (L := O) (rdf_of_own h.own) (by omega)
 injection e with e
 injection e with e4 e5
 subst e4
 subst e5
 exact ⟨⟨(hc k y hy).1, (hc k y hy).2.1⟩, (hc3 j x hx).1, (hc3 j x hx).2.1⟩
theorem own_formF {w : World} {base size n : Nat} {e : TypeId} {v : Value} {xs : List Value} (h : w.ownsRow base e size v n xs) : (v = .slice none 0 0 ∧ n = 0) ∨ ∃ g cap, v = .slice (some ⟨g, 0, none⟩) n cap ∧ n ≤ cap ∧ cap ≤ 9223372036854775807 := by
 rcases h.2 with ⟨rfl, h0⟩ | ⟨g, cap, cur, rfl, _, _, hn, hm, _⟩
 ·exact .inl ⟨rfl, h0⟩
 ·unfold maxLen at hm
  exact .inr ⟨g, cap, rfl, hn, by omega⟩
theorem OM.link {w0 w : World} {L O : List Lk} {b off c k : Nat} {v : Value} {y : Lk} (h : OM w0 L (some ⟨b, off, none⟩) c O v w) (hy : L[k]? = some y) :
  w.cell? ⟨b, off + k * 5, none⟩ = some (.int .i64 y.a) ∧ w.cell? ⟨b, off + k * 5 + 1, none⟩ = some (.int .i64 y.b) ∧ w.cell? ⟨b, off + k * 5 + 2, none⟩ = some (.int .i64 y.ca) ∧ w.cell? ⟨b, off + k * 5 + 3, none⟩ = some (.int .i64 y.cb) ∧ w.cell? ⟨b, off + k * 5 + 4, none⟩ = some (.int .i64 y.cp) := by
 have h1 := (List.getElem?_eq_some_iff.1 hy).1
 obtain ⟨-, b', off', e, -, hc⟩ := rdl_cells (L := L) h.l (by omega)
 injection e with e
 injection e with e4 e5
 subst e4
 subst e5
 exact hc k y hy
theorem OM.apart {w0 w w1 : World} {L O : List Lk} {p : Option Addr} {c base2 m : Nat} {v v2 : Value} {ys : List Value} (h : OM w0 L p c O v w) (hb : w0.heap.size ≤ base2) (hv : w.ownsRow base2 135 5 v2 m ys) (h3 : ∀ g, v.ownBlock = some g → g < base2) (k : w.grownBy w1 v2.ownBlock) : OM w0 L p c O v w1 :=
 ⟨h.l.grown k (fun b hlt e => by have := (hv.lt b e.symm).1; omega), own_apartF h.own hv h3 k, old_grow h.gr hv hb k⟩
theorem OM.finish {w0 w w1 : World} {L O O' O2 : List Lk} {p : Option Addr} {c base2 m : Nat} {v v2 v3 : Value} {ys : List Value} (h : OM w0 L p c O v w) (hb : w0.heap.size ≤ base2) (hv : w.ownsRow base2 135 5 v2 m ys) (ho : w1.ownsRow base2 135 5 v3 O2.length (O2.flatMap lkC)) (k : w.grownBy w1 v2.ownBlock) (e : O' = O2) : OM w0 L p c O' v3 w1 := by
 subst e
 exact ⟨h.l.grown k (fun b hlt e => by have := (hv.lt b e.symm).1; omega), ho.mono hb, old_grow h.gr hv hb k⟩
def Bef (O : List Lk) (y : Lk) (j : Nat) : Prop := ∀ i x, i < j → O[i]? = some x → ltL x y = true
theorem Bef.succ {O : List Lk} {y x : Lk} {j : Nat} (h : Bef O y j) (hx : O[j]? = some x) (hl : ltL x y = true) : Bef O y (j + 1) := by
 intro i z hi hz
 by_cases hij : i < j
 ·exact h i z hij hz
 ·obtain rfl : i = j := by omega
  rw [hx] at hz
  obtain rfl := Option.some.inj hz
  exact hl
set_option maxHeartbeats 6400000 in
theorem ord_any (L : List Lk) (p : Option Addr) (c : Nat) (q : Nat → Prop) (w : World) (hL : RdL5 w q (.slice p L.length c) L) (hm : L.length ≤ 1000) :
  Calls Tryz.prog 85 #[.slice p L.length c] w fun e w' => ∃ (v : Value), e = .returned v ∧ w'.ownsRow w.heap.size 135 5 v (ordL L).length ((ordL L).flatMap lkC) ∧ w.grownBy w' none := by
 obtain ⟨il, hil, hl0, hl1, hl2⟩ := info_parts info_lk
 have M0 : Hid (OM w L p c (ordL (L.take 0)) (.slice none 0 0) w) := Lib.hid ⟨hL.old, World.ownsRow_nil _ _ _ _, grown_refl _ _⟩
 clear hL
 go_enter Tryz.func85, Tryz.ntmps85
 go_wp2_with fail
 go_loopw [3, 4] (fun v a wr => ∃ (k : Nat), k ≤ L.length ∧ a = .int .i64 (k : Int) ∧ Hid (OM w L p c (ordL (L.take k)) v wr)) (fun _ a _ => L.length - (RowKit.intOf a).toNat)
 case atStart => exact ⟨0, Nat.zero_le _, rfl, M0⟩
 case round =>
  obtain ⟨k, hk, rfl, M⟩ := hrel
  clear M0
  by_cases hlt : k < L.length
  ·obtain ⟨-, b, off, rfl, hq, -⟩ := rdl_cells (L := L) M.out.l (by omega)
   obtain ⟨y, hy⟩ : ∃ y, L[k]? = some y := ⟨_, List.getElem?_eq_getElem hlt⟩
   have HS := Lib.hid (ordL_take L k y hy)
   have HO : Hid ((ordL (L.take k)).length = k) := Lib.hid (by rw [ordL_len, List.length_take]; omega)
   have hO1 : (ordL (L.take k)).length ≤ 1000 := by rw [HO.out]; omega
   obtain ⟨O, hOd⟩ : ∃ O, O = ordL (L.take k) := ⟨_, rfl⟩
   rw [← hOd] at M HS HO hO1
   clear hOd
   obtain ⟨p3, c3, rfl, h31, h32⟩ := own_shape M.out.own
   have HY := Lib.hid hy
   clear hy
   go_upto_block 2 with fail
   go_cut [5] from 13 to 56 (fun a wi => ∃ j : Nat, j ≤ O.length ∧ a = .int .i64 (j : Int) ∧ Hid (insL O y = O.take j ++ y :: O.drop j ∧ OM w L (some ⟨b, off, none⟩) c O (.slice p3 O.length c3) wi))
   case first =>
    go_wp2_with fail
    go_loopw [5] (fun a wi => ∃ (j : Nat), j ≤ O.length ∧ a = .int .i64 (j : Int) ∧ Hid (Bef O y j ∧ OM w L (some ⟨b, off, none⟩) c O (.slice p3 O.length c3) wi)) (fun a _ => O.length - (RowKit.intOf a).toNat)
    case atStart => exact ⟨0, Nat.zero_le _, rfl, Lib.hid ⟨fun i x hi => by omega, M.out⟩⟩
    case round =>
     obtain ⟨j, hj, rfl, MI⟩ := hrel
     clear M
     by_cases hlt2 : j < O.length
     ·obtain ⟨b3, off3, rfl⟩ : ∃ b3 off3, p3 = some ⟨b3, off3, none⟩ := by
       obtain ⟨-, b3, off3, e, -, -⟩ := rdl_cells (L := O) (rdf_of_own MI.out.2.own) (by omega)
       exact ⟨b3, off3, e⟩
      obtain ⟨x, hx⟩ : ∃ x, O[j]? = some x := ⟨_, List.getElem?_eq_getElem hlt2⟩
      obtain ⟨⟨d0, d1⟩, a0, a1⟩ := MI.out.2.cells HY.out hx
      have HX := Lib.hid hx
      clear hx
      have h1j : (0 : Int) ≤ (j : Int) := by omega
      have h2j : (j : Int) < (O.length : Int) := by omega
      have h1k : (0 : Int) ≤ (k : Int) := by omega
      have h2k : (k : Int) < (L.length : Int) := by omega
      by_cases h1 : x.a < y.a
      ·have HN : ∀ n, Hid (Bef O y (j + 1) ∧ OM w L (some ⟨b, off, none⟩) c O (.slice (some ⟨b3, off3, none⟩) O.length c3) (wr.drewN n)) := fun n => Lib.hid ⟨MI.out.1.succ HX.out (decide_eq_true (.inl h1)), MI.out.2.keep (grown_drewN _ n _)⟩
       go_wp2_with fail
       go_quiet (fail)
       go_wp2_with fail
       exact ⟨⟨j + 1, by omega, congrArg _ (by omega), HN _⟩, by simp only [RowKit.intOf]; omega⟩
      ·have h1' : decide (x.a < y.a) = false := decide_eq_false h1
       by_cases h2 : x.a = y.a
       ·by_cases h3 : x.b < y.b
        ·have HN : ∀ n, Hid (Bef O y (j + 1) ∧ OM w L (some ⟨b, off, none⟩) c O (.slice (some ⟨b3, off3, none⟩) O.length c3) (wr.drewN n)) := fun n => Lib.hid ⟨MI.out.1.succ HX.out (decide_eq_true (.inr ⟨h2, h3⟩)), MI.out.2.keep (grown_drewN _ n _)⟩
         go_wp2_with fail
         go_quiet (fail)
         go_wp2_with fail
         exact ⟨⟨j + 1, by omega, congrArg _ (by omega), HN _⟩, by simp only [RowKit.intOf]; omega⟩
        ·have h3' : decide (x.b < y.b) = false := decide_eq_false h3
         have HN : ∀ n, Hid (insL O y = O.take j ++ y :: O.drop j ∧ OM w L (some ⟨b, off, none⟩) c O (.slice (some ⟨b3, off3, none⟩) O.length c3) (wr.drewN n)) := fun n => Lib.hid ⟨insL_at y O j hj MI.out.1 (fun z hz => by rw [HX.out] at hz; obtain rfl := Option.some.inj hz; exact decide_eq_false (by omega)), MI.out.2.keep (grown_drewN _ n _)⟩
         go_wp2_with fail
         go_quiet (fail)
         go_wp2_with fail
         go_meet
         exact ⟨j, hj, rfl, HN _⟩
       ·have h2' : (x.a == y.a) = false := by simpa using h2
        have HN : ∀ n, Hid (insL O y = O.take j ++ y :: O.drop j ∧ OM w L (some ⟨b, off, none⟩) c O (.slice (some ⟨b3, off3, none⟩) O.length c3) (wr.drewN n)) := fun n => Lib.hid ⟨insL_at y O j hj MI.out.1 (fun z hz => by rw [HX.out] at hz; obtain rfl := Option.some.inj hz; exact decide_eq_false (by omega)), MI.out.2.keep (grown_drewN _ n _)⟩
        go_wp2_with fail
        go_quiet (fail)
        go_wp2_with fail
        go_meet
        exact ⟨j, hj, rfl, HN _⟩
     ·obtain rfl : j = O.length := by omega
      have h1' : decide ((O.length : Int) < (O.length : Int)) = false := decide_eq_false (by omega)
      have HN : ∀ n, Hid (insL O y = O.take O.length ++ y :: O.drop O.length ∧ OM w L (some ⟨b, off, none⟩) c O (.slice p3 O.length c3) (wr.drewN n)) := fun n => Lib.hid ⟨insL_at y O O.length hj MI.out.1 (fun z hz => by rw [List.getElem?_eq_none (Nat.le_refl _)] at hz; cases hz), MI.out.2.keep (grown_drewN _ n _)⟩
      go_wp2_with fail
      go_quiet (fail)
      go_wp2_with fail
      go_meet
      exact ⟨O.length, hj, rfl, HN _⟩
   case rest =>
    obtain ⟨j, hj, rfl, HK⟩ := hcut
    clear M
    have HW : Hid (w.heap.size ≤ wc.heap.size) := Lib.hid HK.out.2.gr.size
    obtain ⟨T1, hT1⟩ : ∃ T1, O.take j = T1 := ⟨_, rfl⟩
    obtain ⟨T2, hT2⟩ : ∃ T2, O.drop j = T2 := ⟨_, rfl⟩
    have HI : Hid (insL O y = T1 ++ y :: T2) := Lib.hid (by rw [← hT1, ← hT2]; exact HK.out.1)
    have HJ : Hid (j = T1.length) := Lib.hid (by rw [← hT1, List.length_take]; omega)
    have HJ2 : Hid (O.length - j = T2.length) := Lib.hid (by rw [← hT2, List.length_drop])
    have HT := Lib.hid (And.intro hT1 hT2)
    clear hT1 hT2
    have HB3 : Hid (∀ g, (Value.slice p3 O.length c3).ownBlock = some g → g < wc.heap.size) := Lib.hid (fun g hg => (HK.out.2.own.lt g hg).2)
    rcases own_formF HK.out.2.own with ⟨e, e0⟩ | ⟨g3, cap3, e, hn3, hm3⟩
    ·injection e with e1 e2 e3
     subst e1
     subst e3
     obtain rfl := List.eq_nil_of_length_eq_zero e0
     obtain rfl : j = 0 := by simpa using hj
     have HR1 : Hid (RdL5 wc (fun _ => True) (.slice none 0 0) T1) := Lib.hid (by obtain rfl := HT.out.1; exact rdf_nil _ _ _ _)
     go_wp2_with (at_builtin; refine hold_on ?_)
     refine Lib.hid ?_
     refine (wpList_append_f lkC 5 40 (by decide) (fun _ => rfl) lk_one 135 66 il _ Tryz.underlying66 hil hl0 hl1 hl2 rfl (by decide) rfl _ _ rfl wc.heap.size (.slice none 0 0) [] 0 rfl rfl (World.ownsRow_nil _ _ _ _) _ _ _ T1 rfl HJ.out (by simp) _ HR1.out (by omega) (by rw [← HJ.out]; omega) (Nat.le_refl _) ?_)
     intro v1 w4 hown1 hg1
     have M4 := Lib.hid (HK.out.2.keep hg1)
     have HO1 : Hid (w4.ownsRow wc.heap.size 135 5 v1 T1.length (T1.flatMap lkC)) := Lib.hid hown1
     clear hown1
     obtain ⟨p1, c1, rfl, -, -⟩ := own_shape HO1.out
     have HZ4 := Lib.hid hg1.size
     obtain ⟨d0, d1, d2, d3, d4⟩ := M4.out.link HY.out
     clear hg1 HR1
     go_wp2_with (at_builtin; refine hold_on ?_)
     refine Lib.hid ?_
     refine (wpList_append_f lkC 5 40 (by decide) (fun _ => rfl) lk_one 135 66 il _ Tryz.underlying66 hil hl0 hl1 hl2 rfl (by decide) rfl _ _ rfl wc.heap.size _ T1 _ rfl rfl (HO1.out.alloc _) _ _ _ [y] rfl rfl (by simp) (fun _ => True) (rdf_one _ trivial (cells5 w4 _ _ _ _ _ _) 1) (by omega) (by rw [← HJ.out]; simp <;> omega) (by have := HZ4.out; simp <;> omega) ?_)
     intro v2 w5 hown2 hg2
     have M5 := Lib.hid ((M4.out.keep (World.grownBy_alloc w4 _ none)).apart HW.out (HO1.out.alloc _) HB3.out hg2)
     obtain ⟨T3, hT3⟩ : ∃ T3, T3 = T1 ++ [y] := ⟨_, rfl⟩
     rw [← hT3] at hown2
     have HO2 := Lib.hid hown2
     have HT3 := Lib.hid hT3
     clear hown2 hT3
     obtain ⟨p2, c2, rfl, -, -⟩ := own_shape HO2.out
     have HZ5 : Hid (wc.heap.size ≤ w5.heap.size) := Lib.hid (Nat.le_trans HZ4.out (Nat.le_trans (by simp) hg2.size))
     clear hg2 d0 d1 d2 d3 d4 M4 HZ4
     have HR3 := Lib.hid ((show RdL5 w5 (fun _ => True) (.slice none 0 0) T2 from by obtain rfl := HT.out.2; exact rdf_nil _ _ _ _))
     go_wp2_with (at_builtin; refine hold_on ?_)
     refine Lib.hid ?_
     refine (wpList_append_f lkC 5 40 (by decide) (fun _ => rfl) lk_one 135 66 il _ Tryz.underlying66 hil hl0 hl1 hl2 rfl (by decide) rfl _ _ rfl wc.heap.size _ T3 _ rfl rfl HO2.out _ _ _ T2 rfl (by have := HJ2.out; omega) (by simp) _ HR3.out (by omega) (by rw [← HJ2.out, HT3.out, List.length_append, ← HJ.out]; simp <;> omega) HZ5.out ?_)
     intro v3 w6 hown3 hg3
     have M6 : Hid (OM w L (some ⟨b, off, none⟩) c (ordL (L.take (k + 1))) v3 w6) := Lib.hid (M5.out.finish HW.out HO2.out hown3 hg3 (by rw [HS.out, HI.out, HT3.out]; simp))
     clear hown3 hg3 M5 HO2 HO1 HR3
     go_wp2_with fail
     exact ⟨⟨k + 1, by omega, congrArg _ (by omega), M6⟩, by simp only [RowKit.intOf]; omega⟩
    ·injection e with e1 e2 e3
     subst e1
     subst e3
     have HR1 : Hid (RdL5 wc (· < wc.heap.size) (.slice (some ⟨g3, 0, none⟩) j c3) T1) := Lib.hid (by rw [← HT.out.1]; exact (RdF.part (f := lkC) (k := 5) (fun _ => rfl) (rdf_of_own2 HK.out.2.own) j hj c3).mono (fun b hb => hb.2))
     by_cases hcj : c3 = j
     ·obtain rfl : j = O.length := by omega
      subst hcj
      go_wp2_with (at_builtin; refine hold_on ?_)
      refine Lib.hid ?_
      refine (wpList_append_f lkC 5 40 (by decide) (fun _ => rfl) lk_one 135 66 il _ Tryz.underlying66 hil hl0 hl1 hl2 rfl (by decide) rfl _ _ rfl wc.heap.size (.slice none 0 0) [] 0 rfl rfl (World.ownsRow_nil _ _ _ _) _ _ _ T1 rfl HJ.out (by simp) _ HR1.out (by omega) (by rw [← HJ.out]; omega) (Nat.le_refl _) ?_)
      intro v1 w4 hown1 hg1
      have M4 := Lib.hid (HK.out.2.keep hg1)
      have HO1 : Hid (w4.ownsRow wc.heap.size 135 5 v1 T1.length (T1.flatMap lkC)) := Lib.hid hown1
      clear hown1
      obtain ⟨p1, c1, rfl, -, -⟩ := own_shape HO1.out
      have HZ4 := Lib.hid hg1.size
      obtain ⟨d0, d1, d2, d3, d4⟩ := M4.out.link HY.out
      clear hg1 HR1
      go_wp2_with (at_builtin; refine hold_on ?_)
      refine Lib.hid ?_
      refine (wpList_append_f lkC 5 40 (by decide) (fun _ => rfl) lk_one 135 66 il _ Tryz.underlying66 hil hl0 hl1 hl2 rfl (by decide) rfl _ _ rfl wc.heap.size _ T1 _ rfl rfl (HO1.out.alloc _) _ _ _ [y] rfl rfl (by simp) (fun _ => True) (rdf_one _ trivial (cells5 w4 _ _ _ _ _ _) 1) (by omega) (by rw [← HJ.out]; simp <;> omega) (by have := HZ4.out; simp <;> omega) ?_)
      intro v2 w5 hown2 hg2
      have M5 := Lib.hid ((M4.out.keep (World.grownBy_alloc w4 _ none)).apart HW.out (HO1.out.alloc _) HB3.out hg2)
      obtain ⟨T3, hT3⟩ : ∃ T3, T3 = T1 ++ [y] := ⟨_, rfl⟩
      rw [← hT3] at hown2
      have HO2 := Lib.hid hown2
      have HT3 := Lib.hid hT3
      clear hown2 hT3
      obtain ⟨p2, c2, rfl, -, -⟩ := own_shape HO2.out
      have HZ5 : Hid (wc.heap.size ≤ w5.heap.size) := Lib.hid (Nat.le_trans HZ4.out (Nat.le_trans (by simp) hg2.size))
      clear hg2 d0 d1 d2 d3 d4 M4 HZ4
      have HR3 := Lib.hid ((show RdL5 w5 (fun _ => True) (.slice (some ⟨g3, 0, none⟩) 0 0) T2 from by rw [← HT.out.2, List.drop_length]; exact rdf_nil _ _ _ _))
      go_wp2_with (at_builtin; refine hold_on ?_)
      refine Lib.hid ?_
      refine (wpList_append_f lkC 5 40 (by decide) (fun _ => rfl) lk_one 135 66 il _ Tryz.underlying66 hil hl0 hl1 hl2 rfl (by decide) rfl _ _ rfl wc.heap.size _ T3 _ rfl rfl HO2.out _ _ _ T2 rfl (by have := HJ2.out; omega) (by simp) _ HR3.out (by omega) (by rw [← HJ2.out, HT3.out, List.length_append, ← HJ.out]; simp <;> omega) HZ5.out ?_)
      intro v3 w6 hown3 hg3
      have M6 : Hid (OM w L (some ⟨b, off, none⟩) c (ordL (L.take (k + 1))) v3 w6) := Lib.hid (M5.out.finish HW.out HO2.out hown3 hg3 (by rw [HS.out, HI.out, HT3.out]; simp))
      clear hown3 hg3 M5 HO2 HO1 HR3
      go_wp2_with fail
      exact ⟨⟨k + 1, by omega, congrArg _ (by omega), M6⟩, by simp only [RowKit.intOf]; omega⟩
     ·have n0 : ¬ c3 - j = 0 := by omega
      go_wp2_with (at_builtin; refine hold_on ?_)
      refine Lib.hid ?_
      refine (wpList_append_f lkC 5 40 (by decide) (fun _ => rfl) lk_one 135 66 il _ Tryz.underlying66 hil hl0 hl1 hl2 rfl (by decide) rfl _ _ rfl wc.heap.size (.slice none 0 0) [] 0 rfl rfl (World.ownsRow_nil _ _ _ _) _ _ _ T1 rfl HJ.out (by simp) _ HR1.out (by omega) (by rw [← HJ.out]; omega) (Nat.le_refl _) ?_)
      intro v1 w4 hown1 hg1
      have M4 := Lib.hid (HK.out.2.keep hg1)
      have HO1 : Hid (w4.ownsRow wc.heap.size 135 5 v1 T1.length (T1.flatMap lkC)) := Lib.hid hown1
      clear hown1
      obtain ⟨p1, c1, rfl, -, -⟩ := own_shape HO1.out
      have HZ4 := Lib.hid hg1.size
      obtain ⟨d0, d1, d2, d3, d4⟩ := M4.out.link HY.out
      clear hg1 HR1
      go_wp2_with (at_builtin; refine hold_on ?_)
      refine Lib.hid ?_
      refine (wpList_append_f lkC 5 40 (by decide) (fun _ => rfl) lk_one 135 66 il _ Tryz.underlying66 hil hl0 hl1 hl2 rfl (by decide) rfl _ _ rfl wc.heap.size _ T1 _ rfl rfl (HO1.out.alloc _) _ _ _ [y] rfl rfl (by simp) (fun _ => True) (rdf_one _ trivial (cells5 w4 _ _ _ _ _ _) 1) (by omega) (by rw [← HJ.out]; simp <;> omega) (by have := HZ4.out; simp <;> omega) ?_)
      intro v2 w5 hown2 hg2
      have M5 := Lib.hid ((M4.out.keep (World.grownBy_alloc w4 _ none)).apart HW.out (HO1.out.alloc _) HB3.out hg2)
      obtain ⟨T3, hT3⟩ : ∃ T3, T3 = T1 ++ [y] := ⟨_, rfl⟩
      rw [← hT3] at hown2
      have HO2 := Lib.hid hown2
      have HT3 := Lib.hid hT3
      clear hown2 hT3
      obtain ⟨p2, c2, rfl, -, -⟩ := own_shape HO2.out
      have HZ5 : Hid (wc.heap.size ≤ w5.heap.size) := Lib.hid (Nat.le_trans HZ4.out (Nat.le_trans (by simp) hg2.size))
      clear hg2 d0 d1 d2 d3 d4 M4 HZ4
      have HR3 := Lib.hid ((show RdL5 w5 _ (.slice (some ⟨g3, j * 5, none⟩) (O.length - j) (c3 - j)) T2 from by rw [← HT.out.2, ← Nat.zero_add (j * 5)]; exact RdF.rest (f := lkC) (k := 5) (fun _ => rfl) (rdf_of_own2 M5.out.own) j (c3 - j)))
      go_wp2_with (at_builtin; refine hold_on ?_)
      refine Lib.hid ?_
      refine (wpList_append_f lkC 5 40 (by decide) (fun _ => rfl) lk_one 135 66 il _ Tryz.underlying66 hil hl0 hl1 hl2 rfl (by decide) rfl _ _ rfl wc.heap.size _ T3 _ rfl rfl HO2.out _ _ _ T2 rfl (by have := HJ2.out; omega) (by simp) _ HR3.out (by omega) (by rw [← HJ2.out, HT3.out, List.length_append, ← HJ.out]; simp <;> omega) HZ5.out ?_)
      intro v3 w6 hown3 hg3
      have M6 : Hid (OM w L (some ⟨b, off, none⟩) c (ordL (L.take (k + 1))) v3 w6) := Lib.hid (M5.out.finish HW.out HO2.out hown3 hg3 (by rw [HS.out, HI.out, HT3.out]; simp))
      clear hown3 hg3 M5 HO2 HO1 HR3
      go_wp2_with fail
      exact ⟨⟨k + 1, by omega, congrArg _ (by omega), M6⟩, by simp only [RowKit.intOf]; omega⟩
  ·obtain rfl : k = L.length := by omega
   rw [List.take_length] at M
   go_wp2_with fail
   go_ret
   exact ⟨_, rfl, M.out.own, M.out.gr⟩
end Go.Proofs.YtpogblengagpaaaGreatDoor
