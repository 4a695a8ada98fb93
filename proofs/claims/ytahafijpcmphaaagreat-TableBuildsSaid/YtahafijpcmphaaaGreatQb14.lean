/- Parts of the proof, packed: ToIns, ToArnM. -/
import Derived.Test.YtahafijpcmphaaaGreatQb5
import Derived.Test.YtahafijpcmphaaaGreatQb13
import Derived.Test.YtahafijpcmphaaaGreatQb11
import Derived.Deep.CutBlock
import Derived.Deep.Onto
/- The reference's Insert. -/
namespace Go.Proofs.YtahafijpcmphaaaGreat
open Go.RowKit Bs
/-- A number laid into an ascending list, once. -/
def insU (l : List Int) (n : Int) : List Int := if (l.drop (l.takeWhile (fun y => decide (y < n))).length).head? = some n then l else l.takeWhile (fun y => decide (y < n)) ++ n :: l.drop (l.takeWhile (fun y => decide (y < n))).length
set_option maxRecDepth 100000 in
theorem tw_len (p : Int → Bool) : ∀ (l : List Int) (j : Nat), j ≤ l.length → (∀ i x, i < j → l[i]? = some x → p x = true) → (∀ x, l[j]? = some x → p x = false) → (l.takeWhile p).length = j ∧ l.takeWhile p = l.take j
  | [], j, hj, _, _ => by
    obtain rfl : j = 0 := by simpa using hj
    exact ⟨rfl, rfl⟩
  | a :: t, 0, _, _, h2 => by
    rw [List.takeWhile_cons, h2 a rfl]
    exact ⟨rfl, rfl⟩
  | a :: t, j + 1, hj, h1, h2 => by
    obtain ⟨e1, e2⟩ := tw_len p t j (by simpa using hj) (fun i x hi hx => h1 (i + 1) x (by omega) (by simpa using hx)) (fun x hx => h2 x (by simpa using hx))
    rw [List.takeWhile_cons, h1 0 a (by omega) rfl]
    simp only [if_true, List.length_cons, List.take_succ_cons]
    exact ⟨by rw [e1], by rw [e2]⟩
set_option maxRecDepth 100000 in
theorem insU_at {l : List Int} {n : Int} {j : Nat} (hj : j ≤ l.length) (h1 : ∀ i x, i < j → l[i]? = some x → x < n) (h2 : ∀ x, l[j]? = some x → ¬ x < n) : insU l n = if l[j]? = some n then l else l.take j ++ n :: l.drop j := by
  obtain ⟨e1, e2⟩ := tw_len (fun y => decide (y < n)) l j hj (fun i x hi hx => decide_eq_true (h1 i x hi hx)) (fun x hx => decide_eq_false (h2 x hx))
  unfold insU
  rw [e1, e2, List.head?_drop]
def InsPostZ (l : List Int) (q : Nat → Prop) (w : World) (e : Ending) (w' : World) : Prop :=
  ∃ p c, e = .returned (.slice p l.length c) ∧ Rd w' (fun b => q b ∨ w.heap.size ≤ b) (.slice p l.length c) (l.map tv) ∧ (p = none → c = 0) ∧ (l.length ≤ c ∧ c ≤ 9223372036854775807) ∧ w.grownBy w' none
set_option maxRecDepth 100000 in
set_option maxHeartbeats 6400000 in
theorem rins_any (l : List Int) (n : Int) (p : Option Addr) (c : Nat) (q : Nat → Prop) (w : World) (hR : Rd w q (.slice p l.length c) (l.map tv)) (hp : p = none → c = 0) (hc1 : l.length ≤ c) (hc2 : c ≤ 9223372036854775807) (hm : l.length ≤ 1000) :
    Calls Tryz.prog 80 #[.slice p l.length c, .int .i64 n] w fun e w' => InsPostZ (insU l n) q w e w' := by
  obtain ⟨ii, hii, hi0, hi1, hi2⟩ := info_parts info_int
  have HR := Lib.hid hR
  have HPN := Lib.hid hp
  clear hR hp
  go_enter Tryz.func80, Tryz.ntmps80
  go_upto_block 0 with fail
  go_cut [5] from 7 to 20 (fun v wx => ∃ j : Nat, j ≤ l.length ∧ v = .int .i64 (j : Int) ∧ Hid ((∀ i x, i < j → l[i]? = some x → x < n) ∧ ∀ x, l[j]? = some x → ¬ x < n) ∧ w = wx)
  case first =>
    go_wp2_with fail
    go_loopw [5] (fun a wr => ∃ j : Nat, j ≤ l.length ∧ a = .int .i64 (j : Int) ∧ Hid (∀ i x, i < j → l[i]? = some x → x < n) ∧ w = wr) (fun a _ => l.length - (RowKit.intOf a).toNat)
    case atStart => exact ⟨0, Nat.zero_le _, rfl, Lib.hid (fun i x h => by omega), rfl⟩
    case round =>
      obtain ⟨j, hj, rfl, HN, rfl⟩ := hrel
      by_cases hlt : j < l.length
      · obtain ⟨-, b, off, rfl, -, hc⟩ := rdi_at HR.out (by omega)
        obtain ⟨x, hx⟩ : ∃ x, l[j]? = some x := ⟨_, List.getElem?_eq_getElem hlt⟩
        have d0 := hc j x hx
        have HX := Lib.hid hx
        have hlt' : (j : Int) < (l.length : Int) := by omega
        have j0 : (0 : Int) ≤ (j : Int) := by omega
        clear hc hx
        by_cases hxn : x < n
        · have HN2 : Hid (∀ i x, i < j + 1 → l[i]? = some x → x < n) := Lib.hid (fun i z hi hz => by
            by_cases hij : i < j
            · exact HN.out i z hij hz
            · obtain rfl : i = j := by omega
              rw [HX.out] at hz
              obtain rfl := Option.some.inj hz
              exact hxn)
          go_wp2_with fail
          exact ⟨⟨j + 1, by omega, congrArg _ (by omega), HN2, by first | rfl | trivial⟩, by simp only [RowKit.intOf]; omega⟩
        · have hxd : decide (x < n) = false := decide_eq_false hxn
          have HE : Hid ((∀ i x, i < j → l[i]? = some x → x < n) ∧ ∀ x, l[j]? = some x → ¬ x < n) := Lib.hid ⟨HN.out, fun z hz => by rw [HX.out] at hz; obtain rfl := Option.some.inj hz; exact hxn⟩
          go_wp2_with fail
          go_meet
          exact ⟨j, hj, rfl, HE, by first | rfl | trivial⟩
      · obtain rfl : j = l.length := by omega
        have hld : decide ((l.length : Int) < (l.length : Int)) = false := decide_eq_false (by omega)
        have HE : Hid ((∀ i x, i < l.length → l[i]? = some x → x < n) ∧ ∀ x, l[l.length]? = some x → ¬ x < n) := Lib.hid ⟨HN.out, fun z hz => by rw [List.getElem?_eq_none (Nat.le_refl _)] at hz; cases hz⟩
        go_wp2_with fail
        go_meet
        exact ⟨l.length, hj, rfl, HE, by first | rfl | trivial⟩
  case rest =>
  obtain ⟨j, hj, rfl, HE, rfl⟩ := hcut
  have hat := insU_at hj HE.out.1 HE.out.2
  go_upto_region 4 with fail
  go_cut [32] from 21 to 32 (fun v wx => v = .bool (decide (l[j]? = some n)) ∧ w = wx)
  case first =>
    by_cases hlt : j < l.length
    · obtain ⟨-, b, off, rfl, -, hc⟩ := rdi_at HR.out (by omega)
      obtain ⟨x, hx⟩ : ∃ x, l[j]? = some x := ⟨_, List.getElem?_eq_getElem hlt⟩
      have d0 := hc j x hx
      have hlt' : (j : Int) < (l.length : Int) := by omega
      have j0 : (0 : Int) ≤ (j : Int) := by omega
      have HV : Hid ((x == n) = decide (l[j]? = some n)) := Lib.hid (by rw [hx]; by_cases h : x = n <;> simp [h])
      clear hc hx hat
      go_wp2_with fail
      go_meet
      exact ⟨congrArg _ HV.out, by first | rfl | trivial⟩
    · have hld : decide ((j : Int) < (l.length : Int)) = false := decide_eq_false (by omega)
      have HV : Hid (false = decide (l[j]? = some n)) := Lib.hid (by rw [List.getElem?_eq_none (by omega)]; simp)
      clear hat
      go_wp2_with fail
      go_meet
      exact ⟨congrArg _ HV.out, by first | rfl | trivial⟩
  case rest =>
  obtain ⟨rfl, rfl⟩ := hcut
  go_upto_if 32 with fail
  by_cases hjn : l[j]? = some n
  · have hjd : decide (l[j]? = some n) = true := decide_eq_true hjn
    rw [if_pos hjn] at hat
    have HAT := Lib.hid hat
    rw [hjd]
    clear hjn hat hjd
    go_wp2_with fail
    go_ret
    rw [HAT.out]
    exact ⟨p, c, rfl, HR.out.mono (fun b hb => .inl hb), HPN.out, ⟨hc1, hc2⟩, grown_refl _ _⟩
  · have hjd : decide (l[j]? = some n) = false := decide_eq_false hjn
    rw [if_neg hjn] at hat
    obtain ⟨T1, hT1⟩ : ∃ T1, l.take j = T1 := ⟨_, rfl⟩
    obtain ⟨T2, hT2⟩ : ∃ T2, l.drop j = T2 := ⟨_, rfl⟩
    have HI : Hid (insU l n = T1 ++ n :: T2) := Lib.hid (by rw [← hT1, ← hT2]; exact hat)
    have HJ : Hid (j = T1.length) := Lib.hid (by rw [← hT1, List.length_take]; omega)
    have HJ2 : Hid (l.length - j = T2.length) := Lib.hid (by rw [← hT2, List.length_drop])
    have HT := Lib.hid (And.intro hT1 hT2)
    have HRF : Hid (RdF w (fun b => b < w.heap.size) (.slice p l.length c) l.length (l.flatMap tvC)) := Lib.hid (by
      obtain ⟨p', c', e, hx⟩ := HR.out.old
      rw [flat_tv]
      exact ⟨p', c', by rw [List.length_map] at e; exact e, hx⟩)
    rw [hjd]
    clear hjn hat hjd hT1 hT2
    cases p with
    | none =>
      obtain rfl := HPN.out rfl
      obtain rfl : j = 0 := by omega
      have hl0 : l.length = 0 := by omega
      obtain rfl := List.eq_nil_of_length_eq_zero hl0
      go_wp2_with (at_builtin; refine hold_on ?_)
      refine Lib.hid ?_
      refine (wpList_append_f tvC 1 8 (by decide) (fun _ => rfl) tv_one 3 22 ii _ Tryz.underlying22 hii hi0 hi1 hi2 rfl (by decide) rfl _ _ rfl w.heap.size (.slice none 0 0) [] 0 rfl rfl (World.ownsRow_nil _ _ _ _) _ _ _ T1 rfl HJ.out (by simp) _ (show RdF w (fun _ => True) (.slice none 0 0) T1.length (T1.flatMap tvC) from by obtain rfl := HT.out.1; exact rdf_nil _ _ _ _) (by omega) (by rw [← HJ.out]; omega) (Nat.le_refl _) ?_)
      intro v1 w4 hown1 hg1
      have HO1 : Hid (w4.ownsRow w.heap.size 3 1 v1 T1.length (T1.flatMap tvC)) := Lib.hid hown1
      have G4 := Lib.hid (show w.grownBy w4 none from hg1)
      clear hown1 hg1
      obtain ⟨p1, c1, rfl, -, -⟩ := own_shape HO1.out
      go_wp2_with (at_builtin; refine hold_on ?_)
      refine Lib.hid ?_
      refine (wpList_append_f tvC 1 8 (by decide) (fun _ => rfl) tv_one 3 22 ii _ Tryz.underlying22 hii hi0 hi1 hi2 rfl (by decide) rfl _ _ rfl w.heap.size _ T1 _ rfl rfl (HO1.out.alloc _) _ _ _ [n] rfl rfl (by simp) (fun _ => True) (rdf_one _ trivial (cell_one w4 _ _) 1) (by omega) (by rw [← HJ.out]; simp <;> omega) (by have := G4.out.size; simp <;> omega) ?_)
      intro v2 w5 hown2 hg2
      have G5 := Lib.hid (old_grow (grown_trans G4.out (World.grownBy_alloc w4 _ none)) (HO1.out.alloc _) (Nat.le_refl _) hg2)
      obtain ⟨T3, hT3⟩ : ∃ T3, T3 = T1 ++ [n] := ⟨_, rfl⟩
      rw [← hT3] at hown2
      have HO2 := Lib.hid hown2
      have HT3 := Lib.hid hT3
      clear hown2 hT3 hg2
      obtain ⟨p2, c2, rfl, -, -⟩ := own_shape HO2.out
      go_wp2_with (at_builtin; refine hold_on ?_)
      refine Lib.hid ?_
      refine (wpList_append_f tvC 1 8 (by decide) (fun _ => rfl) tv_one 3 22 ii _ Tryz.underlying22 hii hi0 hi1 hi2 rfl (by decide) rfl _ _ rfl w.heap.size _ T3 _ rfl rfl HO2.out _ _ _ T2 rfl (by have := HJ2.out; omega) (by simp) _ (show RdF w5 (fun _ => True) (.slice none 0 0) T2.length (T2.flatMap tvC) from by obtain rfl := HT.out.2; exact rdf_nil _ _ _ _) (by omega) (by rw [← HJ2.out, HT3.out, List.length_append, ← HJ.out]; simp <;> omega) G5.out.size ?_)
      intro v3 w6 hown3 hg3
      have HE : Hid (insU [] n = T3 ++ T2) := Lib.hid (by rw [HT3.out, HI.out]; simp)
      rw [← HE.out] at hown3
      have HO3 := Lib.hid hown3
      have G6 := Lib.hid (old_grow G5.out HO2.out (Nat.le_refl _) hg3)
      clear hown3 hg3
      obtain ⟨p3, c3, rfl, h31, h32⟩ := own_shape HO3.out
      have hp3 : p3 = none → c3 = 0 := by
        rintro rfl
        rcases own_formF HO3.out with ⟨e, -⟩ | ⟨g, cap, e, -⟩
        · injection e with e1 e2 e3
        · injection e with e1 e2 e3
          cases e1
      have HH := Lib.hid (And.intro h31 (And.intro h32 hp3))
      clear h31 h32 hp3
      go_wp2_with fail
      go_ret
      refine ⟨p3, c3, rfl, ?_, HH.out.2.2, ⟨HH.out.1, HH.out.2.1⟩, G6.out⟩
      have hr := rd_of_rdf (rdf_of_own HO3.out) (by rw [flat_tv]; simp)
      rw [flat_tv] at hr
      exact hr.mono (fun b hb => .inr hb)
    | some ad =>
      obtain ⟨b, off, spot⟩ := ad
      have hsp : l.length = 0 ∨ spot = none := by
        by_cases h0 : l.length = 0
        · exact .inl h0
        · obtain ⟨-, b', off', e, -⟩ := rdi_at HR.out (by omega)
          injection e with e
          injection e with e1 e2 e3
          exact .inr e3
      by_cases hcj : c = j
      · obtain rfl : j = l.length := by omega
        subst hcj
        go_wp2_with (at_builtin; refine hold_on ?_)
        refine Lib.hid ?_
        refine (wpList_append_f tvC 1 8 (by decide) (fun _ => rfl) tv_one 3 22 ii _ Tryz.underlying22 hii hi0 hi1 hi2 rfl (by decide) rfl _ _ rfl w.heap.size (.slice none 0 0) [] 0 rfl rfl (World.ownsRow_nil _ _ _ _) _ _ _ T1 rfl HJ.out (by simp) _ (HT.out.1 ▸ RdF.part (f := tvC) (k := 1) (fun _ => rfl) HRF.out _ hj _) (by omega) (by rw [← HJ.out]; omega) (Nat.le_refl _) ?_)
        intro v1 w4 hown1 hg1
        have HO1 : Hid (w4.ownsRow w.heap.size 3 1 v1 T1.length (T1.flatMap tvC)) := Lib.hid hown1
        have G4 := Lib.hid (show w.grownBy w4 none from hg1)
        clear hown1 hg1
        obtain ⟨p1, c1, rfl, -, -⟩ := own_shape HO1.out
        go_wp2_with (at_builtin; refine hold_on ?_)
        refine Lib.hid ?_
        refine (wpList_append_f tvC 1 8 (by decide) (fun _ => rfl) tv_one 3 22 ii _ Tryz.underlying22 hii hi0 hi1 hi2 rfl (by decide) rfl _ _ rfl w.heap.size _ T1 _ rfl rfl (HO1.out.alloc _) _ _ _ [n] rfl rfl (by simp) (fun _ => True) (rdf_one _ trivial (cell_one w4 _ _) 1) (by omega) (by rw [← HJ.out]; simp <;> omega) (by have := G4.out.size; simp <;> omega) ?_)
        intro v2 w5 hown2 hg2
        have G5 := Lib.hid (old_grow (grown_trans G4.out (World.grownBy_alloc w4 _ none)) (HO1.out.alloc _) (Nat.le_refl _) hg2)
        obtain ⟨T3, hT3⟩ : ∃ T3, T3 = T1 ++ [n] := ⟨_, rfl⟩
        rw [← hT3] at hown2
        have HO2 := Lib.hid hown2
        have HT3 := Lib.hid hT3
        clear hown2 hT3 hg2
        obtain ⟨p2, c2, rfl, -, -⟩ := own_shape HO2.out
        go_wp2_with (at_builtin; refine hold_on ?_)
        refine Lib.hid ?_
        refine (wpList_append_f tvC 1 8 (by decide) (fun _ => rfl) tv_one 3 22 ii _ Tryz.underlying22 hii hi0 hi1 hi2 rfl (by decide) rfl _ _ rfl w.heap.size _ T3 _ rfl rfl HO2.out _ _ _ T2 rfl (by have := HJ2.out; omega) (by simp) _ (show RdF w5 (fun _ => True) (.slice _ 0 _) T2.length (T2.flatMap tvC) from by rw [← HT.out.2, List.drop_length]; exact rdf_nil _ _ _ _) (by omega) (by rw [← HJ2.out, HT3.out, List.length_append, ← HJ.out]; simp <;> omega) G5.out.size ?_)
        intro v3 w6 hown3 hg3
        have HE : Hid (insU l n = T3 ++ T2) := Lib.hid (by rw [HT3.out, HI.out]; simp)
        rw [← HE.out] at hown3
        have HO3 := Lib.hid hown3
        have G6 := Lib.hid (old_grow G5.out HO2.out (Nat.le_refl _) hg3)
        clear hown3 hg3
        obtain ⟨p3, c3, rfl, h31, h32⟩ := own_shape HO3.out
        have hp3 : p3 = none → c3 = 0 := by
          rintro rfl
          rcases own_formF HO3.out with ⟨e, -⟩ | ⟨g, cap, e, -⟩
          · injection e with e1 e2 e3
          · injection e with e1 e2 e3
            cases e1
        have HH := Lib.hid (And.intro h31 (And.intro h32 hp3))
        clear h31 h32 hp3
        go_wp2_with fail
        go_ret
        refine ⟨p3, c3, rfl, ?_, HH.out.2.2, ⟨HH.out.1, HH.out.2.1⟩, G6.out⟩
        have hr := rd_of_rdf (rdf_of_own HO3.out) (by rw [flat_tv]; simp)
        rw [flat_tv] at hr
        exact hr.mono (fun b hb => .inr hb)
      · have n0 : ¬ c - j = 0 := by omega
        by_cases hjl : j = l.length
        · subst hjl
          go_wp2_with (at_builtin; refine hold_on ?_)
          refine Lib.hid ?_
          refine (wpList_append_f tvC 1 8 (by decide) (fun _ => rfl) tv_one 3 22 ii _ Tryz.underlying22 hii hi0 hi1 hi2 rfl (by decide) rfl _ _ rfl w.heap.size (.slice none 0 0) [] 0 rfl rfl (World.ownsRow_nil _ _ _ _) _ _ _ T1 rfl HJ.out (by simp) _ (HT.out.1 ▸ RdF.part (f := tvC) (k := 1) (fun _ => rfl) HRF.out _ hj _) (by omega) (by rw [← HJ.out]; omega) (Nat.le_refl _) ?_)
          intro v1 w4 hown1 hg1
          have HO1 : Hid (w4.ownsRow w.heap.size 3 1 v1 T1.length (T1.flatMap tvC)) := Lib.hid hown1
          have G4 := Lib.hid (show w.grownBy w4 none from hg1)
          clear hown1 hg1
          obtain ⟨p1, c1, rfl, -, -⟩ := own_shape HO1.out
          go_wp2_with (at_builtin; refine hold_on ?_)
          refine Lib.hid ?_
          refine (wpList_append_f tvC 1 8 (by decide) (fun _ => rfl) tv_one 3 22 ii _ Tryz.underlying22 hii hi0 hi1 hi2 rfl (by decide) rfl _ _ rfl w.heap.size _ T1 _ rfl rfl (HO1.out.alloc _) _ _ _ [n] rfl rfl (by simp) (fun _ => True) (rdf_one _ trivial (cell_one w4 _ _) 1) (by omega) (by rw [← HJ.out]; simp <;> omega) (by have := G4.out.size; simp <;> omega) ?_)
          intro v2 w5 hown2 hg2
          have G5 := Lib.hid (old_grow (grown_trans G4.out (World.grownBy_alloc w4 _ none)) (HO1.out.alloc _) (Nat.le_refl _) hg2)
          obtain ⟨T3, hT3⟩ : ∃ T3, T3 = T1 ++ [n] := ⟨_, rfl⟩
          rw [← hT3] at hown2
          have HO2 := Lib.hid hown2
          have HT3 := Lib.hid hT3
          clear hown2 hT3 hg2
          obtain ⟨p2, c2, rfl, -, -⟩ := own_shape HO2.out
          go_wp2_with (at_builtin; refine hold_on ?_)
          refine Lib.hid ?_
          refine (wpList_append_f tvC 1 8 (by decide) (fun _ => rfl) tv_one 3 22 ii _ Tryz.underlying22 hii hi0 hi1 hi2 rfl (by decide) rfl _ _ rfl w.heap.size _ T3 _ rfl rfl HO2.out _ _ _ T2 rfl (by have := HJ2.out; omega) (by simp) _ (show RdF w5 (fun _ => True) (.slice _ 0 _) T2.length (T2.flatMap tvC) from by rw [← HT.out.2, List.drop_length]; exact rdf_nil _ _ _ _) (by omega) (by rw [← HJ2.out, HT3.out, List.length_append, ← HJ.out]; simp <;> omega) G5.out.size ?_)
          intro v3 w6 hown3 hg3
          have HE : Hid (insU l n = T3 ++ T2) := Lib.hid (by rw [HT3.out, HI.out]; simp)
          rw [← HE.out] at hown3
          have HO3 := Lib.hid hown3
          have G6 := Lib.hid (old_grow G5.out HO2.out (Nat.le_refl _) hg3)
          clear hown3 hg3
          obtain ⟨p3, c3, rfl, h31, h32⟩ := own_shape HO3.out
          have hp3 : p3 = none → c3 = 0 := by
            rintro rfl
            rcases own_formF HO3.out with ⟨e, -⟩ | ⟨g, cap, e, -⟩
            · injection e with e1 e2 e3
            · injection e with e1 e2 e3
              cases e1
          have HH := Lib.hid (And.intro h31 (And.intro h32 hp3))
          clear h31 h32 hp3
          go_wp2_with fail
          go_ret
          refine ⟨p3, c3, rfl, ?_, HH.out.2.2, ⟨HH.out.1, HH.out.2.1⟩, G6.out⟩
          have hr := rd_of_rdf (rdf_of_own HO3.out) (by rw [flat_tv]; simp)
          rw [flat_tv] at hr
          exact hr.mono (fun b hb => .inr hb)
        · obtain rfl : spot = none := hsp.resolve_left (by omega)
          go_wp2_with (at_builtin; refine hold_on ?_)
          refine Lib.hid ?_
          refine (wpList_append_f tvC 1 8 (by decide) (fun _ => rfl) tv_one 3 22 ii _ Tryz.underlying22 hii hi0 hi1 hi2 rfl (by decide) rfl _ _ rfl w.heap.size (.slice none 0 0) [] 0 rfl rfl (World.ownsRow_nil _ _ _ _) _ _ _ T1 rfl HJ.out (by simp) _ (HT.out.1 ▸ RdF.part (f := tvC) (k := 1) (fun _ => rfl) HRF.out _ hj _) (by omega) (by rw [← HJ.out]; omega) (Nat.le_refl _) ?_)
          intro v1 w4 hown1 hg1
          have HO1 : Hid (w4.ownsRow w.heap.size 3 1 v1 T1.length (T1.flatMap tvC)) := Lib.hid hown1
          have G4 := Lib.hid (show w.grownBy w4 none from hg1)
          clear hown1 hg1
          obtain ⟨p1, c1, rfl, -, -⟩ := own_shape HO1.out
          go_wp2_with (at_builtin; refine hold_on ?_)
          refine Lib.hid ?_
          refine (wpList_append_f tvC 1 8 (by decide) (fun _ => rfl) tv_one 3 22 ii _ Tryz.underlying22 hii hi0 hi1 hi2 rfl (by decide) rfl _ _ rfl w.heap.size _ T1 _ rfl rfl (HO1.out.alloc _) _ _ _ [n] rfl rfl (by simp) (fun _ => True) (rdf_one _ trivial (cell_one w4 _ _) 1) (by omega) (by rw [← HJ.out]; simp <;> omega) (by have := G4.out.size; simp <;> omega) ?_)
          intro v2 w5 hown2 hg2
          have G5 := Lib.hid (old_grow (grown_trans G4.out (World.grownBy_alloc w4 _ none)) (HO1.out.alloc _) (Nat.le_refl _) hg2)
          obtain ⟨T3, hT3⟩ : ∃ T3, T3 = T1 ++ [n] := ⟨_, rfl⟩
          rw [← hT3] at hown2
          have HO2 := Lib.hid hown2
          have HT3 := Lib.hid hT3
          clear hown2 hT3 hg2
          obtain ⟨p2, c2, rfl, -, -⟩ := own_shape HO2.out
          go_wp2_with (at_builtin; refine hold_on ?_)
          refine Lib.hid ?_
          refine (wpList_append_f tvC 1 8 (by decide) (fun _ => rfl) tv_one 3 22 ii _ Tryz.underlying22 hii hi0 hi1 hi2 rfl (by decide) rfl _ _ rfl w.heap.size _ T3 _ rfl rfl HO2.out _ _ _ T2 rfl (by have := HJ2.out; omega) (by simp) _ (show RdF w5 _ (.slice (some ⟨b, off + j, none⟩) (l.length - j) (c - j)) T2.length (T2.flatMap tvC) from by have := RdF.rest (f := tvC) (k := 1) (fun _ => rfl) (HRF.out.keep G5.out) j (c - j); rw [Nat.mul_one, HT.out.2] at this; exact this) (by omega) (by rw [← HJ2.out, HT3.out, List.length_append, ← HJ.out]; simp <;> omega) G5.out.size ?_)
          intro v3 w6 hown3 hg3
          have HE : Hid (insU l n = T3 ++ T2) := Lib.hid (by rw [HT3.out, HI.out]; simp)
          rw [← HE.out] at hown3
          have HO3 := Lib.hid hown3
          have G6 := Lib.hid (old_grow G5.out HO2.out (Nat.le_refl _) hg3)
          clear hown3 hg3
          obtain ⟨p3, c3, rfl, h31, h32⟩ := own_shape HO3.out
          have hp3 : p3 = none → c3 = 0 := by
            rintro rfl
            rcases own_formF HO3.out with ⟨e, -⟩ | ⟨g, cap, e, -⟩
            · injection e with e1 e2 e3
            · injection e with e1 e2 e3
              cases e1
          have HH := Lib.hid (And.intro h31 (And.intro h32 hp3))
          clear h31 h32 hp3
          go_wp2_with fail
          go_ret
          refine ⟨p3, c3, rfl, ?_, HH.out.2.2, ⟨HH.out.1, HH.out.2.1⟩, G6.out⟩
          have hr := rd_of_rdf (rdf_of_own HO3.out) (by rw [flat_tv]; simp)
          rw [flat_tv] at hr
          exact hr.mono (fun b hb => .inr hb)
end Go.Proofs.YtahafijpcmphaaaGreat

/- The reference's Around: the mathematics. -/
namespace Go.Proofs.YtahafijpcmphaaaGreat
open Go.RowKit Bs
set_option maxRecDepth 100000 in
theorem insU_cons (a : Int) (t : List Int) (n : Int) : insU (a :: t) n = if a < n then a :: insU t n else if a = n then a :: t else n :: a :: t := by
  unfold insU
  by_cases h : a < n
  · rw [if_pos h]
    rw [List.takeWhile_cons, decide_eq_true h]
    simp only [if_true, List.length_cons, List.drop_succ_cons, List.cons_append]
    split <;> rfl
  · rw [if_neg h]
    rw [List.takeWhile_cons, decide_eq_false h]
    simp
set_option maxRecDepth 100000 in
theorem insU_spec (n : Int) : ∀ l : List Int, l.Pairwise (· < ·) → (insU l n).Pairwise (· < ·) ∧ ∀ x, x ∈ insU l n ↔ x = n ∨ x ∈ l
  | [], _ => by
    have : insU [] n = [n] := by simp [insU]
    rw [this]
    simp
  | a :: t, h => by
    obtain ⟨h1, h2⟩ := List.pairwise_cons.1 h
    obtain ⟨i1, i2⟩ := insU_spec n t h2
    rw [insU_cons]
    by_cases ha : a < n
    · rw [if_pos ha]
      refine ⟨List.pairwise_cons.2 ⟨fun y hy => ?_, i1⟩, fun x => ?_⟩
      · rcases (i2 y).1 hy with rfl | hy
        · exact ha
        · exact h1 y hy
      · rw [List.mem_cons, i2, List.mem_cons]
        constructor
        · rintro (h | h | h)
          · exact .inr (.inl h)
          · exact .inl h
          · exact .inr (.inr h)
        · rintro (h | h | h)
          · exact .inr (.inl h)
          · exact .inl h
          · exact .inr (.inr h)
    · rw [if_neg ha]
      by_cases e : a = n
      · rw [if_pos e]
        subst e
        exact ⟨h, fun x => by simp⟩
      · rw [if_neg e]
        refine ⟨List.pairwise_cons.2 ⟨fun y hy => ?_, h⟩, fun x => by simp⟩
        rcases List.mem_cons.1 hy with rfl | hy
        · omega
        · have := h1 y hy
          omega
end Go.Proofs.YtahafijpcmphaaaGreat
