/- Parts of the proof, packed: ToIns, ToArnM, ToHasF, ToArnd. -/
import Derived.Test.YtnpkihioklpnmaaDo4
import Derived.Test.YtnpkihioklpnmaaDo9
import Derived.Deep.CutBlock
import Derived.Deep.Onto
import Derived.BigQuiet
import Derived.Test.YtnpkihioklpnmaaDo7
import Derived.Deep.AppendLies
/- The reference's Insert. -/
namespace Go.Proofs.Ytnpkihioklpnmaa
open Go.RowKit Bs
/-- A number laid into an ascending list, once. -/
def insU (l : List Int) (n : Int) : List Int := if (l.drop (l.takeWhile (fun y => decide (y < n))).length).head? = some n then l else l.takeWhile (fun y => decide (y < n)) ++ n :: l.drop (l.takeWhile (fun y => decide (y < n))).length
set_option maxRecDepth 100000 in
theorem tw_len (p : Int → Bool) : ∀ (l : List Int) (j : Nat), j ≤ l.length → (∀ i x, i < j → l[i]? = some x → p x = true) → (∀ x, l[j]? = some x → p x = false) → (l.takeWhile p).length = j ∧ l.takeWhile p = l.take j
  | [], j, hj, _, _ => by
    obtain rfl : j = 0 := by simpa using hj
    exact ⟨rfl, rfl⟩
  | a :: t, 0, _, _, h2 => by
    rw [List.takeWhile_cons, h2 a rfl]
    exact ⟨rfl, rfl⟩
  | a :: t, j + 1, hj, h1, h2 => by
    obtain ⟨e1, e2⟩ := tw_len p t j (by simpa using hj) (fun i x hi hx => h1 (i + 1) x (by omega) (by simpa using hx)) (fun x hx => h2 x (by simpa using hx))
    rw [List.takeWhile_cons, h1 0 a (by omega) rfl]
    simp only [if_true, List.length_cons, List.take_succ_cons]
    exact ⟨by rw [e1], by rw [e2]⟩
set_option maxRecDepth 100000 in
theorem insU_at {l : List Int} {n : Int} {j : Nat} (hj : j ≤ l.length) (h1 : ∀ i x, i < j → l[i]? = some x → x < n) (h2 : ∀ x, l[j]? = some x → ¬ x < n) : insU l n = if l[j]? = some n then l else l.take j ++ n :: l.drop j := by
  obtain ⟨e1, e2⟩ := tw_len (fun y => decide (y < n)) l j hj (fun i x hi hx => decide_eq_true (h1 i x hi hx)) (fun x hx => decide_eq_false (h2 x hx))
  unfold insU
  rw [e1, e2, List.head?_drop]
def InsPostZ (l : List Int) (q : Nat → Prop) (w : World) (e : Ending) (w' : World) : Prop :=
  ∃ p c, e = .returned (.slice p l.length c) ∧ Rd w' (fun b => q b ∨ w.heap.size ≤ b) (.slice p l.length c) (l.map tv) ∧ (p = none → c = 0) ∧ (l.length ≤ c ∧ c ≤ 9223372036854775807) ∧ w.grownBy w' none
set_option maxRecDepth 100000 in
set_option maxHeartbeats 6400000 in
theorem rins_any (l : List Int) (n : Int) (p : Option Addr) (c : Nat) (q : Nat → Prop) (w : World) (hR : Rd w q (.slice p l.length c) (l.map tv)) (hp : p = none → c = 0) (hc1 : l.length ≤ c) (hc2 : c ≤ 9223372036854775807) (hm : l.length ≤ 1000) :
    Calls Try.prog 76 #[.slice p l.length c, .int .i64 n] w fun e w' => InsPostZ (insU l n) q w e w' := by
  obtain ⟨ii, hii, hi0, hi1, hi2⟩ := info_parts info_int
  have HR := Lib.hid hR
  have HPN := Lib.hid hp
  clear hR hp
  go_enter Try.func76, Try.ntmps76
  go_upto_block 0 with fail
  go_cut [5] from 7 to 20 (fun v wx => ∃ j : Nat, j ≤ l.length ∧ v = .int .i64 (j : Int) ∧ Hid ((∀ i x, i < j → l[i]? = some x → x < n) ∧ ∀ x, l[j]? = some x → ¬ x < n) ∧ w = wx)
  case first =>
    go_wp2_with fail
    go_loopw [5] (fun a wr => ∃ j : Nat, j ≤ l.length ∧ a = .int .i64 (j : Int) ∧ Hid (∀ i x, i < j → l[i]? = some x → x < n) ∧ w = wr) (fun a _ => l.length - (RowKit.intOf a).toNat)
    case atStart => exact ⟨0, Nat.zero_le _, rfl, Lib.hid (fun i x h => by omega), rfl⟩
    case round =>
      obtain ⟨j, hj, rfl, HN, rfl⟩ := hrel
      by_cases hlt : j < l.length
      · obtain ⟨-, b, off, rfl, -, hc⟩ := rdi_at HR.out (by omega)
        obtain ⟨x, hx⟩ : ∃ x, l[j]? = some x := ⟨_, List.getElem?_eq_getElem hlt⟩
        have d0 := hc j x hx
        have HX := Lib.hid hx
        have hlt' : (j : Int) < (l.length : Int) := by omega
        have j0 : (0 : Int) ≤ (j : Int) := by omega
        clear hc hx
        by_cases hxn : x < n
        · have HN2 : Hid (∀ i x, i < j + 1 → l[i]? = some x → x < n) := Lib.hid (fun i z hi hz => by
            by_cases hij : i < j
            · exact HN.out i z hij hz
            · obtain rfl : i = j := by omega
              rw [HX.out] at hz
              obtain rfl := Option.some.inj hz
              exact hxn)
          go_wp2_with fail
          exact ⟨⟨j + 1, by omega, congrArg _ (by omega), HN2, by first | rfl | trivial⟩, by simp only [RowKit.intOf]; omega⟩
        · have hxd : decide (x < n) = false := decide_eq_false hxn
          have HE : Hid ((∀ i x, i < j → l[i]? = some x → x < n) ∧ ∀ x, l[j]? = some x → ¬ x < n) := Lib.hid ⟨HN.out, fun z hz => by rw [HX.out] at hz; obtain rfl := Option.some.inj hz; exact hxn⟩
          go_wp2_with fail
          go_meet
          exact ⟨j, hj, rfl, HE, by first | rfl | trivial⟩
      · obtain rfl : j = l.length := by omega
        have hld : decide ((l.length : Int) < (l.length : Int)) = false := decide_eq_false (by omega)
        have HE : Hid ((∀ i x, i < l.length → l[i]? = some x → x < n) ∧ ∀ x, l[l.length]? = some x → ¬ x < n) := Lib.hid ⟨HN.out, fun z hz => by rw [List.getElem?_eq_none (Nat.le_refl _)] at hz; cases hz⟩
        go_wp2_with fail
        go_meet
        exact ⟨l.length, hj, rfl, HE, by first | rfl | trivial⟩
  case rest =>
  obtain ⟨j, hj, rfl, HE, rfl⟩ := hcut
  have hat := insU_at hj HE.out.1 HE.out.2
  go_upto_region 4 with fail
  go_cut [32] from 21 to 32 (fun v wx => v = .bool (decide (l[j]? = some n)) ∧ w = wx)
  case first =>
    by_cases hlt : j < l.length
    · obtain ⟨-, b, off, rfl, -, hc⟩ := rdi_at HR.out (by omega)
      obtain ⟨x, hx⟩ : ∃ x, l[j]? = some x := ⟨_, List.getElem?_eq_getElem hlt⟩
      have d0 := hc j x hx
      have hlt' : (j : Int) < (l.length : Int) := by omega
      have j0 : (0 : Int) ≤ (j : Int) := by omega
      have HV : Hid ((x == n) = decide (l[j]? = some n)) := Lib.hid (by rw [hx]; by_cases h : x = n <;> simp [h])
      clear hc hx hat
      go_wp2_with fail
      go_meet
      exact ⟨congrArg _ HV.out, by first | rfl | trivial⟩
    · have hld : decide ((j : Int) < (l.length : Int)) = false := decide_eq_false (by omega)
      have HV : Hid (false = decide (l[j]? = some n)) := Lib.hid (by rw [List.getElem?_eq_none (by omega)]; simp)
      clear hat
      go_wp2_with fail
      go_meet
      exact ⟨congrArg _ HV.out, by first | rfl | trivial⟩
  case rest =>
  obtain ⟨rfl, rfl⟩ := hcut
  go_upto_if 32 with fail
  by_cases hjn : l[j]? = some n
  · have hjd : decide (l[j]? = some n) = true := decide_eq_true hjn
    rw [if_pos hjn] at hat
    have HAT := Lib.hid hat
    rw [hjd]
    clear hjn hat hjd
    go_wp2_with fail
    go_ret
    rw [HAT.out]
    exact ⟨p, c, rfl, HR.out.mono (fun b hb => .inl hb), HPN.out, ⟨hc1, hc2⟩, grown_refl _ _⟩
  · have hjd : decide (l[j]? = some n) = false := decide_eq_false hjn
    rw [if_neg hjn] at hat
    obtain ⟨T1, hT1⟩ : ∃ T1, l.take j = T1 := ⟨_, rfl⟩
    obtain ⟨T2, hT2⟩ : ∃ T2, l.drop j = T2 := ⟨_, rfl⟩
    have HI : Hid (insU l n = T1 ++ n :: T2) := Lib.hid (by rw [← hT1, ← hT2]; exact hat)
    have HJ : Hid (j = T1.length) := Lib.hid (by rw [← hT1, List.length_take]; omega)
    have HJ2 : Hid (l.length - j = T2.length) := Lib.hid (by rw [← hT2, List.length_drop])
    have HT := Lib.hid (And.intro hT1 hT2)
    have HRF : Hid (RdF w (fun b => b < w.heap.size) (.slice p l.length c) l.length (l.flatMap tvC)) := Lib.hid (by
      obtain ⟨p', c', e, hx⟩ := HR.out.old
      rw [flat_tv]
      exact ⟨p', c', by rw [List.length_map] at e; exact e, hx⟩)
    rw [hjd]
    clear hjn hat hjd hT1 hT2
    cases p with
    | none =>
      obtain rfl := HPN.out rfl
      obtain rfl : j = 0 := by omega
      have hl0 : l.length = 0 := by omega
      obtain rfl := List.eq_nil_of_length_eq_zero hl0
      go_wp2_with (at_builtin; refine hold_on ?_)
      refine Lib.hid ?_
      refine (wpList_append_f tvC 1 8 (by decide) (fun _ => rfl) tv_one 3 22 ii _ Try.underlying22 hii hi0 hi1 hi2 rfl (by decide) rfl _ _ rfl w.heap.size (.slice none 0 0) [] 0 rfl rfl (World.ownsRow_nil _ _ _ _) _ _ _ T1 rfl HJ.out (by simp) _ (show RdF w (fun _ => True) (.slice none 0 0) T1.length (T1.flatMap tvC) from by obtain rfl := HT.out.1; exact rdf_nil _ _ _ _) (by omega) (by rw [← HJ.out]; omega) (Nat.le_refl _) ?_)
      intro v1 w4 hown1 hg1
      have HO1 : Hid (w4.ownsRow w.heap.size 3 1 v1 T1.length (T1.flatMap tvC)) := Lib.hid hown1
      have G4 := Lib.hid (show w.grownBy w4 none from hg1)
      clear hown1 hg1
      obtain ⟨p1, c1, rfl, -, -⟩ := own_shape HO1.out
      go_wp2_with (at_builtin; refine hold_on ?_)
      refine Lib.hid ?_
      refine (wpList_append_f tvC 1 8 (by decide) (fun _ => rfl) tv_one 3 22 ii _ Try.underlying22 hii hi0 hi1 hi2 rfl (by decide) rfl _ _ rfl w.heap.size _ T1 _ rfl rfl (HO1.out.alloc _) _ _ _ [n] rfl rfl (by simp) (fun _ => True) (rdf_one _ trivial (cell_one w4 _ _) 1) (by omega) (by rw [← HJ.out]; simp <;> omega) (by have := G4.out.size; simp <;> omega) ?_)
      intro v2 w5 hown2 hg2
      have G5 := Lib.hid (old_grow (grown_trans G4.out (World.grownBy_alloc w4 _ none)) (HO1.out.alloc _) (Nat.le_refl _) hg2)
      obtain ⟨T3, hT3⟩ : ∃ T3, T3 = T1 ++ [n] := ⟨_, rfl⟩
      rw [← hT3] at hown2
      have HO2 := Lib.hid hown2
      have HT3 := Lib.hid hT3
      clear hown2 hT3 hg2
      obtain ⟨p2, c2, rfl, -, -⟩ := own_shape HO2.out
      go_wp2_with (at_builtin; refine hold_on ?_)
      refine Lib.hid ?_
      refine (wpList_append_f tvC 1 8 (by decide) (fun _ => rfl) tv_one 3 22 ii _ Try.underlying22 hii hi0 hi1 hi2 rfl (by decide) rfl _ _ rfl w.heap.size _ T3 _ rfl rfl HO2.out _ _ _ T2 rfl (by have := HJ2.out; omega) (by simp) _ (show RdF w5 (fun _ => True) (.slice none 0 0) T2.length (T2.flatMap tvC) from by obtain rfl := HT.out.2; exact rdf_nil _ _ _ _) (by omega) (by rw [← HJ2.out, HT3.out, List.length_append, ← HJ.out]; simp <;> omega) G5.out.size ?_)
      intro v3 w6 hown3 hg3
      have HE : Hid (insU [] n = T3 ++ T2) := Lib.hid (by rw [HT3.out, HI.out]; simp)
      rw [← HE.out] at hown3
      have HO3 := Lib.hid hown3
      have G6 := Lib.hid (old_grow G5.out HO2.out (Nat.le_refl _) hg3)
      clear hown3 hg3
      obtain ⟨p3, c3, rfl, h31, h32⟩ := own_shape HO3.out
      have hp3 : p3 = none → c3 = 0 := by
        rintro rfl
        rcases own_formF HO3.out with ⟨e, -⟩ | ⟨g, cap, e, -⟩
        · injection e with e1 e2 e3
        · injection e with e1 e2 e3
          cases e1
      have HH := Lib.hid (And.intro h31 (And.intro h32 hp3))
      clear h31 h32 hp3
      go_wp2_with fail
      go_ret
      refine ⟨p3, c3, rfl, ?_, HH.out.2.2, ⟨HH.out.1, HH.out.2.1⟩, G6.out⟩
      have hr := rd_of_rdf (rdf_of_own HO3.out) (by rw [flat_tv]; simp)
      rw [flat_tv] at hr
      exact hr.mono (fun b hb => .inr hb)
    | some ad =>
      obtain ⟨b, off, spot⟩ := ad
      have hsp : l.length = 0 ∨ spot = none := by
        by_cases h0 : l.length = 0
        · exact .inl h0
        · obtain ⟨-, b', off', e, -⟩ := rdi_at HR.out (by omega)
          injection e with e
          injection e with e1 e2 e3
          exact .inr e3
      by_cases hcj : c = j
      · obtain rfl : j = l.length := by omega
        subst hcj
        go_wp2_with (at_builtin; refine hold_on ?_)
        refine Lib.hid ?_
        refine (wpList_append_f tvC 1 8 (by decide) (fun _ => rfl) tv_one 3 22 ii _ Try.underlying22 hii hi0 hi1 hi2 rfl (by decide) rfl _ _ rfl w.heap.size (.slice none 0 0) [] 0 rfl rfl (World.ownsRow_nil _ _ _ _) _ _ _ T1 rfl HJ.out (by simp) _ (HT.out.1 ▸ RdF.part (f := tvC) (k := 1) (fun _ => rfl) HRF.out _ hj _) (by omega) (by rw [← HJ.out]; omega) (Nat.le_refl _) ?_)
        intro v1 w4 hown1 hg1
        have HO1 : Hid (w4.ownsRow w.heap.size 3 1 v1 T1.length (T1.flatMap tvC)) := Lib.hid hown1
        have G4 := Lib.hid (show w.grownBy w4 none from hg1)
        clear hown1 hg1
        obtain ⟨p1, c1, rfl, -, -⟩ := own_shape HO1.out
        go_wp2_with (at_builtin; refine hold_on ?_)
        refine Lib.hid ?_
        refine (wpList_append_f tvC 1 8 (by decide) (fun _ => rfl) tv_one 3 22 ii _ Try.underlying22 hii hi0 hi1 hi2 rfl (by decide) rfl _ _ rfl w.heap.size _ T1 _ rfl rfl (HO1.out.alloc _) _ _ _ [n] rfl rfl (by simp) (fun _ => True) (rdf_one _ trivial (cell_one w4 _ _) 1) (by omega) (by rw [← HJ.out]; simp <;> omega) (by have := G4.out.size; simp <;> omega) ?_)
        intro v2 w5 hown2 hg2
        have G5 := Lib.hid (old_grow (grown_trans G4.out (World.grownBy_alloc w4 _ none)) (HO1.out.alloc _) (Nat.le_refl _) hg2)
        obtain ⟨T3, hT3⟩ : ∃ T3, T3 = T1 ++ [n] := ⟨_, rfl⟩
        rw [← hT3] at hown2
        have HO2 := Lib.hid hown2
        have HT3 := Lib.hid hT3
        clear hown2 hT3 hg2
        obtain ⟨p2, c2, rfl, -, -⟩ := own_shape HO2.out
        go_wp2_with (at_builtin; refine hold_on ?_)
        refine Lib.hid ?_
        refine (wpList_append_f tvC 1 8 (by decide) (fun _ => rfl) tv_one 3 22 ii _ Try.underlying22 hii hi0 hi1 hi2 rfl (by decide) rfl _ _ rfl w.heap.size _ T3 _ rfl rfl HO2.out _ _ _ T2 rfl (by have := HJ2.out; omega) (by simp) _ (show RdF w5 (fun _ => True) (.slice _ 0 _) T2.length (T2.flatMap tvC) from by rw [← HT.out.2, List.drop_length]; exact rdf_nil _ _ _ _) (by omega) (by rw [← HJ2.out, HT3.out, List.length_append, ← HJ.out]; simp <;> omega) G5.out.size ?_)
        intro v3 w6 hown3 hg3
        have HE : Hid (insU l n = T3 ++ T2) := Lib.hid (by rw [HT3.out, HI.out]; simp)
        rw [← HE.out] at hown3
        have HO3 := Lib.hid hown3
        have G6 := Lib.hid (old_grow G5.out HO2.out (Nat.le_refl _) hg3)
        clear hown3 hg3
        obtain ⟨p3, c3, rfl, h31, h32⟩ := own_shape HO3.out
        have hp3 : p3 = none → c3 = 0 := by
          rintro rfl
          rcases own_formF HO3.out with ⟨e, -⟩ | ⟨g, cap, e, -⟩
          · injection e with e1 e2 e3
          · injection e with e1 e2 e3
            cases e1
        have HH := Lib.hid (And.intro h31 (And.intro h32 hp3))
        clear h31 h32 hp3
        go_wp2_with fail
        go_ret
        refine ⟨p3, c3, rfl, ?_, HH.out.2.2, ⟨HH.out.1, HH.out.2.1⟩, G6.out⟩
        have hr := rd_of_rdf (rdf_of_own HO3.out) (by rw [flat_tv]; simp)
        rw [flat_tv] at hr
        exact hr.mono (fun b hb => .inr hb)
      · have n0 : ¬ c - j = 0 := by omega
        by_cases hjl : j = l.length
        · subst hjl
          go_wp2_with (at_builtin; refine hold_on ?_)
          refine Lib.hid ?_
          refine (wpList_append_f tvC 1 8 (by decide) (fun _ => rfl) tv_one 3 22 ii _ Try.underlying22 hii hi0 hi1 hi2 rfl (by decide) rfl _ _ rfl w.heap.size (.slice none 0 0) [] 0 rfl rfl (World.ownsRow_nil _ _ _ _) _ _ _ T1 rfl HJ.out (by simp) _ (HT.out.1 ▸ RdF.part (f := tvC) (k := 1) (fun _ => rfl) HRF.out _ hj _) (by omega) (by rw [← HJ.out]; omega) (Nat.le_refl _) ?_)
          intro v1 w4 hown1 hg1
          have HO1 : Hid (w4.ownsRow w.heap.size 3 1 v1 T1.length (T1.flatMap tvC)) := Lib.hid hown1
          have G4 := Lib.hid (show w.grownBy w4 none from hg1)
          clear hown1 hg1
          obtain ⟨p1, c1, rfl, -, -⟩ := own_shape HO1.out
          go_wp2_with (at_builtin; refine hold_on ?_)
          refine Lib.hid ?_
          refine (wpList_append_f tvC 1 8 (by decide) (fun _ => rfl) tv_one 3 22 ii _ Try.underlying22 hii hi0 hi1 hi2 rfl (by decide) rfl _ _ rfl w.heap.size _ T1 _ rfl rfl (HO1.out.alloc _) _ _ _ [n] rfl rfl (by simp) (fun _ => True) (rdf_one _ trivial (cell_one w4 _ _) 1) (by omega) (by rw [← HJ.out]; simp <;> omega) (by have := G4.out.size; simp <;> omega) ?_)
          intro v2 w5 hown2 hg2
          have G5 := Lib.hid (old_grow (grown_trans G4.out (World.grownBy_alloc w4 _ none)) (HO1.out.alloc _) (Nat.le_refl _) hg2)
          obtain ⟨T3, hT3⟩ : ∃ T3, T3 = T1 ++ [n] := ⟨_, rfl⟩
          rw [← hT3] at hown2
          have HO2 := Lib.hid hown2
          have HT3 := Lib.hid hT3
          clear hown2 hT3 hg2
          obtain ⟨p2, c2, rfl, -, -⟩ := own_shape HO2.out
          go_wp2_with (at_builtin; refine hold_on ?_)
          refine Lib.hid ?_
          refine (wpList_append_f tvC 1 8 (by decide) (fun _ => rfl) tv_one 3 22 ii _ Try.underlying22 hii hi0 hi1 hi2 rfl (by decide) rfl _ _ rfl w.heap.size _ T3 _ rfl rfl HO2.out _ _ _ T2 rfl (by have := HJ2.out; omega) (by simp) _ (show RdF w5 (fun _ => True) (.slice _ 0 _) T2.length (T2.flatMap tvC) from by rw [← HT.out.2, List.drop_length]; exact rdf_nil _ _ _ _) (by omega) (by rw [← HJ2.out, HT3.out, List.length_append, ← HJ.out]; simp <;> omega) G5.out.size ?_)
          intro v3 w6 hown3 hg3
          have HE : Hid (insU l n = T3 ++ T2) := Lib.hid (by rw [HT3.out, HI.out]; simp)
          rw [← HE.out] at hown3
          have HO3 := Lib.hid hown3
          have G6 := Lib.hid (old_grow G5.out HO2.out (Nat.le_refl _) hg3)
          clear hown3 hg3
          obtain ⟨p3, c3, rfl, h31, h32⟩ := own_shape HO3.out
          have hp3 : p3 = none → c3 = 0 := by
            rintro rfl
            rcases own_formF HO3.out with ⟨e, -⟩ | ⟨g, cap, e, -⟩
            · injection e with e1 e2 e3
            · injection e with e1 e2 e3
              cases e1
          have HH := Lib.hid (And.intro h31 (And.intro h32 hp3))
          clear h31 h32 hp3
          go_wp2_with fail
          go_ret
          refine ⟨p3, c3, rfl, ?_, HH.out.2.2, ⟨HH.out.1, HH.out.2.1⟩, G6.out⟩
          have hr := rd_of_rdf (rdf_of_own HO3.out) (by rw [flat_tv]; simp)
          rw [flat_tv] at hr
          exact hr.mono (fun b hb => .inr hb)
        · obtain rfl : spot = none := hsp.resolve_left (by omega)
          go_wp2_with (at_builtin; refine hold_on ?_)
          refine Lib.hid ?_
          refine (wpList_append_f tvC 1 8 (by decide) (fun _ => rfl) tv_one 3 22 ii _ Try.underlying22 hii hi0 hi1 hi2 rfl (by decide) rfl _ _ rfl w.heap.size (.slice none 0 0) [] 0 rfl rfl (World.ownsRow_nil _ _ _ _) _ _ _ T1 rfl HJ.out (by simp) _ (HT.out.1 ▸ RdF.part (f := tvC) (k := 1) (fun _ => rfl) HRF.out _ hj _) (by omega) (by rw [← HJ.out]; omega) (Nat.le_refl _) ?_)
          intro v1 w4 hown1 hg1
          have HO1 : Hid (w4.ownsRow w.heap.size 3 1 v1 T1.length (T1.flatMap tvC)) := Lib.hid hown1
          have G4 := Lib.hid (show w.grownBy w4 none from hg1)
          clear hown1 hg1
          obtain ⟨p1, c1, rfl, -, -⟩ := own_shape HO1.out
          go_wp2_with (at_builtin; refine hold_on ?_)
          refine Lib.hid ?_
          refine (wpList_append_f tvC 1 8 (by decide) (fun _ => rfl) tv_one 3 22 ii _ Try.underlying22 hii hi0 hi1 hi2 rfl (by decide) rfl _ _ rfl w.heap.size _ T1 _ rfl rfl (HO1.out.alloc _) _ _ _ [n] rfl rfl (by simp) (fun _ => True) (rdf_one _ trivial (cell_one w4 _ _) 1) (by omega) (by rw [← HJ.out]; simp <;> omega) (by have := G4.out.size; simp <;> omega) ?_)
          intro v2 w5 hown2 hg2
          have G5 := Lib.hid (old_grow (grown_trans G4.out (World.grownBy_alloc w4 _ none)) (HO1.out.alloc _) (Nat.le_refl _) hg2)
          obtain ⟨T3, hT3⟩ : ∃ T3, T3 = T1 ++ [n] := ⟨_, rfl⟩
          rw [← hT3] at hown2
          have HO2 := Lib.hid hown2
          have HT3 := Lib.hid hT3
          clear hown2 hT3 hg2
          obtain ⟨p2, c2, rfl, -, -⟩ := own_shape HO2.out
          go_wp2_with (at_builtin; refine hold_on ?_)
          refine Lib.hid ?_
          refine (wpList_append_f tvC 1 8 (by decide) (fun _ => rfl) tv_one 3 22 ii _ Try.underlying22 hii hi0 hi1 hi2 rfl (by decide) rfl _ _ rfl w.heap.size _ T3 _ rfl rfl HO2.out _ _ _ T2 rfl (by have := HJ2.out; omega) (by simp) _ (show RdF w5 _ (.slice (some ⟨b, off + j, none⟩) (l.length - j) (c - j)) T2.length (T2.flatMap tvC) from by have := RdF.rest (f := tvC) (k := 1) (fun _ => rfl) (HRF.out.keep G5.out) j (c - j); rw [Nat.mul_one, HT.out.2] at this; exact this) (by omega) (by rw [← HJ2.out, HT3.out, List.length_append, ← HJ.out]; simp <;> omega) G5.out.size ?_)
          intro v3 w6 hown3 hg3
          have HE : Hid (insU l n = T3 ++ T2) := Lib.hid (by rw [HT3.out, HI.out]; simp)
          rw [← HE.out] at hown3
          have HO3 := Lib.hid hown3
          have G6 := Lib.hid (old_grow G5.out HO2.out (Nat.le_refl _) hg3)
          clear hown3 hg3
          obtain ⟨p3, c3, rfl, h31, h32⟩ := own_shape HO3.out
          have hp3 : p3 = none → c3 = 0 := by
            rintro rfl
            rcases own_formF HO3.out with ⟨e, -⟩ | ⟨g, cap, e, -⟩
            · injection e with e1 e2 e3
            · injection e with e1 e2 e3
              cases e1
          have HH := Lib.hid (And.intro h31 (And.intro h32 hp3))
          clear h31 h32 hp3
          go_wp2_with fail
          go_ret
          refine ⟨p3, c3, rfl, ?_, HH.out.2.2, ⟨HH.out.1, HH.out.2.1⟩, G6.out⟩
          have hr := rd_of_rdf (rdf_of_own HO3.out) (by rw [flat_tv]; simp)
          rw [flat_tv] at hr
          exact hr.mono (fun b hb => .inr hb)
end Go.Proofs.Ytnpkihioklpnmaa

/- The reference's Around: the mathematics. -/
namespace Go.Proofs.Ytnpkihioklpnmaa
open Go.RowKit Bs
set_option maxRecDepth 100000 in
theorem insU_cons (a : Int) (t : List Int) (n : Int) : insU (a :: t) n = if a < n then a :: insU t n else if a = n then a :: t else n :: a :: t := by
  unfold insU
  by_cases h : a < n
  · rw [if_pos h]
    rw [List.takeWhile_cons, decide_eq_true h]
    simp only [if_true, List.length_cons, List.drop_succ_cons, List.cons_append]
    split <;> rfl
  · rw [if_neg h]
    rw [List.takeWhile_cons, decide_eq_false h]
    simp
set_option maxRecDepth 100000 in
theorem insU_spec (n : Int) : ∀ l : List Int, l.Pairwise (· < ·) → (insU l n).Pairwise (· < ·) ∧ ∀ x, x ∈ insU l n ↔ x = n ∨ x ∈ l
  | [], _ => by
    have : insU [] n = [n] := by simp [insU]
    rw [this]
    simp
  | a :: t, h => by
    obtain ⟨h1, h2⟩ := List.pairwise_cons.1 h
    obtain ⟨i1, i2⟩ := insU_spec n t h2
    rw [insU_cons]
    by_cases ha : a < n
    · rw [if_pos ha]
      refine ⟨List.pairwise_cons.2 ⟨fun y hy => ?_, i1⟩, fun x => ?_⟩
      · rcases (i2 y).1 hy with rfl | hy
        · exact ha
        · exact h1 y hy
      · rw [List.mem_cons, i2, List.mem_cons]
        constructor
        · rintro (h | h | h)
          · exact .inr (.inl h)
          · exact .inl h
          · exact .inr (.inr h)
        · rintro (h | h | h)
          · exact .inr (.inl h)
          · exact .inl h
          · exact .inr (.inr h)
    · rw [if_neg ha]
      by_cases e : a = n
      · rw [if_pos e]
        subst e
        exact ⟨h, fun x => by simp⟩
      · rw [if_neg e]
        refine ⟨List.pairwise_cons.2 ⟨fun y hy => ?_, h⟩, fun x => by simp⟩
        rcases List.mem_cons.1 hy with rfl | hy
        · omega
        · have := h1 y hy
          omega
def insO (O : List Int) : List Int := O.foldl insU []
set_option maxRecDepth 100000 in
theorem insO_take {O : List Int} {k : Nat} {x : Int} (h : O[k]? = some x) : insO (O.take (k + 1)) = insU (insO (O.take k)) x := by
  unfold insO
  rw [List.take_add_one, h, List.foldl_append]
  rfl
set_option maxRecDepth 100000 in
theorem foldl_insU (O : List Int) : ∀ l : List Int, l.Pairwise (· < ·) → (O.foldl insU l).Pairwise (· < ·) ∧ ∀ x, x ∈ O.foldl insU l ↔ x ∈ O ∨ x ∈ l := by
  induction O with
  | nil => intro l h; exact ⟨h, fun x => by simp⟩
  | cons a O ih =>
    intro l h
    obtain ⟨h1, h2⟩ := insU_spec a l h
    obtain ⟨i1, i2⟩ := ih _ h1
    refine ⟨i1, fun x => ?_⟩
    rw [List.foldl_cons, i2, h2, List.mem_cons]
    constructor
    · rintro (h | h | h)
      · exact .inl (.inr h)
      · exact .inl (.inl h)
      · exact .inr h
    · rintro ((h | h) | h)
      · exact .inr (.inl h)
      · exact .inl h
      · exact .inr (.inr h)
set_option maxRecDepth 100000 in
theorem insU_len (l : List Int) (n : Int) : (insU l n).length ≤ l.length + 1 := by
  induction l with
  | nil => simp [insU]
  | cons a t ih =>
    rw [insU_cons]
    split
    · simp; omega
    · split <;> simp
set_option maxRecDepth 100000 in
theorem insO_len (O : List Int) (k : Nat) : (insO (O.take k)).length ≤ k := by
  have : ∀ (O l : List Int), (O.foldl insU l).length ≤ O.length + l.length := by
    intro O
    induction O with
    | nil => intro l; simp
    | cons a O ih =>
      intro l
      have h1 := ih (insU l a)
      have h2 := insU_len l a
      rw [List.foldl_cons, List.length_cons]
      omega
  have h1 := this (O.take k) []
  rw [List.length_take] at h1
  unfold insO
  simp at h1
  omega
/-- While Around goes on: of the routers found i are gone through. -/
structure BF (L : List Lk) (r : Int) (O : List Int) (i : Nat) : Prop where
  nd : O.Nodup
  me : r ∈ O
  rc : ∀ x ∈ O, Rch L r x
  cl : ∀ j x, j < i → O[j]? = some x → ∀ y ∈ nbL L x, y ∈ O
set_option maxRecDepth 100000 in
theorem BF.start (L : List Lk) (r : Int) : BF L r [r] 0 := ⟨by simp, by simp, fun x hx => by rw [List.mem_singleton] at hx; subst hx; exact Rch.refl L _, fun j x h => by omega⟩
set_option maxRecDepth 100000 in
theorem BF.add {L : List Lk} {r x y : Int} {O : List Int} {i : Nat} (h : BF L r O i) (hi : i ≤ O.length) (hx : x ∈ O) (hy : y ∈ nbL L x) (hn : hasI O y = false) : BF L r (O ++ [y]) i := by
  refine ⟨nodup_snoc h.nd (hasI_not.1 hn), List.mem_append_left _ h.me, fun z hz => ?_, fun j z hj hz u hu => ?_⟩
  · rcases List.mem_append.1 hz with hz | hz
    · exact h.rc z hz
    · rw [List.mem_singleton] at hz
      subst hz
      exact Rch.step (h.rc x hx) hy
  · rw [List.getElem?_append_left (by omega)] at hz
    exact List.mem_append_left _ (h.cl j z hj hz u hu)
set_option maxRecDepth 100000 in
theorem BF.next {L : List Lk} {r x : Int} {O : List Int} {i : Nat} (h : BF L r O i) (hx : O[i]? = some x) (hy : ∀ y ∈ nbL L x, y ∈ O) : BF L r O (i + 1) :=
  ⟨h.nd, h.me, h.rc, fun j z hj hz u hu => by
    by_cases e : j < i
    · exact h.cl j z e hz u hu
    · obtain rfl : j = i := by omega
      rw [hx] at hz
      obtain rfl := Option.some.inj hz
      exact hy u hu⟩
set_option maxRecDepth 100000 in
theorem BF.len {R : List Rt} {L : List Lk} {r : Int} {O : List Int} {i : Nat} (hv : okT R L = true) (hr : ∃ x ∈ R, x.id = r) (h : BF L r O i) : O.length ≤ R.length := by
  have hp := pair_of_asc ltR ltR_trans R (okT_all hv).rs
  have hids : (R.map (·.id)).Nodup := by
    unfold List.Nodup
    rw [List.pairwise_map]
    exact hp.imp (fun h => by have := of_decide_eq_true h; omega)
  have hf : ((R.map (·.id)).filter (hasI O)).Nodup := hids.sublist List.filter_sublist
  have : O.Perm ((R.map (·.id)).filter (hasI O)) := (List.perm_ext_iff_of_nodup h.nd hf).2 (fun x => by
    rw [List.mem_filter, hasI_mem]
    constructor
    · intro hx
      obtain ⟨m, hm, e⟩ := reach_id hv hr (h.rc x hx)
      exact ⟨List.mem_map.2 ⟨m, hm, e⟩, hx⟩
    · exact fun hx => hx.2)
  rw [this.length_eq]
  exact Nat.le_trans (List.length_filter_le _ _) (by rw [List.length_map]; exact Nat.le_refl _)
set_option maxRecDepth 100000 in
theorem BF.done {R : List Rt} {L : List Lk} {r : Int} {O : List Int} (hv : okT R L = true) (hr : ∃ x ∈ R, x.id = r) (h : BF L r O O.length) : insO O = cls L r := by
  obtain ⟨x, hx, rfl⟩ := hr
  obtain ⟨n, en, hn⟩ := rt_nat hv hx
  obtain ⟨c1, c2⟩ := cls_spec (okT_near100 hv) hn
  rw [← en] at c1 c2
  obtain ⟨f1, f2⟩ := foldl_insU O [] List.Pairwise.nil
  refine eq_of_asc f1 c1 (fun y => ?_)
  show y ∈ O.foldl insU [] ↔ _
  rw [f2, c2]
  constructor
  · rintro (hy | hy)
    · exact h.rc y hy
    · cases hy
  · intro hy
    refine .inl (hy.into h.me (fun u hu v hv => ?_))
    obtain ⟨j, hj⟩ := List.mem_iff_getElem?.1 hu
    exact h.cl j u (List.getElem?_eq_some_iff.1 hj).1 hj v hv
end Go.Proofs.Ytnpkihioklpnmaa

/- The reference's Has and Named; Same of equal topologies. -/
namespace Go.Proofs.Ytnpkihioklpnmaa
open Go.RowKit Bs
set_option maxRecDepth 100000 in
set_option maxHeartbeats 1600000 in
theorem rhas4_any (X : List Int) (x : Int) (p : Option Addr) (c : Nat) (q : Nat → Prop) (w : World) (hR : Rd w q (.slice p X.length c) (X.map tv)) (hm : X.length ≤ 9223372036854775807) :
    Calls Try.prog 44 #[.slice p X.length c, .int .i64 x] w fun e w' => e = .returned (.bool (hasI X x)) ∧ w = w' := by
  have HR := Lib.hid hR
  have HN0 : Hid ((X.take 0).any (fun y => decide (y = x)) = false) := Lib.hid rfl
  clear hR
  go_enter Try.func44, Try.ntmps44
  go_wp2_with fail
  go_loopw [5] (fun a wr => ∃ k : Nat, k ≤ X.length ∧ a = .int .i64 (k : Int) ∧ Hid ((X.take k).any (fun y => decide (y = x)) = false) ∧ wr = w) (fun a _ => X.length - (RowKit.intOf a).toNat)
  case atStart => exact ⟨0, Nat.zero_le _, rfl, HN0, rfl⟩
  case round =>
    obtain ⟨k, hk, rfl, HN, rfl⟩ := hrel
    by_cases hlt : k < X.length
    · obtain ⟨-, b, off, rfl, -, hc⟩ := rdi_at HR.out (by omega)
      obtain ⟨y, hy⟩ : ∃ y, X[k]? = some y := ⟨_, List.getElem?_eq_getElem hlt⟩
      have d0 := hc k y hy
      have HY := Lib.hid hy
      clear hc hy HN0
      by_cases hyx : y = x
      · have HT : Hid (hasI X x = true) := Lib.hid (any_at HY.out (decide_eq_true hyx))
        subst hyx
        go_wp2_with fail
        go_ret
        rw [HT.out]
        exact ⟨rfl, rfl⟩
      · have HN2 := Lib.hid (any_take HN.out HY.out (decide_eq_false hyx))
        have h' : (y == x) = false := by simpa using hyx
        go_wp2_with fail
        exact ⟨⟨k + 1, by omega, congrArg _ (by omega), HN2, (by first | rfl | trivial)⟩, by simp only [RowKit.intOf]; omega⟩
    · have HT : Hid (hasI X x = false) := Lib.hid (any_end HN.out (by omega))
      obtain rfl : k = X.length := by omega
      go_wp2_with fail
      go_ret
      rw [HT.out]
      exact ⟨rfl, rfl⟩
/-- A hop names the ends, in either direction. -/
def isB (a b : Int) (h : Hp) : Bool := isH a b h || isH b a h
def nmH (H : List Hp) (a b : Int) : Bool := H.any (isB a b)
set_option maxRecDepth 100000 in
theorem nmH_eq (a b : Int) : ∀ H : List Hp, nmH H a b = (H.any (isH a b) || H.any (isH b a))
  | [] => rfl
  | h :: t => by
    have := nmH_eq a b t
    unfold nmH at this ⊢
    rw [List.any_cons, List.any_cons, List.any_cons, this]
    unfold isB
    cases isH a b h <;> cases isH b a h <;> simp
set_option maxRecDepth 100000 in
set_option maxHeartbeats 3200000 in
theorem rnamed_any (H : List Hp) (a b : Int) (p : Option Addr) (c : Nat) (q : Nat → Prop) (w : World) (hR : RdH w q (.slice p H.length c) H) (hm : H.length ≤ 9223372036854775807) :
    Calls Try.prog 77 #[.slice p H.length c, .int .i64 a, .int .i64 b] w fun e w' => e = .returned (.bool (nmH H a b)) ∧ w = w' := by
  have HR := Lib.hid hR
  have HN0 : Hid ((H.take 0).any (isB a b) = false) := Lib.hid rfl
  clear hR
  go_enter Try.func77, Try.ntmps77
  go_wp2_with fail
  go_loopw [7] (fun i wr => ∃ k : Nat, k ≤ H.length ∧ i = .int .i64 (k : Int) ∧ Hid ((H.take k).any (isB a b) = false) ∧ wr = w) (fun i _ => H.length - (RowKit.intOf i).toNat)
  case atStart => exact ⟨0, Nat.zero_le _, rfl, HN0, rfl⟩
  case round =>
    obtain ⟨k, hk, rfl, HN, rfl⟩ := hrel
    by_cases hlt : k < H.length
    · obtain ⟨-, b1, off, rfl, -, hc⟩ := rdh_cells HR.out (by omega)
      obtain ⟨y, hy⟩ : ∃ y, H[k]? = some y := ⟨_, List.getElem?_eq_getElem hlt⟩
      obtain ⟨d0, d1⟩ := hc k y hy
      have HY := Lib.hid hy
      clear hc hy HN0
      have HB : Hid (isB a b y = ((y.f == a && y.t == b) || (y.f == b && y.t == a))) := Lib.hid (by
        unfold isB isH
        simp only [Bool.decide_and]
        rfl)
      have HT : Hid (isB a b y = true → nmH H a b = true) := Lib.hid (fun h => any_at HY.out h)
      have HF : Hid (isB a b y = false → (H.take (k + 1)).any (isB a b) = false) := Lib.hid (fun h => any_take HN.out HY.out h)
      cases h1 : (y.f == a) <;> cases h2 : (y.t == b) <;> cases h3 : (y.f == b) <;> cases h4 : (y.t == a) <;>
      (rw [h1, h2, h3, h4] at HB
       go_wp2_with fail
       first
        | (have HN2 := Lib.hid (HF.out (HB.out.trans rfl)); exact ⟨⟨k + 1, by omega, congrArg _ (by omega), HN2, (by first | rfl | trivial)⟩, by simp only [RowKit.intOf]; omega⟩)
        | (go_ret; rw [HT.out (HB.out.trans rfl)]; exact ⟨rfl, rfl⟩))
    · have HT : Hid (nmH H a b = false) := Lib.hid (any_end HN.out (by omega))
      obtain rfl : k = H.length := by omega
      go_wp2_with fail
      go_ret
      rw [HT.out]
      exact ⟨rfl, rfl⟩
end Go.Proofs.Ytnpkihioklpnmaa

/- The reference's Around. -/
namespace Go.Proofs.Ytnpkihioklpnmaa
open Go.RowKit Bs
/-- While the found routers are sorted. -/
def IR (w0 : World) (l : List Int) (v : Value) (wz : World) : Prop := ∃ p c, v = .slice p l.length c ∧ Rd wz (w0.heap.size ≤ ·) (.slice p l.length c) (l.map tv) ∧ (p = none → c = 0) ∧ (l.length ≤ c ∧ c ≤ 9223372036854775807) ∧ w0.grownBy wz none
set_option maxRecDepth 100000 in
theorem IR.nil (w0 : World) : IR w0 [] (.slice none 0 0) w0 := ⟨none, 0, rfl, ⟨none, 0, rfl, fun h => absurd rfl h⟩, fun _ => rfl, ⟨Nat.le_refl _, by show 0 ≤ _; omega⟩, grown_refl _ _⟩
/-- While the neighbours of one router are gone through: what its neighbours' list keeps. -/
structure BIa (wr w5 : World) (vn : Value) (M : List Int) (v : Value) (wz : World) : Prop where
  rd : Rd wz (fun b => wr.heap.size ≤ b ∧ b < w5.heap.size) vn (M.map tv)
  ap : ∀ g, v.ownBlock = some g → g < wr.heap.size ∨ w5.heap.size ≤ g
  sz : w5.heap.size ≤ wz.heap.size
set_option maxRecDepth 100000 in
theorem BIa.app {wr w5 wz w6 : World} {vn v : Value} {M : List Int} {o : Obj} {g n cap : Nat} (h : BIa wr w5 vn M v wz) (hg : (wz.alloc o).grownBy w6 v.ownBlock) (hat : v.ownBlock = some g ∨ g = (wz.alloc o).heap.size) : BIa wr w5 vn M (.slice (some ⟨g, 0, none⟩) n cap) w6 := by
  have k0 := World.grownBy_alloc wz o none
  have hs := h.sz
  have hs2 : (wz.alloc o).heap.size = wz.heap.size + 1 := by simp
  refine ⟨(h.rd.grown k0 (by simp)).grown hg (fun b hb e => ?_), fun g' e => ?_, Nat.le_trans hs (Nat.le_trans k0.size hg.size)⟩
  · have := h.ap b e.symm
    omega
  · have eg : g = g' := Option.some.inj e
    subst eg
    rcases hat with e2 | e2
    · exact h.ap g e2
    · omega
set_option maxRecDepth 100000 in
set_option maxHeartbeats 3200000 in
theorem rarnd_any (T : Tg) (r : Int) (q : Nat → Prop) (w : World) (hT : TgOk w q T) (hv : okT T.R T.L = true) (hr : ∃ x ∈ T.R, x.id = r) :
    Calls Try.prog 43 #[.agg #[.slice T.pR T.R.length T.cR, .slice T.pL T.L.length T.cL], .int .i64 r] w fun e w' => TRet (cls T.L r) w e w' := by
  obtain ⟨R, L, pR, cR, pL, cL⟩ := T
  simp only at hv hr ⊢
  obtain ⟨h24, h60⟩ := okT_len hv
  obtain ⟨k1, k2⟩ := tone_box w #[.slice pR R.length cR, .slice pL L.length cL] 59
  have HB := Lib.hid (And.intro k1 (And.intro k2 (hT.keep k2)))
  have HV := Lib.hid (And.intro hv hr)
  clear k1 k2 hT hv hr
  go_enter Try.func43, Try.ntmps43
  obtain ⟨ii, hii, hi0, hi1, hi2⟩ := info_parts info_int
  go_upto_region 1 with fail
  generalize w.alloc _ = wa at *
  have N0 : Hid (NK wa (.slice (some ⟨wa.heap.size, 0, none⟩) 1 1) [r] (wa.alloc (.cells #[.int .i64 r] 3))) := Lib.hid ⟨World.ownsRow_lit wa #[.int .i64 r] 1 (Nat.le_refl _) (by decide) rfl, World.grownBy_alloc _ _ _⟩
  go_upto_region 2 with fail
  generalize wa.alloc _ = w1 at *
  go_wp2_with fail
  go_loopw [5, 6] (fun v a wr => ∃ (i : Nat) (O : List Int), i ≤ O.length ∧ a = .int .i64 (i : Int) ∧ Hid (NK wa v O wr) ∧ Hid (BF L r O i)) (fun _ a _ => R.length - (RowKit.intOf a).toNat)
  case atStart => exact ⟨0, [r], Nat.zero_le _, rfl, N0, Lib.hid (BF.start L r)⟩
  case round =>
  obtain ⟨w4, rfl⟩ : ∃ w4, w4 = wr := ⟨_, rfl⟩
  obtain ⟨i, O, hi, rfl, N, B⟩ := hrel
  clear N0
  have hOl : O.length ≤ R.length := B.out.len HV.out.1 HV.out.2
  have HBR := Lib.hid (kept_row HB.out.1 N.out.gr (by simp))
  have HT := Lib.hid (HB.out.2.2.keep N.out.gr)
  obtain ⟨pv, cv, rfl, hv1, hv2⟩ := own_shape N.out.own
  by_cases hlt : i < O.length
  · have hrd := rd_of_own N.out.own
    obtain ⟨-, b, off, rfl, -, -⟩ := rdi_at hrd (by omega)
    obtain ⟨x, hx⟩ : ∃ x, O[i]? = some x := ⟨_, List.getElem?_eq_getElem hlt⟩
    have HC : Hid (∀ u, Hid (w4.grownBy u none) → u.cell? ⟨b, off + i, none⟩ = some (.int .i64 x)) := Lib.hid (fun u hu => by
      obtain ⟨-, b', off', e, -, hc⟩ := rdi_at (hrd.grown hu.out (by simp)) (by omega)
      injection e with e
      injection e with e4 e5
      subst e4
      subst e5
      exact hc i x hx)
    have i0 : (0 : Int) ≤ (i : Int) := by omega
    have i1 : (i : Int) < (O.length : Int) := by omega
    obtain ⟨M, hM⟩ : ∃ M, nbL L x = M := ⟨_, rfl⟩
    have hNM : nearR R L x = M := by rw [← near_eq (okT_all HV.out.1), hM]
    have HX := Lib.hid (And.intro hx (And.intro hM hNM))
    have hb0 : b < w4.heap.size := (N.out.own.lt b (by rfl)).2
    have HBO : Hid (∀ g, (Value.slice (some ⟨b, off, none⟩) O.length cv).ownBlock = some g → g < w4.heap.size) := Lib.hid (fun g e => (N.out.own.lt g e).2)
    clear hx hM hNM hrd hb0
    go_upto_region 5 with fail
    refine wp_region_held_drew (S := fun w' => Hid (w4.grownBy w' none)) (by kernel_rfl) (Lib.hid (grown_drew (grown_refl _ _))) (fun hHeld => ?_)
    refine wpAnyH_take (i := 0) (oi := { dst := some 19, op := Op.load 59 (Operand.tmp 2), type := 59, pos := "ref.go:214", after := #[], guard := none }) (v := ?_) rfl (by kernel_rfl) (by kernel_rfl) (by kernel_rfl) (fun _ _ _ h => h) (Or.inl ⟨by rfl, ?_⟩) hHeld ?_
    rotate_left 1
    · intro u hSu
      obtain ⟨q0, q1⟩ := row_cells (kept_row HBR.out hSu.out (by simp))
      have q2 := HC.out _ hSu
      go_simp
      first | done | with_reducible rfl
    (try simp only [Act.put, List.setIfInBounds_toArray, List.set_cons_zero, List.set_cons_succ])
    refine wpAnyH_take (i := 1) (oi := { dst := some 20, op := Op.move (Operand.tmp 5), type := 22, pos := "ref.go:214", after := #[], guard := none }) (v := ?_) rfl (by kernel_rfl) (by kernel_rfl) (by kernel_rfl) (fun _ _ _ h => h) (Or.inl ⟨by rfl, ?_⟩) hHeld ?_
    rotate_left 1
    · intro u hSu
      obtain ⟨q0, q1⟩ := row_cells (kept_row HBR.out hSu.out (by simp))
      have q2 := HC.out _ hSu
      go_simp
      first | done | with_reducible rfl
    (try simp only [Act.put, List.setIfInBounds_toArray, List.set_cons_zero, List.set_cons_succ])
    refine wpAnyH_take (i := 2) (oi := { dst := some 21, op := Op.move (Operand.tmp 6), type := 3, pos := "ref.go:214", after := #[], guard := none }) (v := ?_) rfl (by kernel_rfl) (by kernel_rfl) (by kernel_rfl) (fun _ _ _ h => h) (Or.inl ⟨by rfl, ?_⟩) hHeld ?_
    rotate_left 1
    · intro u hSu
      obtain ⟨q0, q1⟩ := row_cells (kept_row HBR.out hSu.out (by simp))
      have q2 := HC.out _ hSu
      go_simp
      first | done | with_reducible rfl
    (try simp only [Act.put, List.setIfInBounds_toArray, List.set_cons_zero, List.set_cons_succ])
    refine wpAnyH_take (i := 3) (oi := { dst := some 22, op := Op.indexAddr 22 (Operand.tmp 20) (Operand.tmp 21), type := 0, pos := "ref.go:214", after := #[{ on := 1, ground := Ground.data }, { on := 2, ground := Ground.data }], guard := none }) (v := ?_) rfl (by kernel_rfl) (by kernel_rfl) (by kernel_rfl) (fun _ _ _ h => h) (Or.inl ⟨by rfl, ?_⟩) hHeld ?_
    rotate_left 1
    · intro u hSu
      obtain ⟨q0, q1⟩ := row_cells (kept_row HBR.out hSu.out (by simp))
      have q2 := HC.out _ hSu
      go_simp
      first | done | with_reducible rfl
    (try simp only [Act.put, List.setIfInBounds_toArray, List.set_cons_zero, List.set_cons_succ])
    refine wpAnyH_take (i := 4) (oi := { dst := some 23, op := Op.load 3 (Operand.tmp 22), type := 3, pos := "ref.go:214", after := #[{ on := 3, ground := Ground.data }], guard := none }) (v := ?_) rfl (by kernel_rfl) (by kernel_rfl) (by kernel_rfl) (fun _ _ _ h => h) (Or.inl ⟨by rfl, ?_⟩) hHeld ?_
    rotate_left 1
    · intro u hSu
      obtain ⟨q0, q1⟩ := row_cells (kept_row HBR.out hSu.out (by simp))
      have q2 := HC.out _ hSu
      go_simp
      first | done | with_reducible rfl
    (try simp only [Act.put, List.setIfInBounds_toArray, List.set_cons_zero, List.set_cons_succ])
    refine wpAnyH_ready (rs := [5]) (by kernel_rfl) (by simp) ?_
    refine AllReadyH.cons (o := { dst := some 24, op := Op.call { callee := Callee.value (Operand.func 74), args := #[Operand.tmp 19, Operand.tmp 23], argTypes := #[59, 3] }, type := 22, pos := "ref.go:214", after := #[{ on := 0, ground := Ground.data }, { on := 4, ground := Ground.data }], guard := none }) rfl (fun Kz hK => ?_) AllReadyH.nil
    go_simp
    go_at_call 74
    refine (rnear_any ⟨R, L, pR, cR, pL, cL⟩ x _ _ (HT.out.keep hHeld.out) (show R.length ≤ 1000 by omega)).mono ?_
    rintro e w5 ⟨pn, cn, rfl, hRN0, hcn0, -, hg5⟩
    simp only at hRN0 hcn0 ⊢
    rw [HX.out.2.2] at hRN0 hcn0
    rw [HX.out.2.2]
    have hRN := And.intro (Rd.mono hRN0.lt (q' := fun b => w4.heap.size ≤ b ∧ b < w5.heap.size) (fun b hb => ⟨Nat.le_trans hHeld.out.size hb.1, hb.2⟩)) hcn0
    clear hRN0 hcn0
    refine hK.out _ _ (Lib.hid (grown_trans hHeld.out hg5)) (fun hH2 => ?_)
    clear hK Kz hHeld
    have hHeld := hH2
    clear hH2
    (try simp only [Act.put, List.setIfInBounds_toArray, List.set_cons_zero, List.set_cons_succ])
    refine wpAnyH_take (i := 6) (oi := { dst := some 7, op := Op.assign (Operand.tmp 24), type := 22, pos := "ref.go:214", after := #[{ on := 5, ground := Ground.data }, { on := 5, ground := Ground.chain }, { on := 0, ground := Ground.phase }, { on := 1, ground := Ground.phase }, { on := 2, ground := Ground.phase }, { on := 3, ground := Ground.phase }, { on := 4, ground := Ground.phase }, { on := 5, ground := Ground.phase }], guard := none }) (v := ?_) rfl (by kernel_rfl) (by kernel_rfl) (by kernel_rfl) (fun _ _ _ h => h) (Or.inl ⟨by rfl, ?_⟩) hHeld ?_
    rotate_left 1
    · intro u hSu
      obtain ⟨q0, q1⟩ := row_cells (kept_row HBR.out hSu.out (by simp))
      have q2 := HC.out _ hSu
      go_simp
      first | done | with_reducible rfl
    (try simp only [Act.put, List.setIfInBounds_toArray, List.set_cons_zero, List.set_cons_succ])
    refine wpAnyH_done (by kernel_rfl) ?_ _
    have HR5 := Lib.hid hRN
    clear hRN
    have N5 := Lib.hid (N.out.keep hHeld.out)
    have hMl : M.length ≤ 24 := by rw [← HX.out.2.2]; unfold nearR; rw [List.length_map]; exact Nat.le_trans (List.length_filter_le _ _) h24
    have HI0 : Hid (BIa w4 w5 (.slice pn M.length cn) M (.slice (some ⟨b, off, none⟩) O.length cv) w5) := Lib.hid ⟨HR5.out.1, fun g e => .inl (HBO.out g e), Nat.le_refl _⟩
    have hcn1 := HR5.out.2
    clear hHeld HBR HT HC HBO HR5 N i0 i1
    go_wp2_with fail
    go_loopw [5, 8] (fun v a wr => ∃ (k : Nat) (O' : List Int), k ≤ M.length ∧ i < O'.length ∧ a = .int .i64 (k : Int) ∧ Hid (NK wa v O' wr) ∧ Hid (BF L r O' i) ∧ Hid (O'[i]? = some x ∧ ∀ y ∈ M.take k, y ∈ O') ∧ Hid (BIa w4 w5 (.slice pn M.length cn) M v wr)) (fun _ a _ => M.length - (RowKit.intOf a).toNat)
    case atStart => exact ⟨0, O, Nat.zero_le _, hlt, rfl, N5, B, Lib.hid ⟨HX.out.1, fun y h => by cases h⟩, HI0⟩
    case round =>
    obtain ⟨k, O', hk, hiO, rfl, N', B', HO, HI⟩ := hrel
    clear N5 B HI0
    have hOl' : O'.length ≤ R.length := B'.out.len HV.out.1 HV.out.2
    have hrow := N'.out.own
    have hwz := N'.out.gr.size
    obtain ⟨pv', cv', rfl, hv1', hv2'⟩ := own_shape hrow
    by_cases hkt : k < M.length
    · obtain ⟨-, b2, off2, rfl, -, hc2⟩ := rdi_at HI.out.rd (by omega)
      obtain ⟨y, hy⟩ : ∃ y, M[k]? = some y := ⟨_, List.getElem?_eq_getElem hkt⟩
      have a0 := hc2 k y hy
      have HY := Lib.hid hy
      have k0 : (0 : Int) ≤ (k : Int) := by omega
      have k1 : (k : Int) < (M.length : Int) := by omega
      clear hc2 hy
      cases hh : hasI O' y
      · have HH := Lib.hid hh
        go_wp2_with fail
        refine (rhas4_any O' y pv' cv' _ wr (rd_of_own N'.out.own) (by omega)).mono ?_
        rw [hh]
        rintro e w' ⟨rfl, rfl⟩
        go_wp2_with (at_builtin; refine wpList_append_lies _ rfl _ _ 22 rfl wa.heap.size 3 ii (.int .i64 0) 1 8 Try.underlying22 hii hi0 hi1 hi2 rfl (by decide) _ _ _ rfl (hrow.alloc _) ⟨wr.heap.size, 0, none⟩ 1 1 [.int .i64 y] rfl rfl ?c1 ?c2 (by decide) ?c3 ?c4 ?c5 _ rfl ?_)
        try (case c1 => exact cell_one _ _ _)
        case c2 => first | rfl | (intro u hu; simp at hu; subst hu; rfl)
        case c3 => first | omega | (unfold maxLen; omega)
        case c4 => omega
        case c5 => first | omega | (simp; omega)
        intro g6 cap6 w6 hown6 hg6 hat6 hlt6
        have N6 := Lib.hid (N'.out.more (grown_refl _ _) hown6 hg6).1
        have I6 := Lib.hid (HI.out.app (n := O'.length + 1) (cap := cap6) hg6 (hat6.imp id fun e => by rw [e]; try simp))
        have B6 := Lib.hid (B'.out.add (by omega) (List.mem_of_getElem? HO.out.1) (y := y) (by rw [HX.out.2.1]; exact List.mem_of_getElem? HY.out) HH.out)
        have HO6 : Hid ((O' ++ [y])[i]? = some x ∧ ∀ z ∈ M.take (k + 1), z ∈ O' ++ [y]) := Lib.hid ⟨by rw [List.getElem?_append_left hiO]; exact HO.out.1, fun z hz => by
          rw [List.take_add_one, HY.out] at hz
          rcases List.mem_append.1 hz with hz | hz
          · exact List.mem_append_left _ (HO.out.2 z hz)
          · exact List.mem_append_right _ (by simpa using hz)⟩
        clear hown6 hg6 hat6 hlt6 hrow hh a0 N' B' HO HI
        go_wp2_with fail
        refine ⟨⟨k + 1, O' ++ [y], by omega, by rw [List.length_append]; omega, congrArg _ (by omega), ?_, B6, HO6, ?_⟩, by simp only [RowKit.intOf]; omega⟩
        · exact N6
        · exact I6
      · have HO6 : Hid (O'[i]? = some x ∧ ∀ z ∈ M.take (k + 1), z ∈ O') := Lib.hid ⟨HO.out.1, fun z hz => by
          rw [List.take_add_one, HY.out] at hz
          rcases List.mem_append.1 hz with hz | hz
          · exact HO.out.2 z hz
          · have : z = y := by simpa using hz
            subst this
            exact hasI_mem.1 hh⟩
        go_wp2_with fail
        refine (rhas4_any O' y pv' cv' _ wr (rd_of_own N'.out.own) (by omega)).mono ?_
        rw [hh]
        rintro e w' ⟨rfl, rfl⟩
        clear hh
        go_wp2_with fail
        exact ⟨⟨k + 1, O', by omega, hiO, congrArg _ (by omega), N', B', HO6, HI⟩, by simp only [RowKit.intOf]; omega⟩
    · obtain rfl : k = M.length := by omega
      have B2 : Hid (BF L r O' (i + 1)) := Lib.hid (B'.out.next HO.out.1 (fun y hy => HO.out.2 y (by rw [List.take_length, ← HX.out.2.1]; exact hy)))
      clear hrow
      go_wp2_with fail
      exact ⟨⟨i + 1, O', by omega, congrArg _ (by omega), N', B2⟩, by simp only [RowKit.intOf]; omega⟩
  · obtain rfl : i = O.length := by omega
    have HD : Hid (insO O = cls L r) := Lib.hid (B.out.done HV.out.1 HV.out.2)
    have I0 : Hid (IR w4 (insO (O.take 0)) (.slice none 0 0) w4) := Lib.hid (IR.nil w4)
    go_wp2_with fail
    go_loopw [9, 10] (fun v a wr => ∃ k : Nat, k ≤ O.length ∧ a = .int .i64 (k : Int) ∧ Hid (IR w4 (insO (O.take k)) v wr)) (fun _ a _ => O.length - (RowKit.intOf a).toNat)
    case atStart => exact ⟨0, Nat.zero_le _, rfl, I0⟩
    case round =>
    obtain ⟨k, hk, rfl, I⟩ := hrel
    clear I0
    by_cases hkt : k < O.length
    · have hg := I.out
      obtain ⟨p, c, rfl, hR, hpn, hc12, hgw⟩ := hg
      have HR := Lib.hid (And.intro hR (And.intro hpn hgw))
      obtain ⟨-, b, off, rfl, -, hc2⟩ := rdi_at ((rd_of_own N.out.own).grown hgw (by simp)) (by omega)
      obtain ⟨y, hy⟩ : ∃ y, O[k]? = some y := ⟨_, List.getElem?_eq_getElem hkt⟩
      have a0 := hc2 k y hy
      have hil := insO_len O k
      have HT2 := Lib.hid (insO_take hy)
      have k0 : (0 : Int) ≤ (k : Int) := by omega
      have k1 : (k : Int) < (O.length : Int) := by omega
      obtain ⟨l, hl⟩ : ∃ l, insO (O.take k) = l := ⟨_, rfl⟩
      rw [hl] at HR hil HT2 hc12 ⊢
      clear hc2 hy hR hpn hgw I hl
      go_wp2_with fail
      refine (rins_any l y p c _ wr HR.out.1 HR.out.2.1 hc12.1 hc12.2 (by omega)).mono ?_
      rintro e w7 ⟨p7, c7, rfl, hR7, hp7, hc7, hg7⟩
      have I7 : Hid (IR w4 (insU l y) (.slice p7 (insU l y).length c7) w7) := Lib.hid ⟨p7, c7, rfl, hR7.mono (fun b hb => by rcases hb with hb | hb; exact hb; exact Nat.le_trans HR.out.2.2.size hb), hp7, hc7, grown_trans HR.out.2.2 hg7⟩
      clear hR7 hp7 hc7 hg7
      go_wp2_with fail
      refine ⟨⟨k + 1, by omega, congrArg _ (by omega), ?_⟩, by simp only [RowKit.intOf]; omega⟩
      rw [HT2.out]
      exact I7
    · obtain rfl : k = O.length := by omega
      rw [List.take_length, HD.out] at I
      have hg := I.out
      obtain ⟨p, c, rfl, hR, hpn, hc12, hgw⟩ := hg
      have HR := Lib.hid (And.intro hR (And.intro hpn (And.intro hc12 hgw)))
      have hcl : (cls L r).length ≤ c := hc12.1
      obtain ⟨l, hl⟩ : ∃ l, cls L r = l := ⟨_, rfl⟩
      have HL := Lib.hid hl
      rw [hl] at HR ⊢
      clear hR hpn hc12 hgw I hl hcl HD
      go_wp2_with fail
      go_ret
      rw [HL.out]
      have g1 := grown_trans HB.out.2.1 N.out.gr
      exact ⟨p, c, rfl, HR.out.1.mono (fun b hb => Nat.le_trans g1.size hb), HR.out.2.2.1, HR.out.2.1, grown_trans g1 HR.out.2.2.2⟩
end Go.Proofs.Ytnpkihioklpnmaa
