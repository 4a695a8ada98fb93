/- Parts of the proof, packed: DbAgM, DbClm, ToHasF, DbRVw, DbCkM, DbRCl, ToTopK, ToFlr, ToStep, ToOpn, ToOpnF, ToOrd, ToIns, ToArnM. -/
import Derived.Test.YtnpkihioklpnmaaAg8
import Derived.Test.YtnpkihioklpnmaaAg11
import Derived.Test.YtnpkihioklpnmaaAg10
import Derived.Test.YtnpkihioklpnmaaAg4
import Derived.BigQuiet
import Derived.Test.YtnpkihioklpnmaaAg3
import Derived.Test.YtnpkihioklpnmaaAg2
import Derived.Deep.CutBlock
import Derived.Deep.CutRange
import Derived.Test.YtnpkihioklpnmaaAg1
import Derived.Deep.AppendLies
import Derived.Deep.Onto
import Derived.Laws.OwnMore
import Derived.Maps.AppendAt
/- A View is a valid connected topology, the same for all of its routers: the mathematics. -/
namespace Go.Proofs.Ytnpkihioklpnmaa
open Go.RowKit Bs
set_option maxRecDepth 100000 in
theorem lkAd_comm (A B : Ad) : lkAd A B = lkAd B A := by unfold lkAd; exact Bool.and_comm _ _
set_option maxRecDepth 100000 in
theorem lkAd_self {A : Ad} (h : vAd A = true) : lkAd A A = false := by
  unfold lkAd
  rw [Bool.and_self]
  cases hc : rcA A A.r with
  | none => rfl
  | some x =>
    obtain ⟨h1, h2⟩ := rcA_some hc
    have key : ∀ (M : List T3) (k : Int), vRe A.r k M = true → ∀ x ∈ M, x.a ≠ A.r := by
      intro M
      induction M with
      | nil => intro _ _ x hx; cases hx
      | cons y M ih =>
        intro k hk x hx
        rw [vRe, Bool.and_eq_true] at hk
        rcases List.mem_cons.1 hx with rfl | hx
        · have := hk.1; unfold okRe at this; exact (of_decide_eq_true this).2.2.1
        · exact ih _ hk.2 x hx
    exact absurd h2 (key _ _ (vAd_re h) x h1)
/-! Members of what is reached. -/
set_option maxRecDepth 100000 in
theorem add_mono : ∀ (M : List Ad) (st : List Int × List Ad) (y : Int), inS st.1 y = true → inS (M.foldl addA st).1 y = true
  | [], _, _, h => h
  | B :: M, st, y, h => by
    rw [List.foldl_cons]
    refine add_mono M _ y ?_
    unfold addA
    split
    · exact h
    · rw [inS_app, h]; rfl
set_option maxRecDepth 100000 in
theorem add_has : ∀ (M : List Ad) (st : List Int × List Ad), ∀ B ∈ M, inS (M.foldl addA st).1 B.r = true
  | C :: M, st, B, hB => by
    rw [List.foldl_cons]
    rcases List.mem_cons.1 hB with rfl | hB
    · refine add_mono M _ _ ?_
      unfold addA
      split
      · assumption
      · rw [inS_app, inS_one, decide_eq_true rfl, Bool.or_true]
    · exact add_has M _ B hB
set_option maxRecDepth 100000 in
theorem add_work : ∀ (M : List Ad) (st : List Int × List Ad), ∀ B ∈ st.2, B ∈ (M.foldl addA st).2
  | [], _, _, h => h
  | C :: M, st, B, h => by
    rw [List.foldl_cons]
    refine add_work M _ B ?_
    unfold addA
    split
    · exact h
    · exact List.mem_append_left _ h
set_option maxRecDepth 100000 in
/-- Who is new is to be looked at. -/
theorem add_new : ∀ (M : List Ad) (st : List Int × List Ad) (y : Int), inS (M.foldl addA st).1 y = true → inS st.1 y = false → ∃ B ∈ (M.foldl addA st).2, B ∈ M ∧ B.r = y
  | [], st, y, h, h2 => by rw [List.foldl_nil] at h; rw [h] at h2; cases h2
  | C :: M, st, y, h, h2 => by
    rw [List.foldl_cons] at h ⊢
    cases hc : inS (addA st C).1 y with
    | false =>
      obtain ⟨B, b1, b2, b3⟩ := add_new M _ y h hc
      exact ⟨B, b1, List.mem_cons_of_mem _ b2, b3⟩
    | true =>
      unfold addA at hc
      split at hc
      · rw [hc] at h2; cases h2
      · rename_i hn
        rw [inS_app, h2, Bool.false_or, inS_one] at hc
        refine ⟨C, add_work M _ C ?_, List.mem_cons_self, of_decide_eq_true hc⟩
        unfold addA
        rw [if_neg hn]
        exact List.mem_append_right _ (List.mem_singleton_self _)
/-- What holds while the routers are looked at: whoever has been reached is still to be looked at, or his neighbours have been reached. -/
def ClsI (l : List Ad) (S : List Int) (W : List Ad) : Prop := ∀ A ∈ l, inS S A.r = true → A ∈ W ∨ ∀ B ∈ l, lkAd A B = true → inS S B.r = true
set_option maxRecDepth 100000 in
theorem fnd_inj {l : List Ad} (h : OkD l) {A B : Ad} (hA : A ∈ l) (hB : B ∈ l) (e : A.r = B.r) : A = B := by
  have h1 := fnd_selfV h.asc A hA
  have h2 := fnd_selfV h.asc B hB
  rw [e, h2] at h1
  exact (Option.some.inj h1).symm
set_option maxRecDepth 100000 in
theorem cls_step {l : List Ad} (h : OkD l) {S : List Int} {A : Ad} {W : List Ad} (hA : A ∈ l) (hc : ClsI l S (A :: W)) : ClsI l ((lnk l A).foldl addA (S, W)).1 ((lnk l A).foldl addA (S, W)).2 := by
  intro B hB hi
  cases hs : inS S B.r with
  | false =>
    obtain ⟨C, c1, c2, c3⟩ := add_new (lnk l A) (S, W) B.r hi hs
    rw [← fnd_inj h (lnk_mem c2) hB c3]
    exact .inl c1
  | true =>
    rcases hc B hB hs with hw | hw
    · rcases List.mem_cons.1 hw with rfl | hw
      · refine .inr fun D hD hk => ?_
        refine add_has _ _ D ?_
        rw [lnk_flt h hB, List.mem_filter]
        exact ⟨hD, hk⟩
      · exact .inl (add_work _ _ B hw)
    · exact .inr fun D hD hk => add_mono _ _ _ (hw D hD hk)
set_option maxRecDepth 100000 in
theorem bfs_cls {l : List Ad} (h : OkD l) : ∀ (n : Nat) (S : List Int) (W : List Ad), unv l S + W.length ≤ n → (∀ B ∈ W, B ∈ l) → ClsI l S W → (∀ y, inS S y = true → inS (bfs l n S W) y = true) ∧ ClsI l (bfs l n S W) []
  | n, S, [], _, _, hc => by rw [bfs_nil]; exact ⟨fun _ h => h, hc⟩
  | 0, S, A :: W, hn, _, _ => by simp only [List.length_cons] at hn; omega
  | n + 1, S, A :: W, hn, hw, hc => by
    have hA := hw A List.mem_cons_self
    rw [bfs]
    have hk := add_keep h.pair (lnk l A) (fun B hB => lnk_mem hB) (S, W)
    simp only [List.length_cons] at hn
    obtain ⟨i1, i2⟩ := bfs_cls h n _ _ (by rw [hk]; show unv l S + W.length ≤ n; omega) (add_from _ (fun B hB => lnk_mem hB) _ (fun B hB => hw B (List.mem_cons_of_mem _ hB))) (cls_step h hA hc)
    exact ⟨fun y hy => i1 y (add_mono _ _ y hy), i2⟩
set_option maxRecDepth 100000 in
theorem reS_self {l : List Ad} (h : OkD l) {r : Int} {A : Ad} (hf : fndA l r = some A) : inS (reS l r) r = true ∧ ClsI l (reS l r) [] := by
  obtain ⟨h1, h2⟩ := fndA_some hf
  unfold reS
  rw [hf]
  obtain ⟨i1, i2⟩ := bfs_cls h (unv l [r] + 1) [r] [A] (by simp) (fun B hB => by rw [List.mem_singleton] at hB; subst hB; exact h1) (fun B hB hi => by
    rw [inS_one] at hi
    have : B = A := fnd_inj h hB h1 (by rw [h2]; exact (of_decide_eq_true hi).symm)
    rw [this]
    exact .inl List.mem_cons_self)
  exact ⟨i1 r (by rw [inS_one, decide_eq_true rfl]), i2⟩
set_option maxRecDepth 100000 in
theorem reS_none {l : List Ad} {r : Int} (h : fndA l r = none) : reS l r = [] := by unfold reS; rw [h]
set_option maxRecDepth 100000 in
/-- What is reached is closed under links. -/
theorem reS_closed {l : List Ad} (h : OkD l) {r : Int} {A B : Ad} (hA : A ∈ l) (hi : inS (reS l r) A.r = true) (hB : B ∈ l) (hk : lkAd A B = true) : inS (reS l r) B.r = true := by
  cases hf : fndA l r with
  | none => rw [reS_none hf] at hi; cases hi
  | some C =>
    rcases (reS_self h hf).2 A hA hi with hw | hw
    · cases hw
    · exact hw B hB hk
set_option maxRecDepth 100000 in
theorem bfs_min {l : List Ad} (h : OkD l) (P : Int → Prop) (hP : ∀ A ∈ l, ∀ B ∈ l, P A.r → lkAd A B = true → P B.r) : ∀ (n : Nat) (S : List Int) (W : List Ad), (∀ B ∈ W, B ∈ l ∧ P B.r) → (∀ y, inS S y = true → P y) → ∀ y, inS (bfs l n S W) y = true → P y
  | 0, S, W, _, hs, y, hy => hs y hy
  | n + 1, S, [], _, hs, y, hy => hs y hy
  | n + 1, S, A :: W, hw, hs, y, hy => by
    rw [bfs] at hy
    obtain ⟨a1, a2⟩ := hw A List.mem_cons_self
    have hl : ∀ B ∈ lnk l A, B ∈ l ∧ P B.r := fun B hB => by
      rw [lnk_flt h a1, List.mem_filter] at hB
      exact ⟨hB.1, hP A a1 B hB.1 a2 hB.2⟩
    refine bfs_min h P hP n _ _ (fun B hB => ?_) (fun y hy => ?_) y hy
    · have hwork : ∀ (M : List Ad), (∀ B ∈ M, B ∈ l ∧ P B.r) → ∀ st : List Int × List Ad, (∀ B ∈ st.2, B ∈ l ∧ P B.r) → ∀ B ∈ (M.foldl addA st).2, B ∈ l ∧ P B.r := by
        intro M
        induction M with
        | nil => intro _ st hst B hB; exact hst B hB
        | cons C M ih =>
          intro hM st hst B hB
          rw [List.foldl_cons] at hB
          refine ih (fun D hD => hM D (List.mem_cons_of_mem _ hD)) (addA st C) (fun D hD => ?_) B hB
          unfold addA at hD
          split at hD
          · exact hst D hD
          · rcases List.mem_append.1 hD with hD | hD
            · exact hst D hD
            · rw [List.mem_singleton] at hD; subst hD; exact hM D List.mem_cons_self
      exact hwork _ hl (S, W) (fun B hB => hw B (List.mem_cons_of_mem _ hB)) B hB
    · rcases add_in _ _ y hy with h1 | ⟨B, h1, h2⟩
      · exact hs y h1
      · rw [← h2]; exact (hl B h1).2
set_option maxRecDepth 100000 in
/-- And it is the least that is. -/
theorem reS_min {l : List Ad} (h : OkD l) {r : Int} (P : Int → Prop) (h0 : P r) (hP : ∀ A ∈ l, ∀ B ∈ l, inS (reS l r) A.r = true → P A.r → lkAd A B = true → P B.r) : ∀ y, inS (reS l r) y = true → P y := by
  intro y hy
  cases hf : fndA l r with
  | none => rw [reS_none hf] at hy; cases hy
  | some C =>
    obtain ⟨h1, h2⟩ := fndA_some hf
    have hi := (reS_self h hf).1
    have key := bfs_min h (fun y => inS (reS l r) y = true ∧ P y) (fun A hA B hB hp hk => ⟨reS_closed h hA hp.1 hB hk, hP A hA B hB hp.1 hp.2 hk⟩) (unv l [r] + 1) [r] [C]
      (fun B hB => by rw [List.mem_singleton] at hB; subst hB; rw [h2]; exact ⟨h1, hi, h0⟩)
      (fun z hz => by rw [inS_one] at hz; rw [← of_decide_eq_true hz]; exact ⟨hi, h0⟩) y
    refine (key ?_).2
    have e : reS l r = bfs l (unv l [r] + 1) [r] [C] := by unfold reS; rw [hf]
    rw [← e]; exact hy
set_option maxRecDepth 100000 in
theorem reS_back {l : List Ad} (h : OkD l) {r y : Int} (hi : inS (reS l r) y = true) : inS (reS l y) r = true := by
  have hr : ∃ C, fndA l r = some C := by
    cases hf : fndA l r with
    | none => rw [reS_none hf] at hi; cases hi
    | some C => exact ⟨C, rfl⟩
  obtain ⟨C, hC⟩ := hr
  refine reS_min h (fun y => inS (reS l y) r = true) (reS_self h hC).1 (fun A hA B hB _ hp hk => ?_) y hi
  have hB1 := fnd_selfV h.asc B hB
  have hb := (reS_self h hB1).1
  have hA2 : inS (reS l B.r) A.r = true := reS_closed h hB hb hA (by rw [lkAd_comm]; exact hk)
  exact reS_min h (fun z => inS (reS l B.r) z = true) hA2 (fun D hD E hE _ hp hk => reS_closed h hD hp hE hk) r hp
set_option maxRecDepth 100000 in
theorem reS_same {l : List Ad} (h : OkD l) {r y : Int} (hi : inS (reS l r) y = true) : ∀ z, inS (reS l y) z = inS (reS l r) z := by
  intro z
  rw [Bool.eq_iff_iff]
  constructor
  · exact reS_min h (fun z => inS (reS l r) z = true) hi (fun D hD E hE _ hp hk => reS_closed h hD hp hE hk) z
  · exact reS_min h (fun z => inS (reS l y) z = true) (reS_back h hi) (fun D hD E hE _ hp hk => reS_closed h hD hp hE hk) z
set_option maxRecDepth 100000 in
theorem flt_same {l : List Ad} {S T : List Int} (h : ∀ z, inS S z = inS T z) : l.filter (inV S) = l.filter (inV T) := List.filter_congr (fun A _ => h A.r)
set_option maxRecDepth 100000 in
theorem view_same {l : List Ad} (h : OkD l) {r y : Int} (hi : inS (reS l r) y = true) : viewV l y = viewV l r := by
  have e := flt_same (l := l) (reS_same h hi)
  have eR : vwR l (reS l y) = vwR l (reS l r) := by unfold vwR; rw [e]
  have eL : vwL l (reS l y) = vwL l (reS l r) := by unfold vwL; rw [e]
  unfold viewV
  rw [eR, eL]
/-! The view is a valid topology. -/
set_option maxRecDepth 100000 in
theorem lkAd_fnd {A B : Ad} (h : lkAd A B = true) : (∃ x, rcA A B.r = some x ∧ x ∈ A.L) ∧ ∃ y, rcA B A.r = some y ∧ y ∈ B.L := by
  unfold lkAd at h
  rw [Bool.and_eq_true] at h
  obtain ⟨x, hx⟩ := Option.isSome_iff_exists.1 h.1
  obtain ⟨y, hy⟩ := Option.isSome_iff_exists.1 h.2
  exact ⟨⟨x, hx, (rcA_some hx).1⟩, y, hy, (rcA_some hy).1⟩
set_option maxRecDepth 100000 in
theorem vRe_nums {r : Int} : ∀ {M : List T3} {k : Int}, vRe r k M = true → ∀ x ∈ M, (1 ≤ x.b ∧ x.b ≤ 1000) ∧ 0 ≤ x.c ∧ x.c ≤ 1000
  | [], _, _, x, hx => by cases hx
  | y :: M, k, h, x, hx => by
    rw [vRe, Bool.and_eq_true] at h
    rcases List.mem_cons.1 hx with rfl | hx
    · have := h.1; unfold okRe at this; exact (of_decide_eq_true this).2.2.2
    · exact vRe_nums h.2 x hx
set_option maxRecDepth 100000 in
theorem rcV_some {A : Ad} {r : Int} {x : T3} (h : rcA A r = some x) : rcV A r = x := by unfold rcV; rw [h]; rfl
set_option maxRecDepth 100000 in
theorem vwL_mem {l : List Ad} (h : OkD l) {S : List Int} {m : Lk} : m ∈ vwL l S ↔ ∃ A ∈ l, inS S A.r = true ∧ ∃ B ∈ l, lkAd A B = true ∧ A.r < B.r ∧ m = btw A B := by
  unfold vwL
  rw [List.mem_flatMap]
  constructor
  · rintro ⟨A, hA, hm⟩
    rw [List.mem_filter] at hA
    unfold vL1 at hm
    obtain ⟨B, hB, e⟩ := List.mem_map.1 hm
    rw [List.mem_filter, lnk_flt h hA.1, List.mem_filter] at hB
    exact ⟨A, hA.1, hA.2, B, hB.1.1, hB.1.2, of_decide_eq_true hB.2, e.symm⟩
  · rintro ⟨A, hA, hi, B, hB, hk, hlt, e⟩
    refine ⟨A, List.mem_filter.2 ⟨hA, hi⟩, ?_⟩
    unfold vL1
    refine List.mem_map.2 ⟨B, List.mem_filter.2 ⟨?_, decide_eq_true hlt⟩, e.symm⟩
    rw [lnk_flt h hA, List.mem_filter]
    exact ⟨hB, hk⟩
set_option maxRecDepth 100000 in
theorem ascB_of {α : Type} (f : α → α → Bool) : ∀ l : List α, l.Pairwise (fun a b => f a b = true) → ascB f l = true
  | [], _ => rfl
  | [a], _ => rfl
  | a :: b :: t, h => by
    obtain ⟨h1, h2⟩ := List.pairwise_cons.1 h
    rw [ascB, h1 b List.mem_cons_self, ascB_of f (b :: t) h2]; rfl
set_option maxRecDepth 100000 in
theorem vwR_mem {l : List Ad} {S : List Int} {x : Rt} : x ∈ vwR l S ↔ ∃ A ∈ l, inS S A.r = true ∧ x = toR A := by
  unfold vwR
  rw [List.mem_map]
  constructor
  · rintro ⟨A, hA, e⟩
    rw [List.mem_filter] at hA
    exact ⟨A, hA.1, hA.2, e.symm⟩
  · rintro ⟨A, hA, hi, e⟩
    exact ⟨A, List.mem_filter.2 ⟨hA, hi⟩, e.symm⟩
set_option maxRecDepth 100000 in
theorem has_vwR {l : List Ad} {S : List Int} {y : Int} : hasR (vwR l S) y = true ↔ ∃ A ∈ l, inS S A.r = true ∧ A.r = y := by
  unfold hasR
  rw [List.any_eq_true]
  constructor
  · rintro ⟨x, hx, e⟩
    obtain ⟨A, hA, hi, rfl⟩ := vwR_mem.1 hx
    exact ⟨A, hA, hi, of_decide_eq_true e⟩
  · rintro ⟨A, hA, hi, e⟩
    exact ⟨toR A, vwR_mem.2 ⟨A, hA, hi, rfl⟩, decide_eq_true e⟩
set_option maxRecDepth 100000 in
theorem vwL_len {l : List Ad} (h : OkD l) (S : List Int) : (vwL l S).length ≤ l.length * l.length := by
  have h1 : ∀ A ∈ l, (vL1 l A).length ≤ l.length := fun A hA => by
    unfold vL1
    rw [List.length_map, lnk_flt h hA]
    exact Nat.le_trans (List.length_filter_le _ _) (List.length_filter_le _ _)
  have key : ∀ (M : List Ad) (n : Nat), (∀ A ∈ M, (vL1 l A).length ≤ n) → (M.flatMap (vL1 l)).length ≤ M.length * n := by
    intro M n hM
    induction M with
    | nil => simp
    | cons A M ih =>
      rw [List.flatMap_cons, List.length_append, List.length_cons, Nat.add_mul]
      have := hM A List.mem_cons_self
      have := ih (fun B hB => hM B (List.mem_cons_of_mem _ hB))
      omega
  unfold vwL
  refine Nat.le_trans (key _ l.length (fun A hA => h1 A (List.mem_filter.1 hA).1)) ?_
  exact Nat.mul_le_mul_right _ (List.length_filter_le _ _)
set_option maxRecDepth 100000 in
theorem vwL_asc {l : List Ad} (h : OkD l) (S : List Int) : (vwL l S).Pairwise (fun a b => ltL a b = true) := by
  have one : ∀ A ∈ l, (vL1 l A).Pairwise (fun a b => ltL a b = true) := fun A hA => by
    unfold vL1
    rw [List.pairwise_map, lnk_flt h hA]
    refine ((h.pair.filter _).filter _).imp (fun {B C} hlt => ?_)
    unfold ltL btw
    exact decide_eq_true (.inr ⟨rfl, hlt⟩)
  have key : ∀ (M : List Ad), (∀ A ∈ M, A ∈ l) → M.Pairwise (fun A B => A.r < B.r) → (M.flatMap (vL1 l)).Pairwise (fun a b => ltL a b = true) := by
    intro M
    induction M with
    | nil => intro _ _; exact List.Pairwise.nil
    | cons A M ih =>
      intro hM hp
      obtain ⟨p1, p2⟩ := List.pairwise_cons.1 hp
      rw [List.flatMap_cons]
      refine List.pairwise_append.2 ⟨one A (hM A List.mem_cons_self), ih (fun B hB => hM B (List.mem_cons_of_mem _ hB)) p2, fun m hm n hn => ?_⟩
      obtain ⟨B, hB, hn⟩ := List.mem_flatMap.1 hn
      unfold vL1 at hm hn
      obtain ⟨C, _, rfl⟩ := List.mem_map.1 hm
      obtain ⟨D, _, rfl⟩ := List.mem_map.1 hn
      unfold ltL btw
      exact decide_eq_true (.inl (p1 B hB))
  exact key _ (fun A hA => (List.mem_filter.1 hA).1) (h.pair.filter _)
set_option maxRecDepth 100000 in
theorem vw_chk {l : List Ad} (h : OkD l) (h6 : l.length ≤ 6) (r : Int) : chk (vwR l (reS l r)) (vwL l (reS l r)) = 0 := by
  generalize hS : reS l r = S
  have hcl : ∀ A ∈ l, inS S A.r = true → ∀ B ∈ l, lkAd A B = true → inS S B.r = true := fun A hA hi B hB hk => by
    rw [← hS] at hi ⊢
    exact reS_closed h hA hi hB hk
  have hlR : (vwR l S).length ≤ 6 := by
    unfold vwR
    rw [List.length_map]
    exact Nat.le_trans (List.length_filter_le _ _) h6
  have hlL : (vwL l S).length ≤ 36 := Nat.le_trans (vwL_len h S) (Nat.mul_le_mul h6 h6)
  have c2 : (vwR l S).any wrId = false := by
    rw [List.any_eq_false]
    intro x hx
    obtain ⟨A, hA, _, rfl⟩ := vwR_mem.1 hx
    have hv := h.v A hA
    unfold vAd at hv
    rw [Bool.and_eq_true] at hv
    have := hv.1
    unfold vHd at this
    have := (of_decide_eq_true this).1
    unfold wrId toR
    rw [decide_eq_true this]
    decide
  have c3 : ascB ltR (vwR l S) = true := by
    refine ascB_of _ _ ?_
    unfold vwR
    rw [List.pairwise_map]
    exact (h.pair.filter _).imp (fun {A B} hlt => decide_eq_true hlt)
  have c4 : (vwL l S).any wrNum = false := by
    rw [List.any_eq_false]
    intro m hm
    obtain ⟨A, hA, _, B, hB, hk, _, rfl⟩ := (vwL_mem h).1 hm
    obtain ⟨⟨x, hx, hx2⟩, y, hy, hy2⟩ := lkAd_fnd hk
    have b1 := vRe_nums (vAd_re (h.v A hA)) x hx2
    have b2 := vRe_nums (vAd_re (h.v B hB)) y hy2
    unfold wrNum btw
    rw [rcV_some hx, rcV_some hy]
    rw [decide_eq_true (by refine ⟨b1.1, b2.1, ?_, ?_⟩ <;> simp only <;> omega)]
    decide
  have c5 : (vwL l S).any (unk (vwR l S)) = false := by
    rw [List.any_eq_false]
    intro m hm
    obtain ⟨A, hA, hi, B, hB, hk, _, rfl⟩ := (vwL_mem h).1 hm
    have e1 : hasR (vwR l S) A.r = true := has_vwR.2 ⟨A, hA, hi, rfl⟩
    have e2 : hasR (vwR l S) B.r = true := has_vwR.2 ⟨B, hB, hcl A hA hi B hB hk, rfl⟩
    unfold unk btw
    rw [e1, e2]
    decide
  have c6 : (vwL l S).any wrEnd = false := by
    rw [List.any_eq_false]
    intro m hm
    obtain ⟨A, hA, hi, B, hB, hk, hlt, rfl⟩ := (vwL_mem h).1 hm
    unfold wrEnd btw
    rw [decide_eq_false (by simp only; omega)]
    decide
  have c7 : ascB ltL (vwL l S) = true := ascB_of _ _ (vwL_asc h S)
  unfold chk
  rw [if_neg (by omega), c2, c3, c4, c5, c6, c7]
  rfl
/-! What the law asks. -/
structure AgV (l : List Ad) (r : Int) (R : List Rt) (L : List Lk) : Prop where
  ok : okT R L = true
  has : hasV R L r = (fndA l r).isSome
  lR : R.length ≤ 6
  lL : L.length ≤ 36
  con : ∀ x ∈ R, conn R L r x.id = true
  same : ∀ x ∈ R, viewV l x.id = (R, L)
  lk : ∀ m ∈ L, ∃ A B, fndA l m.a = some A ∧ fndA l m.b = some B ∧ (∃ x, rcA A m.b = some x ∧ x.b = m.ca) ∧ ∃ y, rcA B m.a = some y ∧ y.b = m.cb
set_option maxRecDepth 100000 in
theorem okD_of {l : List Ad} (h : OkD l) : okD l = true := by
  unfold okD chkD
  rw [if_neg (by have := h.len; omega)]
  have : l.any notV = false := by
    rw [List.any_eq_false]
    intro A hA
    unfold notV
    rw [h.v A hA]; decide
  rw [this, if_neg (by decide), h.asc]
  rfl
set_option maxRecDepth 100000 in
theorem ag_view {l : List Ad} (h : OkD l) (h6 : l.length ≤ 6) (r : Int) : ∃ R L, viewV l r = (R, L) ∧ AgV l r R L := by
  have hc := vw_chk h h6 r
  have hv : viewV l r = (vwR l (reS l r), vwL l (reS l r)) := by
    unfold viewV
    rw [if_pos (okD_of h), if_pos hc]
  have ok : okT (vwR l (reS l r)) (vwL l (reS l r)) = true := by unfold okT; rw [hc]; rfl
  refine ⟨_, _, hv, ok, ?_, ?_, ?_, ?_, ?_, ?_⟩
  · unfold hasV
    rw [ok, Bool.true_and, Bool.eq_iff_iff, has_vwR]
    constructor
    · rintro ⟨A, hA, hi, e⟩
      rw [← e, fnd_selfV h.asc A hA]; rfl
    · intro hs
      obtain ⟨A, hA⟩ := Option.isSome_iff_exists.1 hs
      obtain ⟨h1, h2⟩ := fndA_some hA
      exact ⟨A, h1, by rw [h2]; exact (reS_self h hA).1, h2⟩
  · unfold vwR
    rw [List.length_map]
    exact Nat.le_trans (List.length_filter_le _ _) h6
  · exact Nat.le_trans (vwL_len h _) (Nat.mul_le_mul h6 h6)
  · intro x hx
    obtain ⟨A, hA, hi, rfl⟩ := vwR_mem.1 hx
    rw [conn_iff ok]
    have hr : ∃ C, fndA l r = some C := by
      cases hf : fndA l r with
      | none => rw [reS_none hf] at hi; cases hi
      | some C => exact ⟨C, rfl⟩
    obtain ⟨C, hC⟩ := hr
    obtain ⟨c1, c2⟩ := fndA_some hC
    refine ⟨⟨toR C, vwR_mem.2 ⟨C, c1, by rw [c2]; exact (reS_self h hC).1, rfl⟩, c2⟩, ?_⟩
    intro P hP0 hPs
    refine reS_min h P hP0 (fun B hB D hD hi hp hk => ?_) A.r hi
    refine hPs B.r D.r hp ?_
    unfold nbL
    rw [List.mem_flatMap]
    have hne : B.r ≠ D.r := fun e => by
      rw [fnd_inj h hB hD e, lkAd_self (h.v D hD)] at hk
      cases hk
    rcases (show B.r < D.r ∨ D.r < B.r by omega) with hlt | hlt
    · refine ⟨btw B D, (vwL_mem h).2 ⟨B, hB, hi, D, hD, hk, hlt, rfl⟩, ?_⟩
      unfold nb1 btw
      simp
    · refine ⟨btw D B, (vwL_mem h).2 ⟨D, hD, reS_closed h hB hi hD hk, B, hB, by rw [lkAd_comm]; exact hk, hlt, rfl⟩, ?_⟩
      unfold nb1 btw
      simp
  · intro x hx
    obtain ⟨A, hA, hi, rfl⟩ := vwR_mem.1 hx
    rw [← hv]
    exact view_same h hi
  · intro m hm
    obtain ⟨A, hA, hi, B, hB, hk, hlt, rfl⟩ := (vwL_mem h).1 hm
    obtain ⟨⟨x, hx, _⟩, y, hy, _⟩ := lkAd_fnd hk
    refine ⟨A, B, fnd_selfV h.asc A hA, fnd_selfV h.asc B hB, ⟨x, hx, ?_⟩, y, hy, ?_⟩
    · unfold btw; rw [rcV_some hx]
    · unfold btw; rw [rcV_some hy]
set_option maxRecDepth 100000 in
/-- A database of the tape without mistakes has at most six adverts. -/
theorem dv_len {l : List Ad} {k : Int} (h : DV k l) (h1 : 1 ≤ k) : (l.length : Int) ≤ k - 1 := by
  have key : ∀ (l : List Ad) (j : Int), (∀ A ∈ l, j ≤ A.r ∧ A.r < k) → l.Pairwise (fun A B => A.r < B.r) → j ≤ k → (l.length : Int) ≤ k - j := by
    intro l
    induction l with
    | nil => intro j _ _ hj; simp only [List.length_nil]; omega
    | cons A l ih =>
      intro j hb hp hj
      obtain ⟨p1, p2⟩ := List.pairwise_cons.1 hp
      have hA := hb A List.mem_cons_self
      have := ih (A.r + 1) (fun B hB => ⟨by have := p1 B hB; omega, (hb B (List.mem_cons_of_mem _ hB)).2⟩) p2 (by omega)
      simp only [List.length_cons]
      omega
  refine key l 1 (fun A hA => ⟨?_, (h.v A hA).2⟩) h.p h1
  have hv := (h.v A hA).1
  unfold vAd at hv
  rw [Bool.and_eq_true] at hv
  have := hv.1
  unfold vHd at this
  exact (of_decide_eq_true this).1.1
end Go.Proofs.Ytnpkihioklpnmaa

/- database.Claims. -/
namespace Go.Proofs.Ytnpkihioklpnmaa
open Go.RowKit Bs
/-- A claim and its router. -/
structure Ow where
  r : Int
  x : T3
section
variable {W w w1 : World} {l : List Ad} {p : Option Addr} {c N Bx : Nat} {T : Tg} {v v' : Value} {out out2 : List Ow}
end
end Go.Proofs.Ytnpkihioklpnmaa

/- The reference's Has and Named; Same of equal topologies. -/
namespace Go.Proofs.Ytnpkihioklpnmaa
open Go.RowKit Bs
set_option maxRecDepth 100000 in
set_option maxHeartbeats 1600000 in
theorem rhas4_any (X : List Int) (x : Int) (p : Option Addr) (c : Nat) (q : Nat → Prop) (w : World) (hR : Rd w q (.slice p X.length c) (X.map tv)) (hm : X.length ≤ 9223372036854775807) :
    Calls Try.prog 44 #[.slice p X.length c, .int .i64 x] w fun e w' => e = .returned (.bool (hasI X x)) ∧ w = w' := by
  have HR := Lib.hid hR
  have HN0 : Hid ((X.take 0).any (fun y => decide (y = x)) = false) := Lib.hid rfl
  clear hR
  go_enter Try.func44, Try.ntmps44
  go_wp2_with fail
  go_loopw [5] (fun a wr => ∃ k : Nat, k ≤ X.length ∧ a = .int .i64 (k : Int) ∧ Hid ((X.take k).any (fun y => decide (y = x)) = false) ∧ wr = w) (fun a _ => X.length - (RowKit.intOf a).toNat)
  case atStart => exact ⟨0, Nat.zero_le _, rfl, HN0, rfl⟩
  case round =>
    obtain ⟨k, hk, rfl, HN, rfl⟩ := hrel
    by_cases hlt : k < X.length
    · obtain ⟨-, b, off, rfl, -, hc⟩ := rdi_at HR.out (by omega)
      obtain ⟨y, hy⟩ : ∃ y, X[k]? = some y := ⟨_, List.getElem?_eq_getElem hlt⟩
      have d0 := hc k y hy
      have HY := Lib.hid hy
      clear hc hy HN0
      by_cases hyx : y = x
      · have HT : Hid (hasI X x = true) := Lib.hid (any_at HY.out (decide_eq_true hyx))
        subst hyx
        go_wp2_with fail
        go_ret
        rw [HT.out]
        exact ⟨rfl, rfl⟩
      · have HN2 := Lib.hid (any_take HN.out HY.out (decide_eq_false hyx))
        have h' : (y == x) = false := by simpa using hyx
        go_wp2_with fail
        exact ⟨⟨k + 1, by omega, congrArg _ (by omega), HN2, (by first | rfl | trivial)⟩, by simp only [RowKit.intOf]; omega⟩
    · have HT : Hid (hasI X x = false) := Lib.hid (any_end HN.out (by omega))
      obtain rfl : k = X.length := by omega
      go_wp2_with fail
      go_ret
      rw [HT.out]
      exact ⟨rfl, rfl⟩
end Go.Proofs.Ytnpkihioklpnmaa

/- The reference's View. -/
namespace Go.Proofs.Ytnpkihioklpnmaa
open Go.RowKit Bs
section
variable {W w w1 : World} {l : List Ad} {p : Option Addr} {c N : Nat} {vi v' : Value} {S : List Int}
end
/-- A box of three numbers has come since w0. -/
structure N3 (w0 : World) (b : Nat) (w : World) : Prop where
  bx : w.heap[b]? = some (.cells #[.int .i64 0, .int .i64 0, .int .i64 0] 73 (0, 0))
  lo : w0.heap.size ≤ b
set_option maxRecDepth 100000 in
theorem N3.keep {w0 w w1 : World} {b : Nat} (h : N3 w0 b w) (g : w.grownBy w1 none) : N3 w0 b w1 := ⟨kept_row h.bx g (by simp), h.lo⟩
end Go.Proofs.Ytnpkihioklpnmaa

/- The law DatabaseChecks: what memory holds. -/
namespace Go.Proofs.Ytnpkihioklpnmaa
open Go.RowKit Bs
/-- A database as it lies in memory. -/
structure Dv where
  l : List Ad
  p : Option Addr
  c : Nat
section
variable {W w w1 : World} {a : Nat} {raw : Dv} {X : List Dv}
end
section
variable {W w w1 : World} {a D E : Nat} {raw : Dv} {X : List Dv} {R : List Int}
end
end Go.Proofs.Ytnpkihioklpnmaa

/- The reference's Claims. -/
namespace Go.Proofs.Ytnpkihioklpnmaa
open Go.RowKit Bs
set_option maxRecDepth 100000 in
theorem rdr_at2 {w : World} {q : Nat → Prop} {b off n c k : Nat} {R : List Rt} {t : Rt} (h : RdR w q (.slice (some ⟨b, off, none⟩) n c) R) (hx : R[k]? = some t) : w.cell? ⟨b, off + k * 2, none⟩ = some (.int .i64 t.id) ∧ w.cell? ⟨b, off + k * 2 + 1, none⟩ = some (.bool t.cap) := by
  obtain ⟨-, b', o', e, -, hc⟩ := rdr_cells h (by have := (List.getElem?_eq_some_iff.1 hx).1; omega)
  injection e with e
  injection e with e1 e2
  subst e1
  subst e2
  exact hc k t hx
end Go.Proofs.Ytnpkihioklpnmaa

/- While the tape makes a topology. -/
namespace Go.Proofs.Ytnpkihioklpnmaa
open Go.RowKit Bs
section
variable {a : Nat} {W w w1 : World} {uR uL vR vL v' : Value} {R : List Rt} {L : List Lk}
end
end Go.Proofs.Ytnpkihioklpnmaa

/- The tape's Failure: some failure of at most one link or router, in memory of the call's own. -/
namespace Go.Proofs.Ytnpkihioklpnmaa
open Go.RowKit Bs
end Go.Proofs.Ytnpkihioklpnmaa

/- append at a step of a region that draws its order, whatever the source; failures while they grow. -/
namespace Go.Proofs.Ytnpkihioklpnmaa
open Go.RowKit Bs
def tvC (z : Int) : List Value := [tv z]
set_option maxRecDepth 100000 in
theorem flat_tv : ∀ X : List Int, X.flatMap tvC = X.map tv
  | [] => rfl
  | a :: t => by rw [List.flatMap_cons, flat_tv t]; rfl
set_option maxRecDepth 100000 in
theorem tv_one (x : Int) : ∀ u ∈ tvC x, u.oneCell' = true := by
  intro u hu
  simp [tvC, tv] at hu
  subst hu
  rfl
section
variable {a Bf : Nat} {w wr w1 : World} {T : Tg} {q : Nat → Prop} {uH uX vH vX v' : Value} {H H' : List Hp} {X X' : List Int}
end
end Go.Proofs.Ytnpkihioklpnmaa

/- A topology that comes in as an argument. -/
namespace Go.Proofs.Ytnpkihioklpnmaa
open Go.ChangeShapes Go.WideShapes Go.ChangeAt Go.RowKit Go.Joins Bs
section
variable {H : Type} {enc : TypeId × Value → H} {W : World} {base : Nat} {v : Value} {d : DataW H} {ps : List MemPlace}
end
end Go.Proofs.Ytnpkihioklpnmaa

/- A failure that comes in as an argument; failures out of rows. -/
namespace Go.Proofs.Ytnpkihioklpnmaa
open Go.ChangeShapes Go.WideShapes Go.ChangeAt Go.RowKit Go.Joins Bs
section
variable {H : Type} {enc : TypeId × Value → H} {W : World} {base : Nat} {v : Value} {d : DataW H} {ps : List MemPlace}
set_option maxRecDepth 100000 in
theorem rd_of_rdf {w : World} {q : Nat → Prop} {p : Option Addr} {n c : Nat} {xs : List Value} (h : RdF w q (.slice p n c) n xs) (hl : xs.length = n) : Rd w q (.slice p n c) xs := by
  obtain ⟨p1, c1, e, hx⟩ := h
  refine ⟨p1, c1, by rw [hl]; exact e, hx⟩
end
end Go.Proofs.Ytnpkihioklpnmaa

/- The tape's order of links: the links in order, in a block of the call's own. -/
namespace Go.Proofs.Ytnpkihioklpnmaa
open Go.RowKit Bs
set_option maxRecDepth 100000 in
theorem own_formF {w : World} {base size n : Nat} {e : TypeId} {v : Value} {xs : List Value} (h : w.ownsRow base e size v n xs) : (v = .slice none 0 0 ∧ n = 0) ∨ ∃ g cap, v = .slice (some ⟨g, 0, none⟩) n cap ∧ n ≤ cap ∧ cap ≤ 9223372036854775807 := by
  rcases h.2 with ⟨rfl, h0⟩ | ⟨g, cap, cur, rfl, _, _, hn, hm, _⟩
  · exact .inl ⟨rfl, h0⟩
  · unfold maxLen at hm
    exact .inr ⟨g, cap, rfl, hn, by omega⟩
end Go.Proofs.Ytnpkihioklpnmaa

/- The reference's Insert. -/
namespace Go.Proofs.Ytnpkihioklpnmaa
open Go.RowKit Bs
/-- A number laid into an ascending list, once. -/
def insU (l : List Int) (n : Int) : List Int := if (l.drop (l.takeWhile (fun y => decide (y < n))).length).head? = some n then l else l.takeWhile (fun y => decide (y < n)) ++ n :: l.drop (l.takeWhile (fun y => decide (y < n))).length
set_option maxRecDepth 100000 in
theorem tw_len (p : Int → Bool) : ∀ (l : List Int) (j : Nat), j ≤ l.length → (∀ i x, i < j → l[i]? = some x → p x = true) → (∀ x, l[j]? = some x → p x = false) → (l.takeWhile p).length = j ∧ l.takeWhile p = l.take j
  | [], j, hj, _, _ => by
    obtain rfl : j = 0 := by simpa using hj
    exact ⟨rfl, rfl⟩
  | a :: t, 0, _, _, h2 => by
    rw [List.takeWhile_cons, h2 a rfl]
    exact ⟨rfl, rfl⟩
  | a :: t, j + 1, hj, h1, h2 => by
    obtain ⟨e1, e2⟩ := tw_len p t j (by simpa using hj) (fun i x hi hx => h1 (i + 1) x (by omega) (by simpa using hx)) (fun x hx => h2 x (by simpa using hx))
    rw [List.takeWhile_cons, h1 0 a (by omega) rfl]
    simp only [if_true, List.length_cons, List.take_succ_cons]
    exact ⟨by rw [e1], by rw [e2]⟩
set_option maxRecDepth 100000 in
theorem insU_at {l : List Int} {n : Int} {j : Nat} (hj : j ≤ l.length) (h1 : ∀ i x, i < j → l[i]? = some x → x < n) (h2 : ∀ x, l[j]? = some x → ¬ x < n) : insU l n = if l[j]? = some n then l else l.take j ++ n :: l.drop j := by
  obtain ⟨e1, e2⟩ := tw_len (fun y => decide (y < n)) l j hj (fun i x hi hx => decide_eq_true (h1 i x hi hx)) (fun x hx => decide_eq_false (h2 x hx))
  unfold insU
  rw [e1, e2, List.head?_drop]
def InsPostZ (l : List Int) (q : Nat → Prop) (w : World) (e : Ending) (w' : World) : Prop :=
  ∃ p c, e = .returned (.slice p l.length c) ∧ Rd w' (fun b => q b ∨ w.heap.size ≤ b) (.slice p l.length c) (l.map tv) ∧ (p = none → c = 0) ∧ (l.length ≤ c ∧ c ≤ 9223372036854775807) ∧ w.grownBy w' none
set_option maxRecDepth 100000 in
set_option maxHeartbeats 6400000 in
theorem rins_any (l : List Int) (n : Int) (p : Option Addr) (c : Nat) (q : Nat → Prop) (w : World) (hR : Rd w q (.slice p l.length c) (l.map tv)) (hp : p = none → c = 0) (hc1 : l.length ≤ c) (hc2 : c ≤ 9223372036854775807) (hm : l.length ≤ 1000) :
    Calls Try.prog 76 #[.slice p l.length c, .int .i64 n] w fun e w' => InsPostZ (insU l n) q w e w' := by
  obtain ⟨ii, hii, hi0, hi1, hi2⟩ := info_parts info_int
  have HR := Lib.hid hR
  have HPN := Lib.hid hp
  clear hR hp
  go_enter Try.func76, Try.ntmps76
  go_upto_block 0 with fail
  go_cut [5] from 7 to 20 (fun v wx => ∃ j : Nat, j ≤ l.length ∧ v = .int .i64 (j : Int) ∧ Hid ((∀ i x, i < j → l[i]? = some x → x < n) ∧ ∀ x, l[j]? = some x → ¬ x < n) ∧ w = wx)
  case first =>
    go_wp2_with fail
    go_loopw [5] (fun a wr => ∃ j : Nat, j ≤ l.length ∧ a = .int .i64 (j : Int) ∧ Hid (∀ i x, i < j → l[i]? = some x → x < n) ∧ w = wr) (fun a _ => l.length - (RowKit.intOf a).toNat)
    case atStart => exact ⟨0, Nat.zero_le _, rfl, Lib.hid (fun i x h => by omega), rfl⟩
    case round =>
      obtain ⟨j, hj, rfl, HN, rfl⟩ := hrel
      by_cases hlt : j < l.length
      · obtain ⟨-, b, off, rfl, -, hc⟩ := rdi_at HR.out (by omega)
        obtain ⟨x, hx⟩ : ∃ x, l[j]? = some x := ⟨_, List.getElem?_eq_getElem hlt⟩
        have d0 := hc j x hx
        have HX := Lib.hid hx
        have hlt' : (j : Int) < (l.length : Int) := by omega
        have j0 : (0 : Int) ≤ (j : Int) := by omega
        clear hc hx
        by_cases hxn : x < n
        · have HN2 : Hid (∀ i x, i < j + 1 → l[i]? = some x → x < n) := Lib.hid (fun i z hi hz => by
            by_cases hij : i < j
            · exact HN.out i z hij hz
            · obtain rfl : i = j := by omega
              rw [HX.out] at hz
              obtain rfl := Option.some.inj hz
              exact hxn)
          go_wp2_with fail
          exact ⟨⟨j + 1, by omega, congrArg _ (by omega), HN2, by first | rfl | trivial⟩, by simp only [RowKit.intOf]; omega⟩
        · have hxd : decide (x < n) = false := decide_eq_false hxn
          have HE : Hid ((∀ i x, i < j → l[i]? = some x → x < n) ∧ ∀ x, l[j]? = some x → ¬ x < n) := Lib.hid ⟨HN.out, fun z hz => by rw [HX.out] at hz; obtain rfl := Option.some.inj hz; exact hxn⟩
          go_wp2_with fail
          go_meet
          exact ⟨j, hj, rfl, HE, by first | rfl | trivial⟩
      · obtain rfl : j = l.length := by omega
        have hld : decide ((l.length : Int) < (l.length : Int)) = false := decide_eq_false (by omega)
        have HE : Hid ((∀ i x, i < l.length → l[i]? = some x → x < n) ∧ ∀ x, l[l.length]? = some x → ¬ x < n) := Lib.hid ⟨HN.out, fun z hz => by rw [List.getElem?_eq_none (Nat.le_refl _)] at hz; cases hz⟩
        go_wp2_with fail
        go_meet
        exact ⟨l.length, hj, rfl, HE, by first | rfl | trivial⟩
  case rest =>
  obtain ⟨j, hj, rfl, HE, rfl⟩ := hcut
  have hat := insU_at hj HE.out.1 HE.out.2
  go_upto_region 4 with fail
  go_cut [32] from 21 to 32 (fun v wx => v = .bool (decide (l[j]? = some n)) ∧ w = wx)
  case first =>
    by_cases hlt : j < l.length
    · obtain ⟨-, b, off, rfl, -, hc⟩ := rdi_at HR.out (by omega)
      obtain ⟨x, hx⟩ : ∃ x, l[j]? = some x := ⟨_, List.getElem?_eq_getElem hlt⟩
      have d0 := hc j x hx
      have hlt' : (j : Int) < (l.length : Int) := by omega
      have j0 : (0 : Int) ≤ (j : Int) := by omega
      have HV : Hid ((x == n) = decide (l[j]? = some n)) := Lib.hid (by rw [hx]; by_cases h : x = n <;> simp [h])
      clear hc hx hat
      go_wp2_with fail
      go_meet
      exact ⟨congrArg _ HV.out, by first | rfl | trivial⟩
    · have hld : decide ((j : Int) < (l.length : Int)) = false := decide_eq_false (by omega)
      have HV : Hid (false = decide (l[j]? = some n)) := Lib.hid (by rw [List.getElem?_eq_none (by omega)]; simp)
      clear hat
      go_wp2_with fail
      go_meet
      exact ⟨congrArg _ HV.out, by first | rfl | trivial⟩
  case rest =>
  obtain ⟨rfl, rfl⟩ := hcut
  go_upto_if 32 with fail
  by_cases hjn : l[j]? = some n
  · have hjd : decide (l[j]? = some n) = true := decide_eq_true hjn
    rw [if_pos hjn] at hat
    have HAT := Lib.hid hat
    rw [hjd]
    clear hjn hat hjd
    go_wp2_with fail
    go_ret
    rw [HAT.out]
    exact ⟨p, c, rfl, HR.out.mono (fun b hb => .inl hb), HPN.out, ⟨hc1, hc2⟩, grown_refl _ _⟩
  · have hjd : decide (l[j]? = some n) = false := decide_eq_false hjn
    rw [if_neg hjn] at hat
    obtain ⟨T1, hT1⟩ : ∃ T1, l.take j = T1 := ⟨_, rfl⟩
    obtain ⟨T2, hT2⟩ : ∃ T2, l.drop j = T2 := ⟨_, rfl⟩
    have HI : Hid (insU l n = T1 ++ n :: T2) := Lib.hid (by rw [← hT1, ← hT2]; exact hat)
    have HJ : Hid (j = T1.length) := Lib.hid (by rw [← hT1, List.length_take]; omega)
    have HJ2 : Hid (l.length - j = T2.length) := Lib.hid (by rw [← hT2, List.length_drop])
    have HT := Lib.hid (And.intro hT1 hT2)
    have HRF : Hid (RdF w (fun b => b < w.heap.size) (.slice p l.length c) l.length (l.flatMap tvC)) := Lib.hid (by
      obtain ⟨p', c', e, hx⟩ := HR.out.old
      rw [flat_tv]
      exact ⟨p', c', by rw [List.length_map] at e; exact e, hx⟩)
    rw [hjd]
    clear hjn hat hjd hT1 hT2
    cases p with
    | none =>
      obtain rfl := HPN.out rfl
      obtain rfl : j = 0 := by omega
      have hl0 : l.length = 0 := by omega
      obtain rfl := List.eq_nil_of_length_eq_zero hl0
      go_wp2_with (at_builtin; refine hold_on ?_)
      refine Lib.hid ?_
      refine (wpList_append_f tvC 1 8 (by decide) (fun _ => rfl) tv_one 3 22 ii _ Try.underlying22 hii hi0 hi1 hi2 rfl (by decide) rfl _ _ rfl w.heap.size (.slice none 0 0) [] 0 rfl rfl (World.ownsRow_nil _ _ _ _) _ _ _ T1 rfl HJ.out (by simp) _ (show RdF w (fun _ => True) (.slice none 0 0) T1.length (T1.flatMap tvC) from by obtain rfl := HT.out.1; exact rdf_nil _ _ _ _) (by omega) (by rw [← HJ.out]; omega) (Nat.le_refl _) ?_)
      intro v1 w4 hown1 hg1
      have HO1 : Hid (w4.ownsRow w.heap.size 3 1 v1 T1.length (T1.flatMap tvC)) := Lib.hid hown1
      have G4 := Lib.hid (show w.grownBy w4 none from hg1)
      clear hown1 hg1
      obtain ⟨p1, c1, rfl, -, -⟩ := own_shape HO1.out
      go_wp2_with (at_builtin; refine hold_on ?_)
      refine Lib.hid ?_
      refine (wpList_append_f tvC 1 8 (by decide) (fun _ => rfl) tv_one 3 22 ii _ Try.underlying22 hii hi0 hi1 hi2 rfl (by decide) rfl _ _ rfl w.heap.size _ T1 _ rfl rfl (HO1.out.alloc _) _ _ _ [n] rfl rfl (by simp) (fun _ => True) (rdf_one _ trivial (cell_one w4 _ _) 1) (by omega) (by rw [← HJ.out]; simp <;> omega) (by have := G4.out.size; simp <;> omega) ?_)
      intro v2 w5 hown2 hg2
      have G5 := Lib.hid (old_grow (grown_trans G4.out (World.grownBy_alloc w4 _ none)) (HO1.out.alloc _) (Nat.le_refl _) hg2)
      obtain ⟨T3, hT3⟩ : ∃ T3, T3 = T1 ++ [n] := ⟨_, rfl⟩
      rw [← hT3] at hown2
      have HO2 := Lib.hid hown2
      have HT3 := Lib.hid hT3
      clear hown2 hT3 hg2
      obtain ⟨p2, c2, rfl, -, -⟩ := own_shape HO2.out
      go_wp2_with (at_builtin; refine hold_on ?_)
      refine Lib.hid ?_
      refine (wpList_append_f tvC 1 8 (by decide) (fun _ => rfl) tv_one 3 22 ii _ Try.underlying22 hii hi0 hi1 hi2 rfl (by decide) rfl _ _ rfl w.heap.size _ T3 _ rfl rfl HO2.out _ _ _ T2 rfl (by have := HJ2.out; omega) (by simp) _ (show RdF w5 (fun _ => True) (.slice none 0 0) T2.length (T2.flatMap tvC) from by obtain rfl := HT.out.2; exact rdf_nil _ _ _ _) (by omega) (by rw [← HJ2.out, HT3.out, List.length_append, ← HJ.out]; simp <;> omega) G5.out.size ?_)
      intro v3 w6 hown3 hg3
      have HE : Hid (insU [] n = T3 ++ T2) := Lib.hid (by rw [HT3.out, HI.out]; simp)
      rw [← HE.out] at hown3
      have HO3 := Lib.hid hown3
      have G6 := Lib.hid (old_grow G5.out HO2.out (Nat.le_refl _) hg3)
      clear hown3 hg3
      obtain ⟨p3, c3, rfl, h31, h32⟩ := own_shape HO3.out
      have hp3 : p3 = none → c3 = 0 := by
        rintro rfl
        rcases own_formF HO3.out with ⟨e, -⟩ | ⟨g, cap, e, -⟩
        · injection e with e1 e2 e3
        · injection e with e1 e2 e3
          cases e1
      have HH := Lib.hid (And.intro h31 (And.intro h32 hp3))
      clear h31 h32 hp3
      go_wp2_with fail
      go_ret
      refine ⟨p3, c3, rfl, ?_, HH.out.2.2, ⟨HH.out.1, HH.out.2.1⟩, G6.out⟩
      have hr := rd_of_rdf (rdf_of_own HO3.out) (by rw [flat_tv]; simp)
      rw [flat_tv] at hr
      exact hr.mono (fun b hb => .inr hb)
    | some ad =>
      obtain ⟨b, off, spot⟩ := ad
      have hsp : l.length = 0 ∨ spot = none := by
        by_cases h0 : l.length = 0
        · exact .inl h0
        · obtain ⟨-, b', off', e, -⟩ := rdi_at HR.out (by omega)
          injection e with e
          injection e with e1 e2 e3
          exact .inr e3
      by_cases hcj : c = j
      · obtain rfl : j = l.length := by omega
        subst hcj
        go_wp2_with (at_builtin; refine hold_on ?_)
        refine Lib.hid ?_
        refine (wpList_append_f tvC 1 8 (by decide) (fun _ => rfl) tv_one 3 22 ii _ Try.underlying22 hii hi0 hi1 hi2 rfl (by decide) rfl _ _ rfl w.heap.size (.slice none 0 0) [] 0 rfl rfl (World.ownsRow_nil _ _ _ _) _ _ _ T1 rfl HJ.out (by simp) _ (HT.out.1 ▸ RdF.part (f := tvC) (k := 1) (fun _ => rfl) HRF.out _ hj _) (by omega) (by rw [← HJ.out]; omega) (Nat.le_refl _) ?_)
        intro v1 w4 hown1 hg1
        have HO1 : Hid (w4.ownsRow w.heap.size 3 1 v1 T1.length (T1.flatMap tvC)) := Lib.hid hown1
        have G4 := Lib.hid (show w.grownBy w4 none from hg1)
        clear hown1 hg1
        obtain ⟨p1, c1, rfl, -, -⟩ := own_shape HO1.out
        go_wp2_with (at_builtin; refine hold_on ?_)
        refine Lib.hid ?_
        refine (wpList_append_f tvC 1 8 (by decide) (fun _ => rfl) tv_one 3 22 ii _ Try.underlying22 hii hi0 hi1 hi2 rfl (by decide) rfl _ _ rfl w.heap.size _ T1 _ rfl rfl (HO1.out.alloc _) _ _ _ [n] rfl rfl (by simp) (fun _ => True) (rdf_one _ trivial (cell_one w4 _ _) 1) (by omega) (by rw [← HJ.out]; simp <;> omega) (by have := G4.out.size; simp <;> omega) ?_)
        intro v2 w5 hown2 hg2
        have G5 := Lib.hid (old_grow (grown_trans G4.out (World.grownBy_alloc w4 _ none)) (HO1.out.alloc _) (Nat.le_refl _) hg2)
        obtain ⟨T3, hT3⟩ : ∃ T3, T3 = T1 ++ [n] := ⟨_, rfl⟩
        rw [← hT3] at hown2
        have HO2 := Lib.hid hown2
        have HT3 := Lib.hid hT3
        clear hown2 hT3 hg2
        obtain ⟨p2, c2, rfl, -, -⟩ := own_shape HO2.out
        go_wp2_with (at_builtin; refine hold_on ?_)
        refine Lib.hid ?_
        refine (wpList_append_f tvC 1 8 (by decide) (fun _ => rfl) tv_one 3 22 ii _ Try.underlying22 hii hi0 hi1 hi2 rfl (by decide) rfl _ _ rfl w.heap.size _ T3 _ rfl rfl HO2.out _ _ _ T2 rfl (by have := HJ2.out; omega) (by simp) _ (show RdF w5 (fun _ => True) (.slice _ 0 _) T2.length (T2.flatMap tvC) from by rw [← HT.out.2, List.drop_length]; exact rdf_nil _ _ _ _) (by omega) (by rw [← HJ2.out, HT3.out, List.length_append, ← HJ.out]; simp <;> omega) G5.out.size ?_)
        intro v3 w6 hown3 hg3
        have HE : Hid (insU l n = T3 ++ T2) := Lib.hid (by rw [HT3.out, HI.out]; simp)
        rw [← HE.out] at hown3
        have HO3 := Lib.hid hown3
        have G6 := Lib.hid (old_grow G5.out HO2.out (Nat.le_refl _) hg3)
        clear hown3 hg3
        obtain ⟨p3, c3, rfl, h31, h32⟩ := own_shape HO3.out
        have hp3 : p3 = none → c3 = 0 := by
          rintro rfl
          rcases own_formF HO3.out with ⟨e, -⟩ | ⟨g, cap, e, -⟩
          · injection e with e1 e2 e3
          · injection e with e1 e2 e3
            cases e1
        have HH := Lib.hid (And.intro h31 (And.intro h32 hp3))
        clear h31 h32 hp3
        go_wp2_with fail
        go_ret
        refine ⟨p3, c3, rfl, ?_, HH.out.2.2, ⟨HH.out.1, HH.out.2.1⟩, G6.out⟩
        have hr := rd_of_rdf (rdf_of_own HO3.out) (by rw [flat_tv]; simp)
        rw [flat_tv] at hr
        exact hr.mono (fun b hb => .inr hb)
      · have n0 : ¬ c - j = 0 := by omega
        by_cases hjl : j = l.length
        · subst hjl
          go_wp2_with (at_builtin; refine hold_on ?_)
          refine Lib.hid ?_
          refine (wpList_append_f tvC 1 8 (by decide) (fun _ => rfl) tv_one 3 22 ii _ Try.underlying22 hii hi0 hi1 hi2 rfl (by decide) rfl _ _ rfl w.heap.size (.slice none 0 0) [] 0 rfl rfl (World.ownsRow_nil _ _ _ _) _ _ _ T1 rfl HJ.out (by simp) _ (HT.out.1 ▸ RdF.part (f := tvC) (k := 1) (fun _ => rfl) HRF.out _ hj _) (by omega) (by rw [← HJ.out]; omega) (Nat.le_refl _) ?_)
          intro v1 w4 hown1 hg1
          have HO1 : Hid (w4.ownsRow w.heap.size 3 1 v1 T1.length (T1.flatMap tvC)) := Lib.hid hown1
          have G4 := Lib.hid (show w.grownBy w4 none from hg1)
          clear hown1 hg1
          obtain ⟨p1, c1, rfl, -, -⟩ := own_shape HO1.out
          go_wp2_with (at_builtin; refine hold_on ?_)
          refine Lib.hid ?_
          refine (wpList_append_f tvC 1 8 (by decide) (fun _ => rfl) tv_one 3 22 ii _ Try.underlying22 hii hi0 hi1 hi2 rfl (by decide) rfl _ _ rfl w.heap.size _ T1 _ rfl rfl (HO1.out.alloc _) _ _ _ [n] rfl rfl (by simp) (fun _ => True) (rdf_one _ trivial (cell_one w4 _ _) 1) (by omega) (by rw [← HJ.out]; simp <;> omega) (by have := G4.out.size; simp <;> omega) ?_)
          intro v2 w5 hown2 hg2
          have G5 := Lib.hid (old_grow (grown_trans G4.out (World.grownBy_alloc w4 _ none)) (HO1.out.alloc _) (Nat.le_refl _) hg2)
          obtain ⟨T3, hT3⟩ : ∃ T3, T3 = T1 ++ [n] := ⟨_, rfl⟩
          rw [← hT3] at hown2
          have HO2 := Lib.hid hown2
          have HT3 := Lib.hid hT3
          clear hown2 hT3 hg2
          obtain ⟨p2, c2, rfl, -, -⟩ := own_shape HO2.out
          go_wp2_with (at_builtin; refine hold_on ?_)
          refine Lib.hid ?_
          refine (wpList_append_f tvC 1 8 (by decide) (fun _ => rfl) tv_one 3 22 ii _ Try.underlying22 hii hi0 hi1 hi2 rfl (by decide) rfl _ _ rfl w.heap.size _ T3 _ rfl rfl HO2.out _ _ _ T2 rfl (by have := HJ2.out; omega) (by simp) _ (show RdF w5 (fun _ => True) (.slice _ 0 _) T2.length (T2.flatMap tvC) from by rw [← HT.out.2, List.drop_length]; exact rdf_nil _ _ _ _) (by omega) (by rw [← HJ2.out, HT3.out, List.length_append, ← HJ.out]; simp <;> omega) G5.out.size ?_)
          intro v3 w6 hown3 hg3
          have HE : Hid (insU l n = T3 ++ T2) := Lib.hid (by rw [HT3.out, HI.out]; simp)
          rw [← HE.out] at hown3
          have HO3 := Lib.hid hown3
          have G6 := Lib.hid (old_grow G5.out HO2.out (Nat.le_refl _) hg3)
          clear hown3 hg3
          obtain ⟨p3, c3, rfl, h31, h32⟩ := own_shape HO3.out
          have hp3 : p3 = none → c3 = 0 := by
            rintro rfl
            rcases own_formF HO3.out with ⟨e, -⟩ | ⟨g, cap, e, -⟩
            · injection e with e1 e2 e3
            · injection e with e1 e2 e3
              cases e1
          have HH := Lib.hid (And.intro h31 (And.intro h32 hp3))
          clear h31 h32 hp3
          go_wp2_with fail
          go_ret
          refine ⟨p3, c3, rfl, ?_, HH.out.2.2, ⟨HH.out.1, HH.out.2.1⟩, G6.out⟩
          have hr := rd_of_rdf (rdf_of_own HO3.out) (by rw [flat_tv]; simp)
          rw [flat_tv] at hr
          exact hr.mono (fun b hb => .inr hb)
        · obtain rfl : spot = none := hsp.resolve_left (by omega)
          go_wp2_with (at_builtin; refine hold_on ?_)
          refine Lib.hid ?_
          refine (wpList_append_f tvC 1 8 (by decide) (fun _ => rfl) tv_one 3 22 ii _ Try.underlying22 hii hi0 hi1 hi2 rfl (by decide) rfl _ _ rfl w.heap.size (.slice none 0 0) [] 0 rfl rfl (World.ownsRow_nil _ _ _ _) _ _ _ T1 rfl HJ.out (by simp) _ (HT.out.1 ▸ RdF.part (f := tvC) (k := 1) (fun _ => rfl) HRF.out _ hj _) (by omega) (by rw [← HJ.out]; omega) (Nat.le_refl _) ?_)
          intro v1 w4 hown1 hg1
          have HO1 : Hid (w4.ownsRow w.heap.size 3 1 v1 T1.length (T1.flatMap tvC)) := Lib.hid hown1
          have G4 := Lib.hid (show w.grownBy w4 none from hg1)
          clear hown1 hg1
          obtain ⟨p1, c1, rfl, -, -⟩ := own_shape HO1.out
          go_wp2_with (at_builtin; refine hold_on ?_)
          refine Lib.hid ?_
          refine (wpList_append_f tvC 1 8 (by decide) (fun _ => rfl) tv_one 3 22 ii _ Try.underlying22 hii hi0 hi1 hi2 rfl (by decide) rfl _ _ rfl w.heap.size _ T1 _ rfl rfl (HO1.out.alloc _) _ _ _ [n] rfl rfl (by simp) (fun _ => True) (rdf_one _ trivial (cell_one w4 _ _) 1) (by omega) (by rw [← HJ.out]; simp <;> omega) (by have := G4.out.size; simp <;> omega) ?_)
          intro v2 w5 hown2 hg2
          have G5 := Lib.hid (old_grow (grown_trans G4.out (World.grownBy_alloc w4 _ none)) (HO1.out.alloc _) (Nat.le_refl _) hg2)
          obtain ⟨T3, hT3⟩ : ∃ T3, T3 = T1 ++ [n] := ⟨_, rfl⟩
          rw [← hT3] at hown2
          have HO2 := Lib.hid hown2
          have HT3 := Lib.hid hT3
          clear hown2 hT3 hg2
          obtain ⟨p2, c2, rfl, -, -⟩ := own_shape HO2.out
          go_wp2_with (at_builtin; refine hold_on ?_)
          refine Lib.hid ?_
          refine (wpList_append_f tvC 1 8 (by decide) (fun _ => rfl) tv_one 3 22 ii _ Try.underlying22 hii hi0 hi1 hi2 rfl (by decide) rfl _ _ rfl w.heap.size _ T3 _ rfl rfl HO2.out _ _ _ T2 rfl (by have := HJ2.out; omega) (by simp) _ (show RdF w5 _ (.slice (some ⟨b, off + j, none⟩) (l.length - j) (c - j)) T2.length (T2.flatMap tvC) from by have := RdF.rest (f := tvC) (k := 1) (fun _ => rfl) (HRF.out.keep G5.out) j (c - j); rw [Nat.mul_one, HT.out.2] at this; exact this) (by omega) (by rw [← HJ2.out, HT3.out, List.length_append, ← HJ.out]; simp <;> omega) G5.out.size ?_)
          intro v3 w6 hown3 hg3
          have HE : Hid (insU l n = T3 ++ T2) := Lib.hid (by rw [HT3.out, HI.out]; simp)
          rw [← HE.out] at hown3
          have HO3 := Lib.hid hown3
          have G6 := Lib.hid (old_grow G5.out HO2.out (Nat.le_refl _) hg3)
          clear hown3 hg3
          obtain ⟨p3, c3, rfl, h31, h32⟩ := own_shape HO3.out
          have hp3 : p3 = none → c3 = 0 := by
            rintro rfl
            rcases own_formF HO3.out with ⟨e, -⟩ | ⟨g, cap, e, -⟩
            · injection e with e1 e2 e3
            · injection e with e1 e2 e3
              cases e1
          have HH := Lib.hid (And.intro h31 (And.intro h32 hp3))
          clear h31 h32 hp3
          go_wp2_with fail
          go_ret
          refine ⟨p3, c3, rfl, ?_, HH.out.2.2, ⟨HH.out.1, HH.out.2.1⟩, G6.out⟩
          have hr := rd_of_rdf (rdf_of_own HO3.out) (by rw [flat_tv]; simp)
          rw [flat_tv] at hr
          exact hr.mono (fun b hb => .inr hb)
end Go.Proofs.Ytnpkihioklpnmaa

/- The reference's Around: the mathematics. -/
namespace Go.Proofs.Ytnpkihioklpnmaa
open Go.RowKit Bs
set_option maxRecDepth 100000 in
theorem insU_cons (a : Int) (t : List Int) (n : Int) : insU (a :: t) n = if a < n then a :: insU t n else if a = n then a :: t else n :: a :: t := by
  unfold insU
  by_cases h : a < n
  · rw [if_pos h]
    rw [List.takeWhile_cons, decide_eq_true h]
    simp only [if_true, List.length_cons, List.drop_succ_cons, List.cons_append]
    split <;> rfl
  · rw [if_neg h]
    rw [List.takeWhile_cons, decide_eq_false h]
    simp
set_option maxRecDepth 100000 in
theorem insU_spec (n : Int) : ∀ l : List Int, l.Pairwise (· < ·) → (insU l n).Pairwise (· < ·) ∧ ∀ x, x ∈ insU l n ↔ x = n ∨ x ∈ l
  | [], _ => by
    have : insU [] n = [n] := by simp [insU]
    rw [this]
    simp
  | a :: t, h => by
    obtain ⟨h1, h2⟩ := List.pairwise_cons.1 h
    obtain ⟨i1, i2⟩ := insU_spec n t h2
    rw [insU_cons]
    by_cases ha : a < n
    · rw [if_pos ha]
      refine ⟨List.pairwise_cons.2 ⟨fun y hy => ?_, i1⟩, fun x => ?_⟩
      · rcases (i2 y).1 hy with rfl | hy
        · exact ha
        · exact h1 y hy
      · rw [List.mem_cons, i2, List.mem_cons]
        constructor
        · rintro (h | h | h)
          · exact .inr (.inl h)
          · exact .inl h
          · exact .inr (.inr h)
        · rintro (h | h | h)
          · exact .inr (.inl h)
          · exact .inl h
          · exact .inr (.inr h)
    · rw [if_neg ha]
      by_cases e : a = n
      · rw [if_pos e]
        subst e
        exact ⟨h, fun x => by simp⟩
      · rw [if_neg e]
        refine ⟨List.pairwise_cons.2 ⟨fun y hy => ?_, h⟩, fun x => by simp⟩
        rcases List.mem_cons.1 hy with rfl | hy
        · omega
        · have := h1 y hy
          omega
def insO (O : List Int) : List Int := O.foldl insU []
set_option maxRecDepth 100000 in
theorem insO_take {O : List Int} {k : Nat} {x : Int} (h : O[k]? = some x) : insO (O.take (k + 1)) = insU (insO (O.take k)) x := by
  unfold insO
  rw [List.take_add_one, h, List.foldl_append]
  rfl
set_option maxRecDepth 100000 in
theorem foldl_insU (O : List Int) : ∀ l : List Int, l.Pairwise (· < ·) → (O.foldl insU l).Pairwise (· < ·) ∧ ∀ x, x ∈ O.foldl insU l ↔ x ∈ O ∨ x ∈ l := by
  induction O with
  | nil => intro l h; exact ⟨h, fun x => by simp⟩
  | cons a O ih =>
    intro l h
    obtain ⟨h1, h2⟩ := insU_spec a l h
    obtain ⟨i1, i2⟩ := ih _ h1
    refine ⟨i1, fun x => ?_⟩
    rw [List.foldl_cons, i2, h2, List.mem_cons]
    constructor
    · rintro (h | h | h)
      · exact .inl (.inr h)
      · exact .inl (.inl h)
      · exact .inr h
    · rintro ((h | h) | h)
      · exact .inr (.inl h)
      · exact .inl h
      · exact .inr (.inr h)
set_option maxRecDepth 100000 in
theorem insU_len (l : List Int) (n : Int) : (insU l n).length ≤ l.length + 1 := by
  induction l with
  | nil => simp [insU]
  | cons a t ih =>
    rw [insU_cons]
    split
    · simp; omega
    · split <;> simp
set_option maxRecDepth 100000 in
theorem insO_len (O : List Int) (k : Nat) : (insO (O.take k)).length ≤ k := by
  have : ∀ (O l : List Int), (O.foldl insU l).length ≤ O.length + l.length := by
    intro O
    induction O with
    | nil => intro l; simp
    | cons a O ih =>
      intro l
      have h1 := ih (insU l a)
      have h2 := insU_len l a
      rw [List.foldl_cons, List.length_cons]
      omega
  have h1 := this (O.take k) []
  rw [List.length_take] at h1
  unfold insO
  simp at h1
  omega
/-- While Around goes on: of the routers found i are gone through. -/
structure BF (L : List Lk) (r : Int) (O : List Int) (i : Nat) : Prop where
  nd : O.Nodup
  me : r ∈ O
  rc : ∀ x ∈ O, Rch L r x
  cl : ∀ j x, j < i → O[j]? = some x → ∀ y ∈ nbL L x, y ∈ O
set_option maxRecDepth 100000 in
theorem BF.start (L : List Lk) (r : Int) : BF L r [r] 0 := ⟨by simp, by simp, fun x hx => by rw [List.mem_singleton] at hx; subst hx; exact Rch.refl L _, fun j x h => by omega⟩
set_option maxRecDepth 100000 in
theorem BF.add {L : List Lk} {r x y : Int} {O : List Int} {i : Nat} (h : BF L r O i) (hi : i ≤ O.length) (hx : x ∈ O) (hy : y ∈ nbL L x) (hn : hasI O y = false) : BF L r (O ++ [y]) i := by
  refine ⟨nodup_snoc h.nd (hasI_not.1 hn), List.mem_append_left _ h.me, fun z hz => ?_, fun j z hj hz u hu => ?_⟩
  · rcases List.mem_append.1 hz with hz | hz
    · exact h.rc z hz
    · rw [List.mem_singleton] at hz
      subst hz
      exact Rch.step (h.rc x hx) hy
  · rw [List.getElem?_append_left (by omega)] at hz
    exact List.mem_append_left _ (h.cl j z hj hz u hu)
set_option maxRecDepth 100000 in
theorem BF.next {L : List Lk} {r x : Int} {O : List Int} {i : Nat} (h : BF L r O i) (hx : O[i]? = some x) (hy : ∀ y ∈ nbL L x, y ∈ O) : BF L r O (i + 1) :=
  ⟨h.nd, h.me, h.rc, fun j z hj hz u hu => by
    by_cases e : j < i
    · exact h.cl j z e hz u hu
    · obtain rfl : j = i := by omega
      rw [hx] at hz
      obtain rfl := Option.some.inj hz
      exact hy u hu⟩
set_option maxRecDepth 100000 in
theorem BF.len {R : List Rt} {L : List Lk} {r : Int} {O : List Int} {i : Nat} (hv : okT R L = true) (hr : ∃ x ∈ R, x.id = r) (h : BF L r O i) : O.length ≤ R.length := by
  have hp := pair_of_asc ltR ltR_trans R (okT_all hv).rs
  have hids : (R.map (·.id)).Nodup := by
    unfold List.Nodup
    rw [List.pairwise_map]
    exact hp.imp (fun h => by have := of_decide_eq_true h; omega)
  have hf : ((R.map (·.id)).filter (hasI O)).Nodup := hids.sublist List.filter_sublist
  have : O.Perm ((R.map (·.id)).filter (hasI O)) := (List.perm_ext_iff_of_nodup h.nd hf).2 (fun x => by
    rw [List.mem_filter, hasI_mem]
    constructor
    · intro hx
      obtain ⟨m, hm, e⟩ := reach_id hv hr (h.rc x hx)
      exact ⟨List.mem_map.2 ⟨m, hm, e⟩, hx⟩
    · exact fun hx => hx.2)
  rw [this.length_eq]
  exact Nat.le_trans (List.length_filter_le _ _) (by rw [List.length_map]; exact Nat.le_refl _)
set_option maxRecDepth 100000 in
theorem BF.done {R : List Rt} {L : List Lk} {r : Int} {O : List Int} (hv : okT R L = true) (hr : ∃ x ∈ R, x.id = r) (h : BF L r O O.length) : insO O = cls L r := by
  obtain ⟨x, hx, rfl⟩ := hr
  obtain ⟨n, en, hn⟩ := rt_nat hv hx
  obtain ⟨c1, c2⟩ := cls_spec (okT_near100 hv) hn
  rw [← en] at c1 c2
  obtain ⟨f1, f2⟩ := foldl_insU O [] List.Pairwise.nil
  refine eq_of_asc f1 c1 (fun y => ?_)
  show y ∈ O.foldl insU [] ↔ _
  rw [f2, c2]
  constructor
  · rintro (hy | hy)
    · exact h.rc y hy
    · cases hy
  · intro hy
    refine .inl (hy.into h.me (fun u hu v hv => ?_))
    obtain ⟨j, hj⟩ := List.mem_iff_getElem?.1 hu
    exact h.cl j u (List.getElem?_eq_some_iff.1 hj).1 hj v hv
end Go.Proofs.Ytnpkihioklpnmaa
