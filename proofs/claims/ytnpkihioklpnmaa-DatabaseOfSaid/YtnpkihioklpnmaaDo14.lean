/- Parts of the proof, packed: DbAgM, AdOfM, ToTopK, ToFlr, ToStep, ToOpn, ToOpnF, ToOrd. -/
import Derived.Test.YtnpkihioklpnmaaDo10
import Derived.Test.YtnpkihioklpnmaaDo13
import Derived.Test.YtnpkihioklpnmaaDo1
import Derived.Test.YtnpkihioklpnmaaDo5
import Derived.Deep.AppendLies
import Derived.Deep.Onto
import Derived.Laws.OwnMore
import Derived.Test.YtnpkihioklpnmaaDo3
import Derived.Deep.CutBlock
import Derived.Maps.AppendAt
import Derived.BigQuiet
/- A View is a valid connected topology, the same for all of its routers: the mathematics. -/
namespace Go.Proofs.Ytnpkihioklpnmaa
open Go.RowKit Bs
set_option maxRecDepth 100000 in
theorem add_mono : ∀ (M : List Ad) (st : List Int × List Ad) (y : Int), inS st.1 y = true → inS (M.foldl addA st).1 y = true
  | [], _, _, h => h
  | B :: M, st, y, h => by
    rw [List.foldl_cons]
    refine add_mono M _ y ?_
    unfold addA
    split
    · exact h
    · rw [inS_app, h]; rfl
set_option maxRecDepth 100000 in
theorem add_has : ∀ (M : List Ad) (st : List Int × List Ad), ∀ B ∈ M, inS (M.foldl addA st).1 B.r = true
  | C :: M, st, B, hB => by
    rw [List.foldl_cons]
    rcases List.mem_cons.1 hB with rfl | hB
    · refine add_mono M _ _ ?_
      unfold addA
      split
      · assumption
      · rw [inS_app, inS_one, decide_eq_true rfl, Bool.or_true]
    · exact add_has M _ B hB
set_option maxRecDepth 100000 in
theorem add_work : ∀ (M : List Ad) (st : List Int × List Ad), ∀ B ∈ st.2, B ∈ (M.foldl addA st).2
  | [], _, _, h => h
  | C :: M, st, B, h => by
    rw [List.foldl_cons]
    refine add_work M _ B ?_
    unfold addA
    split
    · exact h
    · exact List.mem_append_left _ h
set_option maxRecDepth 100000 in
/-- Who is new is to be looked at. -/
theorem add_new : ∀ (M : List Ad) (st : List Int × List Ad) (y : Int), inS (M.foldl addA st).1 y = true → inS st.1 y = false → ∃ B ∈ (M.foldl addA st).2, B ∈ M ∧ B.r = y
  | [], st, y, h, h2 => by rw [List.foldl_nil] at h; rw [h] at h2; cases h2
  | C :: M, st, y, h, h2 => by
    rw [List.foldl_cons] at h ⊢
    cases hc : inS (addA st C).1 y with
    | false =>
      obtain ⟨B, b1, b2, b3⟩ := add_new M _ y h hc
      exact ⟨B, b1, List.mem_cons_of_mem _ b2, b3⟩
    | true =>
      unfold addA at hc
      split at hc
      · rw [hc] at h2; cases h2
      · rename_i hn
        rw [inS_app, h2, Bool.false_or, inS_one] at hc
        refine ⟨C, add_work M _ C ?_, List.mem_cons_self, of_decide_eq_true hc⟩
        unfold addA
        rw [if_neg hn]
        exact List.mem_append_right _ (List.mem_singleton_self _)
/-- What holds while the routers are looked at: whoever has been reached is still to be looked at, or his neighbours have been reached. -/
def ClsI (l : List Ad) (S : List Int) (W : List Ad) : Prop := ∀ A ∈ l, inS S A.r = true → A ∈ W ∨ ∀ B ∈ l, lkAd A B = true → inS S B.r = true
set_option maxRecDepth 100000 in
theorem fnd_inj {l : List Ad} (h : OkD l) {A B : Ad} (hA : A ∈ l) (hB : B ∈ l) (e : A.r = B.r) : A = B := by
  have h1 := fnd_selfV h.asc A hA
  have h2 := fnd_selfV h.asc B hB
  rw [e, h2] at h1
  exact (Option.some.inj h1).symm
set_option maxRecDepth 100000 in
theorem cls_step {l : List Ad} (h : OkD l) {S : List Int} {A : Ad} {W : List Ad} (hA : A ∈ l) (hc : ClsI l S (A :: W)) : ClsI l ((lnk l A).foldl addA (S, W)).1 ((lnk l A).foldl addA (S, W)).2 := by
  intro B hB hi
  cases hs : inS S B.r with
  | false =>
    obtain ⟨C, c1, c2, c3⟩ := add_new (lnk l A) (S, W) B.r hi hs
    rw [← fnd_inj h (lnk_mem c2) hB c3]
    exact .inl c1
  | true =>
    rcases hc B hB hs with hw | hw
    · rcases List.mem_cons.1 hw with rfl | hw
      · refine .inr fun D hD hk => ?_
        refine add_has _ _ D ?_
        rw [lnk_flt h hB, List.mem_filter]
        exact ⟨hD, hk⟩
      · exact .inl (add_work _ _ B hw)
    · exact .inr fun D hD hk => add_mono _ _ _ (hw D hD hk)
set_option maxRecDepth 100000 in
theorem bfs_cls {l : List Ad} (h : OkD l) : ∀ (n : Nat) (S : List Int) (W : List Ad), unv l S + W.length ≤ n → (∀ B ∈ W, B ∈ l) → ClsI l S W → (∀ y, inS S y = true → inS (bfs l n S W) y = true) ∧ ClsI l (bfs l n S W) []
  | n, S, [], _, _, hc => by rw [bfs_nil]; exact ⟨fun _ h => h, hc⟩
  | 0, S, A :: W, hn, _, _ => by simp only [List.length_cons] at hn; omega
  | n + 1, S, A :: W, hn, hw, hc => by
    have hA := hw A List.mem_cons_self
    rw [bfs]
    have hk := add_keep h.pair (lnk l A) (fun B hB => lnk_mem hB) (S, W)
    simp only [List.length_cons] at hn
    obtain ⟨i1, i2⟩ := bfs_cls h n _ _ (by rw [hk]; show unv l S + W.length ≤ n; omega) (add_from _ (fun B hB => lnk_mem hB) _ (fun B hB => hw B (List.mem_cons_of_mem _ hB))) (cls_step h hA hc)
    exact ⟨fun y hy => i1 y (add_mono _ _ y hy), i2⟩
set_option maxRecDepth 100000 in
theorem reS_self {l : List Ad} (h : OkD l) {r : Int} {A : Ad} (hf : fndA l r = some A) : inS (reS l r) r = true ∧ ClsI l (reS l r) [] := by
  obtain ⟨h1, h2⟩ := fndA_some hf
  unfold reS
  rw [hf]
  obtain ⟨i1, i2⟩ := bfs_cls h (unv l [r] + 1) [r] [A] (by simp) (fun B hB => by rw [List.mem_singleton] at hB; subst hB; exact h1) (fun B hB hi => by
    rw [inS_one] at hi
    have : B = A := fnd_inj h hB h1 (by rw [h2]; exact (of_decide_eq_true hi).symm)
    rw [this]
    exact .inl List.mem_cons_self)
  exact ⟨i1 r (by rw [inS_one, decide_eq_true rfl]), i2⟩
set_option maxRecDepth 100000 in
theorem reS_none {l : List Ad} {r : Int} (h : fndA l r = none) : reS l r = [] := by unfold reS; rw [h]
set_option maxRecDepth 100000 in
/-- What is reached is closed under links. -/
theorem reS_closed {l : List Ad} (h : OkD l) {r : Int} {A B : Ad} (hA : A ∈ l) (hi : inS (reS l r) A.r = true) (hB : B ∈ l) (hk : lkAd A B = true) : inS (reS l r) B.r = true := by
  cases hf : fndA l r with
  | none => rw [reS_none hf] at hi; cases hi
  | some C =>
    rcases (reS_self h hf).2 A hA hi with hw | hw
    · cases hw
    · exact hw B hB hk
set_option maxRecDepth 100000 in
theorem bfs_min {l : List Ad} (h : OkD l) (P : Int → Prop) (hP : ∀ A ∈ l, ∀ B ∈ l, P A.r → lkAd A B = true → P B.r) : ∀ (n : Nat) (S : List Int) (W : List Ad), (∀ B ∈ W, B ∈ l ∧ P B.r) → (∀ y, inS S y = true → P y) → ∀ y, inS (bfs l n S W) y = true → P y
  | 0, S, W, _, hs, y, hy => hs y hy
  | n + 1, S, [], _, hs, y, hy => hs y hy
  | n + 1, S, A :: W, hw, hs, y, hy => by
    rw [bfs] at hy
    obtain ⟨a1, a2⟩ := hw A List.mem_cons_self
    have hl : ∀ B ∈ lnk l A, B ∈ l ∧ P B.r := fun B hB => by
      rw [lnk_flt h a1, List.mem_filter] at hB
      exact ⟨hB.1, hP A a1 B hB.1 a2 hB.2⟩
    refine bfs_min h P hP n _ _ (fun B hB => ?_) (fun y hy => ?_) y hy
    · have hwork : ∀ (M : List Ad), (∀ B ∈ M, B ∈ l ∧ P B.r) → ∀ st : List Int × List Ad, (∀ B ∈ st.2, B ∈ l ∧ P B.r) → ∀ B ∈ (M.foldl addA st).2, B ∈ l ∧ P B.r := by
        intro M
        induction M with
        | nil => intro _ st hst B hB; exact hst B hB
        | cons C M ih =>
          intro hM st hst B hB
          rw [List.foldl_cons] at hB
          refine ih (fun D hD => hM D (List.mem_cons_of_mem _ hD)) (addA st C) (fun D hD => ?_) B hB
          unfold addA at hD
          split at hD
          · exact hst D hD
          · rcases List.mem_append.1 hD with hD | hD
            · exact hst D hD
            · rw [List.mem_singleton] at hD; subst hD; exact hM D List.mem_cons_self
      exact hwork _ hl (S, W) (fun B hB => hw B (List.mem_cons_of_mem _ hB)) B hB
    · rcases add_in _ _ y hy with h1 | ⟨B, h1, h2⟩
      · exact hs y h1
      · rw [← h2]; exact (hl B h1).2
set_option maxRecDepth 100000 in
/-- And it is the least that is. -/
theorem reS_min {l : List Ad} (h : OkD l) {r : Int} (P : Int → Prop) (h0 : P r) (hP : ∀ A ∈ l, ∀ B ∈ l, inS (reS l r) A.r = true → P A.r → lkAd A B = true → P B.r) : ∀ y, inS (reS l r) y = true → P y := by
  intro y hy
  cases hf : fndA l r with
  | none => rw [reS_none hf] at hy; cases hy
  | some C =>
    obtain ⟨h1, h2⟩ := fndA_some hf
    have hi := (reS_self h hf).1
    have key := bfs_min h (fun y => inS (reS l r) y = true ∧ P y) (fun A hA B hB hp hk => ⟨reS_closed h hA hp.1 hB hk, hP A hA B hB hp.1 hp.2 hk⟩) (unv l [r] + 1) [r] [C]
      (fun B hB => by rw [List.mem_singleton] at hB; subst hB; rw [h2]; exact ⟨h1, hi, h0⟩)
      (fun z hz => by rw [inS_one] at hz; rw [← of_decide_eq_true hz]; exact ⟨hi, h0⟩) y
    refine (key ?_).2
    have e : reS l r = bfs l (unv l [r] + 1) [r] [C] := by unfold reS; rw [hf]
    rw [← e]; exact hy
set_option maxRecDepth 100000 in
theorem reS_mem {l : List Ad} {r y : Int} (h : OkD l) (hi : inS (reS l r) y = true) : ∃ B, fndA l y = some B := by
  cases hf : fndA l r with
  | none => rw [reS_none hf] at hi; cases hi
  | some C =>
    obtain ⟨h1, h2⟩ := fndA_some hf
    have e : reS l r = bfs l (unv l [r] + 1) [r] [C] := by unfold reS; rw [hf]
    rw [e] at hi
    rcases bfs_in _ _ _ y hi with hi | ⟨B, b1, b2⟩
    · rw [inS_one] at hi
      exact ⟨C, by rw [← of_decide_eq_true hi]; exact hf⟩
    · exact ⟨B, by rw [← b2]; exact fnd_selfV h.asc B b1⟩
set_option maxRecDepth 100000 in
theorem lkAd_fnd {A B : Ad} (h : lkAd A B = true) : (∃ x, rcA A B.r = some x ∧ x ∈ A.L) ∧ ∃ y, rcA B A.r = some y ∧ y ∈ B.L := by
  unfold lkAd at h
  rw [Bool.and_eq_true] at h
  obtain ⟨x, hx⟩ := Option.isSome_iff_exists.1 h.1
  obtain ⟨y, hy⟩ := Option.isSome_iff_exists.1 h.2
  exact ⟨⟨x, hx, (rcA_some hx).1⟩, y, hy, (rcA_some hy).1⟩
set_option maxRecDepth 100000 in
theorem vRe_nums {r : Int} : ∀ {M : List T3} {k : Int}, vRe r k M = true → ∀ x ∈ M, (1 ≤ x.b ∧ x.b ≤ 1000) ∧ 0 ≤ x.c ∧ x.c ≤ 1000
  | [], _, _, x, hx => by cases hx
  | y :: M, k, h, x, hx => by
    rw [vRe, Bool.and_eq_true] at h
    rcases List.mem_cons.1 hx with rfl | hx
    · have := h.1; unfold okRe at this; exact (of_decide_eq_true this).2.2.2
    · exact vRe_nums h.2 x hx
set_option maxRecDepth 100000 in
theorem rcV_some {A : Ad} {r : Int} {x : T3} (h : rcA A r = some x) : rcV A r = x := by unfold rcV; rw [h]; rfl
set_option maxRecDepth 100000 in
theorem vwL_mem {l : List Ad} (h : OkD l) {S : List Int} {m : Lk} : m ∈ vwL l S ↔ ∃ A ∈ l, inS S A.r = true ∧ ∃ B ∈ l, lkAd A B = true ∧ A.r < B.r ∧ m = btw A B := by
  unfold vwL
  rw [List.mem_flatMap]
  constructor
  · rintro ⟨A, hA, hm⟩
    rw [List.mem_filter] at hA
    unfold vL1 at hm
    obtain ⟨B, hB, e⟩ := List.mem_map.1 hm
    rw [List.mem_filter, lnk_flt h hA.1, List.mem_filter] at hB
    exact ⟨A, hA.1, hA.2, B, hB.1.1, hB.1.2, of_decide_eq_true hB.2, e.symm⟩
  · rintro ⟨A, hA, hi, B, hB, hk, hlt, e⟩
    refine ⟨A, List.mem_filter.2 ⟨hA, hi⟩, ?_⟩
    unfold vL1
    refine List.mem_map.2 ⟨B, List.mem_filter.2 ⟨?_, decide_eq_true hlt⟩, e.symm⟩
    rw [lnk_flt h hA, List.mem_filter]
    exact ⟨hB, hk⟩
set_option maxRecDepth 100000 in
theorem ascB_of {α : Type} (f : α → α → Bool) : ∀ l : List α, l.Pairwise (fun a b => f a b = true) → ascB f l = true
  | [], _ => rfl
  | [a], _ => rfl
  | a :: b :: t, h => by
    obtain ⟨h1, h2⟩ := List.pairwise_cons.1 h
    rw [ascB, h1 b List.mem_cons_self, ascB_of f (b :: t) h2]; rfl
set_option maxRecDepth 100000 in
theorem vwR_mem {l : List Ad} {S : List Int} {x : Rt} : x ∈ vwR l S ↔ ∃ A ∈ l, inS S A.r = true ∧ x = toR A := by
  unfold vwR
  rw [List.mem_map]
  constructor
  · rintro ⟨A, hA, e⟩
    rw [List.mem_filter] at hA
    exact ⟨A, hA.1, hA.2, e.symm⟩
  · rintro ⟨A, hA, hi, e⟩
    exact ⟨A, List.mem_filter.2 ⟨hA, hi⟩, e.symm⟩
set_option maxRecDepth 100000 in
theorem has_vwR {l : List Ad} {S : List Int} {y : Int} : hasR (vwR l S) y = true ↔ ∃ A ∈ l, inS S A.r = true ∧ A.r = y := by
  unfold hasR
  rw [List.any_eq_true]
  constructor
  · rintro ⟨x, hx, e⟩
    obtain ⟨A, hA, hi, rfl⟩ := vwR_mem.1 hx
    exact ⟨A, hA, hi, of_decide_eq_true e⟩
  · rintro ⟨A, hA, hi, e⟩
    exact ⟨toR A, vwR_mem.2 ⟨A, hA, hi, rfl⟩, decide_eq_true e⟩
set_option maxRecDepth 100000 in
theorem vwL_asc {l : List Ad} (h : OkD l) (S : List Int) : (vwL l S).Pairwise (fun a b => ltL a b = true) := by
  have one : ∀ A ∈ l, (vL1 l A).Pairwise (fun a b => ltL a b = true) := fun A hA => by
    unfold vL1
    rw [List.pairwise_map, lnk_flt h hA]
    refine ((h.pair.filter _).filter _).imp (fun {B C} hlt => ?_)
    unfold ltL btw
    exact decide_eq_true (.inr ⟨rfl, hlt⟩)
  have key : ∀ (M : List Ad), (∀ A ∈ M, A ∈ l) → M.Pairwise (fun A B => A.r < B.r) → (M.flatMap (vL1 l)).Pairwise (fun a b => ltL a b = true) := by
    intro M
    induction M with
    | nil => intro _ _; exact List.Pairwise.nil
    | cons A M ih =>
      intro hM hp
      obtain ⟨p1, p2⟩ := List.pairwise_cons.1 hp
      rw [List.flatMap_cons]
      refine List.pairwise_append.2 ⟨one A (hM A List.mem_cons_self), ih (fun B hB => hM B (List.mem_cons_of_mem _ hB)) p2, fun m hm n hn => ?_⟩
      obtain ⟨B, hB, hn⟩ := List.mem_flatMap.1 hn
      unfold vL1 at hm hn
      obtain ⟨C, _, rfl⟩ := List.mem_map.1 hm
      obtain ⟨D, _, rfl⟩ := List.mem_map.1 hn
      unfold ltL btw
      exact decide_eq_true (.inl (p1 B hB))
  exact key _ (fun A hA => (List.mem_filter.1 hA).1) (h.pair.filter _)
set_option maxRecDepth 100000 in
theorem vw_chk2 {l : List Ad} (h : OkD l) (r : Int) (hlR : (vwR l (reS l r)).length ≤ 24) (hlL : (vwL l (reS l r)).length ≤ 60) : chk (vwR l (reS l r)) (vwL l (reS l r)) = 0 := by
  generalize hS : reS l r = S at hlR hlL ⊢
  have hcl : ∀ A ∈ l, inS S A.r = true → ∀ B ∈ l, lkAd A B = true → inS S B.r = true := fun A hA hi B hB hk => by
    rw [← hS] at hi ⊢
    exact reS_closed h hA hi hB hk
  have c2 : (vwR l S).any wrId = false := by
    rw [List.any_eq_false]
    intro x hx
    obtain ⟨A, hA, _, rfl⟩ := vwR_mem.1 hx
    have hv := h.v A hA
    unfold vAd at hv
    rw [Bool.and_eq_true] at hv
    have := hv.1
    unfold vHd at this
    have := (of_decide_eq_true this).1
    unfold wrId toR
    rw [decide_eq_true this]
    decide
  have c3 : ascB ltR (vwR l S) = true := by
    refine ascB_of _ _ ?_
    unfold vwR
    rw [List.pairwise_map]
    exact (h.pair.filter _).imp (fun {A B} hlt => decide_eq_true hlt)
  have c4 : (vwL l S).any wrNum = false := by
    rw [List.any_eq_false]
    intro m hm
    obtain ⟨A, hA, _, B, hB, hk, _, rfl⟩ := (vwL_mem h).1 hm
    obtain ⟨⟨x, hx, hx2⟩, y, hy, hy2⟩ := lkAd_fnd hk
    have b1 := vRe_nums (vAd_re (h.v A hA)) x hx2
    have b2 := vRe_nums (vAd_re (h.v B hB)) y hy2
    unfold wrNum btw
    rw [rcV_some hx, rcV_some hy]
    rw [decide_eq_true (by refine ⟨b1.1, b2.1, ?_, ?_⟩ <;> simp only <;> omega)]
    decide
  have c5 : (vwL l S).any (unk (vwR l S)) = false := by
    rw [List.any_eq_false]
    intro m hm
    obtain ⟨A, hA, hi, B, hB, hk, _, rfl⟩ := (vwL_mem h).1 hm
    have e1 : hasR (vwR l S) A.r = true := has_vwR.2 ⟨A, hA, hi, rfl⟩
    have e2 : hasR (vwR l S) B.r = true := has_vwR.2 ⟨B, hB, hcl A hA hi B hB hk, rfl⟩
    unfold unk btw
    rw [e1, e2]
    decide
  have c6 : (vwL l S).any wrEnd = false := by
    rw [List.any_eq_false]
    intro m hm
    obtain ⟨A, hA, hi, B, hB, hk, hlt, rfl⟩ := (vwL_mem h).1 hm
    unfold wrEnd btw
    rw [decide_eq_false (by simp only; omega)]
    decide
  have c7 : ascB ltL (vwL l S) = true := ascB_of _ _ (vwL_asc h S)
  unfold chk
  rw [if_neg (by omega), c2, c3, c4, c5, c6, c7]
  rfl
set_option maxRecDepth 100000 in
theorem okD_of {l : List Ad} (h : OkD l) : okD l = true := by
  unfold okD chkD
  rw [if_neg (by have := h.len; omega)]
  have : l.any notV = false := by
    rw [List.any_eq_false]
    intro A hA
    unfold notV
    rw [h.v A hA]; decide
  rw [this, if_neg (by decide), h.asc]
  rfl
end Go.Proofs.Ytnpkihioklpnmaa

/- advert.Of: what a router advertises of its links; the program's list is the reference's. The mathematics. -/
namespace Go.Proofs.Ytnpkihioklpnmaa
open Go.RowKit Bs
def re1 (x : Int) (l : Lk) : List T3 := (if l.b = x then [⟨l.a, l.cb, l.cp⟩] else []) ++ (if l.a = x then [⟨l.b, l.ca, l.cp⟩] else [])
/-- What a router advertises of its links. -/
def reL (L : List Lk) (x : Int) : List T3 := L.flatMap (re1 x)
set_option maxRecDepth 100000 in
theorem re1_ids (x : Int) (l : Lk) : (re1 x l).map (·.a) = nb1 x l := by
  unfold re1 nb1
  rw [List.map_append]
  split <;> split <;> rfl
set_option maxRecDepth 100000 in
theorem reL_ids (L : List Lk) (x : Int) : (reL L x).map (·.a) = nbL L x := by
  unfold reL nbL
  rw [List.map_flatMap]
  exact congrArg (fun f => List.flatMap f L) (funext fun l => re1_ids x l)
/-- Is this the link between two routers, as the reference looks for it? -/
def isLk (x y : Int) (l : Lk) : Bool := decide (l.a = min x y) && decide (l.b = max x y)
/-- The capacity as the reference finds it: of the last such link among the first k. -/
def capK (L : List Lk) (x y : Int) (k : Nat) : Int := (L.take k).foldl (fun c l => if isLk x y l then l.cp else c) 0
set_option maxRecDepth 100000 in
theorem capK_zero (L : List Lk) (x y : Int) : capK L x y 0 = 0 := by unfold capK; rw [List.take_zero]; rfl
set_option maxRecDepth 100000 in
theorem capK_succ {L : List Lk} {k : Nat} {l : Lk} (x y : Int) (h : L[k]? = some l) : capK L x y (k + 1) = if isLk x y l then l.cp else capK L x y k := by
  unfold capK
  rw [List.take_add_one, h]
  simp
set_option maxRecDepth 100000 in
theorem foldl_none (x y : Int) : ∀ (L : List Lk) (c : Int), (∀ m ∈ L, isLk x y m = false) → L.foldl (fun c l => if isLk x y l then l.cp else c) c = c
  | [], _, _ => rfl
  | l :: L, c, h => by
    rw [List.foldl_cons, h l List.mem_cons_self]
    exact foldl_none x y L c fun m hm => h m (List.mem_cons_of_mem _ hm)
set_option maxRecDepth 100000 in
theorem foldl_one (x y : Int) (l : Lk) : ∀ (L : List Lk) (c : Int), l ∈ L → isLk x y l = true → (∀ m ∈ L, isLk x y m = true → m = l) → L.foldl (fun c l => if isLk x y l then l.cp else c) c = l.cp
  | [], _, h, _, _ => by cases h
  | m :: L, c, hm, h1, hu => by
    rw [List.foldl_cons]
    by_cases h2 : ∃ k ∈ L, isLk x y k = true
    · obtain ⟨k, hk, hkl⟩ := h2
      obtain rfl := hu k (List.mem_cons_of_mem _ hk) hkl
      exact foldl_one x y k L _ hk h1 fun n hn => hu n (List.mem_cons_of_mem _ hn)
    · have hml : m = l := by
        rcases List.mem_cons.1 hm with e | hm
        · exact e.symm
        · exact absurd ⟨l, hm, h1⟩ h2
      subst hml
      rw [if_pos h1]
      refine foldl_none x y L _ fun k hk => ?_
      cases e : isLk x y k
      · rfl
      · exact absurd ⟨k, hk, e⟩ h2
/-- The reference's entry for a neighbour. -/
def refE (L : List Lk) (x y : Int) : T3 := ⟨y, (priceV L x y).1, capK L x y L.length⟩
set_option maxRecDepth 100000 in
theorem pair_mem {α : Type} {R : α → α → Prop} (hR : ∀ a b, R a b → R b a → False) : ∀ {l : List α}, l.Pairwise R → ∀ a ∈ l, ∀ b ∈ l, a = b ∨ R a b ∨ R b a
  | [], _, a, ha, _, _ => by cases ha
  | c :: l, h, a, ha, b, hb => by
    obtain ⟨h1, h2⟩ := List.pairwise_cons.1 h
    rcases List.mem_cons.1 ha with ea | ka <;> rcases List.mem_cons.1 hb with eb | kb
    · exact .inl (ea.trans eb.symm)
    · rw [ea]; exact .inr (.inl (h1 b kb))
    · rw [eb]; exact .inr (.inr (h1 a ka))
    · exact pair_mem hR h2 a ka b kb
set_option maxRecDepth 100000 in
theorem link_uniq {R : List Rt} {L : List Lk} (ho : OkAll R L) {l m : Lk} (hl : l ∈ L) (hm : m ∈ L) (h1 : l.a = m.a) (h2 : l.b = m.b) : l = m := by
  have hp := pair_of_asc ltL (fun _ _ _ => ltL_trans) L ho.ls
  rcases pair_mem (fun a b h3 h4 => by unfold ltL at h3 h4; have h3 := of_decide_eq_true h3; have h4 := of_decide_eq_true h4; omega) hp l hl m hm with e | e | e
  · exact e
  · unfold ltL at e; have e := of_decide_eq_true e; omega
  · unfold ltL at e; have e := of_decide_eq_true e; omega
set_option maxRecDepth 100000 in
theorem isLk_iff {x y : Int} {l : Lk} : isLk x y l = true ↔ l.a = min x y ∧ l.b = max x y := by
  unfold isLk
  rw [Bool.and_eq_true, decide_eq_true_eq, decide_eq_true_eq]
set_option maxRecDepth 100000 in
theorem ent_ok {R : List Rt} {L : List Lk} (ho : OkAll R L) (x : Int) {z : T3} (hz : z ∈ reL L x) : refE L x z.a = z := by
  have he := ends_lt ho
  unfold reL at hz
  obtain ⟨l, hl, hz⟩ := List.mem_flatMap.1 hz
  have h1 := he l hl
  have hcase : (l.b = x ∧ z = ⟨l.a, l.cb, l.cp⟩) ∨ (l.a = x ∧ z = ⟨l.b, l.ca, l.cp⟩) := by
    unfold re1 at hz
    rw [List.mem_append] at hz
    by_cases h1 : l.b = x <;> by_cases h2 : l.a = x <;> simp [h1, h2] at hz ⊢ <;> first | exact hz | exact .inl hz | exact .inr hz
  have hcap : ∀ y, isLk x y l = true → capK L x y L.length = l.cp := fun y hy => by
    unfold capK
    rw [List.take_length]
    refine foldl_one x y l L 0 hl hy fun m hm hml => ?_
    have a1 := isLk_iff.1 hy
    have a2 := isLk_iff.1 hml
    exact link_uniq ho hm hl (a2.1.trans a1.1.symm) (a2.2.trans a1.2.symm)
  have hpr : ∀ y c, priceB x y l = some c → (∀ m ∈ L, ∀ d, priceB x y m = some d → m = l) → (priceV L x y).1 = c := fun y c h2 h3 => by
    unfold priceV
    cases hf : L.findSome? (priceB x y) with
    | none => rw [List.findSome?_eq_none_iff.1 hf l hl] at h2; cases h2
    | some d =>
      obtain ⟨m, hm, hmc⟩ := List.exists_of_findSome?_eq_some hf
      obtain rfl := h3 m hm d hmc
      rw [hmc] at h2
      exact Option.some.inj h2
  have hpm : ∀ y m d, priceB x y m = some d → (m.a = x ∧ m.b = y) ∨ (m.b = x ∧ m.a = y) := fun y m d h2 => by
    unfold priceB at h2
    by_cases k1 : m.a = x ∧ m.b = y
    · exact .inl k1
    · rw [if_neg k1] at h2
      by_cases k2 : m.b = x ∧ m.a = y
      · exact .inr k2
      · rw [if_neg k2] at h2; cases h2
  rcases hcase with ⟨e, rfl⟩ | ⟨e, rfl⟩
  · subst e
    unfold refE
    simp only
    rw [hcap l.a (isLk_iff.2 (by omega)), hpr l.a l.cb (by unfold priceB; rw [if_neg (by omega), if_pos ⟨rfl, rfl⟩]) fun m hm d hd => ?_]
    have h2 := he m hm
    rcases hpm _ m d hd with h3 | h3
    · omega
    · exact link_uniq ho hm hl h3.2 h3.1
  · subst e
    unfold refE
    simp only
    rw [hcap l.b (isLk_iff.2 (by omega)), hpr l.b l.ca (by unfold priceB; rw [if_pos ⟨rfl, rfl⟩]) fun m hm d hd => ?_]
    have h2 := he m hm
    rcases hpm _ m d hd with h3 | h3
    · exact link_uniq ho hm hl h3.1 h3.2
    · omega
set_option maxRecDepth 100000 in
/-- The reference's list is the program's. -/
theorem ref_reL {R : List Rt} {L : List Lk} (ho : OkAll R L) (x : Int) : (nearR R L x).map (refE L x) = reL L x := by
  rw [← near_eq ho, ← reL_ids, List.map_map]
  refine (List.map_congr_left fun z hz => ?_).trans (List.map_id _)
  exact ent_ok ho x hz
end Go.Proofs.Ytnpkihioklpnmaa

/- While the tape makes a topology. -/
namespace Go.Proofs.Ytnpkihioklpnmaa
open Go.RowKit Bs
/-- While a topology is made: its block holds uR, uL; the routers and the links lie in rows of the call's own, vR and vL. -/
structure TK (a : Nat) (W : World) (uR uL vR vL : Value) (R : List Rt) (L : List Lk) (w : World) : Prop where
  gb : w.heap[W.heap.size + 1]? = some (.cells #[uR, uL] 59 (0, 0))
  rb : w.heap[W.heap.size]? = some (.cells #[.slice none 0 0, .slice none 0 0] 59 (0, 0))
  oR : w.ownsRow (W.heap.size + 2) 69 2 vR R.length (R.flatMap rtC)
  oL : w.ownsRow (W.heap.size + 2) 71 5 vL L.length (L.flatMap lkC)
  ap : ∀ g, vR.ownBlock = some g → vL.ownBlock ≠ some g
  st : St a W w
  sz : W.heap.size + 2 ≤ w.heap.size
set_option maxRecDepth 100000 in
theorem own_other {w w' : World} {base size n b : Nat} {e : TypeId} {v : Value} {xs : List Value} (h : w.ownsRow base e size v n xs) (g : w.grownBy w' (some b)) (hb : b < base) : w'.ownsRow base e size v n xs :=
  h.kept g (by
    cases hv : v.ownBlock with
    | none => exact .inl rfl
    | some k => exact .inr (fun e => by have e2 := Option.some.inj e; have := (h.lt k hv).1; omega))
set_option maxRecDepth 100000 in
theorem St.storeT {a b : Nat} {W w w1 : World} (h : St a W w) (g : w.grownBy w1 (some b)) (hb : W.heap.size ≤ b) (ha : a < W.heap.size) : St a W w1 := by
  refine ⟨⟨g.os.trans h.1.os, g.tape.trans h.1.tape, g.output.trans h.1.output, Nat.le_trans h.1.size g.size, fun i hi hia => (g.block i (Nat.lt_of_lt_of_le hi h.1.size) (fun e => by have := Option.some.inj e; omega)).trans (h.1.block i hi hia)⟩, ?_⟩
  obtain ⟨v, n, i, T⟩ := h.2
  have hlt : a < w.heap.size := Nat.lt_of_lt_of_le ha h.1.size
  have hk : w1.heap[a]? = w.heap[a]? := g.block a hlt (fun e => by have := Option.some.inj e; omega)
  refine ⟨v, n, i, (World.cell?_of_block (a := ⟨a, 0, none⟩) hk).trans T.l, (World.cell?_of_block (a := ⟨a, 1, none⟩) hk).trans T.p, (World.frozen?_of_block (a := ⟨a, 1, none⟩) hk).trans T.fr, ?_, T.le, T.len⟩
  obtain ⟨p, c, hv, hc⟩ := T.ints
  refine ⟨p, c, hv, fun hn => ?_⟩
  obtain ⟨b1, off, hp, hb1, hx⟩ := hc hn
  refine ⟨b1, off, hp, hb1, fun i hi => ?_⟩
  obtain ⟨x, hx1, hcell⟩ := hx i hi
  exact ⟨x, hx1, g.cell hcell (fun e => by have : b1 = b := Option.some.inj e; omega)⟩
section
variable {a : Nat} {W w w1 : World} {uR uL vR vL v' : Value} {R : List Rt} {L : List Lk}
set_option maxRecDepth 100000 in
theorem TK.keep (h : TK a W uR uL vR vL R L w) (g : w.grownBy w1 none) : TK a W uR uL vR vL R L w1 :=
  ⟨kept_row h.gb g (by simp), kept_row h.rb g (by simp), h.oR.kept g (by cases hv : vR.ownBlock <;> simp), h.oL.kept g (by cases hv : vL.ownBlock <;> simp), h.ap, h.st.trans ⟨grown_none g _, h.st.2.keep g⟩, Nat.le_trans h.sz g.size⟩
set_option maxRecDepth 100000 in
theorem TK.tape (h : TK a W uR uL vR vL R L w) (ha : a < W.heap.size) (k : St a w w1) : TK a W uR uL vR vL R L w1 :=
  ⟨kept_row h.gb k.1 (fun e => by have := Option.some.inj e; omega), kept_row h.rb k.1 (fun e => by have := Option.some.inj e; omega), own_other h.oR k.1 (by omega), own_other h.oL k.1 (by omega), h.ap, h.st.trans k, Nat.le_trans h.sz k.1.size⟩
set_option maxRecDepth 100000 in
theorem TK.start (hT : Tp w a) : TK a w (.slice none 0 0) (.slice none 0 0) (.slice none 0 0) (.slice none 0 0) [] [] ((w.alloc (.cells #[.slice none 0 0, .slice none 0 0] 59)).alloc (.cells #[.slice none 0 0, .slice none 0 0] 59)) := by
  obtain ⟨k1, k2, k3, _⟩ := two_boxes w #[.slice none 0 0, .slice none 0 0] #[.slice none 0 0, .slice none 0 0] 59 59
  exact ⟨k2, k1, World.ownsRow_nil _ _ _ _, World.ownsRow_nil _ _ _ _, fun g hg => (by cases hg), ⟨grown_none k3 _, hT.keep k3⟩, by simp⟩
set_option maxRecDepth 100000 in
theorem St.rowT {a base size n : Nat} {W w w1 : World} {e : TypeId} {v : Value} {xs : List Value} (h : St a W w) (ho : w.ownsRow base e size v n xs) (hb : W.heap.size ≤ base) (ha : a < W.heap.size) (k : w.grownBy w1 v.ownBlock) : St a W w1 := by
  cases hv : v.ownBlock with
  | none => rw [hv] at k; exact ⟨grown_trans h.1 (grown_none k _), h.2.keep k⟩
  | some g => rw [hv] at k; exact h.storeT k (Nat.le_trans hb (ho.lt g hv).1) ha
set_option maxRecDepth 100000 in
theorem TK.addR {g n cap : Nat} {y : Rt} (h : TK a W uR uL vR vL R L w) (ha : a < W.heap.size) (hown : w1.ownsRow (W.heap.size + 2) 69 2 (.slice (some ⟨g, 0, none⟩) n cap) (R.length + 1) (R.flatMap rtC ++ [.int .i64 y.id, .bool y.cap])) (hg : w.grownBy w1 vR.ownBlock) (hat : vR.ownBlock = some g ∨ g = w.heap.size) :
    TK a W uR uL (.slice (some ⟨g, 0, none⟩) n cap) vL (R ++ [y]) L w1 := by
  have hne : ∀ k, k < W.heap.size + 2 → some k ≠ vR.ownBlock := fun k hk e => by
    have := (h.oR.lt k e.symm).1
    omega
  refine ⟨kept_row h.gb hg (hne _ (by omega)), kept_row h.rb hg (hne _ (by omega)), ?_, h.oL.kept hg ?_, ?_, h.st.rowT h.oR (by omega) ha hg, Nat.le_trans h.sz hg.size⟩
  · rw [List.length_append, List.flatMap_append]; exact hown
  · cases hv : vL.ownBlock with
    | none => exact .inl rfl
    | some k => exact .inr (fun e => h.ap k e.symm hv)
  · intro g2 hg2 e
    obtain rfl : g = g2 := by simpa [Value.ownBlock] using hg2
    rcases hat with hat | hat
    · exact h.ap g hat e
    · have := (h.oL.lt g e).2
      omega
set_option maxRecDepth 100000 in
theorem TK.addL {g n cap : Nat} {y : Lk} (h : TK a W uR uL vR vL R L w) (ha : a < W.heap.size) (hown : w1.ownsRow (W.heap.size + 2) 71 5 (.slice (some ⟨g, 0, none⟩) n cap) (L.length + 1) (L.flatMap lkC ++ [.int .i64 y.a, .int .i64 y.b, .int .i64 y.ca, .int .i64 y.cb, .int .i64 y.cp])) (hg : w.grownBy w1 vL.ownBlock) (hat : vL.ownBlock = some g ∨ g = w.heap.size) :
    TK a W uR uL vR (.slice (some ⟨g, 0, none⟩) n cap) R (L ++ [y]) w1 := by
  have hne : ∀ k, k < W.heap.size + 2 → some k ≠ vL.ownBlock := fun k hk e => by
    have := (h.oL.lt k e.symm).1
    omega
  refine ⟨kept_row h.gb hg (hne _ (by omega)), kept_row h.rb hg (hne _ (by omega)), h.oR.kept hg ?_, ?_, ?_, h.st.rowT h.oL (by omega) ha hg, Nat.le_trans h.sz hg.size⟩
  · cases hv : vR.ownBlock with
    | none => exact .inl rfl
    | some k => exact .inr (fun e => h.ap k hv e.symm)
  · rw [List.length_append, List.flatMap_append]; exact hown
  · intro g2 hg2 e
    obtain rfl : g = g2 := by simpa [Value.ownBlock] using e
    rcases hat with hat | hat
    · exact h.ap g hg2 hat
    · have := (h.oR.lt g hg2).2
      omega
set_option maxRecDepth 100000 in
theorem TK.put0 (h : TK a W uR uL vR vL R L w) (ha : a < W.heap.size) : TK a W vR uL vR vL R L (w.setCell ⟨W.heap.size + 1, 0, none⟩ vR) := by
  have k : w.grownBy (w.setCell ⟨W.heap.size + 1, 0, none⟩ vR) (some (W.heap.size + 1)) := grown_setCell w ⟨W.heap.size + 1, 0, none⟩ vR
  exact ⟨heap_setCell_same w _ 0 _ _ vR h.gb, kept_row h.rb k (fun e => by have : W.heap.size = W.heap.size + 1 := Option.some.inj e; omega), own_other h.oR k (by omega), own_other h.oL k (by omega), h.ap, h.st.storeT k (by omega) ha, Nat.le_trans h.sz k.size⟩
set_option maxRecDepth 100000 in
theorem TK.put1 (h : TK a W uR uL vR vL R L w) (ha : a < W.heap.size) : TK a W uR vL vR vL R L (w.setCell ⟨W.heap.size + 1, 1, none⟩ vL) := by
  have k : w.grownBy (w.setCell ⟨W.heap.size + 1, 1, none⟩ vL) (some (W.heap.size + 1)) := grown_setCell w ⟨W.heap.size + 1, 1, none⟩ vL
  exact ⟨heap_setCell_same w _ 1 _ _ vL h.gb, kept_row h.rb k (fun e => by have : W.heap.size = W.heap.size + 1 := Option.some.inj e; omega), own_other h.oR k (by omega), own_other h.oL k (by omega), h.ap, h.st.storeT k (by omega) ha, Nat.le_trans h.sz k.size⟩
set_option maxRecDepth 100000 in
theorem TK.newL {O : List Lk} (h : TK a W uR uL vR vL R L w) (hown : w1.ownsRow w.heap.size 71 5 v' O.length (O.flatMap lkC)) (g : w.grownBy w1 none) : TK a W uR uL vR v' R O w1 := by
  have h1 := h.keep g
  refine ⟨h1.gb, h1.rb, h1.oR, hown.mono h.sz, fun k hk e => ?_, h1.st, h1.sz⟩
  have := (hown.lt k e).1
  have := (h.oR.lt k hk).2
  omega
set_option maxRecDepth 100000 in
theorem flat_set : ∀ (L : List Lk) (k j : Nat) (x : Int), k < L.length → j < 5 → ∃ L' : List Lk, L'.length = L.length ∧ L'.flatMap lkC = (L.flatMap lkC).set (k * 5 + j) (.int .i64 x)
  | [], k, _, _, hk, _ => absurd hk (Nat.not_lt_zero k)
  | m :: t, 0, j, x, _, hj => by
    rcases (show j = 0 ∨ j = 1 ∨ j = 2 ∨ j = 3 ∨ j = 4 by omega) with rfl | rfl | rfl | rfl | rfl
    · exact ⟨⟨x, m.b, m.ca, m.cb, m.cp⟩ :: t, rfl, rfl⟩
    · exact ⟨⟨m.a, x, m.ca, m.cb, m.cp⟩ :: t, rfl, rfl⟩
    · exact ⟨⟨m.a, m.b, x, m.cb, m.cp⟩ :: t, rfl, rfl⟩
    · exact ⟨⟨m.a, m.b, m.ca, x, m.cp⟩ :: t, rfl, rfl⟩
    · exact ⟨⟨m.a, m.b, m.ca, m.cb, x⟩ :: t, rfl, rfl⟩
  | m :: t, k + 1, j, x, hk, hj => by
    obtain ⟨L', h1, h2⟩ := flat_set t k j x (by simpa using hk) hj
    refine ⟨m :: L', by simp [h1], ?_⟩
    rw [List.flatMap_cons, h2, List.flatMap_cons]
    have e : (k + 1) * 5 + j = (lkC m).length + (k * 5 + j) := by
      show (k + 1) * 5 + j = 5 + (k * 5 + j)
      omega
    rw [e, List.set_append_right _ _ (Nat.le_add_right _ _), Nat.add_sub_cancel_left]
set_option maxRecDepth 100000 in
theorem TK.setL {g n cap k j : Nat} {x : Int} (h : TK a W uR uL vR (.slice (some ⟨g, 0, none⟩) n cap) R L w) (ha : a < W.heap.size) (hk : k < L.length) (hj : j < 5) :
    ∃ L', L'.length = L.length ∧ TK a W uR uL vR (.slice (some ⟨g, 0, none⟩) n cap) R L' (w.setCell ⟨g, k * 5 + j, none⟩ (.int .i64 x)) := by
  obtain ⟨L', hl, hf⟩ := flat_set L k j x hk hj
  obtain ⟨-, -, -⟩ : True ∧ True ∧ True := ⟨trivial, trivial, trivial⟩
  have hg0 := (h.oL.lt g rfl).1
  have hn : n = L.length := by
    obtain ⟨p, c, e, _⟩ := own_shape h.oL
    injection e
  subst hn
  obtain ⟨s1, s2⟩ := h.oL.stored (k * 5 + j) (.int .i64 x)
  refine ⟨L', hl, kept_row h.gb s2 (fun e => by have : W.heap.size + 1 = g := Option.some.inj e; omega), kept_row h.rb s2 (fun e => by have : W.heap.size = g := Option.some.inj e; omega), h.oR.kept s2 ?_, ?_, h.ap, h.st.storeT s2 (by omega) ha, Nat.le_trans h.sz s2.size⟩
  · cases hv : vR.ownBlock with
    | none => exact .inl rfl
    | some k => exact .inr (fun e => h.ap k hv (by rw [e]; rfl))
  · rw [hl, hf]; exact s1
end
/-- What returns a topology of the tape's. -/
def TopoPost (a : Nat) (most : Nat) (n : Int) (w : World) (e : Ending) (w' : World) : Prop :=
  ∃ (R : List Rt) (L : List Lk) (vR vL : Value), e = .returned (.agg #[vR, vL]) ∧ w'.ownsRow w.heap.size 69 2 vR R.length (R.flatMap rtC) ∧ w'.ownsRow w.heap.size 71 5 vL L.length (L.flatMap lkC) ∧ (∀ g, vR.ownBlock = some g → vL.ownBlock ≠ some g) ∧ TopOf most n R L ∧ St a w w'
set_option maxRecDepth 100000 in
theorem tg_of_own {w : World} {base : Nat} {vR vL : Value} {R : List Rt} {L : List Lk} (hR : w.ownsRow base 69 2 vR R.length (R.flatMap rtC)) (hL : w.ownsRow base 71 5 vL L.length (L.flatMap lkC)) :
    ∃ pR cR pL cL, vR = .slice pR R.length cR ∧ vL = .slice pL L.length cL ∧ TgOk w (fun b => base ≤ b ∧ b < w.heap.size) ⟨R, L, pR, cR, pL, cL⟩ := by
  obtain ⟨pR, cR, rfl, h1, h2⟩ := own_shape hR
  obtain ⟨pL, cL, rfl, h3, h4⟩ := own_shape hL
  exact ⟨pR, cR, pL, cL, rfl, rfl, rdf_of_own2 hR, rdf_of_own2 hL, ⟨h1, h2⟩, ⟨h3, h4⟩⟩
end Go.Proofs.Ytnpkihioklpnmaa

/- The tape's Failure: some failure of at most one link or router, in memory of the call's own. -/
namespace Go.Proofs.Ytnpkihioklpnmaa
open Go.RowKit Bs
end Go.Proofs.Ytnpkihioklpnmaa

/- append at a step of a region that draws its order, whatever the source; failures while they grow. -/
namespace Go.Proofs.Ytnpkihioklpnmaa
open Go.RowKit Bs
def tvC (z : Int) : List Value := [tv z]
set_option maxRecDepth 100000 in
theorem flat_tv : ∀ X : List Int, X.flatMap tvC = X.map tv
  | [] => rfl
  | a :: t => by rw [List.flatMap_cons, flat_tv t]; rfl
set_option maxRecDepth 100000 in
theorem tv_one (x : Int) : ∀ u ∈ tvC x, u.oneCell' = true := by
  intro u hu
  simp [tvC, tv] at hu
  subst hu
  rfl
section
variable {a Bf : Nat} {w wr w1 : World} {T : Tg} {q : Nat → Prop} {uH uX vH vX v' : Value} {H H' : List Hp} {X X' : List Int}
end
end Go.Proofs.Ytnpkihioklpnmaa

/- A topology that comes in as an argument. -/
namespace Go.Proofs.Ytnpkihioklpnmaa
open Go.ChangeShapes Go.WideShapes Go.ChangeAt Go.RowKit Go.Joins Bs
section
variable {H : Type} {enc : TypeId × Value → H} {W : World} {base : Nat} {v : Value} {d : DataW H} {ps : List MemPlace}
end
end Go.Proofs.Ytnpkihioklpnmaa

/- A failure that comes in as an argument; failures out of rows. -/
namespace Go.Proofs.Ytnpkihioklpnmaa
open Go.ChangeShapes Go.WideShapes Go.ChangeAt Go.RowKit Go.Joins Bs
section
variable {H : Type} {enc : TypeId × Value → H} {W : World} {base : Nat} {v : Value} {d : DataW H} {ps : List MemPlace}
set_option maxRecDepth 100000 in
theorem rd_of_rdf {w : World} {q : Nat → Prop} {p : Option Addr} {n c : Nat} {xs : List Value} (h : RdF w q (.slice p n c) n xs) (hl : xs.length = n) : Rd w q (.slice p n c) xs := by
  obtain ⟨p1, c1, e, hx⟩ := h
  refine ⟨p1, c1, by rw [hl]; exact e, hx⟩
end
end Go.Proofs.Ytnpkihioklpnmaa

/- The tape's order of links: the links in order, in a block of the call's own. -/
namespace Go.Proofs.Ytnpkihioklpnmaa
open Go.RowKit Bs
/-- While links are ordered. -/
structure OM (w0 : World) (L : List Lk) (p : Option Addr) (c : Nat) (O : List Lk) (v : Value) (w : World) : Prop where
  l : RdL5 w (· < w0.heap.size) (.slice p L.length c) L
  own : w.ownsRow w0.heap.size 71 5 v O.length (O.flatMap lkC)
  gr : w0.grownBy w none
set_option maxRecDepth 100000 in
theorem OM.keep {w0 w w' : World} {L O : List Lk} {p : Option Addr} {c : Nat} {v : Value} (h : OM w0 L p c O v w) (g : w.grownBy w' none) : OM w0 L p c O v w' :=
  ⟨h.l.keep g, h.own.kept g (by cases hv : v.ownBlock <;> simp), grown_trans h.gr g⟩
set_option maxRecDepth 100000 in
theorem OM.cells {w0 w : World} {L O : List Lk} {b off c b3 off3 c3 k j : Nat} {x y : Lk} (h : OM w0 L (some ⟨b, off, none⟩) c O (.slice (some ⟨b3, off3, none⟩) O.length c3) w) (hy : L[k]? = some y) (hx : O[j]? = some x) :
    (w.cell? ⟨b, off + k * 5, none⟩ = some (.int .i64 y.a) ∧ w.cell? ⟨b, off + k * 5 + 1, none⟩ = some (.int .i64 y.b)) ∧ w.cell? ⟨b3, off3 + j * 5, none⟩ = some (.int .i64 x.a) ∧ w.cell? ⟨b3, off3 + j * 5 + 1, none⟩ = some (.int .i64 x.b) := by
  have h1 := (List.getElem?_eq_some_iff.1 hy).1
  have h2 := (List.getElem?_eq_some_iff.1 hx).1
  obtain ⟨-, b', off', e, -, hc⟩ := rdl_cells (L := L) h.l (by omega)
  injection e with e
  injection e with e4 e5
  subst e4
  subst e5
  obtain ⟨-, b', off', e, -, hc3⟩ := rdl_cells (L := O) (rdf_of_own h.own) (by omega)
  injection e with e
  injection e with e4 e5
  subst e4
  subst e5
  exact ⟨⟨(hc k y hy).1, (hc k y hy).2.1⟩, (hc3 j x hx).1, (hc3 j x hx).2.1⟩
set_option maxRecDepth 100000 in
theorem own_formF {w : World} {base size n : Nat} {e : TypeId} {v : Value} {xs : List Value} (h : w.ownsRow base e size v n xs) : (v = .slice none 0 0 ∧ n = 0) ∨ ∃ g cap, v = .slice (some ⟨g, 0, none⟩) n cap ∧ n ≤ cap ∧ cap ≤ 9223372036854775807 := by
  rcases h.2 with ⟨rfl, h0⟩ | ⟨g, cap, cur, rfl, _, _, hn, hm, _⟩
  · exact .inl ⟨rfl, h0⟩
  · unfold maxLen at hm
    exact .inr ⟨g, cap, rfl, hn, by omega⟩
set_option maxRecDepth 100000 in
theorem OM.link {w0 w : World} {L O : List Lk} {b off c k : Nat} {v : Value} {y : Lk} (h : OM w0 L (some ⟨b, off, none⟩) c O v w) (hy : L[k]? = some y) :
    w.cell? ⟨b, off + k * 5, none⟩ = some (.int .i64 y.a) ∧ w.cell? ⟨b, off + k * 5 + 1, none⟩ = some (.int .i64 y.b) ∧ w.cell? ⟨b, off + k * 5 + 2, none⟩ = some (.int .i64 y.ca) ∧ w.cell? ⟨b, off + k * 5 + 3, none⟩ = some (.int .i64 y.cb) ∧ w.cell? ⟨b, off + k * 5 + 4, none⟩ = some (.int .i64 y.cp) := by
  have h1 := (List.getElem?_eq_some_iff.1 hy).1
  obtain ⟨-, b', off', e, -, hc⟩ := rdl_cells (L := L) h.l (by omega)
  injection e with e
  injection e with e4 e5
  subst e4
  subst e5
  exact hc k y hy
set_option maxRecDepth 100000 in
theorem OM.apart {w0 w w1 : World} {L O : List Lk} {p : Option Addr} {c base2 m : Nat} {v v2 : Value} {ys : List Value} (h : OM w0 L p c O v w) (hb : w0.heap.size ≤ base2) (hv : w.ownsRow base2 71 5 v2 m ys) (h3 : ∀ g, v.ownBlock = some g → g < base2) (k : w.grownBy w1 v2.ownBlock) : OM w0 L p c O v w1 :=
  ⟨h.l.grown k (fun b hlt e => by have := (hv.lt b e.symm).1; omega), own_apartF h.own hv h3 k, old_grow h.gr hv hb k⟩
set_option maxRecDepth 100000 in
theorem OM.finish {w0 w w1 : World} {L O O' O2 : List Lk} {p : Option Addr} {c base2 m : Nat} {v v2 v3 : Value} {ys : List Value} (h : OM w0 L p c O v w) (hb : w0.heap.size ≤ base2) (hv : w.ownsRow base2 71 5 v2 m ys) (ho : w1.ownsRow base2 71 5 v3 O2.length (O2.flatMap lkC)) (k : w.grownBy w1 v2.ownBlock) (e : O' = O2) : OM w0 L p c O' v3 w1 := by
  subst e
  exact ⟨h.l.grown k (fun b hlt e => by have := (hv.lt b e.symm).1; omega), ho.mono hb, old_grow h.gr hv hb k⟩
/-- The elements up to j come before y. -/
def Bef (O : List Lk) (y : Lk) (j : Nat) : Prop := ∀ i x, i < j → O[i]? = some x → ltL x y = true
set_option maxRecDepth 100000 in
theorem Bef.succ {O : List Lk} {y x : Lk} {j : Nat} (h : Bef O y j) (hx : O[j]? = some x) (hl : ltL x y = true) : Bef O y (j + 1) := by
  intro i z hi hz
  by_cases hij : i < j
  · exact h i z hij hz
  · obtain rfl : i = j := by omega
    rw [hx] at hz
    obtain rfl := Option.some.inj hz
    exact hl
set_option maxRecDepth 100000 in
set_option maxHeartbeats 6400000 in
theorem ord_any (L : List Lk) (p : Option Addr) (c : Nat) (q : Nat → Prop) (w : World) (hL : RdL5 w q (.slice p L.length c) L) (hm : L.length ≤ 1000) :
    Calls Try.prog 108 #[.slice p L.length c] w fun e w' => ∃ (v : Value), e = .returned v ∧ w'.ownsRow w.heap.size 71 5 v (ordL L).length ((ordL L).flatMap lkC) ∧ w.grownBy w' none := by
  obtain ⟨il, hil, hl0, hl1, hl2⟩ := info_parts info_lk
  have M0 : Hid (OM w L p c (ordL (L.take 0)) (.slice none 0 0) w) := Lib.hid ⟨hL.old, World.ownsRow_nil _ _ _ _, grown_refl _ _⟩
  clear hL
  go_enter Try.func108, Try.ntmps108
  go_wp2_with fail
  go_loopw [3, 4] (fun v a wr => ∃ (k : Nat), k ≤ L.length ∧ a = .int .i64 (k : Int) ∧ Hid (OM w L p c (ordL (L.take k)) v wr)) (fun _ a _ => L.length - (RowKit.intOf a).toNat)
  case atStart => exact ⟨0, Nat.zero_le _, rfl, M0⟩
  case round =>
    obtain ⟨k, hk, rfl, M⟩ := hrel
    clear M0
    by_cases hlt : k < L.length
    · obtain ⟨-, b, off, rfl, hq, -⟩ := rdl_cells (L := L) M.out.l (by omega)
      obtain ⟨y, hy⟩ : ∃ y, L[k]? = some y := ⟨_, List.getElem?_eq_getElem hlt⟩
      have HS := Lib.hid (ordL_take L k y hy)
      have HO : Hid ((ordL (L.take k)).length = k) := Lib.hid (by rw [ordL_len, List.length_take]; omega)
      have hO1 : (ordL (L.take k)).length ≤ 1000 := by rw [HO.out]; omega
      obtain ⟨O, hOd⟩ : ∃ O, O = ordL (L.take k) := ⟨_, rfl⟩
      rw [← hOd] at M HS HO hO1
      clear hOd
      obtain ⟨p3, c3, rfl, h31, h32⟩ := own_shape M.out.own
      have HY := Lib.hid hy
      clear hy
      go_upto_block 2 with fail
      go_cut [5] from 13 to 56 (fun a wi => ∃ j : Nat, j ≤ O.length ∧ a = .int .i64 (j : Int) ∧ Hid (insL O y = O.take j ++ y :: O.drop j ∧ OM w L (some ⟨b, off, none⟩) c O (.slice p3 O.length c3) wi))
      case first =>
        go_wp2_with fail
        go_loopw [5] (fun a wi => ∃ (j : Nat), j ≤ O.length ∧ a = .int .i64 (j : Int) ∧ Hid (Bef O y j ∧ OM w L (some ⟨b, off, none⟩) c O (.slice p3 O.length c3) wi)) (fun a _ => O.length - (RowKit.intOf a).toNat)
        case atStart => exact ⟨0, Nat.zero_le _, rfl, Lib.hid ⟨fun i x hi => by omega, M.out⟩⟩
        case round =>
          obtain ⟨j, hj, rfl, MI⟩ := hrel
          clear M
          by_cases hlt2 : j < O.length
          · obtain ⟨b3, off3, rfl⟩ : ∃ b3 off3, p3 = some ⟨b3, off3, none⟩ := by
              obtain ⟨-, b3, off3, e, -, -⟩ := rdl_cells (L := O) (rdf_of_own MI.out.2.own) (by omega)
              exact ⟨b3, off3, e⟩
            obtain ⟨x, hx⟩ : ∃ x, O[j]? = some x := ⟨_, List.getElem?_eq_getElem hlt2⟩
            obtain ⟨⟨d0, d1⟩, a0, a1⟩ := MI.out.2.cells HY.out hx
            have HX := Lib.hid hx
            clear hx
            have h1j : (0 : Int) ≤ (j : Int) := by omega
            have h2j : (j : Int) < (O.length : Int) := by omega
            have h1k : (0 : Int) ≤ (k : Int) := by omega
            have h2k : (k : Int) < (L.length : Int) := by omega
            by_cases h1 : x.a < y.a
            · have HN : ∀ n, Hid (Bef O y (j + 1) ∧ OM w L (some ⟨b, off, none⟩) c O (.slice (some ⟨b3, off3, none⟩) O.length c3) (wr.drewN n)) := fun n => Lib.hid ⟨MI.out.1.succ HX.out (decide_eq_true (.inl h1)), MI.out.2.keep (grown_drewN _ n _)⟩
              go_wp2_with fail
              go_quiet (fail)
              go_wp2_with fail
              exact ⟨⟨j + 1, by omega, congrArg _ (by omega), HN _⟩, by simp only [RowKit.intOf]; omega⟩
            · have h1' : decide (x.a < y.a) = false := decide_eq_false h1
              by_cases h2 : x.a = y.a
              · by_cases h3 : x.b < y.b
                · have HN : ∀ n, Hid (Bef O y (j + 1) ∧ OM w L (some ⟨b, off, none⟩) c O (.slice (some ⟨b3, off3, none⟩) O.length c3) (wr.drewN n)) := fun n => Lib.hid ⟨MI.out.1.succ HX.out (decide_eq_true (.inr ⟨h2, h3⟩)), MI.out.2.keep (grown_drewN _ n _)⟩
                  go_wp2_with fail
                  go_quiet (fail)
                  go_wp2_with fail
                  exact ⟨⟨j + 1, by omega, congrArg _ (by omega), HN _⟩, by simp only [RowKit.intOf]; omega⟩
                · have h3' : decide (x.b < y.b) = false := decide_eq_false h3
                  have HN : ∀ n, Hid (insL O y = O.take j ++ y :: O.drop j ∧ OM w L (some ⟨b, off, none⟩) c O (.slice (some ⟨b3, off3, none⟩) O.length c3) (wr.drewN n)) := fun n => Lib.hid ⟨insL_at y O j hj MI.out.1 (fun z hz => by rw [HX.out] at hz; obtain rfl := Option.some.inj hz; exact decide_eq_false (by omega)), MI.out.2.keep (grown_drewN _ n _)⟩
                  go_wp2_with fail
                  go_quiet (fail)
                  go_wp2_with fail
                  go_meet
                  exact ⟨j, hj, rfl, HN _⟩
              · have h2' : (x.a == y.a) = false := by simpa using h2
                have HN : ∀ n, Hid (insL O y = O.take j ++ y :: O.drop j ∧ OM w L (some ⟨b, off, none⟩) c O (.slice (some ⟨b3, off3, none⟩) O.length c3) (wr.drewN n)) := fun n => Lib.hid ⟨insL_at y O j hj MI.out.1 (fun z hz => by rw [HX.out] at hz; obtain rfl := Option.some.inj hz; exact decide_eq_false (by omega)), MI.out.2.keep (grown_drewN _ n _)⟩
                go_wp2_with fail
                go_quiet (fail)
                go_wp2_with fail
                go_meet
                exact ⟨j, hj, rfl, HN _⟩
          · obtain rfl : j = O.length := by omega
            have h1' : decide ((O.length : Int) < (O.length : Int)) = false := decide_eq_false (by omega)
            have HN : ∀ n, Hid (insL O y = O.take O.length ++ y :: O.drop O.length ∧ OM w L (some ⟨b, off, none⟩) c O (.slice p3 O.length c3) (wr.drewN n)) := fun n => Lib.hid ⟨insL_at y O O.length hj MI.out.1 (fun z hz => by rw [List.getElem?_eq_none (Nat.le_refl _)] at hz; cases hz), MI.out.2.keep (grown_drewN _ n _)⟩
            go_wp2_with fail
            go_quiet (fail)
            go_wp2_with fail
            go_meet
            exact ⟨O.length, hj, rfl, HN _⟩
      case rest =>
        obtain ⟨j, hj, rfl, HK⟩ := hcut
        clear M
        have HW : Hid (w.heap.size ≤ wc.heap.size) := Lib.hid HK.out.2.gr.size
        obtain ⟨T1, hT1⟩ : ∃ T1, O.take j = T1 := ⟨_, rfl⟩
        obtain ⟨T2, hT2⟩ : ∃ T2, O.drop j = T2 := ⟨_, rfl⟩
        have HI : Hid (insL O y = T1 ++ y :: T2) := Lib.hid (by rw [← hT1, ← hT2]; exact HK.out.1)
        have HJ : Hid (j = T1.length) := Lib.hid (by rw [← hT1, List.length_take]; omega)
        have HJ2 : Hid (O.length - j = T2.length) := Lib.hid (by rw [← hT2, List.length_drop])
        have HT := Lib.hid (And.intro hT1 hT2)
        clear hT1 hT2
        have HB3 : Hid (∀ g, (Value.slice p3 O.length c3).ownBlock = some g → g < wc.heap.size) := Lib.hid (fun g hg => (HK.out.2.own.lt g hg).2)
        rcases own_formF HK.out.2.own with ⟨e, e0⟩ | ⟨g3, cap3, e, hn3, hm3⟩
        · injection e with e1 e2 e3
          subst e1
          subst e3
          obtain rfl := List.eq_nil_of_length_eq_zero e0
          obtain rfl : j = 0 := by simpa using hj
          have HR1 : Hid (RdL5 wc (fun _ => True) (.slice none 0 0) T1) := Lib.hid (by obtain rfl := HT.out.1; exact rdf_nil _ _ _ _)
          go_wp2_with (at_builtin; refine hold_on ?_)
          refine Lib.hid ?_
          refine (wpList_append_f lkC 5 40 (by decide) (fun _ => rfl) lk_one 71 57 il _ Try.underlying57 hil hl0 hl1 hl2 rfl (by decide) rfl _ _ rfl wc.heap.size (.slice none 0 0) [] 0 rfl rfl (World.ownsRow_nil _ _ _ _) _ _ _ T1 rfl HJ.out (by simp) _ HR1.out (by omega) (by rw [← HJ.out]; omega) (Nat.le_refl _) ?_)
          intro v1 w4 hown1 hg1
          have M4 := Lib.hid (HK.out.2.keep hg1)
          have HO1 : Hid (w4.ownsRow wc.heap.size 71 5 v1 T1.length (T1.flatMap lkC)) := Lib.hid hown1
          clear hown1
          obtain ⟨p1, c1, rfl, -, -⟩ := own_shape HO1.out
          have HZ4 := Lib.hid hg1.size
          obtain ⟨d0, d1, d2, d3, d4⟩ := M4.out.link HY.out
          clear hg1 HR1
          go_wp2_with (at_builtin; refine hold_on ?_)
          refine Lib.hid ?_
          refine (wpList_append_f lkC 5 40 (by decide) (fun _ => rfl) lk_one 71 57 il _ Try.underlying57 hil hl0 hl1 hl2 rfl (by decide) rfl _ _ rfl wc.heap.size _ T1 _ rfl rfl (HO1.out.alloc _) _ _ _ [y] rfl rfl (by simp) (fun _ => True) (rdf_one _ trivial (cells5 w4 _ _ _ _ _ _) 1) (by omega) (by rw [← HJ.out]; simp <;> omega) (by have := HZ4.out; simp <;> omega) ?_)
          intro v2 w5 hown2 hg2
          have M5 := Lib.hid ((M4.out.keep (World.grownBy_alloc w4 _ none)).apart HW.out (HO1.out.alloc _) HB3.out hg2)
          obtain ⟨T3, hT3⟩ : ∃ T3, T3 = T1 ++ [y] := ⟨_, rfl⟩
          rw [← hT3] at hown2
          have HO2 := Lib.hid hown2
          have HT3 := Lib.hid hT3
          clear hown2 hT3
          obtain ⟨p2, c2, rfl, -, -⟩ := own_shape HO2.out
          have HZ5 : Hid (wc.heap.size ≤ w5.heap.size) := Lib.hid (Nat.le_trans HZ4.out (Nat.le_trans (by simp) hg2.size))
          clear hg2 d0 d1 d2 d3 d4 M4 HZ4
          have HR3 := Lib.hid ((show RdL5 w5 (fun _ => True) (.slice none 0 0) T2 from by obtain rfl := HT.out.2; exact rdf_nil _ _ _ _))
          go_wp2_with (at_builtin; refine hold_on ?_)
          refine Lib.hid ?_
          refine (wpList_append_f lkC 5 40 (by decide) (fun _ => rfl) lk_one 71 57 il _ Try.underlying57 hil hl0 hl1 hl2 rfl (by decide) rfl _ _ rfl wc.heap.size _ T3 _ rfl rfl HO2.out _ _ _ T2 rfl (by have := HJ2.out; omega) (by simp) _ HR3.out (by omega) (by rw [← HJ2.out, HT3.out, List.length_append, ← HJ.out]; simp <;> omega) HZ5.out ?_)
          intro v3 w6 hown3 hg3
          have M6 : Hid (OM w L (some ⟨b, off, none⟩) c (ordL (L.take (k + 1))) v3 w6) := Lib.hid (M5.out.finish HW.out HO2.out hown3 hg3 (by rw [HS.out, HI.out, HT3.out]; simp))
          clear hown3 hg3 M5 HO2 HO1 HR3
          go_wp2_with fail
          exact ⟨⟨k + 1, by omega, congrArg _ (by omega), M6⟩, by simp only [RowKit.intOf]; omega⟩
        · injection e with e1 e2 e3
          subst e1
          subst e3
          have HR1 : Hid (RdL5 wc (· < wc.heap.size) (.slice (some ⟨g3, 0, none⟩) j c3) T1) := Lib.hid (by rw [← HT.out.1]; exact (RdF.part (f := lkC) (k := 5) (fun _ => rfl) (rdf_of_own2 HK.out.2.own) j hj c3).mono (fun b hb => hb.2))
          by_cases hcj : c3 = j
          · obtain rfl : j = O.length := by omega
            subst hcj
            go_wp2_with (at_builtin; refine hold_on ?_)
            refine Lib.hid ?_
            refine (wpList_append_f lkC 5 40 (by decide) (fun _ => rfl) lk_one 71 57 il _ Try.underlying57 hil hl0 hl1 hl2 rfl (by decide) rfl _ _ rfl wc.heap.size (.slice none 0 0) [] 0 rfl rfl (World.ownsRow_nil _ _ _ _) _ _ _ T1 rfl HJ.out (by simp) _ HR1.out (by omega) (by rw [← HJ.out]; omega) (Nat.le_refl _) ?_)
            intro v1 w4 hown1 hg1
            have M4 := Lib.hid (HK.out.2.keep hg1)
            have HO1 : Hid (w4.ownsRow wc.heap.size 71 5 v1 T1.length (T1.flatMap lkC)) := Lib.hid hown1
            clear hown1
            obtain ⟨p1, c1, rfl, -, -⟩ := own_shape HO1.out
            have HZ4 := Lib.hid hg1.size
            obtain ⟨d0, d1, d2, d3, d4⟩ := M4.out.link HY.out
            clear hg1 HR1
            go_wp2_with (at_builtin; refine hold_on ?_)
            refine Lib.hid ?_
            refine (wpList_append_f lkC 5 40 (by decide) (fun _ => rfl) lk_one 71 57 il _ Try.underlying57 hil hl0 hl1 hl2 rfl (by decide) rfl _ _ rfl wc.heap.size _ T1 _ rfl rfl (HO1.out.alloc _) _ _ _ [y] rfl rfl (by simp) (fun _ => True) (rdf_one _ trivial (cells5 w4 _ _ _ _ _ _) 1) (by omega) (by rw [← HJ.out]; simp <;> omega) (by have := HZ4.out; simp <;> omega) ?_)
            intro v2 w5 hown2 hg2
            have M5 := Lib.hid ((M4.out.keep (World.grownBy_alloc w4 _ none)).apart HW.out (HO1.out.alloc _) HB3.out hg2)
            obtain ⟨T3, hT3⟩ : ∃ T3, T3 = T1 ++ [y] := ⟨_, rfl⟩
            rw [← hT3] at hown2
            have HO2 := Lib.hid hown2
            have HT3 := Lib.hid hT3
            clear hown2 hT3
            obtain ⟨p2, c2, rfl, -, -⟩ := own_shape HO2.out
            have HZ5 : Hid (wc.heap.size ≤ w5.heap.size) := Lib.hid (Nat.le_trans HZ4.out (Nat.le_trans (by simp) hg2.size))
            clear hg2 d0 d1 d2 d3 d4 M4 HZ4
            have HR3 := Lib.hid ((show RdL5 w5 (fun _ => True) (.slice (some ⟨g3, 0, none⟩) 0 0) T2 from by rw [← HT.out.2, List.drop_length]; exact rdf_nil _ _ _ _))
            go_wp2_with (at_builtin; refine hold_on ?_)
            refine Lib.hid ?_
            refine (wpList_append_f lkC 5 40 (by decide) (fun _ => rfl) lk_one 71 57 il _ Try.underlying57 hil hl0 hl1 hl2 rfl (by decide) rfl _ _ rfl wc.heap.size _ T3 _ rfl rfl HO2.out _ _ _ T2 rfl (by have := HJ2.out; omega) (by simp) _ HR3.out (by omega) (by rw [← HJ2.out, HT3.out, List.length_append, ← HJ.out]; simp <;> omega) HZ5.out ?_)
            intro v3 w6 hown3 hg3
            have M6 : Hid (OM w L (some ⟨b, off, none⟩) c (ordL (L.take (k + 1))) v3 w6) := Lib.hid (M5.out.finish HW.out HO2.out hown3 hg3 (by rw [HS.out, HI.out, HT3.out]; simp))
            clear hown3 hg3 M5 HO2 HO1 HR3
            go_wp2_with fail
            exact ⟨⟨k + 1, by omega, congrArg _ (by omega), M6⟩, by simp only [RowKit.intOf]; omega⟩
          · have n0 : ¬ c3 - j = 0 := by omega
            go_wp2_with (at_builtin; refine hold_on ?_)
            refine Lib.hid ?_
            refine (wpList_append_f lkC 5 40 (by decide) (fun _ => rfl) lk_one 71 57 il _ Try.underlying57 hil hl0 hl1 hl2 rfl (by decide) rfl _ _ rfl wc.heap.size (.slice none 0 0) [] 0 rfl rfl (World.ownsRow_nil _ _ _ _) _ _ _ T1 rfl HJ.out (by simp) _ HR1.out (by omega) (by rw [← HJ.out]; omega) (Nat.le_refl _) ?_)
            intro v1 w4 hown1 hg1
            have M4 := Lib.hid (HK.out.2.keep hg1)
            have HO1 : Hid (w4.ownsRow wc.heap.size 71 5 v1 T1.length (T1.flatMap lkC)) := Lib.hid hown1
            clear hown1
            obtain ⟨p1, c1, rfl, -, -⟩ := own_shape HO1.out
            have HZ4 := Lib.hid hg1.size
            obtain ⟨d0, d1, d2, d3, d4⟩ := M4.out.link HY.out
            clear hg1 HR1
            go_wp2_with (at_builtin; refine hold_on ?_)
            refine Lib.hid ?_
            refine (wpList_append_f lkC 5 40 (by decide) (fun _ => rfl) lk_one 71 57 il _ Try.underlying57 hil hl0 hl1 hl2 rfl (by decide) rfl _ _ rfl wc.heap.size _ T1 _ rfl rfl (HO1.out.alloc _) _ _ _ [y] rfl rfl (by simp) (fun _ => True) (rdf_one _ trivial (cells5 w4 _ _ _ _ _ _) 1) (by omega) (by rw [← HJ.out]; simp <;> omega) (by have := HZ4.out; simp <;> omega) ?_)
            intro v2 w5 hown2 hg2
            have M5 := Lib.hid ((M4.out.keep (World.grownBy_alloc w4 _ none)).apart HW.out (HO1.out.alloc _) HB3.out hg2)
            obtain ⟨T3, hT3⟩ : ∃ T3, T3 = T1 ++ [y] := ⟨_, rfl⟩
            rw [← hT3] at hown2
            have HO2 := Lib.hid hown2
            have HT3 := Lib.hid hT3
            clear hown2 hT3
            obtain ⟨p2, c2, rfl, -, -⟩ := own_shape HO2.out
            have HZ5 : Hid (wc.heap.size ≤ w5.heap.size) := Lib.hid (Nat.le_trans HZ4.out (Nat.le_trans (by simp) hg2.size))
            clear hg2 d0 d1 d2 d3 d4 M4 HZ4
            have HR3 := Lib.hid ((show RdL5 w5 _ (.slice (some ⟨g3, j * 5, none⟩) (O.length - j) (c3 - j)) T2 from by rw [← HT.out.2, ← Nat.zero_add (j * 5)]; exact RdF.rest (f := lkC) (k := 5) (fun _ => rfl) (rdf_of_own2 M5.out.own) j (c3 - j)))
            go_wp2_with (at_builtin; refine hold_on ?_)
            refine Lib.hid ?_
            refine (wpList_append_f lkC 5 40 (by decide) (fun _ => rfl) lk_one 71 57 il _ Try.underlying57 hil hl0 hl1 hl2 rfl (by decide) rfl _ _ rfl wc.heap.size _ T3 _ rfl rfl HO2.out _ _ _ T2 rfl (by have := HJ2.out; omega) (by simp) _ HR3.out (by omega) (by rw [← HJ2.out, HT3.out, List.length_append, ← HJ.out]; simp <;> omega) HZ5.out ?_)
            intro v3 w6 hown3 hg3
            have M6 : Hid (OM w L (some ⟨b, off, none⟩) c (ordL (L.take (k + 1))) v3 w6) := Lib.hid (M5.out.finish HW.out HO2.out hown3 hg3 (by rw [HS.out, HI.out, HT3.out]; simp))
            clear hown3 hg3 M5 HO2 HO1 HR3
            go_wp2_with fail
            exact ⟨⟨k + 1, by omega, congrArg _ (by omega), M6⟩, by simp only [RowKit.intOf]; omega⟩
    · obtain rfl : k = L.length := by omega
      rw [List.take_length] at M
      go_wp2_with fail
      go_ret
      exact ⟨_, rfl, M.out.own, M.out.gr⟩
end Go.Proofs.Ytnpkihioklpnmaa
