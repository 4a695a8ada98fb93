/- Parts of the proof, packed: ToWoM, ToLkM, AdM, AdOfM, ToRws, ToUntil, AdStep. -/
import Derived.Test.YtpoocenooomghaaDoorOf6
import Derived.Test.YtpoocenooomghaaDoorOf3
import Derived.Deep.RegionHeld
import Derived.Test.YtpoocenooomghaaDoorOf1
import Derived.Maps.AppendAt
/- What is left of a valid topology is valid. -/
namespace Go.Proofs.YtpoocenooomghaaDoor
open Go.RowKit Bs
set_option maxRecDepth 100000 in
theorem pair_of_asc {α : Type} (f : α → α → Bool) (ht : ∀ x y z, f x y = true → f y z = true → f x z = true) : ∀ l : List α, ascB f l = true → l.Pairwise (fun x z => f x z = true)
  | [], _ => List.Pairwise.nil
  | [a], _ => by simp
  | a :: b :: t, h => by
    rw [ascB, Bool.and_eq_true] at h
    have hp := pair_of_asc f ht (b :: t) h.2
    refine List.pairwise_cons.2 ⟨fun z hz => ?_, hp⟩
    rcases List.mem_cons.1 hz with rfl | hz
    · exact h.1
    · exact ht a b z h.1 ((List.pairwise_cons.1 hp).1 z hz)
set_option maxRecDepth 100000 in
theorem asc_filter {α : Type} (f : α → α → Bool) (ht : ∀ x y z, f x y = true → f y z = true → f x z = true) (g : α → Bool) {l : List α} (h : ascB f l = true) : ascB f (l.filter g) = true :=
  asc_of_pair f _ ((pair_of_asc f ht l h).sublist List.filter_sublist)
set_option maxRecDepth 100000 in
theorem any_filter {α : Type} (p g : α → Bool) {l : List α} (h : l.any p = false) : (l.filter g).any p = false := by
  rw [List.any_eq_false] at h ⊢
  intro x hx
  exact h x (List.mem_filter.1 hx).1
/-- What a valid topology meets. -/
structure OkAll (R : List Rt) (L : List Lk) : Prop where
  l1 : R.length ≤ 24
  l2 : L.length ≤ 60
  id : R.any wrId = false
  rs : ascB ltR R = true
  nm : L.any wrNum = false
  un : L.any (unk R) = false
  en : L.any wrEnd = false
  ls : ascB ltL L = true
set_option maxRecDepth 100000 in
theorem okAll_chk {R : List Rt} {L : List Lk} (h : OkAll R L) : chk R L = 0 := by
  unfold chk
  rw [if_neg (by have := h.l1; have := h.l2; omega), h.id, h.rs, h.nm, h.un, h.en, h.ls]
  rfl
set_option maxRecDepth 100000 in
theorem chk_okAll {R : List Rt} {L : List Lk} (h : chk R L = 0) : OkAll R L := by
  unfold chk at h
  by_cases h1 : 24 < R.length ∨ 60 < L.length
  · rw [if_pos h1] at h; cases h
  rw [if_neg h1] at h
  cases h2 : R.any wrId
  case true => rw [h2] at h; cases h
  cases h3 : ascB ltR R
  case false => rw [h2, h3] at h; cases h
  cases h4 : L.any wrNum
  case true => rw [h2, h3, h4] at h; cases h
  cases h5 : L.any (unk R)
  case true => rw [h2, h3, h4, h5] at h; cases h
  cases h6 : L.any wrEnd
  case true => rw [h2, h3, h4, h5, h6] at h; cases h
  cases h7 : ascB ltL L
  case false => rw [h2, h3, h4, h5, h6, h7] at h; cases h
  exact ⟨by omega, by omega, h2, h3, h4, h5, h6, h7⟩
set_option maxRecDepth 100000 in
theorem ltR_trans (x y z : Rt) (h1 : ltR x y = true) (h2 : ltR y z = true) : ltR x z = true := by
  unfold ltR at *
  have h1 := of_decide_eq_true h1
  have h2 := of_decide_eq_true h2
  exact decide_eq_true (by omega)
set_option maxRecDepth 100000 in
theorem wo_ok (F : Fl) {R : List Rt} {L : List Lk} (h : OkAll R L) : OkAll (woR F R) (woL F L) := by
  refine ⟨Nat.le_trans (List.length_filter_le _ _) h.l1, Nat.le_trans (List.length_filter_le _ _) h.l2, any_filter _ _ h.id, asc_filter _ ltR_trans _ h.rs, any_filter _ _ h.nm, ?_, any_filter _ _ h.en, asc_filter ltL (fun _ _ _ => ltL_trans) _ h.ls⟩
  have hh : ∀ x, hasR R x = true → hasI F.X x = false → hasR (woR F R) x = true := by
    intro x hx hi
    unfold hasR at hx ⊢
    obtain ⟨r, hr, he⟩ := List.any_eq_true.1 hx
    refine List.any_eq_true.2 ⟨r, List.mem_filter.2 ⟨hr, ?_⟩, he⟩
    rw [of_decide_eq_true he, hi]
    rfl
  rw [List.any_eq_false]
  intro l hl hu
  obtain ⟨hl1, hk⟩ := List.mem_filter.1 hl
  have h1 := List.any_eq_false.1 h.un l hl1
  unfold woK at hk
  rw [Bool.and_eq_true, Bool.and_eq_true] at hk
  have ha : hasI F.X l.a = false := by simpa using hk.1
  have hb : hasI F.X l.b = false := by simpa using hk.2.1
  unfold unk at h1 hu
  cases e1 : hasR R l.a
  · rw [e1] at h1; simp at h1
  cases e2 : hasR R l.b
  · rw [e1, e2] at h1; simp at h1
  rw [hh _ e1 ha, hh _ e2 hb] at hu
  simp at hu
set_option maxRecDepth 100000 in
theorem wo_chk (F : Fl) (R : List Rt) (L : List Lk) : chk (if okT R L = true then woR F R else []) (if okT R L = true then woL F L else []) = 0 := by
  by_cases h : okT R L = true
  · rw [if_pos h, if_pos h]
    refine okAll_chk (wo_ok F (chk_okAll ?_))
    unfold okT at h
    simpa using h
  · rw [if_neg h, if_neg h]
    rfl
end Go.Proofs.YtpoocenooomghaaDoor

/- What is looked up in a valid topology: the mathematics. -/
namespace Go.Proofs.YtpoocenooomghaaDoor
open Go.RowKit Bs
set_option maxRecDepth 100000 in
theorem pair_get {α : Type} {f : α → α → Bool} {l : List α} (h : l.Pairwise (fun x z => f x z = true)) {i j : Nat} {x y : α} (hij : i < j) (hx : l[i]? = some x) (hy : l[j]? = some y) : f x y = true := by
  obtain ⟨hi, rfl⟩ := List.getElem?_eq_some_iff.1 hx
  obtain ⟨hj, rfl⟩ := List.getElem?_eq_some_iff.1 hy
  exact List.pairwise_iff_getElem.1 h i j hi hj hij
/-- The router with a number, the first. -/
def capR (R : List Rt) (x : Int) : Bool := match R.find? (fun r => decide (r.id = x)) with
  | some r => r.cap
  | none => false
set_option maxRecDepth 100000 in
theorem bs_router {R : List Rt} {L : List Lk} (ho : OkAll R L) {x : Int} {c b : Bool} {i : Nat} (h : BsP cvR R ⟨x, c⟩ i b) :
    b = hasR R x ∧ (b = true → ∃ r, R[i]? = some r ∧ r.id = x ∧ r.cap = capR R x) := by
  have hp := pair_of_asc ltR ltR_trans R ho.rs
  have key : ∀ j y, R[j]? = some y → y.id = x → i = j := by
    intro j y hy hyx
    have hlt := (List.getElem?_eq_some_iff.1 hy).1
    by_cases h1 : i < j
    · obtain ⟨z, hz⟩ : ∃ z, R[i]? = some z := ⟨_, List.getElem?_eq_getElem (by omega)⟩
      have h2 := h.hi z hz
      have h3 := of_decide_eq_true (show decide (z.id < y.id) = true from pair_get hp h1 hz hy)
      unfold cvR at h2
      have h4 := cmpV_ge.1 h2
      simp only at h4
      omega
    · by_cases h1' : j < i
      · obtain ⟨z, hz⟩ : ∃ z, R[i - 1]? = some z := ⟨_, List.getElem?_eq_getElem (by have := h.le; omega)⟩
        have h2 := h.lo z (by omega) hz
        unfold cvR at h2
        have h4 := cmpV_lt.1 h2
        simp only at h4
        by_cases hj : j = i - 1
        · subst hj
          rw [hz] at hy
          obtain rfl := Option.some.inj hy
          omega
        · have h3 := of_decide_eq_true (show decide (y.id < z.id) = true from pair_get hp (by omega) hy hz)
          omega
      · omega
  have hb : b = true → ∃ r, R[i]? = some r ∧ r.id = x := by
    intro hb
    have he := h.eq
    rw [hb] at he
    cases hr : R[i]? with
    | none => rw [hr] at he; cases he
    | some r =>
      rw [hr] at he
      refine ⟨r, rfl, ?_⟩
      have he2 : cvR r ⟨x, c⟩ = 0 := by simpa using he.symm
      exact cmpV_eq.1 he2
  constructor
  · cases hh : hasR R x
    · cases hbb : b
      · rfl
      · obtain ⟨r, hr, he⟩ := hb hbb
        have : hasR R x = true := List.any_eq_true.2 ⟨r, List.mem_of_getElem? hr, decide_eq_true he⟩
        rw [hh] at this
        cases this
    · obtain ⟨r, hr, he⟩ := List.any_eq_true.1 hh
      obtain ⟨j, hj, hje⟩ := List.mem_iff_getElem.1 hr
      have hjs : R[j]? = some r := by rw [List.getElem?_eq_getElem hj, hje]
      obtain rfl := key j r hjs (of_decide_eq_true he)
      rw [h.eq, hjs]
      have : cvR r ⟨x, c⟩ = 0 := cmpV_eq.2 (of_decide_eq_true he)
      simp [this]
  · intro hbt
    obtain ⟨r, hr, he⟩ := hb hbt
    refine ⟨r, hr, he, ?_⟩
    unfold capR
    cases hf : R.find? (fun r => decide (r.id = x)) with
    | none =>
      have := List.find?_eq_none.1 hf r (List.mem_of_getElem? hr)
      rw [decide_eq_true he] at this
      exact absurd rfl this
    | some r2 =>
      have h2 := List.find?_some hf
      obtain ⟨j, hj, hje⟩ := List.mem_iff_getElem.1 (List.mem_of_find?_eq_some hf)
      have hjs : R[j]? = some r2 := by rw [List.getElem?_eq_getElem hj, hje]
      obtain rfl := key j r2 hjs (of_decide_eq_true h2)
      rw [hr] at hjs
      obtain rfl := Option.some.inj hjs
      rfl
/-- The cost from one router to another, of the first link that joins them. -/
def priceB (a b : Int) (l : Lk) : Option Int := if l.a = a ∧ l.b = b then some l.ca else if l.b = a ∧ l.a = b then some l.cb else none
def priceV (L : List Lk) (a b : Int) : Int × Bool := match L.findSome? (priceB a b) with
  | some c => (c, true)
  | none => (0, false)
set_option maxRecDepth 100000 in
theorem bs_link {R : List Rt} {L : List Lk} (ho : OkAll R L) {x y : Int} {b : Bool} {i : Nat} (h : BsP cvL L ⟨x, y, 0, 0, 0⟩ i b) :
    (b = true → ∃ l, L[i]? = some l ∧ l.a = x ∧ l.b = y) ∧ ∀ l ∈ L, l.a = x → l.b = y → b = true ∧ L[i]? = some l := by
  have hp := pair_of_asc ltL (fun _ _ _ => ltL_trans) L ho.ls
  have hb : b = true → ∃ r, L[i]? = some r ∧ r.a = x ∧ r.b = y := by
    intro hb
    have he := h.eq
    rw [hb] at he
    cases hr : L[i]? with
    | none => rw [hr] at he; cases he
    | some r =>
      rw [hr] at he
      have he2 : cvL r ⟨x, y, 0, 0, 0⟩ = 0 := by simpa using he.symm
      exact ⟨r, rfl, cmpL_eq.1 he2⟩
  refine ⟨hb, ?_⟩
  intro l hl hx hy
  obtain ⟨j, hj, hje⟩ := List.mem_iff_getElem.1 hl
  have hjs : L[j]? = some l := by rw [List.getElem?_eq_getElem hj, hje]
  have e : i = j := by
    by_cases h1 : i < j
    · obtain ⟨z, hz⟩ : ∃ z, L[i]? = some z := ⟨_, List.getElem?_eq_getElem (by omega)⟩
      have h2 := cmpL_ge.1 (show 0 ≤ cmpL z ⟨x, y, 0, 0, 0⟩ from h.hi z hz)
      have h3 := pair_get hp h1 hz hjs
      unfold ltL at h2 h3
      have h2 := of_decide_eq_false h2
      have h3 := of_decide_eq_true h3
      simp only at h2
      omega
    · by_cases h1' : j < i
      · obtain ⟨z, hz⟩ : ∃ z, L[i - 1]? = some z := ⟨_, List.getElem?_eq_getElem (by have := h.le; omega)⟩
        have h2 : ltL z ⟨x, y, 0, 0, 0⟩ = true := by
          cases hl2 : ltL z ⟨x, y, 0, 0, 0⟩ with
          | true => rfl
          | false =>
            have := cmpL_ge.2 hl2
            have h5 : cmpL z ⟨x, y, 0, 0, 0⟩ < 0 := h.lo z (by omega) hz
            omega
        unfold ltL at h2
        have h2 := of_decide_eq_true h2
        simp only at h2
        by_cases hj2 : j = i - 1
        · subst hj2
          rw [hz] at hjs
          obtain rfl := Option.some.inj hjs
          omega
        · have h3 := pair_get hp (show j < i - 1 by omega) hjs hz
          unfold ltL at h3
          have h3 := of_decide_eq_true h3
          omega
      · omega
  subst e
  refine ⟨?_, hjs⟩
  rw [h.eq, hjs]
  have : cvL l ⟨x, y, 0, 0, 0⟩ = 0 := cmpL_eq.2 ⟨hx, hy⟩
  simp [this]
set_option maxRecDepth 100000 in
theorem ends_lt {R : List Rt} {L : List Lk} (ho : OkAll R L) : ∀ l ∈ L, l.a < l.b := by
  intro l hl
  have h := List.any_eq_false.1 ho.en l hl
  unfold wrEnd at h
  have h2 : ¬ l.b ≤ l.a := fun hc => h (decide_eq_true hc)
  omega
set_option maxRecDepth 100000 in
/-- What Cost returns, by where the binary search has ended. -/
theorem bs_cost {R : List Rt} {L : List Lk} (ho : OkAll R L) {x y : Int} {b : Bool} {i : Nat} (h : BsP cvL L ⟨min x y, max x y, 0, 0, 0⟩ i b) :
    (b = false → priceV L x y = (0, false)) ∧ (b = true → ∃ l, L[i]? = some l ∧ priceV L x y = (if x < y then l.ca else l.cb, true)) := by
  obtain ⟨h1, h2⟩ := bs_link ho h
  have he := ends_lt ho
  constructor
  · intro hb
    unfold priceV
    have : L.findSome? (priceB x y) = none := by
      rw [List.findSome?_eq_none_iff]
      intro l hl
      have hlt := he l hl
      unfold priceB
      have n1 : ¬ (l.a = x ∧ l.b = y) := fun hc => by
        have := (h2 l hl (by omega) (by omega)).1
        rw [hb] at this; cases this
      have n2 : ¬ (l.b = x ∧ l.a = y) := fun hc => by
        have := (h2 l hl (by omega) (by omega)).1
        rw [hb] at this; cases this
      rw [if_neg n1, if_neg n2]
    rw [this]
  · intro hb
    obtain ⟨l, hl, ha, hbb⟩ := h1 hb
    refine ⟨l, hl, ?_⟩
    have hlt := he l (List.mem_of_getElem? hl)
    have hxy : x ≠ y := by omega
    have hall : ∀ m ∈ L, ∀ c, priceB x y m = some c → m = l := by
      intro m hm c hc
      unfold priceB at hc
      have hmlt := he m hm
      have hends : m.a = min x y ∧ m.b = max x y := by
        by_cases k1 : m.a = x ∧ m.b = y
        · omega
        · rw [if_neg k1] at hc
          by_cases k2 : m.b = x ∧ m.a = y
          · omega
          · rw [if_neg k2] at hc; cases hc
      have := (h2 m hm hends.1 hends.2).2
      rw [hl] at this
      exact (Option.some.inj this).symm
    have hval : priceB x y l = some (if x < y then l.ca else l.cb) := by
      unfold priceB
      by_cases hlt2 : x < y
      · rw [if_pos (by omega), if_pos hlt2]
      · rw [if_neg (by omega), if_pos (by omega), if_neg hlt2]
    unfold priceV
    cases hf : L.findSome? (priceB x y) with
    | none =>
      have := List.findSome?_eq_none_iff.1 hf l (List.mem_of_getElem? hl)
      rw [hval] at this; cases this
    | some c =>
      obtain ⟨m, hm, hmc⟩ := List.exists_of_findSome?_eq_some hf
      obtain rfl := hall m hm c hmc
      rw [hval] at hmc
      obtain rfl := Option.some.inj hmc
      rfl
/-- The neighbours of a router, in the order of the routers. -/
def nearR (R : List Rt) (L : List Lk) (x : Int) : List Int := (R.filter fun r => (priceV L x r.id).2).map (·.id)
set_option maxRecDepth 100000 in
theorem eq_of_asc : ∀ {l m : List Int}, l.Pairwise (· < ·) → m.Pairwise (· < ·) → (∀ x, x ∈ l ↔ x ∈ m) → l = m
  | [], [], _, _, _ => rfl
  | [], b :: m, _, _, h => by have := (h b).2 (by simp); cases this
  | a :: l, [], _, _, h => by have := (h a).1 (by simp); cases this
  | a :: l, b :: m, hl, hm, h => by
    obtain ⟨h1, h2⟩ := List.pairwise_cons.1 hl
    obtain ⟨h3, h4⟩ := List.pairwise_cons.1 hm
    have e : a = b := by
      have ha := (h a).1 (by simp)
      have hb := (h b).2 (by simp)
      rcases List.mem_cons.1 ha with ha | ha
      · exact ha
      rcases List.mem_cons.1 hb with hb | hb
      · exact hb.symm
      have := h1 b hb
      have := h3 a ha
      omega
    subst e
    congr 1
    refine eq_of_asc h2 h4 fun x => ?_
    constructor
    · intro hx
      rcases List.mem_cons.1 ((h x).1 (List.mem_cons_of_mem _ hx)) with rfl | hx2
      · have := h1 x hx; omega
      · exact hx2
    · intro hx
      rcases List.mem_cons.1 ((h x).2 (List.mem_cons_of_mem _ hx)) with rfl | hx2
      · have := h3 x hx; omega
      · exact hx2
set_option maxRecDepth 100000 in
theorem nb1_mem (x y : Int) (l : Lk) : y ∈ nb1 x l ↔ (l.b = x ∧ y = l.a) ∨ (l.a = x ∧ y = l.b) := by
  unfold nb1
  rw [List.mem_append]
  by_cases h1 : l.b = x <;> by_cases h2 : l.a = x <;> simp [h1, h2]
set_option maxRecDepth 100000 in
theorem price_ok (L : List Lk) (x y : Int) : (priceV L x y).2 = true ↔ ∃ l ∈ L, (l.b = x ∧ y = l.a) ∨ (l.a = x ∧ y = l.b) := by
  unfold priceV
  cases hf : L.findSome? (priceB x y) with
  | none =>
    simp only
    constructor
    · intro h; cases h
    · rintro ⟨l, hl, h⟩
      have := List.findSome?_eq_none_iff.1 hf l hl
      unfold priceB at this
      by_cases k1 : l.a = x ∧ l.b = y
      · rw [if_pos k1] at this; cases this
      · rw [if_neg k1] at this
        by_cases k2 : l.b = x ∧ l.a = y
        · rw [if_pos k2] at this; cases this
        · omega
  | some c =>
    simp only
    refine ⟨fun _ => ?_, fun _ => by trivial⟩
    obtain ⟨m, hm, hmc⟩ := List.exists_of_findSome?_eq_some hf
    refine ⟨m, hm, ?_⟩
    unfold priceB at hmc
    by_cases k1 : m.a = x ∧ m.b = y
    · exact .inr ⟨k1.1, k1.2.symm⟩
    · rw [if_neg k1] at hmc
      by_cases k2 : m.b = x ∧ m.a = y
      · exact .inl ⟨k2.1, k2.2.symm⟩
      · rw [if_neg k2] at hmc; cases hmc
set_option maxRecDepth 100000 in
theorem near_eq {R : List Rt} {L : List Lk} (ho : OkAll R L) (x : Int) : nbL L x = nearR R L x := by
  have he := ends_lt ho
  have hp := pair_of_asc ltL (fun _ _ _ => ltL_trans) L ho.ls
  have hr := pair_of_asc ltR ltR_trans R ho.rs
  refine eq_of_asc ?_ ?_ fun y => ?_
  · unfold nbL
    rw [List.pairwise_flatMap]
    refine ⟨fun l hl => ?_, ?_⟩
    · have := he l hl
      unfold nb1
      by_cases h1 : l.b = x <;> by_cases h2 : l.a = x <;> simp [h1, h2]
      omega
    · refine List.Pairwise.imp_of_mem ?_ hp
      intro l m hl hm hlm u hu v hv
      have h1 := he l hl
      have h2 := he m hm
      unfold ltL at hlm
      have h3 := of_decide_eq_true hlm
      rcases (nb1_mem x u l).1 hu with hu | hu <;> rcases (nb1_mem x v m).1 hv with hv | hv <;> omega
  · unfold nearR
    rw [List.pairwise_map]
    exact (hr.sublist List.filter_sublist).imp (fun h => of_decide_eq_true h)
  · unfold nbL nearR
    rw [List.mem_flatMap, List.mem_map]
    constructor
    · rintro ⟨l, hl, hy⟩
      have hy := (nb1_mem x y l).1 hy
      have hk := List.any_eq_false.1 ho.un l hl
      unfold unk at hk
      have hak : hasR R l.a = true ∧ hasR R l.b = true := by
        cases e1 : hasR R l.a <;> cases e2 : hasR R l.b <;> rw [e1, e2] at hk <;> simp at hk ⊢
      have hyr : hasR R y = true := by
        rcases hy with hy | hy
        · rw [hy.2]; exact hak.1
        · rw [hy.2]; exact hak.2
      obtain ⟨r, hr2, hid⟩ := List.any_eq_true.1 hyr
      have hid := of_decide_eq_true hid
      refine ⟨r, List.mem_filter.2 ⟨hr2, ?_⟩, hid⟩
      rw [hid]
      exact (price_ok L x y).2 ⟨l, hl, hy⟩
    · rintro ⟨r, hr2, rfl⟩
      obtain ⟨l, hl, h⟩ := (price_ok L x r.id).1 (List.mem_filter.1 hr2).2
      exact ⟨l, hl, (nb1_mem x r.id l).2 h⟩
end Go.Proofs.YtpoocenooomghaaDoor

/- Adverts: their values, where they lie, when they are valid. -/
namespace Go.Proofs.YtpoocenooomghaaDoor
open Go.RowKit Bs
/-- Three numbers: a link or a claim of an advert. -/
structure T3 where
  a : Int
  b : Int
  c : Int
deriving DecidableEq
def t3C (x : T3) : List Value := [.int .i64 x.a, .int .i64 x.b, .int .i64 x.c]
/-- An advert, and where its lists lie. -/
structure Ad where
  r : Int
  q : Int
  cp : Bool
  L : List T3
  C : List T3
  pL : Option Addr
  cL : Nat
  pC : Option Addr
  cC : Nat
def Ad.val (A : Ad) : Value := .agg #[.int .i64 A.r, .int .i64 A.q, .bool A.cp, .slice A.pL A.L.length A.cL, .slice A.pC A.C.length A.cC]
abbrev Rd3 (w : World) (q : Nat → Prop) (v : Value) (l : List T3) : Prop := RdF w q v l.length (l.flatMap t3C)
structure AdOk (w : World) (q : Nat → Prop) (A : Ad) : Prop where
  l : Rd3 w q (.slice A.pL A.L.length A.cL) A.L
  c : Rd3 w q (.slice A.pC A.C.length A.cC) A.C
  hl : A.L.length ≤ A.cL ∧ A.cL ≤ 9223372036854775807
  hc : A.C.length ≤ A.cC ∧ A.cC ≤ 9223372036854775807
set_option maxRecDepth 100000 in
theorem AdOk.grown {w w' : World} {q : Nat → Prop} {A : Ad} {r : Option Nat} (h : AdOk w q A) (g : w.grownBy w' r) (hq : ∀ b, q b → some b ≠ r) : AdOk w' q A := ⟨h.l.grown g hq, h.c.grown g hq, h.hl, h.hc⟩
set_option maxRecDepth 100000 in
theorem AdOk.keep {w w' : World} {q : Nat → Prop} {A : Ad} (h : AdOk w q A) (g : w.grownBy w' none) : AdOk w' q A := h.grown g (fun _ _ => by simp)
set_option maxRecDepth 100000 in
theorem AdOk.mono {w : World} {q q' : Nat → Prop} {A : Ad} (h : AdOk w q A) (hq : ∀ b, q b → q' b) : AdOk w q' A := ⟨h.l.mono hq, h.c.mono hq, h.hl, h.hc⟩
set_option maxRecDepth 100000 in
theorem rd3_cells {w : World} {q : Nat → Prop} {p : Option Addr} {n c : Nat} {l : List T3} (h : Rd3 w q (.slice p n c) l) (hn : 0 < l.length) :
    n = l.length ∧ ∃ b off, p = some ⟨b, off, none⟩ ∧ q b ∧ ∀ i x, l[i]? = some x → w.cell? ⟨b, off + i * 3, none⟩ = some (.int .i64 x.a) ∧ w.cell? ⟨b, off + i * 3 + 1, none⟩ = some (.int .i64 x.b) ∧ w.cell? ⟨b, off + i * 3 + 2, none⟩ = some (.int .i64 x.c) := by
  obtain ⟨h0, b, off, hp, hq, hc⟩ := RdF.cells (f := t3C) (k := 3) (fun _ => rfl) (by decide) h hn
  exact ⟨h0, b, off, hp, hq, fun i x hi => ⟨hc i x hi 0 _ rfl, hc i x hi 1 _ rfl, hc i x hi 2 _ rfl⟩⟩
set_option maxRecDepth 100000 in
theorem rd3_at {w : World} {q : Nat → Prop} {b off n c k : Nat} {l : List T3} {x : T3} (h : Rd3 w q (.slice (some ⟨b, off, none⟩) n c) l) (hx : l[k]? = some x) :
    w.cell? ⟨b, off + k * 3, none⟩ = some (.int .i64 x.a) ∧ w.cell? ⟨b, off + k * 3 + 1, none⟩ = some (.int .i64 x.b) ∧ w.cell? ⟨b, off + k * 3 + 2, none⟩ = some (.int .i64 x.c) := by
  obtain ⟨-, b', o', e, -, hc⟩ := rd3_cells h (by have := (List.getElem?_eq_some_iff.1 hx).1; omega)
  injection e with e
  injection e with e1 e2
  subst e1
  subst e2
  exact hc k x hx
/-! When an advert is valid. -/
def okRe (r last : Int) (x : T3) : Bool := decide (last < x.a ∧ x.a ≤ 99 ∧ x.a ≠ r ∧ (1 ≤ x.b ∧ x.b ≤ 1000) ∧ 0 ≤ x.c ∧ x.c ≤ 1000)
def vRe (r : Int) : Int → List T3 → Bool
  | _, [] => true
  | last, x :: t => okRe r last x && vRe r x.a t
def okCm (last : Int) (x : T3) : Bool := decide (last < x.a ∧ x.a ≤ 7 ∧ (1 ≤ x.b ∧ x.b ≤ 256) ∧ (x.c = 8 ∨ x.c = 16 ∨ x.c = 32 ∨ x.c = 64))
def vCm : Int → List T3 → Bool
  | _, [] => true
  | last, x :: t => okCm last x && vCm x.a t
def vHd (A : Ad) : Bool := decide ((1 ≤ A.r ∧ A.r ≤ 99) ∧ (1 ≤ A.q ∧ A.q ≤ 1000000) ∧ A.L.length ≤ 23)
def vClaims (C : List T3) : Bool := decide (C.length ≤ 8) && vCm (-1) C
def vAd (A : Ad) : Bool := vHd A && (vRe A.r 0 A.L && vClaims A.C)
/-- What came before the k-th. -/
def lastA (d : Int) (l : List T3) (k : Nat) : Int := match (l.take k).getLast? with
  | some x => x.a
  | none => d
set_option maxRecDepth 100000 in
theorem lastA_zero (d : Int) (l : List T3) : lastA d l 0 = d := by unfold lastA; rw [List.take_zero]; rfl
set_option maxRecDepth 100000 in
theorem lastA_succ {d : Int} {l : List T3} {k : Nat} {x : T3} (h : l[k]? = some x) : lastA d l (k + 1) = x.a := by
  unfold lastA
  rw [List.take_add_one, h]
  simp
set_option maxRecDepth 100000 in
theorem drop_at {l : List T3} {k : Nat} {x : T3} (h : l[k]? = some x) : l.drop k = x :: l.drop (k + 1) := by
  obtain ⟨h1, h2⟩ := List.getElem?_eq_some_iff.1 h
  rw [List.drop_eq_getElem_cons h1, h2]
set_option maxRecDepth 100000 in
theorem vRe_step {r d : Int} {l : List T3} {k : Nat} {x : T3} (h : l[k]? = some x) : vRe r (lastA d l k) (l.drop k) = (okRe r (lastA d l k) x && vRe r (lastA d l (k + 1)) (l.drop (k + 1))) := by
  rw [drop_at h, lastA_succ h]
  rfl
set_option maxRecDepth 100000 in
theorem vCm_step {d : Int} {l : List T3} {k : Nat} {x : T3} (h : l[k]? = some x) : vCm (lastA d l k) (l.drop k) = (okCm (lastA d l k) x && vCm (lastA d l (k + 1)) (l.drop (k + 1))) := by
  rw [drop_at h, lastA_succ h]
  rfl
set_option maxRecDepth 100000 in
theorem vRe_end {r d : Int} {l : List T3} : vRe r (lastA d l l.length) (l.drop l.length) = true := by rw [List.drop_length]; rfl
set_option maxRecDepth 100000 in
theorem vCm_end {d : Int} {l : List T3} : vCm (lastA d l l.length) (l.drop l.length) = true := by rw [List.drop_length]; rfl
end Go.Proofs.YtpoocenooomghaaDoor

/- advert.Of: what a router advertises of its links; the program's list is the reference's. The mathematics. -/
namespace Go.Proofs.YtpoocenooomghaaDoor
open Go.RowKit Bs
def re1 (x : Int) (l : Lk) : List T3 := (if l.b = x then [⟨l.a, l.cb, l.cp⟩] else []) ++ (if l.a = x then [⟨l.b, l.ca, l.cp⟩] else [])
/-- What a router advertises of its links. -/
def reL (L : List Lk) (x : Int) : List T3 := L.flatMap (re1 x)
set_option maxRecDepth 100000 in
theorem reL_snoc {L : List Lk} {k : Nat} {l : Lk} (x : Int) (h : L[k]? = some l) : reL (L.take (k + 1)) x = reL (L.take k) x ++ re1 x l := by
  unfold reL
  rw [List.take_add_one, h]
  simp
set_option maxRecDepth 100000 in
theorem re1_len (x : Int) (l : Lk) : (re1 x l).length ≤ 2 := by
  unfold re1
  split <;> split <;> simp
set_option maxRecDepth 100000 in
theorem reL_len (x : Int) : ∀ L : List Lk, (reL L x).length ≤ 2 * L.length
  | [] => by simp [reL]
  | l :: L => by
    have h1 := re1_len x l
    have h2 := reL_len x L
    unfold reL at *
    rw [List.flatMap_cons, List.length_append, List.length_cons]
    omega
set_option maxRecDepth 100000 in
theorem re1_ids (x : Int) (l : Lk) : (re1 x l).map (·.a) = nb1 x l := by
  unfold re1 nb1
  rw [List.map_append]
  split <;> split <;> rfl
set_option maxRecDepth 100000 in
theorem reL_ids (L : List Lk) (x : Int) : (reL L x).map (·.a) = nbL L x := by
  unfold reL nbL
  rw [List.map_flatMap]
  exact congrArg (fun f => List.flatMap f L) (funext fun l => re1_ids x l)
/-- Is this the link between two routers, as the reference looks for it? -/
def isLk (x y : Int) (l : Lk) : Bool := decide (l.a = min x y) && decide (l.b = max x y)
/-- The capacity as the reference finds it: of the last such link among the first k. -/
def capK (L : List Lk) (x y : Int) (k : Nat) : Int := (L.take k).foldl (fun c l => if isLk x y l then l.cp else c) 0
set_option maxRecDepth 100000 in
theorem capK_zero (L : List Lk) (x y : Int) : capK L x y 0 = 0 := by unfold capK; rw [List.take_zero]; rfl
set_option maxRecDepth 100000 in
theorem capK_succ {L : List Lk} {k : Nat} {l : Lk} (x y : Int) (h : L[k]? = some l) : capK L x y (k + 1) = if isLk x y l then l.cp else capK L x y k := by
  unfold capK
  rw [List.take_add_one, h]
  simp
set_option maxRecDepth 100000 in
theorem foldl_none (x y : Int) : ∀ (L : List Lk) (c : Int), (∀ m ∈ L, isLk x y m = false) → L.foldl (fun c l => if isLk x y l then l.cp else c) c = c
  | [], _, _ => rfl
  | l :: L, c, h => by
    rw [List.foldl_cons, h l List.mem_cons_self]
    exact foldl_none x y L c fun m hm => h m (List.mem_cons_of_mem _ hm)
set_option maxRecDepth 100000 in
theorem foldl_one (x y : Int) (l : Lk) : ∀ (L : List Lk) (c : Int), l ∈ L → isLk x y l = true → (∀ m ∈ L, isLk x y m = true → m = l) → L.foldl (fun c l => if isLk x y l then l.cp else c) c = l.cp
  | [], _, h, _, _ => by cases h
  | m :: L, c, hm, h1, hu => by
    rw [List.foldl_cons]
    by_cases h2 : ∃ k ∈ L, isLk x y k = true
    · obtain ⟨k, hk, hkl⟩ := h2
      obtain rfl := hu k (List.mem_cons_of_mem _ hk) hkl
      exact foldl_one x y k L _ hk h1 fun n hn => hu n (List.mem_cons_of_mem _ hn)
    · have hml : m = l := by
        rcases List.mem_cons.1 hm with e | hm
        · exact e.symm
        · exact absurd ⟨l, hm, h1⟩ h2
      subst hml
      rw [if_pos h1]
      refine foldl_none x y L _ fun k hk => ?_
      cases e : isLk x y k
      · rfl
      · exact absurd ⟨k, hk, e⟩ h2
/-- The reference's entry for a neighbour. -/
def refE (L : List Lk) (x y : Int) : T3 := ⟨y, (priceV L x y).1, capK L x y L.length⟩
set_option maxRecDepth 100000 in
theorem pair_mem {α : Type} {R : α → α → Prop} (hR : ∀ a b, R a b → R b a → False) : ∀ {l : List α}, l.Pairwise R → ∀ a ∈ l, ∀ b ∈ l, a = b ∨ R a b ∨ R b a
  | [], _, a, ha, _, _ => by cases ha
  | c :: l, h, a, ha, b, hb => by
    obtain ⟨h1, h2⟩ := List.pairwise_cons.1 h
    rcases List.mem_cons.1 ha with ea | ka <;> rcases List.mem_cons.1 hb with eb | kb
    · exact .inl (ea.trans eb.symm)
    · rw [ea]; exact .inr (.inl (h1 b kb))
    · rw [eb]; exact .inr (.inr (h1 a ka))
    · exact pair_mem hR h2 a ka b kb
set_option maxRecDepth 100000 in
theorem link_uniq {R : List Rt} {L : List Lk} (ho : OkAll R L) {l m : Lk} (hl : l ∈ L) (hm : m ∈ L) (h1 : l.a = m.a) (h2 : l.b = m.b) : l = m := by
  have hp := pair_of_asc ltL (fun _ _ _ => ltL_trans) L ho.ls
  rcases pair_mem (fun a b h3 h4 => by unfold ltL at h3 h4; have h3 := of_decide_eq_true h3; have h4 := of_decide_eq_true h4; omega) hp l hl m hm with e | e | e
  · exact e
  · unfold ltL at e; have e := of_decide_eq_true e; omega
  · unfold ltL at e; have e := of_decide_eq_true e; omega
set_option maxRecDepth 100000 in
theorem isLk_iff {x y : Int} {l : Lk} : isLk x y l = true ↔ l.a = min x y ∧ l.b = max x y := by
  unfold isLk
  rw [Bool.and_eq_true, decide_eq_true_eq, decide_eq_true_eq]
set_option maxRecDepth 100000 in
theorem ent_ok {R : List Rt} {L : List Lk} (ho : OkAll R L) (x : Int) {z : T3} (hz : z ∈ reL L x) : refE L x z.a = z := by
  have he := ends_lt ho
  unfold reL at hz
  obtain ⟨l, hl, hz⟩ := List.mem_flatMap.1 hz
  have h1 := he l hl
  have hcase : (l.b = x ∧ z = ⟨l.a, l.cb, l.cp⟩) ∨ (l.a = x ∧ z = ⟨l.b, l.ca, l.cp⟩) := by
    unfold re1 at hz
    rw [List.mem_append] at hz
    by_cases h1 : l.b = x <;> by_cases h2 : l.a = x <;> simp [h1, h2] at hz ⊢ <;> first | exact hz | exact .inl hz | exact .inr hz
  have hcap : ∀ y, isLk x y l = true → capK L x y L.length = l.cp := fun y hy => by
    unfold capK
    rw [List.take_length]
    refine foldl_one x y l L 0 hl hy fun m hm hml => ?_
    have a1 := isLk_iff.1 hy
    have a2 := isLk_iff.1 hml
    exact link_uniq ho hm hl (a2.1.trans a1.1.symm) (a2.2.trans a1.2.symm)
  have hpr : ∀ y c, priceB x y l = some c → (∀ m ∈ L, ∀ d, priceB x y m = some d → m = l) → (priceV L x y).1 = c := fun y c h2 h3 => by
    unfold priceV
    cases hf : L.findSome? (priceB x y) with
    | none => rw [List.findSome?_eq_none_iff.1 hf l hl] at h2; cases h2
    | some d =>
      obtain ⟨m, hm, hmc⟩ := List.exists_of_findSome?_eq_some hf
      obtain rfl := h3 m hm d hmc
      rw [hmc] at h2
      exact Option.some.inj h2
  have hpm : ∀ y m d, priceB x y m = some d → (m.a = x ∧ m.b = y) ∨ (m.b = x ∧ m.a = y) := fun y m d h2 => by
    unfold priceB at h2
    by_cases k1 : m.a = x ∧ m.b = y
    · exact .inl k1
    · rw [if_neg k1] at h2
      by_cases k2 : m.b = x ∧ m.a = y
      · exact .inr k2
      · rw [if_neg k2] at h2; cases h2
  rcases hcase with ⟨e, rfl⟩ | ⟨e, rfl⟩
  · subst e
    unfold refE
    simp only
    rw [hcap l.a (isLk_iff.2 (by omega)), hpr l.a l.cb (by unfold priceB; rw [if_neg (by omega), if_pos ⟨rfl, rfl⟩]) fun m hm d hd => ?_]
    have h2 := he m hm
    rcases hpm _ m d hd with h3 | h3
    · omega
    · exact link_uniq ho hm hl h3.2 h3.1
  · subst e
    unfold refE
    simp only
    rw [hcap l.b (isLk_iff.2 (by omega)), hpr l.b l.ca (by unfold priceB; rw [if_pos ⟨rfl, rfl⟩]) fun m hm d hd => ?_]
    have h2 := he m hm
    rcases hpm _ m d hd with h3 | h3
    · exact link_uniq ho hm hl h3.1 h3.2
    · omega
set_option maxRecDepth 100000 in
/-- The reference's list is the program's. -/
theorem ref_reL {R : List Rt} {L : List Lk} (ho : OkAll R L) (x : Int) : (nearR R L x).map (refE L x) = reL L x := by
  rw [← near_eq ho, ← reL_ids, List.map_map]
  refine (List.map_congr_left fun z hz => ?_).trans (List.map_id _)
  exact ent_ok ho x hz
end Go.Proofs.YtpoocenooomghaaDoor

/- Rows of structs: parts of them, and append. -/
namespace Go.Proofs.YtpoocenooomghaaDoor
open Go.RowKit Bs
set_option maxRecDepth 100000 in
/-- A walk stops here. -/
theorem hold_on {p : Prop} (h : Hid p) : p := h.out
set_option maxRecDepth 100000 in
theorem flat_drop {α : Type} (f : α → List Value) (k : Nat) (hf : ∀ x, (f x).length = k) : ∀ (l : List α) (j : Nat), (l.drop j).flatMap f = (l.flatMap f).drop (j * k)
  | [], j => by simp
  | a :: t, 0 => by simp
  | a :: t, j + 1 => by
    rw [List.drop_succ_cons, flat_drop f k hf t j, List.flatMap_cons, Nat.add_mul, Nat.one_mul, Nat.add_comm, ← List.drop_drop, List.drop_append_of_le_length (by rw [hf]; exact Nat.le_refl _), ← hf a, List.drop_length, List.nil_append]
set_option maxRecDepth 100000 in
theorem flat_take {α : Type} (f : α → List Value) (k : Nat) (hf : ∀ x, (f x).length = k) : ∀ (l : List α) (j : Nat), (l.take j).flatMap f = (l.flatMap f).take (j * k)
  | [], j => by simp
  | a :: t, 0 => by simp
  | a :: t, j + 1 => by
    rw [List.take_succ_cons, List.flatMap_cons, flat_take f k hf t j, List.flatMap_cons, List.take_append, hf, List.take_of_length_le (l := f a) (by rw [hf, Nat.add_mul]; omega), Nat.add_mul, Nat.one_mul, Nat.add_sub_cancel]
set_option maxRecDepth 100000 in
theorem RdF.part {α : Type} {f : α → List Value} {k : Nat} (hf : ∀ x, (f x).length = k) {w : World} {q : Nat → Prop} {p : Option Addr} {c : Nat} {l : List α} (h : RdF w q (.slice p l.length c) l.length (l.flatMap f)) (j : Nat) (hj : j ≤ l.length) (c' : Nat) :
    RdF w q (.slice p j c') (l.take j).length ((l.take j).flatMap f) := by
  obtain ⟨p1, c1, e1, hx⟩ := h
  injection e1 with a1 a2 a3
  subst a1
  have hlen : (l.take j).length = j := by rw [List.length_take]; omega
  rw [hlen]
  refine ⟨p, c', rfl, fun hne => ?_⟩
  rw [flat_take f k hf] at hne ⊢
  obtain ⟨b, off, hp, hq, hc⟩ := hx (by intro e; rw [e] at hne; simp at hne)
  refine ⟨b, off, hp, hq, fun i x hi => hc i x ?_⟩
  rw [List.getElem?_take] at hi
  split at hi
  · exact hi
  · cases hi
set_option maxRecDepth 100000 in
theorem RdF.rest {α : Type} {f : α → List Value} {k : Nat} (hf : ∀ x, (f x).length = k) {w : World} {q : Nat → Prop} {b off c : Nat} {l : List α} (h : RdF w q (.slice (some ⟨b, off, none⟩) l.length c) l.length (l.flatMap f)) (j : Nat) (c' : Nat) :
    RdF w q (.slice (some ⟨b, off + j * k, none⟩) (l.length - j) c') (l.drop j).length ((l.drop j).flatMap f) := by
  obtain ⟨p1, c1, e1, hx⟩ := h
  injection e1 with a1 a2 a3
  subst a1
  have hlen : (l.drop j).length = l.length - j := by rw [List.length_drop]
  rw [hlen]
  refine ⟨_, c', rfl, fun hne => ?_⟩
  rw [flat_drop f k hf] at hne ⊢
  obtain ⟨b1, off1, hp, hq, hc⟩ := hx (by intro e; rw [e] at hne; simp at hne)
  injection hp with hp
  injection hp with hb ho
  subst hb
  subst ho
  refine ⟨b, off + j * k, rfl, hq, fun i x hi => ?_⟩
  rw [List.getElem?_drop] at hi
  rw [Nat.add_assoc]
  exact hc _ x hi
set_option maxRecDepth 100000 in
theorem rdf_news {w : World} {q : Nat → Prop} {ad : Addr} {n c m : Nat} {xs : List Value} (hR : RdF w q (.slice (some ad) n c) m xs) : ∀ j u, xs[j]? = some u → w.cell? (ad.add j) = some u := by
  intro j u hj
  obtain ⟨p1, c1, e1, hx⟩ := hR
  injection e1 with a1 a2 a3
  subst a1
  obtain ⟨b, off, hp, hq, hc⟩ := hx (by intro e; rw [e] at hj; simp at hj)
  injection hp with hp
  subst hp
  rw [add_plain]
  exact hc j u hj
set_option maxRecDepth 100000 in
theorem rdf_one {w : World} {b off n : Nat} {xs : List Value} (q : Nat → Prop) (hq : q b) (h : ∀ j u, xs[j]? = some u → w.cell? ((⟨b, off, none⟩ : Addr).add j) = some u) (c : Nat) : RdF w q (.slice (some ⟨b, off, none⟩) n c) n xs :=
  ⟨_, c, rfl, fun _ => ⟨b, off, rfl, hq, fun i x hi => by have := h i x hi; rw [add_plain] at this; exact this⟩⟩
set_option maxRecDepth 100000 in
theorem wpList_append_f {α : Type} (f : α → List Value) (size bytes : Nat) (hsz : 0 < size) (hf : ∀ x, (f x).length = size) (hone : ∀ x, ∀ u ∈ f x, u.oneCell' = true) (e t : TypeId) (i : TypeInfo) (z : Value)
    (ht : Tryd.prog.underlying t = some (.slice e)) (hi : Tryd.prog.info? e = some i) (hz : i.zero = some z) (hsize : i.size = size) (hby : i.bytes = bytes) (hzs : z.cells.size = size) (hb40 : bytes ≤ 1000)
    {w : World} {ops : Array Oper} {rest : List Oper} {o : Oper} {a : Act} {Q : Exit → Act → World → Prop} (hgd : o.guard = none) (s x : Operand)
    (ho : o.op = .call { callee := .builtin .append, args := #[s, x], argTypes := #[t, t] }) (base : Nat) (v : Value) (l : List α) (n : Nat) (hn : n = l.length) (hs : a.eval s = v) (hown : w.ownsRow base e size v n (l.flatMap f))
    (p : Option Addr) (k c : Nat) (r : List α) (hx : a.eval x = .slice p k c) (hk : k = r.length) (hn0 : p = none → c = 0) (q : Nat → Prop) (hR : RdF w q (.slice p k c) r.length (r.flatMap f)) (hkc : k ≤ c) (h63 : n + r.length ≤ 100000) (hbase : base ≤ w.heap.size)
    (h : ∀ v' w', w'.ownsRow base e size v' (l ++ r).length ((l ++ r).flatMap f) → w.grownBy w' v.ownBlock → wpList Tryd.prog ops Q rest (a.put o.dst v') w') : wpList Tryd.prog ops Q (o :: rest) a w := by
  subst hn
  cases p with
  | none =>
    obtain rfl := hn0 rfl
    have hr : r.length = 0 := by omega
    obtain rfl := List.eq_nil_of_length_eq_zero hr
    obtain rfl : k = 0 := hk
    refine wpList_append_own_none hgd s x t ho base e i size ht hi v l.length (l.flatMap f) hs hown hx ?_
    refine h v w ?_ (grown_refl _ _)
    rw [List.append_nil]; exact hown
  | some ad =>
    have hb2 : (l.length + k) * bytes ≤ 140737488355328 := Nat.le_trans (Nat.mul_le_mul (show l.length + k ≤ 100000 by omega) hb40) (by decide)
    refine wpList_append_own w hgd s x t ho base e i z size bytes ht hi hz hsize hby hzs hsz v l.length (l.flatMap f) hs hown ad k c (r.flatMap f) hx (by rw [flat_len f size hf, hk]) (rdf_news hR) ?_ (by unfold maxLen; omega) hb2 hbase ?_
    · intro u hu
      obtain ⟨y, _, hy⟩ := List.mem_flatMap.1 hu
      exact hone y u hy
    · intro v' w' h1 h2 _
      refine h v' w' ?_ h2
      rw [List.length_append, List.flatMap_append, ← hk]; exact h1
set_option maxRecDepth 100000 in
theorem own_apartF {w w1 : World} {base base2 size size2 : Nat} {e e2 : TypeId} {v v2 : Value} {n m : Nat} {xs ys : List Value} (h : w.ownsRow base e size v n xs) (hv : w.ownsRow base2 e2 size2 v2 m ys) (hg : ∀ g, v.ownBlock = some g → g < base2) (k : w.grownBy w1 v2.ownBlock) : w1.ownsRow base e size v n xs := by
  refine h.kept k ?_
  cases hb : v.ownBlock with
  | none => exact .inl rfl
  | some g =>
    refine .inr fun e => ?_
    have := (hv.lt g e.symm).1
    have := hg g hb
    omega
set_option maxRecDepth 100000 in
theorem old_grow {w w1 : World} {base2 size2 : Nat} {e2 : TypeId} {v2 : Value} {m : Nat} {ys : List Value} {W : World} (g : W.grownBy w none) (hv : w.ownsRow base2 e2 size2 v2 m ys) (hb : W.heap.size ≤ base2) (k : w.grownBy w1 v2.ownBlock) : W.grownBy w1 none :=
  grown_any g k (fun b hlt e => by have := (hv.lt b e.symm).1; omega)
set_option maxRecDepth 100000 in
theorem lk_one (x : Lk) : ∀ u ∈ lkC x, u.oneCell' = true := by
  intro u hu
  simp [lkC] at hu
  rcases hu with rfl | rfl | rfl | rfl | rfl <;> rfl
set_option maxRecDepth 100000 in
theorem rt_one (x : Rt) : ∀ u ∈ rtC x, u.oneCell' = true := by
  intro u hu
  simp [rtC] at hu
  rcases hu with rfl | rfl <;> rfl
end Go.Proofs.YtpoocenooomghaaDoor

/- A region that draws its order: loads are taken first although a late operation writes their cells; what they want of the world holds until then. -/
namespace Go.Proofs.YtpoocenooomghaaDoor
open Go
section
variable {P : Program} {ops : Array Oper} {Q : Exit → Act → World → Prop} {md : Region.Mode} {S : World → Prop} {late : Nat → Bool}
/-- Any order from here on; S holds behind whatever is not late. -/
def anyU (P : Program) (md : Region.Mode) (ops : Array Oper) (Q : Exit → Act → World → Prop) (S : World → Prop) (late : Nat → Bool) : Nat → Array Bool → Act → World → Prop
  | 0, seen, a, w => Region.ready md ops seen = [] ∧ Q .normal a w
  | n + 1, seen, a, w => (Region.ready md ops seen = [] → Q .normal a w) ∧
      ∀ k, k ∈ Region.ready md ops seen → wpOp P ops Q k (fun b v => (late k = false → S v) ∧ anyU P md ops Q S late n (seen.setIfInBounds k true) b v) a w
set_option maxRecDepth 100000 in
theorem anyU_any (n : Nat) : ∀ (seen : Array Bool) (a : Act) (w : World), anyU P md ops Q S late n seen a w → wpAny P md ops Q n seen a w := by
  induction n with
  | zero => intro seen a w h; exact h
  | succ n ih => intro seen a w h; exact ⟨h.1, fun k hk => wpOp_mono (fun b v hb => ih _ b v hb.2) (h.2 k hk)⟩
/-- Number j waits for number i, perhaps by way of others. -/
def reach (md : Region.Mode) (ops : Array Oper) : Nat → Nat → Nat → Bool
  | 0, _, _ => false
  | n + 1, j, i => match ops[j]? with
    | some o => o.after.any fun e => Region.binds md e && (e.on == i || reach md ops n e.on i)
    | none => false
/-- Whatever is late waits for number i. -/
def waits (md : Region.Mode) (ops : Array Oper) (late : Nat → Bool) (i : Nat) : Bool :=
  (List.range ops.size).all fun j => !late j || reach md ops ops.size j i
/-- What has come up has come up behind all that it waits for. -/
def Shut1 (md : Region.Mode) (ops : Array Oper) (seen : Array Bool) : Prop :=
  ∀ (j : Nat) (o : Oper), ops[j]? = some o → seen.getD j false = true → ∀ e ∈ o.after, Region.binds md e = true → seen.getD e.on false = true
def shut1 (md : Region.Mode) (ops : Array Oper) (seen : Array Bool) : Bool :=
  (List.range ops.size).all fun j => !seen.getD j false || (match ops[j]? with
    | some o => o.after.all fun e => !Region.binds md e || seen.getD e.on false
    | none => true)
set_option maxRecDepth 100000 in
theorem shut1_spec {seen : Array Bool} (h : shut1 md ops seen = true) : Shut1 md ops seen := by
  intro j o ho hj e he hb
  unfold shut1 at h
  rw [List.all_eq_true] at h
  have h1 := h j (List.mem_range.2 (Array.getElem?_eq_some_iff.1 ho).1)
  rw [hj, ho] at h1
  simp only [Bool.not_true, Bool.false_or] at h1
  rw [Array.all_eq_true_iff_forall_mem] at h1
  have h2 := h1 e he
  rw [hb] at h2
  simpa using h2
set_option maxRecDepth 100000 in
theorem Shut1.step {seen : Array Bool} {j : Nat} (h : Shut1 md ops seen) (hj : j ∈ Region.ready md ops seen) : Shut1 md ops (seen.setIfInBounds j true) := by
  intro k o ho hk e he hb
  by_cases hjk : j = k
  · subst hjk
    obtain ⟨_, o2, ho2, hall⟩ := mem_ready.1 hj
    rw [ho] at ho2
    obtain rfl := Option.some.inj ho2
    exact getD_set_true (hall e he hb)
  · rw [getD_set_ne false hjk] at hk
    exact getD_set_true (h k o ho hk e he hb)
set_option maxRecDepth 100000 in
theorem reach_seen {seen : Array Bool} (hc : Shut1 md ops seen) (i : Nat) : ∀ (n j : Nat) (o : Oper), ops[j]? = some o → (∀ e ∈ o.after, Region.binds md e = true → seen.getD e.on false = true) → reach md ops n j i = true → seen.getD i false = true := by
  intro n
  induction n with
  | zero => intro j o _ _ h; cases h
  | succ n ih =>
    intro j o ho hall h
    unfold reach at h
    rw [ho] at h
    simp only at h
    rw [Array.any_eq_true'] at h
    obtain ⟨e, he, hb⟩ := h
    rw [Bool.and_eq_true, Bool.or_eq_true] at hb
    have h1 := hall e he hb.1
    rcases hb.2 with h2 | h2
    · have : e.on = i := by simpa using h2
      rwa [this] at h1
    · cases ho2 : ops[e.on]? with
      | none =>
        cases n with
        | zero => cases h2
        | succ n =>
          unfold reach at h2
          rw [ho2] at h2
          cases h2
      | some o2 => exact ih e.on o2 ho2 (hc e.on o2 ho2 h1) h2
set_option maxRecDepth 100000 in
theorem waits_seen {seen : Array Bool} {i j : Nat} (hw : waits md ops late i = true) (hc : Shut1 md ops seen) (hj : j ∈ Region.ready md ops seen) (hl : late j = true) : seen.getD i false = true := by
  obtain ⟨_, o, ho, hall⟩ := mem_ready.1 hj
  unfold waits at hw
  rw [List.all_eq_true] at hw
  have h1 := hw j (List.mem_range.2 (Array.getElem?_eq_some_iff.1 ho).1)
  rw [hl] at h1
  exact reach_seen hc i _ j o ho hall (by simpa using h1)
set_option maxRecDepth 100000 in
theorem anyU_first {i : Nat} {oi : Oper} {v : Value} (hi : ops[i]? = some oi) (hsel : ∀ (j : Nat) (o : Oper) cs b, ops[j]? = some o → o.op ≠ .select cs b)
    (hQ : ∀ c a w, Q (.panic c) (a.put oi.dst v) w → Q (.panic c) a w) (hw : waits md ops late i = true) (n : Nat) :
    ∀ (seen : Array Bool) (a : Act) (w : World),
      (∀ j oj, ops[j]? = some oj → j ≠ i → seen.getD j true = false → (∀ e ∈ oj.after, Region.binds md e = true → e.on ≠ i) → oi.apart ops oj = true) →
      Shut1 md ops seen → i ∈ Region.ready md ops seen → YieldsIf P ops S oi v a → S w → anyU P md ops Q S late n (seen.setIfInBounds i true) (a.put oi.dst v) w → anyU P md ops Q S late (n + 1) seen a w := by
  have now : ∀ (m : Nat) (seen : Array Bool) (a : Act) (w : World), YieldsIf P ops S oi v a → S w → anyU P md ops Q S late m (seen.setIfInBounds i true) (a.put oi.dst v) w →
      wpOp P ops Q i (fun b u => (late i = false → S u) ∧ anyU P md ops Q S late m (seen.setIfInBounds i true) b u) a w := fun m seen a w hy hS h => hy.wpOp hi hS ⟨fun _ => hS, h⟩
  induction n with
  | zero =>
    intro seen a w _ _ hr hy hS h
    refine ⟨fun e => (by rw [e] at hr; cases hr), fun j hj => ?_⟩
    by_cases e : j = i
    · exact e ▸ now 0 seen a w hy hS h
    · have := ready_mono hj e
      rw [h.1] at this
      cases this
  | succ n ih =>
    intro seen a w hf hc hr hy hS h
    refine ⟨fun e => (by rw [e] at hr; cases hr), fun j hj => ?_⟩
    by_cases e : j = i
    · exact e ▸ now (n + 1) seen a w hy hS h
    obtain ⟨hun, oj, hoj, hall⟩ := mem_ready.1 hj
    have hno : ∀ e ∈ oj.after, Region.binds md e = true → e.on ≠ i := fun e he hb hei => by
      have h1 := hall e he hb
      have h0 := (mem_ready.1 hr).1
      rw [hei] at h1
      by_cases hlt : i < seen.size
      · simp [hlt] at h0 h1
        rw [h0] at h1
        cases h1
      · simp [Array.getElem?_eq_none (Nat.le_of_not_lt hlt)] at h1
    have hl : late j = false := by
      cases hl : late j with
      | false => rfl
      | true =>
        have h1 := waits_seen hw hc hj hl
        have h0 := (mem_ready.1 hr).1
        by_cases hlt : i < seen.size
        · simp [hlt] at h0 h1
          rw [h0] at h1
          cases h1
        · simp [Array.getElem?_eq_none (Nat.le_of_not_lt hlt)] at h1
    refine wpOp_mono (fun b u hb => ⟨hb.2.1, ih _ b u (fun k ok hk hki hsk hnk => hf k ok hk hki ?_ hnk) (hc.step hj) (ready_mono hr (Ne.symm e)) hb.1 (hb.2.1 hl) (by rw [Array.setIfInBounds_comm _ _ e]; exact hb.2.2)⟩)
      (wpOp_putIf hoj (hf j oj hoj e hun hno) (fun cs b => hsel i oi cs b hi) (fun cs b => hsel j oj cs b hoj) hQ hy (h.2 j (ready_mono hj e)))
    by_cases hjk : j = k
    · exact hjk ▸ hun
    · rwa [getD_set_ne true hjk] at hsk
set_option maxRecDepth 100000 in
theorem anyU_take {i : Nat} {oi : Oper} {v : Value} {n : Nat} {seen : Array Bool} {a : Act} {w : World} (hi : ops[i]? = some oi) (hw : waits md ops late i = true)
    (hc : shut1 md ops seen = true) (hs : Region.noSelect ops = true) (hf : Region.free md ops seen i = true) (hr : (Region.ready md ops seen).contains i = true)
    (hQ : ∀ c a w, Q (.panic c) (a.put oi.dst v) w → Q (.panic c) a w) (hy : YieldsIf P ops S oi v a) (hS : S w)
    (h : anyU P md ops Q S late n (seen.setIfInBounds i true) (a.put oi.dst v) w) : anyU P md ops Q S late (n + 1) seen a w :=
  anyU_first hi (Region.noSelect_spec hs) hQ hw n seen a w (Region.free_spec hi hf) (shut1_spec hc) (by simpa using hr) hy hS h
/-- Each of some operations comes up next. -/
def EachU (P : Program) (md : Region.Mode) (ops : Array Oper) (Q : Exit → Act → World → Prop) (S : World → Prop) (late : Nat → Bool) (n : Nat) (seen : Array Bool) (a : Act) (w : World) (rs : List Nat) : Prop :=
  ∀ k ∈ rs, wpOp P ops Q k (fun b v => (late k = false → S v) ∧ anyU P md ops Q S late n (seen.setIfInBounds k true) b v) a w
set_option maxRecDepth 100000 in
theorem EachU.nil {n : Nat} {seen : Array Bool} {a : Act} {w : World} : EachU P md ops Q S late n seen a w [] := fun _ h => by cases h
set_option maxRecDepth 100000 in
theorem EachU.cons {n : Nat} {seen : Array Bool} {a : Act} {w : World} {i : Nat} {o : Oper} {rs : List Nat} (ho : ops[i]? = some o)
    (h : ∀ K : Act → World → Prop, Shut (∀ b v, (late i = false → S v) → ((late i = false → S v) → anyU P md ops Q S late n (seen.setIfInBounds i true) b v) → K b v) → if Region.wanted o (yielded ops a.tmps) = true then Oper.wp P o a w K Q else K (a.put o.dst undef) w)
    (hs : EachU P md ops Q S late n seen a w rs) : EachU P md ops Q S late n seen a w (i :: rs) := fun j hj => by
  rcases List.mem_cons.1 hj with rfl | hj
  · exact wpOp_step ho (fun K hK => h K (fun b v hS hW => hK b v ⟨hS, hW hS⟩))
  · exact hs j hj
set_option maxRecDepth 100000 in
theorem anyU_ready {rs : List Nat} {n : Nat} {seen : Array Bool} {a : Act} {w : World} (hr : Region.ready md ops seen = rs) (hne : rs ≠ []) (h : EachU P md ops Q S late n seen a w rs) : anyU P md ops Q S late (n + 1) seen a w :=
  ⟨fun e => absurd (hr ▸ e) hne, hr ▸ h⟩
set_option maxRecDepth 100000 in
theorem anyU_done {seen : Array Bool} {a : Act} {w : World} (hr : Region.ready md ops seen = []) (h : Q .normal a w) (n : Nat) : anyU P md ops Q S late n seen a w := by
  cases n with
  | zero => exact ⟨hr, h⟩
  | succ n => exact ⟨fun _ => h, by rw [hr]; intro k hk; cases hk⟩
set_option maxRecDepth 100000 in
theorem region_until {id : Nat} {a : Act} {w : World} (late : Nat → Bool) (hm : P.follows .mixedOrders = true) (hS : S w.drew) (h : S w.drew → anyU P .any ops Q S late ops.size (Array.replicate ops.size false) a w.drew) :
    (Code.region id ops true).wp P Q a w := wp_region_any hm (anyU_any _ _ _ _ (h hS))
end
end Go.Proofs.YtpoocenooomghaaDoor

/- append at a step of a region that draws its order; rows of links and claims of adverts. -/
namespace Go.Proofs.YtpoocenooomghaaDoor
open Go.RowKit Bs
set_option maxRecDepth 100000 in
theorem astep_app {α : Type} (f : α → List Value) (size bytes : Nat) (hsz : 0 < size) (hf : ∀ x, (f x).length = size) (hone : ∀ x, ∀ u ∈ f x, u.oneCell' = true) (e t : TypeId) (i : TypeInfo) (z : Value)
    (ht : Tryd.prog.underlying t = some (.slice e)) (hi : Tryd.prog.info? e = some i) (hz : i.zero = some z) (hsize : i.size = size) (hby : i.bytes = bytes) (hzs : z.cells.size = size) (hb40 : bytes ≤ 1000)
    {w : World} {ops : Array Oper} {o : Oper} {a : Act} {K : Act → World → Prop} {Q : Exit → Act → World → Prop} {E : Prop} (hgd : o.guard = none) (s x : Operand)
    (ho : o.op = .call { callee := .builtin .append, args := #[s, x], argTypes := #[t, t] }) (base : Nat) (v : Value) (l : List α) (hs : a.eval s = v) (hown : w.ownsRow base e size v l.length (l.flatMap f))
    (p : Option Addr) (k c : Nat) (r : List α) (hx : a.eval x = .slice p k c) (hk : k = r.length) (hn0 : p = none → c = 0) (q : Nat → Prop) (hR : RdF w q (.slice p k c) r.length (r.flatMap f)) (hkc : k ≤ c) (h63 : l.length + r.length ≤ 100000) (hbase : base ≤ w.heap.size)
    (h : ∀ p' c' w', w'.ownsRow base e size (.slice p' (l.length + r.length) c') (l ++ r).length ((l ++ r).flatMap f) → w.grownBy w' v.ownBlock → ((Value.slice p' (l.length + r.length) c').ownBlock = v.ownBlock ∨ (Value.slice p' (l.length + r.length) c').ownBlock = some w.heap.size) → K (a.put o.dst (.slice p' (l.length + r.length) c')) w') :
    if Region.wanted o (yielded ops a.tmps) = true then Oper.wp Tryd.prog o a w K Q else E := by
  have hw : Region.wanted o (yielded ops a.tmps) = true := by simp [Region.wanted, hgd]
  rw [if_pos hw]
  cases p with
  | none =>
    obtain rfl := hn0 rfl
    have hr : r.length = 0 := by omega
    obtain rfl := List.eq_nil_of_length_eq_zero hr
    obtain rfl : k = 0 := hk
    have hrun := run_append_owned_none (P := Tryd.prog) (w := w) base t o.type e i size ht hi v l.length (l.flatMap f) hown
    obtain ⟨p', c', rfl, -, -⟩ := own_shape hown
    unfold Oper.wp
    simp [execOp, ho, resolve, invoke, builtin, hs, hx, hrun, Result.andThen]
    refine h p' c' w ?_ (grown_refl _ _) (.inl rfl)
    rw [List.append_nil]
    exact hown
  | some ad =>
    have hb2 : (l.length + k) * bytes ≤ 140737488355328 := Nat.le_trans (Nat.mul_le_mul (show l.length + k ≤ 100000 by omega) hb40) (by decide)
    obtain ⟨v', w', hr, h2, h3, _, h5⟩ := run_append_own_at (P := Tryd.prog) w base t o.type e i z size bytes ht hi hz hsize hby hzs hsz v l.length (l.flatMap f) hown ad k c (r.flatMap f) (by rw [flat_len f size hf, hk]) (rdf_news hR) (by
      intro u hu
      obtain ⟨y, _, hy⟩ := List.mem_flatMap.1 hu
      exact hone y u hy) (by unfold maxLen; omega) hb2 hbase
    subst hk
    obtain ⟨p', c', rfl, -, -⟩ := own_shape h2
    unfold Oper.wp execOp
    simp only [ho, resolve, invoke, builtin, Sem.run_bind, Sem.run_pure, Result.andThen_ok, List.map_toArray, List.map_cons, List.map_nil, hs, hx, hr]
    refine h p' c' w' ?_ h3 h5
    rw [List.length_append, List.flatMap_append]
    exact h2
set_option maxRecDepth 100000 in
theorem info_re : (Tryd.prog.info? 70).map (fun i => (i.zero, i.size, i.bytes)) = some (some (.agg #[.int .i64 0, .int .i64 0, .int .i64 0]), 3, 24) := by kernel_rfl
set_option maxRecDepth 100000 in
theorem info_cm : (Tryd.prog.info? 73).map (fun i => (i.zero, i.size, i.bytes)) = some (some (.agg #[.int .i64 0, .int .i64 0, .int .i64 0]), 3, 24) := by kernel_rfl
set_option maxRecDepth 100000 in
theorem t3_one (x : T3) : ∀ u ∈ t3C x, u.oneCell' = true := by
  intro u hu
  simp [t3C] at hu
  rcases hu with rfl | rfl | rfl <;> rfl
set_option maxRecDepth 100000 in
theorem cells3 (w : World) (x y z : Value) (t : TypeId) : ∀ j u, [x, y, z][j]? = some u → (w.alloc (.cells #[x, y, z] t)).cell? ((⟨w.heap.size, 0, none⟩ : Addr).add j) = some u := by
  intro j u hj
  rw [add_plain]
  have hb := heap_alloc_new w (.cells #[x, y, z] t)
  rcases j with _ | _ | _ | j
  · cases hj; exact cell_of_row _ _ _ _ _ _ hb
  · cases hj; exact cell_of_row _ _ _ _ _ _ hb
  · cases hj; exact cell_of_row _ _ _ _ _ _ hb
  · simp at hj
set_option maxRecDepth 100000 in
theorem own_otherA {w w' : World} {base size n b : Nat} {e : TypeId} {v : Value} {xs : List Value} (h : w.ownsRow base e size v n xs) (g : w.grownBy w' (some b)) (hb : b < base) : w'.ownsRow base e size v n xs := by
  refine h.kept g ?_
  cases hv : v.ownBlock with
  | none => exact .inl rfl
  | some x =>
    refine .inr fun e => ?_
    have := (h.lt x hv).1
    have := Option.some.inj e
    omega
end Go.Proofs.YtpoocenooomghaaDoor
