/- Parts of the proof, packed: ToWoM, ToLkM, ToLook, ToLookC. -/
import Derived.Test.YtiencdgmnkphjaaLok6
import Derived.Test.YtiencdgmnkphjaaLok15
/- What is left of a valid topology is valid. -/
namespace Go.Proofs.Ytiencdgmnkphjaa
open Go.RowKit Bs
theorem pair_of_asc {α : Type} (f : α → α → Bool) (ht : ∀ x y z, f x y = true → f y z = true → f x z = true) : ∀ l : List α, ascB f l = true → l.Pairwise (fun x z => f x z = true)
  | [], _ => List.Pairwise.nil
  | [a], _ => by simp
  | a :: b :: t, h => by
    rw [ascB, Bool.and_eq_true] at h
    have hp := pair_of_asc f ht (b :: t) h.2
    refine List.pairwise_cons.2 ⟨fun z hz => ?_, hp⟩
    rcases List.mem_cons.1 hz with rfl | hz
    · exact h.1
    · exact ht a b z h.1 ((List.pairwise_cons.1 hp).1 z hz)
theorem asc_filter {α : Type} (f : α → α → Bool) (ht : ∀ x y z, f x y = true → f y z = true → f x z = true) (g : α → Bool) {l : List α} (h : ascB f l = true) : ascB f (l.filter g) = true :=
  asc_of_pair f _ ((pair_of_asc f ht l h).sublist List.filter_sublist)
theorem any_filter {α : Type} (p g : α → Bool) {l : List α} (h : l.any p = false) : (l.filter g).any p = false := by
  rw [List.any_eq_false] at h ⊢
  intro x hx
  exact h x (List.mem_filter.1 hx).1
/-- What a valid topology meets. -/
structure OkAll (R : List Rt) (L : List Lk) : Prop where
  l1 : R.length ≤ 24
  l2 : L.length ≤ 60
  id : R.any wrId = false
  rs : ascB ltR R = true
  nm : L.any wrNum = false
  un : L.any (unk R) = false
  en : L.any wrEnd = false
  ls : ascB ltL L = true
theorem okAll_chk {R : List Rt} {L : List Lk} (h : OkAll R L) : chk R L = 0 := by
  unfold chk
  rw [if_neg (by have := h.l1; have := h.l2; omega), h.id, h.rs, h.nm, h.un, h.en, h.ls]
  rfl
theorem chk_okAll {R : List Rt} {L : List Lk} (h : chk R L = 0) : OkAll R L := by
  unfold chk at h
  by_cases h1 : 24 < R.length ∨ 60 < L.length
  · rw [if_pos h1] at h; cases h
  rw [if_neg h1] at h
  cases h2 : R.any wrId
  case true => rw [h2] at h; cases h
  cases h3 : ascB ltR R
  case false => rw [h2, h3] at h; cases h
  cases h4 : L.any wrNum
  case true => rw [h2, h3, h4] at h; cases h
  cases h5 : L.any (unk R)
  case true => rw [h2, h3, h4, h5] at h; cases h
  cases h6 : L.any wrEnd
  case true => rw [h2, h3, h4, h5, h6] at h; cases h
  cases h7 : ascB ltL L
  case false => rw [h2, h3, h4, h5, h6, h7] at h; cases h
  exact ⟨by omega, by omega, h2, h3, h4, h5, h6, h7⟩
theorem ltR_trans (x y z : Rt) (h1 : ltR x y = true) (h2 : ltR y z = true) : ltR x z = true := by
  unfold ltR at *
  have h1 := of_decide_eq_true h1
  have h2 := of_decide_eq_true h2
  exact decide_eq_true (by omega)
theorem wo_ok (F : Fl) {R : List Rt} {L : List Lk} (h : OkAll R L) : OkAll (woR F R) (woL F L) := by
  refine ⟨Nat.le_trans (List.length_filter_le _ _) h.l1, Nat.le_trans (List.length_filter_le _ _) h.l2, any_filter _ _ h.id, asc_filter _ ltR_trans _ h.rs, any_filter _ _ h.nm, ?_, any_filter _ _ h.en, asc_filter ltL (fun _ _ _ => ltL_trans) _ h.ls⟩
  have hh : ∀ x, hasR R x = true → hasI F.X x = false → hasR (woR F R) x = true := by
    intro x hx hi
    unfold hasR at hx ⊢
    obtain ⟨r, hr, he⟩ := List.any_eq_true.1 hx
    refine List.any_eq_true.2 ⟨r, List.mem_filter.2 ⟨hr, ?_⟩, he⟩
    rw [of_decide_eq_true he, hi]
    rfl
  rw [List.any_eq_false]
  intro l hl hu
  obtain ⟨hl1, hk⟩ := List.mem_filter.1 hl
  have h1 := List.any_eq_false.1 h.un l hl1
  unfold woK at hk
  rw [Bool.and_eq_true, Bool.and_eq_true] at hk
  have ha : hasI F.X l.a = false := by simpa using hk.1
  have hb : hasI F.X l.b = false := by simpa using hk.2.1
  unfold unk at h1 hu
  cases e1 : hasR R l.a
  · rw [e1] at h1; simp at h1
  cases e2 : hasR R l.b
  · rw [e1, e2] at h1; simp at h1
  rw [hh _ e1 ha, hh _ e2 hb] at hu
  simp at hu
theorem wo_chk (F : Fl) (R : List Rt) (L : List Lk) : chk (if okT R L = true then woR F R else []) (if okT R L = true then woL F L else []) = 0 := by
  by_cases h : okT R L = true
  · rw [if_pos h, if_pos h]
    refine okAll_chk (wo_ok F (chk_okAll ?_))
    unfold okT at h
    simpa using h
  · rw [if_neg h, if_neg h]
    rfl
end Go.Proofs.Ytiencdgmnkphjaa

/- What is looked up in a valid topology: the mathematics. -/
namespace Go.Proofs.Ytiencdgmnkphjaa
open Go.RowKit Bs
theorem pair_get {α : Type} {f : α → α → Bool} {l : List α} (h : l.Pairwise (fun x z => f x z = true)) {i j : Nat} {x y : α} (hij : i < j) (hx : l[i]? = some x) (hy : l[j]? = some y) : f x y = true := by
  obtain ⟨hi, rfl⟩ := List.getElem?_eq_some_iff.1 hx
  obtain ⟨hj, rfl⟩ := List.getElem?_eq_some_iff.1 hy
  exact List.pairwise_iff_getElem.1 h i j hi hj hij
/-- The router with a number, the first. -/
def capR (R : List Rt) (x : Int) : Bool := match R.find? (fun r => decide (r.id = x)) with
  | some r => r.cap
  | none => false
theorem bs_router {R : List Rt} {L : List Lk} (ho : OkAll R L) {x : Int} {c b : Bool} {i : Nat} (h : BsP cvR R ⟨x, c⟩ i b) :
    b = hasR R x ∧ (b = true → ∃ r, R[i]? = some r ∧ r.id = x ∧ r.cap = capR R x) := by
  have hp := pair_of_asc ltR ltR_trans R ho.rs
  have key : ∀ j y, R[j]? = some y → y.id = x → i = j := by
    intro j y hy hyx
    have hlt := (List.getElem?_eq_some_iff.1 hy).1
    by_cases h1 : i < j
    · obtain ⟨z, hz⟩ : ∃ z, R[i]? = some z := ⟨_, List.getElem?_eq_getElem (by omega)⟩
      have h2 := h.hi z hz
      have h3 := of_decide_eq_true (show decide (z.id < y.id) = true from pair_get hp h1 hz hy)
      unfold cvR at h2
      have h4 := cmpV_ge.1 h2
      simp only at h4
      omega
    · by_cases h1' : j < i
      · obtain ⟨z, hz⟩ : ∃ z, R[i - 1]? = some z := ⟨_, List.getElem?_eq_getElem (by have := h.le; omega)⟩
        have h2 := h.lo z (by omega) hz
        unfold cvR at h2
        have h4 := cmpV_lt.1 h2
        simp only at h4
        by_cases hj : j = i - 1
        · subst hj
          rw [hz] at hy
          obtain rfl := Option.some.inj hy
          omega
        · have h3 := of_decide_eq_true (show decide (y.id < z.id) = true from pair_get hp (by omega) hy hz)
          omega
      · omega
  have hb : b = true → ∃ r, R[i]? = some r ∧ r.id = x := by
    intro hb
    have he := h.eq
    rw [hb] at he
    cases hr : R[i]? with
    | none => rw [hr] at he; cases he
    | some r =>
      rw [hr] at he
      refine ⟨r, rfl, ?_⟩
      have he2 : cvR r ⟨x, c⟩ = 0 := by simpa using he.symm
      exact cmpV_eq.1 he2
  constructor
  · cases hh : hasR R x
    · cases hbb : b
      · rfl
      · obtain ⟨r, hr, he⟩ := hb hbb
        have : hasR R x = true := List.any_eq_true.2 ⟨r, List.mem_of_getElem? hr, decide_eq_true he⟩
        rw [hh] at this
        cases this
    · obtain ⟨r, hr, he⟩ := List.any_eq_true.1 hh
      obtain ⟨j, hj, hje⟩ := List.mem_iff_getElem.1 hr
      have hjs : R[j]? = some r := by rw [List.getElem?_eq_getElem hj, hje]
      obtain rfl := key j r hjs (of_decide_eq_true he)
      rw [h.eq, hjs]
      have : cvR r ⟨x, c⟩ = 0 := cmpV_eq.2 (of_decide_eq_true he)
      simp [this]
  · intro hbt
    obtain ⟨r, hr, he⟩ := hb hbt
    refine ⟨r, hr, he, ?_⟩
    unfold capR
    cases hf : R.find? (fun r => decide (r.id = x)) with
    | none =>
      have := List.find?_eq_none.1 hf r (List.mem_of_getElem? hr)
      rw [decide_eq_true he] at this
      exact absurd rfl this
    | some r2 =>
      have h2 := List.find?_some hf
      obtain ⟨j, hj, hje⟩ := List.mem_iff_getElem.1 (List.mem_of_find?_eq_some hf)
      have hjs : R[j]? = some r2 := by rw [List.getElem?_eq_getElem hj, hje]
      obtain rfl := key j r2 hjs (of_decide_eq_true h2)
      rw [hr] at hjs
      obtain rfl := Option.some.inj hjs
      rfl
/-- The cost from one router to another, of the first link that joins them. -/
def priceB (a b : Int) (l : Lk) : Option Int := if l.a = a ∧ l.b = b then some l.ca else if l.b = a ∧ l.a = b then some l.cb else none
def priceV (L : List Lk) (a b : Int) : Int × Bool := match L.findSome? (priceB a b) with
  | some c => (c, true)
  | none => (0, false)
theorem bs_link {R : List Rt} {L : List Lk} (ho : OkAll R L) {x y : Int} {b : Bool} {i : Nat} (h : BsP cvL L ⟨x, y, 0, 0, 0⟩ i b) :
    (b = true → ∃ l, L[i]? = some l ∧ l.a = x ∧ l.b = y) ∧ ∀ l ∈ L, l.a = x → l.b = y → b = true ∧ L[i]? = some l := by
  have hp := pair_of_asc ltL (fun _ _ _ => ltL_trans) L ho.ls
  have hb : b = true → ∃ r, L[i]? = some r ∧ r.a = x ∧ r.b = y := by
    intro hb
    have he := h.eq
    rw [hb] at he
    cases hr : L[i]? with
    | none => rw [hr] at he; cases he
    | some r =>
      rw [hr] at he
      have he2 : cvL r ⟨x, y, 0, 0, 0⟩ = 0 := by simpa using he.symm
      exact ⟨r, rfl, cmpL_eq.1 he2⟩
  refine ⟨hb, ?_⟩
  intro l hl hx hy
  obtain ⟨j, hj, hje⟩ := List.mem_iff_getElem.1 hl
  have hjs : L[j]? = some l := by rw [List.getElem?_eq_getElem hj, hje]
  have e : i = j := by
    by_cases h1 : i < j
    · obtain ⟨z, hz⟩ : ∃ z, L[i]? = some z := ⟨_, List.getElem?_eq_getElem (by omega)⟩
      have h2 := cmpL_ge.1 (show 0 ≤ cmpL z ⟨x, y, 0, 0, 0⟩ from h.hi z hz)
      have h3 := pair_get hp h1 hz hjs
      unfold ltL at h2 h3
      have h2 := of_decide_eq_false h2
      have h3 := of_decide_eq_true h3
      simp only at h2
      omega
    · by_cases h1' : j < i
      · obtain ⟨z, hz⟩ : ∃ z, L[i - 1]? = some z := ⟨_, List.getElem?_eq_getElem (by have := h.le; omega)⟩
        have h2 : ltL z ⟨x, y, 0, 0, 0⟩ = true := by
          cases hl2 : ltL z ⟨x, y, 0, 0, 0⟩ with
          | true => rfl
          | false =>
            have := cmpL_ge.2 hl2
            have h5 : cmpL z ⟨x, y, 0, 0, 0⟩ < 0 := h.lo z (by omega) hz
            omega
        unfold ltL at h2
        have h2 := of_decide_eq_true h2
        simp only at h2
        by_cases hj2 : j = i - 1
        · subst hj2
          rw [hz] at hjs
          obtain rfl := Option.some.inj hjs
          omega
        · have h3 := pair_get hp (show j < i - 1 by omega) hjs hz
          unfold ltL at h3
          have h3 := of_decide_eq_true h3
          omega
      · omega
  subst e
  refine ⟨?_, hjs⟩
  rw [h.eq, hjs]
  have : cvL l ⟨x, y, 0, 0, 0⟩ = 0 := cmpL_eq.2 ⟨hx, hy⟩
  simp [this]
theorem ends_lt {R : List Rt} {L : List Lk} (ho : OkAll R L) : ∀ l ∈ L, l.a < l.b := by
  intro l hl
  have h := List.any_eq_false.1 ho.en l hl
  unfold wrEnd at h
  have h2 : ¬ l.b ≤ l.a := fun hc => h (decide_eq_true hc)
  omega
/-- What Cost returns, by where the binary search has ended. -/
theorem bs_cost {R : List Rt} {L : List Lk} (ho : OkAll R L) {x y : Int} {b : Bool} {i : Nat} (h : BsP cvL L ⟨min x y, max x y, 0, 0, 0⟩ i b) :
    (b = false → priceV L x y = (0, false)) ∧ (b = true → ∃ l, L[i]? = some l ∧ priceV L x y = (if x < y then l.ca else l.cb, true)) := by
  obtain ⟨h1, h2⟩ := bs_link ho h
  have he := ends_lt ho
  constructor
  · intro hb
    unfold priceV
    have : L.findSome? (priceB x y) = none := by
      rw [List.findSome?_eq_none_iff]
      intro l hl
      have hlt := he l hl
      unfold priceB
      have n1 : ¬ (l.a = x ∧ l.b = y) := fun hc => by
        have := (h2 l hl (by omega) (by omega)).1
        rw [hb] at this; cases this
      have n2 : ¬ (l.b = x ∧ l.a = y) := fun hc => by
        have := (h2 l hl (by omega) (by omega)).1
        rw [hb] at this; cases this
      rw [if_neg n1, if_neg n2]
    rw [this]
  · intro hb
    obtain ⟨l, hl, ha, hbb⟩ := h1 hb
    refine ⟨l, hl, ?_⟩
    have hlt := he l (List.mem_of_getElem? hl)
    have hxy : x ≠ y := by omega
    have hall : ∀ m ∈ L, ∀ c, priceB x y m = some c → m = l := by
      intro m hm c hc
      unfold priceB at hc
      have hmlt := he m hm
      have hends : m.a = min x y ∧ m.b = max x y := by
        by_cases k1 : m.a = x ∧ m.b = y
        · omega
        · rw [if_neg k1] at hc
          by_cases k2 : m.b = x ∧ m.a = y
          · omega
          · rw [if_neg k2] at hc; cases hc
      have := (h2 m hm hends.1 hends.2).2
      rw [hl] at this
      exact (Option.some.inj this).symm
    have hval : priceB x y l = some (if x < y then l.ca else l.cb) := by
      unfold priceB
      by_cases hlt2 : x < y
      · rw [if_pos (by omega), if_pos hlt2]
      · rw [if_neg (by omega), if_pos (by omega), if_neg hlt2]
    unfold priceV
    cases hf : L.findSome? (priceB x y) with
    | none =>
      have := List.findSome?_eq_none_iff.1 hf l (List.mem_of_getElem? hl)
      rw [hval] at this; cases this
    | some c =>
      obtain ⟨m, hm, hmc⟩ := List.exists_of_findSome?_eq_some hf
      obtain rfl := hall m hm c hmc
      rw [hval] at hmc
      obtain rfl := Option.some.inj hmc
      rfl
/-- The neighbours of a router, in the order of the routers. -/
def nearR (R : List Rt) (L : List Lk) (x : Int) : List Int := (R.filter fun r => (priceV L x r.id).2).map (·.id)
theorem eq_of_asc : ∀ {l m : List Int}, l.Pairwise (· < ·) → m.Pairwise (· < ·) → (∀ x, x ∈ l ↔ x ∈ m) → l = m
  | [], [], _, _, _ => rfl
  | [], b :: m, _, _, h => by have := (h b).2 (by simp); cases this
  | a :: l, [], _, _, h => by have := (h a).1 (by simp); cases this
  | a :: l, b :: m, hl, hm, h => by
    obtain ⟨h1, h2⟩ := List.pairwise_cons.1 hl
    obtain ⟨h3, h4⟩ := List.pairwise_cons.1 hm
    have e : a = b := by
      have ha := (h a).1 (by simp)
      have hb := (h b).2 (by simp)
      rcases List.mem_cons.1 ha with ha | ha
      · exact ha
      rcases List.mem_cons.1 hb with hb | hb
      · exact hb.symm
      have := h1 b hb
      have := h3 a ha
      omega
    subst e
    congr 1
    refine eq_of_asc h2 h4 fun x => ?_
    constructor
    · intro hx
      rcases List.mem_cons.1 ((h x).1 (List.mem_cons_of_mem _ hx)) with rfl | hx2
      · have := h1 x hx; omega
      · exact hx2
    · intro hx
      rcases List.mem_cons.1 ((h x).2 (List.mem_cons_of_mem _ hx)) with rfl | hx2
      · have := h3 x hx; omega
      · exact hx2
theorem nb1_mem (x y : Int) (l : Lk) : y ∈ nb1 x l ↔ (l.b = x ∧ y = l.a) ∨ (l.a = x ∧ y = l.b) := by
  unfold nb1
  rw [List.mem_append]
  by_cases h1 : l.b = x <;> by_cases h2 : l.a = x <;> simp [h1, h2]
theorem price_ok (L : List Lk) (x y : Int) : (priceV L x y).2 = true ↔ ∃ l ∈ L, (l.b = x ∧ y = l.a) ∨ (l.a = x ∧ y = l.b) := by
  unfold priceV
  cases hf : L.findSome? (priceB x y) with
  | none =>
    simp only
    constructor
    · intro h; cases h
    · rintro ⟨l, hl, h⟩
      have := List.findSome?_eq_none_iff.1 hf l hl
      unfold priceB at this
      by_cases k1 : l.a = x ∧ l.b = y
      · rw [if_pos k1] at this; cases this
      · rw [if_neg k1] at this
        by_cases k2 : l.b = x ∧ l.a = y
        · rw [if_pos k2] at this; cases this
        · omega
  | some c =>
    simp only
    refine ⟨fun _ => ?_, fun _ => by trivial⟩
    obtain ⟨m, hm, hmc⟩ := List.exists_of_findSome?_eq_some hf
    refine ⟨m, hm, ?_⟩
    unfold priceB at hmc
    by_cases k1 : m.a = x ∧ m.b = y
    · exact .inr ⟨k1.1, k1.2.symm⟩
    · rw [if_neg k1] at hmc
      by_cases k2 : m.b = x ∧ m.a = y
      · exact .inl ⟨k2.1, k2.2.symm⟩
      · rw [if_neg k2] at hmc; cases hmc
theorem near_eq {R : List Rt} {L : List Lk} (ho : OkAll R L) (x : Int) : nbL L x = nearR R L x := by
  have he := ends_lt ho
  have hp := pair_of_asc ltL (fun _ _ _ => ltL_trans) L ho.ls
  have hr := pair_of_asc ltR ltR_trans R ho.rs
  refine eq_of_asc ?_ ?_ fun y => ?_
  · unfold nbL
    rw [List.pairwise_flatMap]
    refine ⟨fun l hl => ?_, ?_⟩
    · have := he l hl
      unfold nb1
      by_cases h1 : l.b = x <;> by_cases h2 : l.a = x <;> simp [h1, h2]
      omega
    · refine List.Pairwise.imp_of_mem ?_ hp
      intro l m hl hm hlm u hu v hv
      have h1 := he l hl
      have h2 := he m hm
      unfold ltL at hlm
      have h3 := of_decide_eq_true hlm
      rcases (nb1_mem x u l).1 hu with hu | hu <;> rcases (nb1_mem x v m).1 hv with hv | hv <;> omega
  · unfold nearR
    rw [List.pairwise_map]
    exact (hr.sublist List.filter_sublist).imp (fun h => of_decide_eq_true h)
  · unfold nbL nearR
    rw [List.mem_flatMap, List.mem_map]
    constructor
    · rintro ⟨l, hl, hy⟩
      have hy := (nb1_mem x y l).1 hy
      have hk := List.any_eq_false.1 ho.un l hl
      unfold unk at hk
      have hak : hasR R l.a = true ∧ hasR R l.b = true := by
        cases e1 : hasR R l.a <;> cases e2 : hasR R l.b <;> rw [e1, e2] at hk <;> simp at hk ⊢
      have hyr : hasR R y = true := by
        rcases hy with hy | hy
        · rw [hy.2]; exact hak.1
        · rw [hy.2]; exact hak.2
      obtain ⟨r, hr2, hid⟩ := List.any_eq_true.1 hyr
      have hid := of_decide_eq_true hid
      refine ⟨r, List.mem_filter.2 ⟨hr2, ?_⟩, hid⟩
      rw [hid]
      exact (price_ok L x y).2 ⟨l, hl, hy⟩
    · rintro ⟨r, hr2, rfl⟩
      obtain ⟨l, hl, h⟩ := (price_ok L x r.id).1 (List.mem_filter.1 hr2).2
      exact ⟨l, hl, (nb1_mem x r.id l).2 h⟩
end Go.Proofs.Ytiencdgmnkphjaa

/- topology: routerAt, linkAt, Has, Capable, Cost, Neighbours. -/
namespace Go.Proofs.Ytiencdgmnkphjaa
open Go.RowKit Bs
set_option maxRecDepth 100000 in
set_option maxHeartbeats 1600000 in
theorem trat_any (T : Tg) (x : Int) (q : Nat → Prop) (w : World) (hT : TgOk w q T) (h1 : T.R.length ≤ 1000000) :
    Calls Try.prog 68 #[.agg #[.slice T.pR T.R.length T.cR, .slice T.pL T.L.length T.cL], .int .i64 x] w fun e w' => BsPost cvR T.R ⟨x, false⟩ w e w' := by
  obtain ⟨R, L, pR, cR, pL, cL⟩ := T
  simp only at h1 ⊢
  obtain ⟨k1, k2⟩ := tone_box w #[.slice pR R.length cR, .slice pL L.length cL] 26
  have HB := Lib.hid (And.intro k1 (And.intro k2 (hT.keep k2)))
  clear k1 k2 hT
  go_enter Try.func68, Try.ntmps68
  go_upto_region 1 with fail
  generalize w.alloc _ = wa at *
  obtain ⟨c0, c1⟩ := row_cells HB.out.1
  go_wp2_with fail
  refine (bsR_any R ⟨x, false⟩ pR cR _ wa HB.out.2.2.r h1).mono ?_
  rintro e w1 ⟨i, b, rfl, hb, hg⟩
  have HG := Lib.hid hg
  clear hg
  go_wp2_with fail
  go_ret2
  exact ⟨i, b, rfl, hb, grown_trans HB.out.2.1 HG.out⟩
set_option maxRecDepth 100000 in
set_option maxHeartbeats 1600000 in
theorem tlat_any (T : Tg) (x y : Int) (q : Nat → Prop) (w : World) (hT : TgOk w q T) (h1 : T.L.length ≤ 1000000) :
    Calls Try.prog 72 #[.agg #[.slice T.pR T.R.length T.cR, .slice T.pL T.L.length T.cL], .int .i64 x, .int .i64 y] w fun e w' => BsPost cvL T.L ⟨x, y, 0, 0, 0⟩ w e w' := by
  obtain ⟨R, L, pR, cR, pL, cL⟩ := T
  simp only at h1 ⊢
  obtain ⟨k1, k2⟩ := tone_box w #[.slice pR R.length cR, .slice pL L.length cL] 26
  have HB := Lib.hid (And.intro k1 (And.intro k2 (hT.keep k2)))
  clear k1 k2 hT
  go_enter Try.func72, Try.ntmps72
  go_upto_region 1 with fail
  generalize w.alloc _ = wa at *
  obtain ⟨c0, c1⟩ := row_cells HB.out.1
  go_wp2_with fail
  refine (bsL_any L ⟨x, y, 0, 0, 0⟩ pL cL _ wa HB.out.2.2.l h1).mono ?_
  rintro e w1 ⟨i, b, rfl, hb, hg⟩
  have HG := Lib.hid hg
  clear hg
  go_wp2_with fail
  go_ret2
  exact ⟨i, b, rfl, hb, grown_trans HB.out.2.1 HG.out⟩
/-- The results of Has, Capable, Cost, Neighbours. -/
def hasV (R : List Rt) (L : List Lk) (x : Int) : Bool := okT R L && hasR R x
def capV (R : List Rt) (L : List Lk) (x : Int) : Bool := okT R L && capR R x
def costV (R : List Rt) (L : List Lk) (x y : Int) : Int × Bool := if okT R L = true then priceV L x y else (0, false)
def nearV (R : List Rt) (L : List Lk) (x : Int) : List Int := if okT R L = true then nearR R L x else []
theorem capR_has {R : List Rt} {x : Int} (h : hasR R x = false) : capR R x = false := by
  unfold capR
  cases hf : R.find? (fun r => decide (r.id = x)) with
  | none => rfl
  | some r =>
    have h2 := List.find?_some hf
    have : hasR R x = true := List.any_eq_true.2 ⟨r, List.mem_of_find?_eq_some hf, h2⟩
    rw [h] at this; cases this
theorem okT_all {R : List Rt} {L : List Lk} (h : okT R L = true) : OkAll R L := chk_okAll (by unfold okT at h; simpa using h)
set_option maxRecDepth 100000 in
set_option maxHeartbeats 1600000 in
theorem thas_any (T : Tg) (x : Int) (q : Nat → Prop) (w : World) (hT : TgOk w q T) (h1 : T.R.length ≤ 1000000) :
    Calls Try.prog 20 #[.agg #[.slice T.pR T.R.length T.cR, .slice T.pL T.L.length T.cL], .int .i64 x] w fun e w' => e = .returned (.bool (hasV T.R T.L x)) ∧ w.grownBy w' none := by
  obtain ⟨R, L, pR, cR, pL, cL⟩ := T
  simp only at h1 ⊢
  obtain ⟨k1, k2⟩ := tone_box w #[.slice pR R.length cR, .slice pL L.length cL] 26
  have HB := Lib.hid (And.intro k1 (And.intro k2 (hT.keep k2)))
  clear k1 k2 hT
  obtain ⟨z, hz⟩ : ∃ z, hasV R L x = z := ⟨_, rfl⟩
  rw [hz]
  have HZ := Lib.hid hz
  clear hz
  go_enter Try.func20, Try.ntmps20
  go_upto_region 1 with fail
  generalize w.alloc _ = wa at *
  obtain ⟨c0, c1⟩ := row_cells HB.out.1
  go_wp2_with fail
  refine (trat_any ⟨R, L, pR, cR, pL, cL⟩ x _ wa HB.out.2.2 h1).mono ?_
  rintro e w1 ⟨i, b, rfl, hb, hg⟩
  have HG := Lib.hid hg
  clear hg c0 c1
  obtain ⟨c0, c1⟩ := row_cells (kept_row HB.out.1 HG.out (by simp))
  cases hv : okT R L
  · obtain rfl : false = z := by have := HZ.out; unfold hasV at this; rw [hv] at this; simpa using this
    go_wp2_with fail
    refine (tvalid_any ⟨R, L, pR, cR, pL, cL⟩ _ w1 (HB.out.2.2.keep HG.out)).mono ?_
    rintro e w2 ⟨rfl, hg⟩
    simp only
    rw [hv]
    have HG2 := Lib.hid (grown_trans HG.out hg)
    clear hg hv
    go_wp2_with fail
    go_ret
    exact ⟨rfl, grown_trans HB.out.2.1 HG2.out⟩
  · obtain rfl : b = z := by have := HZ.out; unfold hasV at this; rw [hv] at this; rw [← this]; exact (bs_router (okT_all hv) hb.out).1
    go_wp2_with fail
    refine (tvalid_any ⟨R, L, pR, cR, pL, cL⟩ _ w1 (HB.out.2.2.keep HG.out)).mono ?_
    rintro e w2 ⟨rfl, hg⟩
    simp only
    rw [hv]
    have HG2 := Lib.hid (grown_trans HG.out hg)
    clear hg hv
    go_wp2_with fail
    go_ret
    exact ⟨rfl, grown_trans HB.out.2.1 HG2.out⟩
set_option maxRecDepth 100000 in
set_option maxHeartbeats 1600000 in
theorem tcap_any (T : Tg) (x : Int) (q : Nat → Prop) (w : World) (hT : TgOk w q T) (h1 : T.R.length ≤ 1000000) :
    Calls Try.prog 22 #[.agg #[.slice T.pR T.R.length T.cR, .slice T.pL T.L.length T.cL], .int .i64 x] w fun e w' => e = .returned (.bool (capV T.R T.L x)) ∧ w.grownBy w' none := by
  obtain ⟨R, L, pR, cR, pL, cL⟩ := T
  simp only at h1 ⊢
  obtain ⟨k1, k2⟩ := tone_box w #[.slice pR R.length cR, .slice pL L.length cL] 26
  have HB := Lib.hid (And.intro k1 (And.intro k2 (hT.keep k2)))
  clear k1 k2 hT
  obtain ⟨z, hz⟩ : ∃ z, capV R L x = z := ⟨_, rfl⟩
  rw [hz]
  have HZ := Lib.hid hz
  clear hz
  go_enter Try.func22, Try.ntmps22
  go_upto_region 1 with fail
  generalize w.alloc _ = wa at *
  obtain ⟨c0, c1⟩ := row_cells HB.out.1
  go_wp2_with fail
  refine (trat_any ⟨R, L, pR, cR, pL, cL⟩ x _ wa HB.out.2.2 h1).mono ?_
  rintro e w1 ⟨i, b, rfl, hb, hg⟩
  have HG := Lib.hid hg
  clear hg c0 c1
  obtain ⟨c0, c1⟩ := row_cells (kept_row HB.out.1 HG.out (by simp))
  cases hv : okT R L
  · obtain rfl : false = z := by have := HZ.out; unfold capV at this; rw [hv] at this; simpa using this
    go_wp2_with fail
    refine (tvalid_any ⟨R, L, pR, cR, pL, cL⟩ _ w1 (HB.out.2.2.keep HG.out)).mono ?_
    rintro e w2 ⟨rfl, hg⟩
    simp only
    rw [hv]
    have HG2 := Lib.hid (grown_trans HG.out hg)
    clear hg hv
    go_wp2_with fail
    go_ret
    exact ⟨rfl, grown_trans HB.out.2.1 HG2.out⟩
  · have hbr := bs_router (okT_all hv) hb.out
    cases b
    · obtain rfl : false = z := by have := HZ.out; unfold capV at this; rw [hv, capR_has hbr.1.symm] at this; simpa using this
      clear hbr
      go_wp2_with fail
      refine (tvalid_any ⟨R, L, pR, cR, pL, cL⟩ _ w1 (HB.out.2.2.keep HG.out)).mono ?_
      rintro e w2 ⟨rfl, hg⟩
      simp only
      rw [hv]
      have HG2 := Lib.hid (grown_trans HG.out hg)
      clear hg hv
      go_wp2_with fail
      go_ret
      exact ⟨rfl, grown_trans HB.out.2.1 HG2.out⟩
    · obtain ⟨r, hr, -, hcap⟩ := hbr.2 rfl
      obtain rfl : r.cap = z := by have := HZ.out; unfold capV at this; rw [hv] at this; rw [hcap]; simpa using this
      have hlt := (List.getElem?_eq_some_iff.1 hr).1
      have HR := Lib.hid hr
      clear hbr hr hcap
      go_wp2_with fail
      refine (tvalid_any ⟨R, L, pR, cR, pL, cL⟩ _ w1 (HB.out.2.2.keep HG.out)).mono ?_
      rintro e w2 ⟨rfl, hg⟩
      simp only
      rw [hv]
      have HG2 := Lib.hid (grown_trans HG.out hg)
      clear hg hv c0 c1
      obtain ⟨c0, c1⟩ := row_cells (kept_row HB.out.1 HG2.out (by simp))
      obtain ⟨-, bb, off, rfl, -, hc⟩ := rdr_cells (R := R) (HB.out.2.2.keep HG2.out).r (by omega)
      obtain ⟨a0, a1⟩ := hc i r HR.out
      have i0 : (0 : Int) ≤ (i : Int) := by omega
      have i1 : (i : Int) < (R.length : Int) := by omega
      clear hc
      go_wp2_with fail
      go_ret
      exact ⟨rfl, grown_trans HB.out.2.1 HG2.out⟩
end Go.Proofs.Ytiencdgmnkphjaa

/- topology: Cost, Neighbours. -/
namespace Go.Proofs.Ytiencdgmnkphjaa
open Go.RowKit Bs
set_option maxRecDepth 100000 in
set_option maxHeartbeats 1600000 in
theorem tcost_any (T : Tg) (x y : Int) (q : Nat → Prop) (w : World) (hT : TgOk w q T) (h1 : T.L.length ≤ 1000000) :
    Calls Try.prog 27 #[.agg #[.slice T.pR T.R.length T.cR, .slice T.pL T.L.length T.cL], .int .i64 x, .int .i64 y] w fun e w' => e = .returned (.tuple #[.int .i64 (costV T.R T.L x y).1, .bool (costV T.R T.L x y).2]) ∧ w.grownBy w' none := by
  obtain ⟨R, L, pR, cR, pL, cL⟩ := T
  have hm1 := Nat.le_trans hT.cr.1 hT.cr.2
  have hm2 := Nat.le_trans hT.cl.1 hT.cl.2
  simp only at hm1 hm2 h1 ⊢
  obtain ⟨k1, k2⟩ := tone_box w #[.slice pR R.length cR, .slice pL L.length cL] 26
  have HB := Lib.hid (And.intro k1 (And.intro k2 (hT.keep k2)))
  clear k1 k2 hT
  obtain ⟨z, hz⟩ : ∃ z, costV R L x y = z := ⟨_, rfl⟩
  rw [hz]
  have HZ := Lib.hid hz
  clear hz
  go_enter Try.func27, Try.ntmps27
  go_upto_region 1 with fail
  generalize w.alloc _ = wa at *
  obtain ⟨c0, c1⟩ := row_cells HB.out.1
  by_cases hlt : x < y
  · skip
    have hlt2 : ¬ (y < x) := by omega
    go_wp2_with fail
    refine (tlat_any ⟨R, L, pR, cR, pL, cL⟩ x y _ wa HB.out.2.2 h1).mono ?_
    rintro e w1 ⟨i, b, rfl, hb0, hg⟩
    have hb : BsP cvL L ⟨min x y, max x y, 0, 0, 0⟩ i b := by
      have e1 : min x y = x := by omega
      have e2 : max x y = y := by omega
      rw [e1, e2]
      exact hb0.out
    have HBS := Lib.hid hb
    have HG := Lib.hid hg
    clear hg hb hb0 c0 c1
    obtain ⟨c0, c1⟩ := row_cells (kept_row HB.out.1 HG.out (by simp))
    cases hv : okT R L
    · obtain rfl : (0, false) = z := by have := HZ.out; unfold costV at this; rw [hv] at this; exact this
      go_wp2_with fail
      refine (tvalid_any ⟨R, L, pR, cR, pL, cL⟩ _ w1 (HB.out.2.2.keep HG.out)).mono ?_
      rintro e w2 ⟨rfl, hg⟩
      simp only
      rw [hv]
      have HG2 := Lib.hid (grown_trans HG.out hg)
      clear hg hv c0 c1
      go_wp2_with fail
      go_ret2
      exact ⟨rfl, grown_trans HB.out.2.1 HG2.out⟩
    · have hc := bs_cost (okT_all hv) HBS.out
      cases b
      · obtain rfl : (0, false) = z := by have := HZ.out; unfold costV at this; rw [hv, if_pos rfl, hc.1 rfl] at this; exact this
        clear hc
        go_wp2_with fail
        refine (tvalid_any ⟨R, L, pR, cR, pL, cL⟩ _ w1 (HB.out.2.2.keep HG.out)).mono ?_
        rintro e w2 ⟨rfl, hg⟩
        simp only
        rw [hv]
        have HG2 := Lib.hid (grown_trans HG.out hg)
        clear hg hv c0 c1
        go_wp2_with fail
        go_ret2
        exact ⟨rfl, grown_trans HB.out.2.1 HG2.out⟩
      · obtain ⟨l, hl, hp⟩ := hc.2 rfl
        obtain rfl : (l.ca, true) = z := by have := HZ.out; unfold costV at this; rw [hv, if_pos rfl, hp, if_pos hlt] at this; exact this
        have hli := (List.getElem?_eq_some_iff.1 hl).1
        have HL := Lib.hid hl
        clear hc hl hp
        go_wp2_with fail
        refine (tvalid_any ⟨R, L, pR, cR, pL, cL⟩ _ w1 (HB.out.2.2.keep HG.out)).mono ?_
        rintro e w2 ⟨rfl, hg⟩
        simp only
        rw [hv]
        have HG2 := Lib.hid (grown_trans HG.out hg)
        clear hg hv c0 c1
        obtain ⟨c0, c1⟩ := row_cells (kept_row HB.out.1 HG2.out (by simp))
        obtain ⟨-, bb, off, rfl, -, hcc⟩ := rdl_cells (L := L) (HB.out.2.2.keep HG2.out).l (by omega)
        obtain ⟨a0, a1, a2, a3, a4⟩ := hcc i l HL.out
        have i0 : (0 : Int) ≤ (i : Int) := by omega
        have i1 : (i : Int) < (L.length : Int) := by omega
        clear hcc
        go_wp2_with fail
        go_ret2
        exact ⟨rfl, grown_trans HB.out.2.1 HG2.out⟩
  · by_cases hlt2 : y < x
    · skip
      go_wp2_with fail
      refine (tlat_any ⟨R, L, pR, cR, pL, cL⟩ y x _ wa HB.out.2.2 h1).mono ?_
      rintro e w1 ⟨i, b, rfl, hb0, hg⟩
      have hb : BsP cvL L ⟨min x y, max x y, 0, 0, 0⟩ i b := by
        have e1 : min x y = y := by omega
        have e2 : max x y = x := by omega
        rw [e1, e2]
        exact hb0.out
      have HBS := Lib.hid hb
      have HG := Lib.hid hg
      clear hg hb hb0 c0 c1
      obtain ⟨c0, c1⟩ := row_cells (kept_row HB.out.1 HG.out (by simp))
      cases hv : okT R L
      · obtain rfl : (0, false) = z := by have := HZ.out; unfold costV at this; rw [hv] at this; exact this
        go_wp2_with fail
        refine (tvalid_any ⟨R, L, pR, cR, pL, cL⟩ _ w1 (HB.out.2.2.keep HG.out)).mono ?_
        rintro e w2 ⟨rfl, hg⟩
        simp only
        rw [hv]
        have HG2 := Lib.hid (grown_trans HG.out hg)
        clear hg hv c0 c1
        go_wp2_with fail
        go_ret2
        exact ⟨rfl, grown_trans HB.out.2.1 HG2.out⟩
      · have hc := bs_cost (okT_all hv) HBS.out
        cases b
        · obtain rfl : (0, false) = z := by have := HZ.out; unfold costV at this; rw [hv, if_pos rfl, hc.1 rfl] at this; exact this
          clear hc
          go_wp2_with fail
          refine (tvalid_any ⟨R, L, pR, cR, pL, cL⟩ _ w1 (HB.out.2.2.keep HG.out)).mono ?_
          rintro e w2 ⟨rfl, hg⟩
          simp only
          rw [hv]
          have HG2 := Lib.hid (grown_trans HG.out hg)
          clear hg hv c0 c1
          go_wp2_with fail
          go_ret2
          exact ⟨rfl, grown_trans HB.out.2.1 HG2.out⟩
        · obtain ⟨l, hl, hp⟩ := hc.2 rfl
          obtain rfl : (l.cb, true) = z := by have := HZ.out; unfold costV at this; rw [hv, if_pos rfl, hp, if_neg (by omega)] at this; exact this
          have hli := (List.getElem?_eq_some_iff.1 hl).1
          have HL := Lib.hid hl
          clear hc hl hp
          go_wp2_with fail
          refine (tvalid_any ⟨R, L, pR, cR, pL, cL⟩ _ w1 (HB.out.2.2.keep HG.out)).mono ?_
          rintro e w2 ⟨rfl, hg⟩
          simp only
          rw [hv]
          have HG2 := Lib.hid (grown_trans HG.out hg)
          clear hg hv c0 c1
          obtain ⟨c0, c1⟩ := row_cells (kept_row HB.out.1 HG2.out (by simp))
          obtain ⟨-, bb, off, rfl, -, hcc⟩ := rdl_cells (L := L) (HB.out.2.2.keep HG2.out).l (by omega)
          obtain ⟨a0, a1, a2, a3, a4⟩ := hcc i l HL.out
          have i0 : (0 : Int) ≤ (i : Int) := by omega
          have i1 : (i : Int) < (L.length : Int) := by omega
          clear hcc
          go_wp2_with fail
          go_ret2
          exact ⟨rfl, grown_trans HB.out.2.1 HG2.out⟩
    · obtain rfl : x = y := by omega
      go_wp2_with fail
      refine (tlat_any ⟨R, L, pR, cR, pL, cL⟩ x x _ wa HB.out.2.2 h1).mono ?_
      rintro e w1 ⟨i, b, rfl, hb0, hg⟩
      have hb : BsP cvL L ⟨min x x, max x x, 0, 0, 0⟩ i b := by
        have e1 : min x x = x := by omega
        have e2 : max x x = x := by omega
        rw [e1, e2]
        exact hb0.out
      have HBS := Lib.hid hb
      have HG := Lib.hid hg
      clear hg hb hb0 c0 c1
      obtain ⟨c0, c1⟩ := row_cells (kept_row HB.out.1 HG.out (by simp))
      cases hv : okT R L
      · obtain rfl : (0, false) = z := by have := HZ.out; unfold costV at this; rw [hv] at this; exact this
        go_wp2_with fail
        refine (tvalid_any ⟨R, L, pR, cR, pL, cL⟩ _ w1 (HB.out.2.2.keep HG.out)).mono ?_
        rintro e w2 ⟨rfl, hg⟩
        simp only
        rw [hv]
        have HG2 := Lib.hid (grown_trans HG.out hg)
        clear hg hv c0 c1
        go_wp2_with fail
        go_ret2
        exact ⟨rfl, grown_trans HB.out.2.1 HG2.out⟩
      · have hc := bs_cost (okT_all hv) HBS.out
        cases b
        · obtain rfl : (0, false) = z := by have := HZ.out; unfold costV at this; rw [hv, if_pos rfl, hc.1 rfl] at this; exact this
          clear hc
          go_wp2_with fail
          refine (tvalid_any ⟨R, L, pR, cR, pL, cL⟩ _ w1 (HB.out.2.2.keep HG.out)).mono ?_
          rintro e w2 ⟨rfl, hg⟩
          simp only
          rw [hv]
          have HG2 := Lib.hid (grown_trans HG.out hg)
          clear hg hv c0 c1
          go_wp2_with fail
          go_ret2
          exact ⟨rfl, grown_trans HB.out.2.1 HG2.out⟩
        · obtain ⟨l, hl, hp⟩ := hc.2 rfl
          obtain rfl : (l.cb, true) = z := by have := HZ.out; unfold costV at this; rw [hv, if_pos rfl, hp, if_neg (by omega)] at this; exact this
          have hli := (List.getElem?_eq_some_iff.1 hl).1
          have HL := Lib.hid hl
          clear hc hl hp
          go_wp2_with fail
          refine (tvalid_any ⟨R, L, pR, cR, pL, cL⟩ _ w1 (HB.out.2.2.keep HG.out)).mono ?_
          rintro e w2 ⟨rfl, hg⟩
          simp only
          rw [hv]
          have HG2 := Lib.hid (grown_trans HG.out hg)
          clear hg hv c0 c1
          obtain ⟨c0, c1⟩ := row_cells (kept_row HB.out.1 HG2.out (by simp))
          obtain ⟨-, bb, off, rfl, -, hcc⟩ := rdl_cells (L := L) (HB.out.2.2.keep HG2.out).l (by omega)
          obtain ⟨a0, a1, a2, a3, a4⟩ := hcc i l HL.out
          have i0 : (0 : Int) ≤ (i : Int) := by omega
          have i1 : (i : Int) < (L.length : Int) := by omega
          clear hcc
          go_wp2_with fail
          go_ret2
          exact ⟨rfl, grown_trans HB.out.2.1 HG2.out⟩
set_option maxRecDepth 100000 in
set_option maxHeartbeats 1600000 in
theorem tnbs_any (T : Tg) (x : Int) (q : Nat → Prop) (w : World) (hT : TgOk w q T) (h1 : okT T.R T.L = true → T.L.length ≤ 1000) :
    Calls Try.prog 25 #[.agg #[.slice T.pR T.R.length T.cR, .slice T.pL T.L.length T.cL], .int .i64 x] w fun e w' => TRet (nearV T.R T.L x) w e w' := by
  obtain ⟨R, L, pR, cR, pL, cL⟩ := T
  have hm1 := Nat.le_trans hT.cr.1 hT.cr.2
  have hm2 := Nat.le_trans hT.cl.1 hT.cl.2
  simp only at hm1 hm2 h1 ⊢
  obtain ⟨k1, k2⟩ := tone_box w #[.slice pR R.length cR, .slice pL L.length cL] 26
  have HB := Lib.hid (And.intro k1 (And.intro k2 (hT.keep k2)))
  clear k1 k2 hT
  obtain ⟨z, hz⟩ : ∃ z, nearV R L x = z := ⟨_, rfl⟩
  rw [hz]
  have HZ := Lib.hid hz
  clear hz
  go_enter Try.func25, Try.ntmps25
  go_upto_region 1 with fail
  generalize w.alloc _ = wa at *
  obtain ⟨c0, c1⟩ := row_cells HB.out.1
  go_wp2_with fail
  refine (tvalid_any ⟨R, L, pR, cR, pL, cL⟩ _ wa HB.out.2.2).mono ?_
  rintro e w1 ⟨rfl, hg⟩
  simp only
  have HG := Lib.hid hg
  clear hg c0 c1
  obtain ⟨c0, c1⟩ := row_cells (kept_row HB.out.1 HG.out (by simp))
  cases hv : okT R L
  · obtain rfl : [] = z := by have := HZ.out; unfold nearV at this; rw [hv] at this; exact this
    clear hv h1
    go_wp2_with fail
    go_ret
    exact ⟨none, 0, rfl, ⟨none, 0, rfl, fun h => absurd rfl h⟩, ⟨Nat.le_refl _, by omega⟩, fun _ => rfl, grown_trans HB.out.2.1 HG.out⟩
  · obtain rfl : nbL L x = z := by have := HZ.out; unfold nearV at this; rw [hv, if_pos rfl, ← near_eq (okT_all hv)] at this; exact this
    have hL := h1 hv
    clear hv h1
    go_wp2_with fail
    refine (tnear_any L x pL cL _ w1 (HB.out.2.2.keep HG.out).l hL).mono ?_
    rintro e w2 ⟨p, c, rfl, hR, hlen, hp, hg⟩
    have HR := Lib.hid (And.intro hR (And.intro hlen (And.intro hp hg)))
    clear hR hlen hp hg
    go_wp2_with fail
    go_ret
    exact ⟨p, c, rfl, HR.out.1.mono (fun b hb => Nat.le_trans (Nat.le_trans HB.out.2.1.size HG.out.size) hb), HR.out.2.1, HR.out.2.2.1, grown_trans HB.out.2.1 (grown_trans HG.out HR.out.2.2.2)⟩
end Go.Proofs.Ytiencdgmnkphjaa
