/- Parts of the proof, packed: ToOrdM, ToWoM, ToLkM, ToLook, ToReach. -/
import Derived.Test.YtiencdgmnkphjaaWek2
import Derived.Test.YtiencdgmnkphjaaWek6
import Derived.Test.YtiencdgmnkphjaaWek9
import Derived.Test.YtiencdgmnkphjaaWek8
/- Links in order, and the tape's topologies: the mathematics. -/
namespace Go.Proofs.Ytiencdgmnkphjaa
open Go.RowKit Bs
/-- A link laid where the lesser ones end. -/
def insL (O : List Lk) (y : Lk) : List Lk := O.takeWhile (fun x => ltL x y) ++ y :: O.dropWhile (fun x => ltL x y)
def ordL (L : List Lk) : List Lk := L.foldl insL []
theorem insL_cons (a : Lk) (t : List Lk) (y : Lk) : insL (a :: t) y = if ltL a y then a :: insL t y else y :: a :: t := by
  unfold insL
  rw [List.takeWhile_cons, List.dropWhile_cons]
  split <;> rfl
theorem insL_len (O : List Lk) (y : Lk) : (insL O y).length = O.length + 1 := by
  unfold insL
  rw [List.length_append, List.length_cons]
  have := congrArg List.length (List.takeWhile_append_dropWhile (p := fun x => ltL x y) (l := O))
  rw [List.length_append] at this
  omega
theorem ordL_take (L : List Lk) (k : Nat) (y : Lk) (h : L[k]? = some y) : ordL (L.take (k + 1)) = insL (ordL (L.take k)) y := by
  unfold ordL
  rw [List.take_add_one, h, List.foldl_append]
  rfl
theorem foldl_insL_len : ∀ (L O : List Lk), (L.foldl insL O).length = O.length + L.length
  | [], O => by simp
  | a :: t, O => by rw [List.foldl_cons, foldl_insL_len t, insL_len, List.length_cons]; omega
theorem ordL_len (L : List Lk) : (ordL L).length = L.length := by
  unfold ordL
  rw [foldl_insL_len]; simp
theorem insL_at (y : Lk) : ∀ (O : List Lk) (j : Nat), j ≤ O.length → (∀ i x, i < j → O[i]? = some x → ltL x y = true) → (∀ x, O[j]? = some x → ltL x y = false) → insL O y = O.take j ++ y :: O.drop j
  | [], j, hj, _, _ => by
    obtain rfl : j = 0 := by simpa using hj
    rfl
  | a :: t, 0, _, _, h2 => by
    rw [insL_cons, h2 a rfl]
    rfl
  | a :: t, j + 1, hj, h1, h2 => by
    rw [insL_cons, if_pos (h1 0 a (by omega) rfl), insL_at y t j (by simpa using hj) (fun i x hi hx => h1 (i + 1) x (by omega) (by simpa using hx)) (fun x hx => h2 x (by simpa using hx))]
    rfl
theorem mem_insL (y z : Lk) : ∀ O : List Lk, z ∈ insL O y ↔ z = y ∨ z ∈ O
  | [] => by simp [insL]
  | a :: t => by
    rw [insL_cons]
    split
    · rw [List.mem_cons, List.mem_cons, mem_insL y z t]
      constructor
      · rintro (h | h | h)
        · exact .inr (.inl h)
        · exact .inl h
        · exact .inr (.inr h)
      · rintro (h | h | h)
        · exact .inr (.inl h)
        · exact .inl h
        · exact .inr (.inr h)
    · simp
theorem ltL_trans {x y z : Lk} (h1 : ltL x y = true) (h2 : ltL y z = true) : ltL x z = true := by
  unfold ltL at *
  have h1 := of_decide_eq_true h1
  have h2 := of_decide_eq_true h2
  exact decide_eq_true (by omega)
/-- The ends differ. -/
def EndsNe (x y : Lk) : Prop := x.a ≠ y.a ∨ x.b ≠ y.b
theorem ltL_flip {x y : Lk} (h : ltL x y = false) (hn : EndsNe x y) : ltL y x = true := by
  unfold ltL at *
  have h := of_decide_eq_false h
  unfold EndsNe at hn
  exact decide_eq_true (by omega)
theorem insL_pair (y : Lk) : ∀ O : List Lk, O.Pairwise (fun x z => ltL x z = true) → (∀ x ∈ O, EndsNe x y) → (insL O y).Pairwise (fun x z => ltL x z = true)
  | [], _, _ => by simp [insL]
  | a :: t, hp, hn => by
    rw [insL_cons]
    obtain ⟨h1, h2⟩ := List.pairwise_cons.1 hp
    split
    · next hlt =>
      refine List.pairwise_cons.2 ⟨fun z hz => ?_, insL_pair y t h2 (fun x hx => hn x (List.mem_cons_of_mem _ hx))⟩
      rcases (mem_insL y z t).1 hz with rfl | hz
      · exact hlt
      · exact h1 z hz
    · next hlt =>
      have hya := ltL_flip (by simpa using hlt) (hn a (by simp))
      refine List.pairwise_cons.2 ⟨fun z hz => ?_, hp⟩
      rcases List.mem_cons.1 hz with rfl | hz
      · exact hya
      · exact ltL_trans hya (h1 z hz)
theorem foldl_insL_pair : ∀ (L O : List Lk), O.Pairwise (fun x z => ltL x z = true) → L.Pairwise EndsNe → (∀ x ∈ O, ∀ y ∈ L, EndsNe x y) → (L.foldl insL O).Pairwise (fun x z => ltL x z = true)
  | [], O, h, _, _ => h
  | a :: t, O, h, hL, hx => by
    obtain ⟨h1, h2⟩ := List.pairwise_cons.1 hL
    rw [List.foldl_cons]
    refine foldl_insL_pair t _ (insL_pair a O h (fun x hx1 => hx x hx1 a (by simp))) h2 (fun x hx1 y hy => ?_)
    rcases (mem_insL a x O).1 hx1 with rfl | h3
    · exact h1 y hy
    · exact hx x h3 y (List.mem_cons_of_mem _ hy)
theorem foldl_insL_mem (z : Lk) : ∀ (L O : List Lk), z ∈ L.foldl insL O ↔ z ∈ O ∨ z ∈ L
  | [], O => by simp
  | a :: t, O => by
    rw [List.foldl_cons, foldl_insL_mem z t, mem_insL, List.mem_cons]
    constructor
    · rintro ((h | h) | h)
      · exact .inr (.inl h)
      · exact .inl h
      · exact .inr (.inr h)
    · rintro (h | h | h)
      · exact .inl (.inr h)
      · exact .inl (.inl h)
      · exact .inr h
theorem ordL_mem (L : List Lk) (z : Lk) : z ∈ ordL L ↔ z ∈ L := by
  unfold ordL
  rw [foldl_insL_mem]
  simp
theorem ordL_pair (L : List Lk) (h : L.Pairwise EndsNe) : (ordL L).Pairwise (fun x z => ltL x z = true) :=
  foldl_insL_pair L [] List.Pairwise.nil h (fun x hx => by simp at hx)
theorem asc_of_pair {α : Type} (f : α → α → Bool) : ∀ l : List α, l.Pairwise (fun x z => f x z = true) → ascB f l = true
  | [], _ => rfl
  | [a], _ => rfl
  | a :: b :: t, h => by
    obtain ⟨h1, h2⟩ := List.pairwise_cons.1 h
    rw [ascB, h1 b (by simp), asc_of_pair f (b :: t) h2]
    rfl
/-- The routers 1 to k. -/
def rts (k : Nat) : List Rt := (List.range k).map fun (i : Nat) => (⟨(i : Int) + 1, true⟩ : Rt)
theorem rts_succ (k : Nat) : rts (k + 1) = rts k ++ [⟨(k : Int) + 1, true⟩] := by
  unfold rts
  rw [List.range_succ, List.map_append]
  rfl
theorem rts_len (k : Nat) : (rts k).length = k := by unfold rts; simp
theorem rts_mem (k : Nat) (r : Rt) : r ∈ rts k ↔ ∃ i : Nat, i < k ∧ r = ⟨(i : Int) + 1, true⟩ := by
  unfold rts
  rw [List.mem_map]
  constructor
  · rintro ⟨i, hi, rfl⟩; exact ⟨i, List.mem_range.1 hi, rfl⟩
  · rintro ⟨i, hi, rfl⟩; exact ⟨i, List.mem_range.2 hi, rfl⟩
/-- Links of the routers 1 to k, each before (b, a) in the order that the tape makes them, no two with the same ends. -/
structure GoodL (k b a : Int) (L : List Lk) : Prop where
  ok : ∀ l ∈ L, (1 ≤ l.a ∧ l.a < l.b ∧ l.b ≤ k) ∧ wrNum l = false
  lt : ∀ l ∈ L, l.b < b ∨ (l.b = b ∧ l.a < a)
  ne : L.Pairwise EndsNe
theorem GoodL.nil (k b a : Int) : GoodL k b a [] := ⟨by simp, by simp, List.Pairwise.nil⟩
theorem GoodL.next {k b a : Int} {L : List Lk} (h : GoodL k b a L) : GoodL k b (a + 1) L := ⟨h.ok, fun l hl => by rcases h.lt l hl with h1 | h1 <;> omega, h.ne⟩
theorem GoodL.row {k b a : Int} {L : List Lk} (h : GoodL k b a L) : GoodL k (b + 1) 1 L := ⟨h.ok, fun l hl => by rcases h.lt l hl with h1 | h1 <;> omega, h.ne⟩
theorem GoodL.add {k b a : Int} {L : List Lk} (h : GoodL k b a L) (y : Lk) (ha : y.a = a) (hb : y.b = b) (h1 : 1 ≤ a) (h2 : a < b) (h3 : b ≤ k) (hw : wrNum y = false) : GoodL k b (a + 1) (L ++ [y]) := by
  refine ⟨fun l hl => ?_, fun l hl => ?_, ?_⟩
  · rcases List.mem_append.1 hl with hl | hl
    · exact h.ok l hl
    · obtain rfl : l = y := by simpa using hl
      exact ⟨by omega, hw⟩
  · rcases List.mem_append.1 hl with hl | hl
    · rcases h.lt l hl with h4 | h4 <;> omega
    · obtain rfl : l = y := by simpa using hl
      omega
  · refine List.pairwise_append.2 ⟨h.ne, by simp, fun x hx z hz => ?_⟩
    obtain rfl : z = y := by simpa using hz
    unfold EndsNe
    rcases h.lt x hx with h4 | h4 <;> omega
theorem chk_good {k : Nat} {b a : Int} {L : List Lk} (h : GoodL k b a L) (hk : k ≤ 24) (hl : L.length ≤ 60) : chk (rts k) (ordL L) = 0 := by
  unfold chk
  rw [if_neg (by rw [rts_len, ordL_len]; omega), if_neg, if_neg, if_neg, if_neg, if_neg, if_neg]
  · rw [asc_of_pair ltL _ (ordL_pair L h.ne)]
    simp
  · rw [List.any_eq_true]
    rintro ⟨l, hl1, hw⟩
    have := (h.ok l ((ordL_mem L l).1 hl1)).1
    unfold wrEnd at hw
    have := of_decide_eq_true hw
    omega
  · rw [List.any_eq_true]
    rintro ⟨l, hl1, hw⟩
    have := (h.ok l ((ordL_mem L l).1 hl1)).1
    have hh : ∀ x : Int, 1 ≤ x → x ≤ k → hasR (rts k) x = true := fun x h1 h2 => by
      unfold hasR
      refine List.any_eq_true.2 ⟨⟨x, true⟩, (rts_mem k _).2 ⟨(x - 1).toNat, by omega, ?_⟩, by simp⟩
      congr 1
      omega
    unfold unk at hw
    rw [hh _ this.1 (by omega), hh _ (by omega) this.2.2] at hw
    simp at hw
  · rw [List.any_eq_true]
    rintro ⟨l, hl1, hw⟩
    rw [(h.ok l ((ordL_mem L l).1 hl1)).2] at hw
    cases hw
  · rw [asc_of_pair ltR (rts k)]
    · simp
    · unfold rts
      rw [List.pairwise_map]
      exact List.pairwise_lt_range.imp (fun {a b} hab => decide_eq_true (by show (a : Int) + 1 < (b : Int) + 1; omega))
  · rw [List.any_eq_true]
    rintro ⟨r, hr, hw⟩
    obtain ⟨i, hi, rfl⟩ := (rts_mem k r).1 hr
    have : wrId ⟨(i : Int) + 1, true⟩ = false := by
      unfold wrId
      rw [decide_eq_true (by constructor <;> (dsimp; omega))]
      rfl
    rw [this] at hw
    cases hw
/-- What the tape says of a topology of at most 'most' routers. -/
def TopOf (most : Nat) (n : Int) (R : List Rt) (L : List Lk) : Prop :=
  1 ≤ R.length ∧ (R.length ≤ most + 1 ∨ 25 ≤ R.length) ∧ R.length ≤ most + 25 ∧ L.length ≤ 60 ∧ (n ≤ 0 → chk R L = 0 ∧ R.length ≤ most)
end Go.Proofs.Ytiencdgmnkphjaa

/- What is left of a valid topology is valid. -/
namespace Go.Proofs.Ytiencdgmnkphjaa
open Go.RowKit Bs
theorem pair_of_asc {α : Type} (f : α → α → Bool) (ht : ∀ x y z, f x y = true → f y z = true → f x z = true) : ∀ l : List α, ascB f l = true → l.Pairwise (fun x z => f x z = true)
  | [], _ => List.Pairwise.nil
  | [a], _ => by simp
  | a :: b :: t, h => by
    rw [ascB, Bool.and_eq_true] at h
    have hp := pair_of_asc f ht (b :: t) h.2
    refine List.pairwise_cons.2 ⟨fun z hz => ?_, hp⟩
    rcases List.mem_cons.1 hz with rfl | hz
    · exact h.1
    · exact ht a b z h.1 ((List.pairwise_cons.1 hp).1 z hz)
theorem asc_filter {α : Type} (f : α → α → Bool) (ht : ∀ x y z, f x y = true → f y z = true → f x z = true) (g : α → Bool) {l : List α} (h : ascB f l = true) : ascB f (l.filter g) = true :=
  asc_of_pair f _ ((pair_of_asc f ht l h).sublist List.filter_sublist)
theorem any_filter {α : Type} (p g : α → Bool) {l : List α} (h : l.any p = false) : (l.filter g).any p = false := by
  rw [List.any_eq_false] at h ⊢
  intro x hx
  exact h x (List.mem_filter.1 hx).1
/-- What a valid topology meets. -/
structure OkAll (R : List Rt) (L : List Lk) : Prop where
  l1 : R.length ≤ 24
  l2 : L.length ≤ 60
  id : R.any wrId = false
  rs : ascB ltR R = true
  nm : L.any wrNum = false
  un : L.any (unk R) = false
  en : L.any wrEnd = false
  ls : ascB ltL L = true
theorem okAll_chk {R : List Rt} {L : List Lk} (h : OkAll R L) : chk R L = 0 := by
  unfold chk
  rw [if_neg (by have := h.l1; have := h.l2; omega), h.id, h.rs, h.nm, h.un, h.en, h.ls]
  rfl
theorem chk_okAll {R : List Rt} {L : List Lk} (h : chk R L = 0) : OkAll R L := by
  unfold chk at h
  by_cases h1 : 24 < R.length ∨ 60 < L.length
  · rw [if_pos h1] at h; cases h
  rw [if_neg h1] at h
  cases h2 : R.any wrId
  case true => rw [h2] at h; cases h
  cases h3 : ascB ltR R
  case false => rw [h2, h3] at h; cases h
  cases h4 : L.any wrNum
  case true => rw [h2, h3, h4] at h; cases h
  cases h5 : L.any (unk R)
  case true => rw [h2, h3, h4, h5] at h; cases h
  cases h6 : L.any wrEnd
  case true => rw [h2, h3, h4, h5, h6] at h; cases h
  cases h7 : ascB ltL L
  case false => rw [h2, h3, h4, h5, h6, h7] at h; cases h
  exact ⟨by omega, by omega, h2, h3, h4, h5, h6, h7⟩
theorem ltR_trans (x y z : Rt) (h1 : ltR x y = true) (h2 : ltR y z = true) : ltR x z = true := by
  unfold ltR at *
  have h1 := of_decide_eq_true h1
  have h2 := of_decide_eq_true h2
  exact decide_eq_true (by omega)
theorem wo_ok (F : Fl) {R : List Rt} {L : List Lk} (h : OkAll R L) : OkAll (woR F R) (woL F L) := by
  refine ⟨Nat.le_trans (List.length_filter_le _ _) h.l1, Nat.le_trans (List.length_filter_le _ _) h.l2, any_filter _ _ h.id, asc_filter _ ltR_trans _ h.rs, any_filter _ _ h.nm, ?_, any_filter _ _ h.en, asc_filter ltL (fun _ _ _ => ltL_trans) _ h.ls⟩
  have hh : ∀ x, hasR R x = true → hasI F.X x = false → hasR (woR F R) x = true := by
    intro x hx hi
    unfold hasR at hx ⊢
    obtain ⟨r, hr, he⟩ := List.any_eq_true.1 hx
    refine List.any_eq_true.2 ⟨r, List.mem_filter.2 ⟨hr, ?_⟩, he⟩
    rw [of_decide_eq_true he, hi]
    rfl
  rw [List.any_eq_false]
  intro l hl hu
  obtain ⟨hl1, hk⟩ := List.mem_filter.1 hl
  have h1 := List.any_eq_false.1 h.un l hl1
  unfold woK at hk
  rw [Bool.and_eq_true, Bool.and_eq_true] at hk
  have ha : hasI F.X l.a = false := by simpa using hk.1
  have hb : hasI F.X l.b = false := by simpa using hk.2.1
  unfold unk at h1 hu
  cases e1 : hasR R l.a
  · rw [e1] at h1; simp at h1
  cases e2 : hasR R l.b
  · rw [e1, e2] at h1; simp at h1
  rw [hh _ e1 ha, hh _ e2 hb] at hu
  simp at hu
theorem wo_chk (F : Fl) (R : List Rt) (L : List Lk) : chk (if okT R L = true then woR F R else []) (if okT R L = true then woL F L else []) = 0 := by
  by_cases h : okT R L = true
  · rw [if_pos h, if_pos h]
    refine okAll_chk (wo_ok F (chk_okAll ?_))
    unfold okT at h
    simpa using h
  · rw [if_neg h, if_neg h]
    rfl
end Go.Proofs.Ytiencdgmnkphjaa

/- What is looked up in a valid topology: the mathematics. -/
namespace Go.Proofs.Ytiencdgmnkphjaa
open Go.RowKit Bs
theorem pair_get {α : Type} {f : α → α → Bool} {l : List α} (h : l.Pairwise (fun x z => f x z = true)) {i j : Nat} {x y : α} (hij : i < j) (hx : l[i]? = some x) (hy : l[j]? = some y) : f x y = true := by
  obtain ⟨hi, rfl⟩ := List.getElem?_eq_some_iff.1 hx
  obtain ⟨hj, rfl⟩ := List.getElem?_eq_some_iff.1 hy
  exact List.pairwise_iff_getElem.1 h i j hi hj hij
/-- The router with a number, the first. -/
def capR (R : List Rt) (x : Int) : Bool := match R.find? (fun r => decide (r.id = x)) with
  | some r => r.cap
  | none => false
theorem bs_router {R : List Rt} {L : List Lk} (ho : OkAll R L) {x : Int} {c b : Bool} {i : Nat} (h : BsP cvR R ⟨x, c⟩ i b) :
    b = hasR R x ∧ (b = true → ∃ r, R[i]? = some r ∧ r.id = x ∧ r.cap = capR R x) := by
  have hp := pair_of_asc ltR ltR_trans R ho.rs
  have key : ∀ j y, R[j]? = some y → y.id = x → i = j := by
    intro j y hy hyx
    have hlt := (List.getElem?_eq_some_iff.1 hy).1
    by_cases h1 : i < j
    · obtain ⟨z, hz⟩ : ∃ z, R[i]? = some z := ⟨_, List.getElem?_eq_getElem (by omega)⟩
      have h2 := h.hi z hz
      have h3 := of_decide_eq_true (show decide (z.id < y.id) = true from pair_get hp h1 hz hy)
      unfold cvR at h2
      have h4 := cmpV_ge.1 h2
      simp only at h4
      omega
    · by_cases h1' : j < i
      · obtain ⟨z, hz⟩ : ∃ z, R[i - 1]? = some z := ⟨_, List.getElem?_eq_getElem (by have := h.le; omega)⟩
        have h2 := h.lo z (by omega) hz
        unfold cvR at h2
        have h4 := cmpV_lt.1 h2
        simp only at h4
        by_cases hj : j = i - 1
        · subst hj
          rw [hz] at hy
          obtain rfl := Option.some.inj hy
          omega
        · have h3 := of_decide_eq_true (show decide (y.id < z.id) = true from pair_get hp (by omega) hy hz)
          omega
      · omega
  have hb : b = true → ∃ r, R[i]? = some r ∧ r.id = x := by
    intro hb
    have he := h.eq
    rw [hb] at he
    cases hr : R[i]? with
    | none => rw [hr] at he; cases he
    | some r =>
      rw [hr] at he
      refine ⟨r, rfl, ?_⟩
      have he2 : cvR r ⟨x, c⟩ = 0 := by simpa using he.symm
      exact cmpV_eq.1 he2
  constructor
  · cases hh : hasR R x
    · cases hbb : b
      · rfl
      · obtain ⟨r, hr, he⟩ := hb hbb
        have : hasR R x = true := List.any_eq_true.2 ⟨r, List.mem_of_getElem? hr, decide_eq_true he⟩
        rw [hh] at this
        cases this
    · obtain ⟨r, hr, he⟩ := List.any_eq_true.1 hh
      obtain ⟨j, hj, hje⟩ := List.mem_iff_getElem.1 hr
      have hjs : R[j]? = some r := by rw [List.getElem?_eq_getElem hj, hje]
      obtain rfl := key j r hjs (of_decide_eq_true he)
      rw [h.eq, hjs]
      have : cvR r ⟨x, c⟩ = 0 := cmpV_eq.2 (of_decide_eq_true he)
      simp [this]
  · intro hbt
    obtain ⟨r, hr, he⟩ := hb hbt
    refine ⟨r, hr, he, ?_⟩
    unfold capR
    cases hf : R.find? (fun r => decide (r.id = x)) with
    | none =>
      have := List.find?_eq_none.1 hf r (List.mem_of_getElem? hr)
      rw [decide_eq_true he] at this
      exact absurd rfl this
    | some r2 =>
      have h2 := List.find?_some hf
      obtain ⟨j, hj, hje⟩ := List.mem_iff_getElem.1 (List.mem_of_find?_eq_some hf)
      have hjs : R[j]? = some r2 := by rw [List.getElem?_eq_getElem hj, hje]
      obtain rfl := key j r2 hjs (of_decide_eq_true h2)
      rw [hr] at hjs
      obtain rfl := Option.some.inj hjs
      rfl
/-- The cost from one router to another, of the first link that joins them. -/
def priceB (a b : Int) (l : Lk) : Option Int := if l.a = a ∧ l.b = b then some l.ca else if l.b = a ∧ l.a = b then some l.cb else none
def priceV (L : List Lk) (a b : Int) : Int × Bool := match L.findSome? (priceB a b) with
  | some c => (c, true)
  | none => (0, false)
theorem bs_link {R : List Rt} {L : List Lk} (ho : OkAll R L) {x y : Int} {b : Bool} {i : Nat} (h : BsP cvL L ⟨x, y, 0, 0, 0⟩ i b) :
    (b = true → ∃ l, L[i]? = some l ∧ l.a = x ∧ l.b = y) ∧ ∀ l ∈ L, l.a = x → l.b = y → b = true ∧ L[i]? = some l := by
  have hp := pair_of_asc ltL (fun _ _ _ => ltL_trans) L ho.ls
  have hb : b = true → ∃ r, L[i]? = some r ∧ r.a = x ∧ r.b = y := by
    intro hb
    have he := h.eq
    rw [hb] at he
    cases hr : L[i]? with
    | none => rw [hr] at he; cases he
    | some r =>
      rw [hr] at he
      have he2 : cvL r ⟨x, y, 0, 0, 0⟩ = 0 := by simpa using he.symm
      exact ⟨r, rfl, cmpL_eq.1 he2⟩
  refine ⟨hb, ?_⟩
  intro l hl hx hy
  obtain ⟨j, hj, hje⟩ := List.mem_iff_getElem.1 hl
  have hjs : L[j]? = some l := by rw [List.getElem?_eq_getElem hj, hje]
  have e : i = j := by
    by_cases h1 : i < j
    · obtain ⟨z, hz⟩ : ∃ z, L[i]? = some z := ⟨_, List.getElem?_eq_getElem (by omega)⟩
      have h2 := cmpL_ge.1 (show 0 ≤ cmpL z ⟨x, y, 0, 0, 0⟩ from h.hi z hz)
      have h3 := pair_get hp h1 hz hjs
      unfold ltL at h2 h3
      have h2 := of_decide_eq_false h2
      have h3 := of_decide_eq_true h3
      simp only at h2
      omega
    · by_cases h1' : j < i
      · obtain ⟨z, hz⟩ : ∃ z, L[i - 1]? = some z := ⟨_, List.getElem?_eq_getElem (by have := h.le; omega)⟩
        have h2 : ltL z ⟨x, y, 0, 0, 0⟩ = true := by
          cases hl2 : ltL z ⟨x, y, 0, 0, 0⟩ with
          | true => rfl
          | false =>
            have := cmpL_ge.2 hl2
            have h5 : cmpL z ⟨x, y, 0, 0, 0⟩ < 0 := h.lo z (by omega) hz
            omega
        unfold ltL at h2
        have h2 := of_decide_eq_true h2
        simp only at h2
        by_cases hj2 : j = i - 1
        · subst hj2
          rw [hz] at hjs
          obtain rfl := Option.some.inj hjs
          omega
        · have h3 := pair_get hp (show j < i - 1 by omega) hjs hz
          unfold ltL at h3
          have h3 := of_decide_eq_true h3
          omega
      · omega
  subst e
  refine ⟨?_, hjs⟩
  rw [h.eq, hjs]
  have : cvL l ⟨x, y, 0, 0, 0⟩ = 0 := cmpL_eq.2 ⟨hx, hy⟩
  simp [this]
theorem ends_lt {R : List Rt} {L : List Lk} (ho : OkAll R L) : ∀ l ∈ L, l.a < l.b := by
  intro l hl
  have h := List.any_eq_false.1 ho.en l hl
  unfold wrEnd at h
  have h2 : ¬ l.b ≤ l.a := fun hc => h (decide_eq_true hc)
  omega
/-- What Cost returns, by where the binary search has ended. -/
theorem bs_cost {R : List Rt} {L : List Lk} (ho : OkAll R L) {x y : Int} {b : Bool} {i : Nat} (h : BsP cvL L ⟨min x y, max x y, 0, 0, 0⟩ i b) :
    (b = false → priceV L x y = (0, false)) ∧ (b = true → ∃ l, L[i]? = some l ∧ priceV L x y = (if x < y then l.ca else l.cb, true)) := by
  obtain ⟨h1, h2⟩ := bs_link ho h
  have he := ends_lt ho
  constructor
  · intro hb
    unfold priceV
    have : L.findSome? (priceB x y) = none := by
      rw [List.findSome?_eq_none_iff]
      intro l hl
      have hlt := he l hl
      unfold priceB
      have n1 : ¬ (l.a = x ∧ l.b = y) := fun hc => by
        have := (h2 l hl (by omega) (by omega)).1
        rw [hb] at this; cases this
      have n2 : ¬ (l.b = x ∧ l.a = y) := fun hc => by
        have := (h2 l hl (by omega) (by omega)).1
        rw [hb] at this; cases this
      rw [if_neg n1, if_neg n2]
    rw [this]
  · intro hb
    obtain ⟨l, hl, ha, hbb⟩ := h1 hb
    refine ⟨l, hl, ?_⟩
    have hlt := he l (List.mem_of_getElem? hl)
    have hxy : x ≠ y := by omega
    have hall : ∀ m ∈ L, ∀ c, priceB x y m = some c → m = l := by
      intro m hm c hc
      unfold priceB at hc
      have hmlt := he m hm
      have hends : m.a = min x y ∧ m.b = max x y := by
        by_cases k1 : m.a = x ∧ m.b = y
        · omega
        · rw [if_neg k1] at hc
          by_cases k2 : m.b = x ∧ m.a = y
          · omega
          · rw [if_neg k2] at hc; cases hc
      have := (h2 m hm hends.1 hends.2).2
      rw [hl] at this
      exact (Option.some.inj this).symm
    have hval : priceB x y l = some (if x < y then l.ca else l.cb) := by
      unfold priceB
      by_cases hlt2 : x < y
      · rw [if_pos (by omega), if_pos hlt2]
      · rw [if_neg (by omega), if_pos (by omega), if_neg hlt2]
    unfold priceV
    cases hf : L.findSome? (priceB x y) with
    | none =>
      have := List.findSome?_eq_none_iff.1 hf l (List.mem_of_getElem? hl)
      rw [hval] at this; cases this
    | some c =>
      obtain ⟨m, hm, hmc⟩ := List.exists_of_findSome?_eq_some hf
      obtain rfl := hall m hm c hmc
      rw [hval] at hmc
      obtain rfl := Option.some.inj hmc
      rfl
/-- The neighbours of a router, in the order of the routers. -/
def nearR (R : List Rt) (L : List Lk) (x : Int) : List Int := (R.filter fun r => (priceV L x r.id).2).map (·.id)
theorem eq_of_asc : ∀ {l m : List Int}, l.Pairwise (· < ·) → m.Pairwise (· < ·) → (∀ x, x ∈ l ↔ x ∈ m) → l = m
  | [], [], _, _, _ => rfl
  | [], b :: m, _, _, h => by have := (h b).2 (by simp); cases this
  | a :: l, [], _, _, h => by have := (h a).1 (by simp); cases this
  | a :: l, b :: m, hl, hm, h => by
    obtain ⟨h1, h2⟩ := List.pairwise_cons.1 hl
    obtain ⟨h3, h4⟩ := List.pairwise_cons.1 hm
    have e : a = b := by
      have ha := (h a).1 (by simp)
      have hb := (h b).2 (by simp)
      rcases List.mem_cons.1 ha with ha | ha
      · exact ha
      rcases List.mem_cons.1 hb with hb | hb
      · exact hb.symm
      have := h1 b hb
      have := h3 a ha
      omega
    subst e
    congr 1
    refine eq_of_asc h2 h4 fun x => ?_
    constructor
    · intro hx
      rcases List.mem_cons.1 ((h x).1 (List.mem_cons_of_mem _ hx)) with rfl | hx2
      · have := h1 x hx; omega
      · exact hx2
    · intro hx
      rcases List.mem_cons.1 ((h x).2 (List.mem_cons_of_mem _ hx)) with rfl | hx2
      · have := h3 x hx; omega
      · exact hx2
theorem nb1_mem (x y : Int) (l : Lk) : y ∈ nb1 x l ↔ (l.b = x ∧ y = l.a) ∨ (l.a = x ∧ y = l.b) := by
  unfold nb1
  rw [List.mem_append]
  by_cases h1 : l.b = x <;> by_cases h2 : l.a = x <;> simp [h1, h2]
theorem price_ok (L : List Lk) (x y : Int) : (priceV L x y).2 = true ↔ ∃ l ∈ L, (l.b = x ∧ y = l.a) ∨ (l.a = x ∧ y = l.b) := by
  unfold priceV
  cases hf : L.findSome? (priceB x y) with
  | none =>
    simp only
    constructor
    · intro h; cases h
    · rintro ⟨l, hl, h⟩
      have := List.findSome?_eq_none_iff.1 hf l hl
      unfold priceB at this
      by_cases k1 : l.a = x ∧ l.b = y
      · rw [if_pos k1] at this; cases this
      · rw [if_neg k1] at this
        by_cases k2 : l.b = x ∧ l.a = y
        · rw [if_pos k2] at this; cases this
        · omega
  | some c =>
    simp only
    refine ⟨fun _ => ?_, fun _ => by trivial⟩
    obtain ⟨m, hm, hmc⟩ := List.exists_of_findSome?_eq_some hf
    refine ⟨m, hm, ?_⟩
    unfold priceB at hmc
    by_cases k1 : m.a = x ∧ m.b = y
    · exact .inr ⟨k1.1, k1.2.symm⟩
    · rw [if_neg k1] at hmc
      by_cases k2 : m.b = x ∧ m.a = y
      · exact .inl ⟨k2.1, k2.2.symm⟩
      · rw [if_neg k2] at hmc; cases hmc
theorem near_eq {R : List Rt} {L : List Lk} (ho : OkAll R L) (x : Int) : nbL L x = nearR R L x := by
  have he := ends_lt ho
  have hp := pair_of_asc ltL (fun _ _ _ => ltL_trans) L ho.ls
  have hr := pair_of_asc ltR ltR_trans R ho.rs
  refine eq_of_asc ?_ ?_ fun y => ?_
  · unfold nbL
    rw [List.pairwise_flatMap]
    refine ⟨fun l hl => ?_, ?_⟩
    · have := he l hl
      unfold nb1
      by_cases h1 : l.b = x <;> by_cases h2 : l.a = x <;> simp [h1, h2]
      omega
    · refine List.Pairwise.imp_of_mem ?_ hp
      intro l m hl hm hlm u hu v hv
      have h1 := he l hl
      have h2 := he m hm
      unfold ltL at hlm
      have h3 := of_decide_eq_true hlm
      rcases (nb1_mem x u l).1 hu with hu | hu <;> rcases (nb1_mem x v m).1 hv with hv | hv <;> omega
  · unfold nearR
    rw [List.pairwise_map]
    exact (hr.sublist List.filter_sublist).imp (fun h => of_decide_eq_true h)
  · unfold nbL nearR
    rw [List.mem_flatMap, List.mem_map]
    constructor
    · rintro ⟨l, hl, hy⟩
      have hy := (nb1_mem x y l).1 hy
      have hk := List.any_eq_false.1 ho.un l hl
      unfold unk at hk
      have hak : hasR R l.a = true ∧ hasR R l.b = true := by
        cases e1 : hasR R l.a <;> cases e2 : hasR R l.b <;> rw [e1, e2] at hk <;> simp at hk ⊢
      have hyr : hasR R y = true := by
        rcases hy with hy | hy
        · rw [hy.2]; exact hak.1
        · rw [hy.2]; exact hak.2
      obtain ⟨r, hr2, hid⟩ := List.any_eq_true.1 hyr
      have hid := of_decide_eq_true hid
      refine ⟨r, List.mem_filter.2 ⟨hr2, ?_⟩, hid⟩
      rw [hid]
      exact (price_ok L x y).2 ⟨l, hl, hy⟩
    · rintro ⟨r, hr2, rfl⟩
      obtain ⟨l, hl, h⟩ := (price_ok L x r.id).1 (List.mem_filter.1 hr2).2
      exact ⟨l, hl, (nb1_mem x r.id l).2 h⟩
end Go.Proofs.Ytiencdgmnkphjaa

/- topology: routerAt, linkAt, Has, Capable, Cost, Neighbours. -/
namespace Go.Proofs.Ytiencdgmnkphjaa
open Go.RowKit Bs
set_option maxRecDepth 100000 in
set_option maxHeartbeats 1600000 in
theorem trat_any (T : Tg) (x : Int) (q : Nat → Prop) (w : World) (hT : TgOk w q T) (h1 : T.R.length ≤ 1000000) :
    Calls Try.prog 68 #[.agg #[.slice T.pR T.R.length T.cR, .slice T.pL T.L.length T.cL], .int .i64 x] w fun e w' => BsPost cvR T.R ⟨x, false⟩ w e w' := by
  obtain ⟨R, L, pR, cR, pL, cL⟩ := T
  simp only at h1 ⊢
  obtain ⟨k1, k2⟩ := tone_box w #[.slice pR R.length cR, .slice pL L.length cL] 26
  have HB := Lib.hid (And.intro k1 (And.intro k2 (hT.keep k2)))
  clear k1 k2 hT
  go_enter Try.func68, Try.ntmps68
  go_upto_region 1 with fail
  generalize w.alloc _ = wa at *
  obtain ⟨c0, c1⟩ := row_cells HB.out.1
  go_wp2_with fail
  refine (bsR_any R ⟨x, false⟩ pR cR _ wa HB.out.2.2.r h1).mono ?_
  rintro e w1 ⟨i, b, rfl, hb, hg⟩
  have HG := Lib.hid hg
  clear hg
  go_wp2_with fail
  go_ret2
  exact ⟨i, b, rfl, hb, grown_trans HB.out.2.1 HG.out⟩
set_option maxRecDepth 100000 in
set_option maxHeartbeats 1600000 in
theorem tlat_any (T : Tg) (x y : Int) (q : Nat → Prop) (w : World) (hT : TgOk w q T) (h1 : T.L.length ≤ 1000000) :
    Calls Try.prog 72 #[.agg #[.slice T.pR T.R.length T.cR, .slice T.pL T.L.length T.cL], .int .i64 x, .int .i64 y] w fun e w' => BsPost cvL T.L ⟨x, y, 0, 0, 0⟩ w e w' := by
  obtain ⟨R, L, pR, cR, pL, cL⟩ := T
  simp only at h1 ⊢
  obtain ⟨k1, k2⟩ := tone_box w #[.slice pR R.length cR, .slice pL L.length cL] 26
  have HB := Lib.hid (And.intro k1 (And.intro k2 (hT.keep k2)))
  clear k1 k2 hT
  go_enter Try.func72, Try.ntmps72
  go_upto_region 1 with fail
  generalize w.alloc _ = wa at *
  obtain ⟨c0, c1⟩ := row_cells HB.out.1
  go_wp2_with fail
  refine (bsL_any L ⟨x, y, 0, 0, 0⟩ pL cL _ wa HB.out.2.2.l h1).mono ?_
  rintro e w1 ⟨i, b, rfl, hb, hg⟩
  have HG := Lib.hid hg
  clear hg
  go_wp2_with fail
  go_ret2
  exact ⟨i, b, rfl, hb, grown_trans HB.out.2.1 HG.out⟩
/-- The results of Has, Capable, Cost, Neighbours. -/
def hasV (R : List Rt) (L : List Lk) (x : Int) : Bool := okT R L && hasR R x
def capV (R : List Rt) (L : List Lk) (x : Int) : Bool := okT R L && capR R x
def costV (R : List Rt) (L : List Lk) (x y : Int) : Int × Bool := if okT R L = true then priceV L x y else (0, false)
def nearV (R : List Rt) (L : List Lk) (x : Int) : List Int := if okT R L = true then nearR R L x else []
theorem capR_has {R : List Rt} {x : Int} (h : hasR R x = false) : capR R x = false := by
  unfold capR
  cases hf : R.find? (fun r => decide (r.id = x)) with
  | none => rfl
  | some r =>
    have h2 := List.find?_some hf
    have : hasR R x = true := List.any_eq_true.2 ⟨r, List.mem_of_find?_eq_some hf, h2⟩
    rw [h] at this; cases this
theorem okT_all {R : List Rt} {L : List Lk} (h : okT R L = true) : OkAll R L := chk_okAll (by unfold okT at h; simpa using h)
set_option maxRecDepth 100000 in
set_option maxHeartbeats 1600000 in
theorem thas_any (T : Tg) (x : Int) (q : Nat → Prop) (w : World) (hT : TgOk w q T) (h1 : T.R.length ≤ 1000000) :
    Calls Try.prog 20 #[.agg #[.slice T.pR T.R.length T.cR, .slice T.pL T.L.length T.cL], .int .i64 x] w fun e w' => e = .returned (.bool (hasV T.R T.L x)) ∧ w.grownBy w' none := by
  obtain ⟨R, L, pR, cR, pL, cL⟩ := T
  simp only at h1 ⊢
  obtain ⟨k1, k2⟩ := tone_box w #[.slice pR R.length cR, .slice pL L.length cL] 26
  have HB := Lib.hid (And.intro k1 (And.intro k2 (hT.keep k2)))
  clear k1 k2 hT
  obtain ⟨z, hz⟩ : ∃ z, hasV R L x = z := ⟨_, rfl⟩
  rw [hz]
  have HZ := Lib.hid hz
  clear hz
  go_enter Try.func20, Try.ntmps20
  go_upto_region 1 with fail
  generalize w.alloc _ = wa at *
  obtain ⟨c0, c1⟩ := row_cells HB.out.1
  go_wp2_with fail
  refine (trat_any ⟨R, L, pR, cR, pL, cL⟩ x _ wa HB.out.2.2 h1).mono ?_
  rintro e w1 ⟨i, b, rfl, hb, hg⟩
  have HG := Lib.hid hg
  clear hg c0 c1
  obtain ⟨c0, c1⟩ := row_cells (kept_row HB.out.1 HG.out (by simp))
  cases hv : okT R L
  · obtain rfl : false = z := by have := HZ.out; unfold hasV at this; rw [hv] at this; simpa using this
    go_wp2_with fail
    refine (tvalid_any ⟨R, L, pR, cR, pL, cL⟩ _ w1 (HB.out.2.2.keep HG.out)).mono ?_
    rintro e w2 ⟨rfl, hg⟩
    simp only
    rw [hv]
    have HG2 := Lib.hid (grown_trans HG.out hg)
    clear hg hv
    go_wp2_with fail
    go_ret
    exact ⟨rfl, grown_trans HB.out.2.1 HG2.out⟩
  · obtain rfl : b = z := by have := HZ.out; unfold hasV at this; rw [hv] at this; rw [← this]; exact (bs_router (okT_all hv) hb.out).1
    go_wp2_with fail
    refine (tvalid_any ⟨R, L, pR, cR, pL, cL⟩ _ w1 (HB.out.2.2.keep HG.out)).mono ?_
    rintro e w2 ⟨rfl, hg⟩
    simp only
    rw [hv]
    have HG2 := Lib.hid (grown_trans HG.out hg)
    clear hg hv
    go_wp2_with fail
    go_ret
    exact ⟨rfl, grown_trans HB.out.2.1 HG2.out⟩
set_option maxRecDepth 100000 in
set_option maxHeartbeats 1600000 in
theorem tcap_any (T : Tg) (x : Int) (q : Nat → Prop) (w : World) (hT : TgOk w q T) (h1 : T.R.length ≤ 1000000) :
    Calls Try.prog 22 #[.agg #[.slice T.pR T.R.length T.cR, .slice T.pL T.L.length T.cL], .int .i64 x] w fun e w' => e = .returned (.bool (capV T.R T.L x)) ∧ w.grownBy w' none := by
  obtain ⟨R, L, pR, cR, pL, cL⟩ := T
  simp only at h1 ⊢
  obtain ⟨k1, k2⟩ := tone_box w #[.slice pR R.length cR, .slice pL L.length cL] 26
  have HB := Lib.hid (And.intro k1 (And.intro k2 (hT.keep k2)))
  clear k1 k2 hT
  obtain ⟨z, hz⟩ : ∃ z, capV R L x = z := ⟨_, rfl⟩
  rw [hz]
  have HZ := Lib.hid hz
  clear hz
  go_enter Try.func22, Try.ntmps22
  go_upto_region 1 with fail
  generalize w.alloc _ = wa at *
  obtain ⟨c0, c1⟩ := row_cells HB.out.1
  go_wp2_with fail
  refine (trat_any ⟨R, L, pR, cR, pL, cL⟩ x _ wa HB.out.2.2 h1).mono ?_
  rintro e w1 ⟨i, b, rfl, hb, hg⟩
  have HG := Lib.hid hg
  clear hg c0 c1
  obtain ⟨c0, c1⟩ := row_cells (kept_row HB.out.1 HG.out (by simp))
  cases hv : okT R L
  · obtain rfl : false = z := by have := HZ.out; unfold capV at this; rw [hv] at this; simpa using this
    go_wp2_with fail
    refine (tvalid_any ⟨R, L, pR, cR, pL, cL⟩ _ w1 (HB.out.2.2.keep HG.out)).mono ?_
    rintro e w2 ⟨rfl, hg⟩
    simp only
    rw [hv]
    have HG2 := Lib.hid (grown_trans HG.out hg)
    clear hg hv
    go_wp2_with fail
    go_ret
    exact ⟨rfl, grown_trans HB.out.2.1 HG2.out⟩
  · have hbr := bs_router (okT_all hv) hb.out
    cases b
    · obtain rfl : false = z := by have := HZ.out; unfold capV at this; rw [hv, capR_has hbr.1.symm] at this; simpa using this
      clear hbr
      go_wp2_with fail
      refine (tvalid_any ⟨R, L, pR, cR, pL, cL⟩ _ w1 (HB.out.2.2.keep HG.out)).mono ?_
      rintro e w2 ⟨rfl, hg⟩
      simp only
      rw [hv]
      have HG2 := Lib.hid (grown_trans HG.out hg)
      clear hg hv
      go_wp2_with fail
      go_ret
      exact ⟨rfl, grown_trans HB.out.2.1 HG2.out⟩
    · obtain ⟨r, hr, -, hcap⟩ := hbr.2 rfl
      obtain rfl : r.cap = z := by have := HZ.out; unfold capV at this; rw [hv] at this; rw [hcap]; simpa using this
      have hlt := (List.getElem?_eq_some_iff.1 hr).1
      have HR := Lib.hid hr
      clear hbr hr hcap
      go_wp2_with fail
      refine (tvalid_any ⟨R, L, pR, cR, pL, cL⟩ _ w1 (HB.out.2.2.keep HG.out)).mono ?_
      rintro e w2 ⟨rfl, hg⟩
      simp only
      rw [hv]
      have HG2 := Lib.hid (grown_trans HG.out hg)
      clear hg hv c0 c1
      obtain ⟨c0, c1⟩ := row_cells (kept_row HB.out.1 HG2.out (by simp))
      obtain ⟨-, bb, off, rfl, -, hc⟩ := rdr_cells (R := R) (HB.out.2.2.keep HG2.out).r (by omega)
      obtain ⟨a0, a1⟩ := hc i r HR.out
      have i0 : (0 : Int) ≤ (i : Int) := by omega
      have i1 : (i : Int) < (R.length : Int) := by omega
      clear hc
      go_wp2_with fail
      go_ret
      exact ⟨rfl, grown_trans HB.out.2.1 HG2.out⟩
end Go.Proofs.Ytiencdgmnkphjaa

/- Components: the routers that can be reached from each other (the mathematics). -/
namespace Go.Proofs.Ytiencdgmnkphjaa
open Go.RowKit Bs
theorem hasI_mem {S : List Int} {x : Int} : hasI S x = true ↔ x ∈ S := by
  unfold hasI
  rw [List.any_eq_true]
  constructor
  · rintro ⟨y, hy, e⟩
    rw [decide_eq_true_eq] at e
    exact e ▸ hy
  · intro h
    exact ⟨x, h, decide_eq_true rfl⟩
theorem hasI_not {S : List Int} {x : Int} : hasI S x = false ↔ x ∉ S := by
  rw [← hasI_mem]
  cases hasI S x <;> simp
/-- y lies in whatever holds x and is closed under links. -/
def Rch (L : List Lk) (x y : Int) : Prop := ∀ P : Int → Prop, P x → (∀ u v, P u → v ∈ nbL L u → P v) → P y
theorem Rch.refl (L : List Lk) (x : Int) : Rch L x x := fun _ h _ => h
theorem Rch.step {L : List Lk} {x y z : Int} (h : Rch L x y) (hz : z ∈ nbL L y) : Rch L x z := fun P hx hs => hs _ _ (h P hx hs) hz
theorem Rch.trans {L : List Lk} {x y z : Int} (h : Rch L x y) (k : Rch L y z) : Rch L x z := fun P hx hs => k P (h P hx hs) hs
theorem nb_symm {L : List Lk} {x y : Int} (h : y ∈ nbL L x) : x ∈ nbL L y := by
  unfold nbL at *
  obtain ⟨l, hl, h1⟩ := List.mem_flatMap.1 h
  refine List.mem_flatMap.2 ⟨l, hl, ?_⟩
  rw [nb1_mem] at h1 ⊢
  omega
theorem Rch.symm {L : List Lk} {x y : Int} (h : Rch L x y) : Rch L y x :=
  h (fun u => Rch L u x) (Rch.refl L x) (fun u _ hu hv => Rch.trans (Rch.step (Rch.refl L _) (nb_symm hv)) hu)
theorem Rch.into {L : List Lk} {x y : Int} {S : List Int} (h : Rch L x y) (hx : x ∈ S) (hc : ∀ u ∈ S, ∀ v ∈ nbL L u, v ∈ S) : y ∈ S := h (· ∈ S) hx (fun u v hu hv => hc u hu v hv)
theorem dfs_sound (L : List Lk) : ∀ (k : Nat) (r : Int) (S : List Int) (x : Int), x ∈ dfs L k r S → x ∈ S ∨ Rch L r x
  | 0, _, _, _, h => .inl h
  | k + 1, r, S, x, h => by
    have fold : ∀ (N T : List Int), (∀ n ∈ N, n ∈ nbL L r) → x ∈ N.foldl (dstep L k) T → x ∈ T ∨ Rch L r x := by
      intro N
      induction N with
      | nil => intro T _ h; exact .inl h
      | cons n N ih =>
        intro T hn h
        rw [List.foldl_cons] at h
        rcases ih _ (fun m hm => hn m (List.mem_cons_of_mem _ hm)) h with h | h
        · unfold dstep at h
          split at h
          · exact .inl h
          · rcases dfs_sound L k n T x h with h | h
            · exact .inl h
            · exact .inr (Rch.trans (Rch.step (Rch.refl L r) (hn n List.mem_cons_self)) h)
        · exact .inr h
    rw [dfs_succ] at h
    rcases fold _ _ (fun _ h => h) h with h | h
    · rcases List.mem_append.1 h with h | h
      · exact .inl h
      · rw [List.mem_singleton] at h
        subst h
        exact .inr (Rch.refl L _)
    · exact .inr h
theorem dstep_sub (L : List Lk) (k : Nat) (T : List Int) (n x : Int) (h : x ∈ T) : x ∈ dstep L k T n := by
  obtain ⟨U, hU⟩ := dstep_ext L k (dfs_ext L k) T n
  rw [hU]
  exact List.mem_append_left _ h
theorem fold_sub (L : List Lk) (k : Nat) (N T : List Int) (x : Int) (h : x ∈ T) : x ∈ N.foldl (dstep L k) T := by
  obtain ⟨U, hU⟩ := fold_ext (dstep_ext L k (dfs_ext L k)) N T
  rw [hU]
  exact List.mem_append_left _ h
theorem dfs_closed (L : List Lk) (hL : ∀ x, ∀ y ∈ nbL L x, ∃ m : Nat, y = (m : Int) ∧ m < 100) : ∀ (k n : Nat) (S : List Int), n < 100 → hasI S (n : Int) = false → uns S ≤ k → (n : Int) ∈ dfs L k (n : Int) S ∧ ∀ x ∈ dfs L k (n : Int) S, x ∈ S ∨ ∀ y ∈ nbL L x, y ∈ dfs L k (n : Int) S
  | 0, n, S, hn, hs, hu => by
    have := uns_pos hn hs
    omega
  | k + 1, n, S, hn, hs, hu => by
    have fold : ∀ (N T : List Int), (∀ y ∈ N, ∃ m : Nat, y = (m : Int) ∧ m < 100) → uns T ≤ k → (∀ y ∈ N, y ∈ N.foldl (dstep L k) T) ∧ ∀ x ∈ N.foldl (dstep L k) T, x ∈ T ∨ ∀ y ∈ nbL L x, y ∈ N.foldl (dstep L k) T := by
      intro N
      induction N with
      | nil => intro T _ _; exact ⟨fun y h => (by cases h), fun x h => .inl h⟩
      | cons y N ih =>
        intro T hy hT
        rw [List.foldl_cons]
        have key : y ∈ dstep L k T y ∧ ∀ x ∈ dstep L k T y, x ∈ T ∨ ∀ z ∈ nbL L x, z ∈ dstep L k T y := by
          unfold dstep
          split
          · rename_i h
            exact ⟨hasI_mem.1 h, fun x hx => .inl hx⟩
          · rename_i h
            obtain ⟨m, rfl, hm⟩ := hy y List.mem_cons_self
            exact dfs_closed L hL k m T hm (by simpa using h) hT
        have hT2 : uns (dstep L k T y) ≤ k := by
          obtain ⟨U, hU⟩ := dstep_ext L k (dfs_ext L k) T y
          rw [hU]
          exact Nat.le_trans (uns_app T U) hT
        obtain ⟨i1, i2⟩ := ih (dstep L k T y) (fun z hz => hy z (List.mem_cons_of_mem _ hz)) hT2
        refine ⟨fun z hz => ?_, fun x hx => ?_⟩
        · rcases List.mem_cons.1 hz with rfl | hz
          · exact fold_sub L k N _ _ key.1
          · exact i1 z hz
        · rcases i2 x hx with h | h
          · rcases key.2 x h with h | h
            · exact .inl h
            · exact .inr (fun z hz => fold_sub L k N _ _ (h z hz))
          · exact .inr h
    rw [dfs_succ]
    have h1 := uns_snoc hn hs
    obtain ⟨f1, f2⟩ := fold (nbL L (n : Int)) (S ++ [(n : Int)]) (hL _) (by omega)
    refine ⟨fold_sub L k _ _ _ (by simp), fun x hx => ?_⟩
    rcases f2 x hx with h | h
    · rcases List.mem_append.1 h with h | h
      · exact .inl h
      · rw [List.mem_singleton] at h
        subst h
        exact .inr f1
    · exact .inr h
theorem nodup_snoc {S : List Int} {x : Int} (h : S.Nodup) (hx : x ∉ S) : (S ++ [x]).Nodup := by
  rw [List.nodup_append]
  refine ⟨h, by simp, fun a ha b hb e => ?_⟩
  rw [List.mem_singleton] at hb
  subst hb
  subst e
  exact hx ha
theorem dfs_nodup (L : List Lk) : ∀ (k : Nat) (r : Int) (S : List Int), hasI S r = false → S.Nodup → (dfs L k r S).Nodup
  | 0, _, _, _, h => h
  | k + 1, r, S, hr, h => by
    have fold : ∀ (N T : List Int), T.Nodup → (N.foldl (dstep L k) T).Nodup := by
      intro N
      induction N with
      | nil => intro T h; exact h
      | cons n N ih =>
        intro T h
        rw [List.foldl_cons]
        refine ih _ ?_
        unfold dstep
        split
        · exact h
        · rename_i hh
          exact dfs_nodup L k n T (by simpa using hh) h
    rw [dfs_succ]
    exact fold _ _ (nodup_snoc h (hasI_not.1 hr))
theorem srt_lt {U : List Int} (h : U.Nodup) : (srt U).Pairwise (· < ·) := by
  have h1 := srt_sorted U
  have h2 : (srt U).Nodup := (srt_perm U).nodup_iff.2 h
  refine List.Pairwise.imp₂ (fun a b (h1 : a ≤ b) (h2 : a ≠ b) => by omega) h1 h2
theorem srt_mem (U : List Int) (x : Int) : x ∈ srt U ↔ x ∈ U := (srt_perm U).mem_iff
/-- What a visit from r adds, where all that is visited before is closed: the routers that can be reached. -/
theorem visit {L : List Lk} (hL : ∀ x, ∀ y ∈ nbL L x, ∃ m : Nat, y = (m : Int) ∧ m < 100) {n : Nat} {S : List Int} (hn : n < 100) (hs : hasI S (n : Int) = false) (hS : S.Nodup) (hc : ∀ u ∈ S, ∀ v ∈ nbL L u, v ∈ S) :
    ∃ U, dfs L 100 (n : Int) S = S ++ U ∧ (S ++ U).Nodup ∧ (∀ y, y ∈ U ↔ Rch L (n : Int) y) ∧ ∀ u ∈ S ++ U, ∀ v ∈ nbL L u, v ∈ S ++ U := by
  obtain ⟨U, hU⟩ := dfs_ext L 100 (n : Int) S
  have hu : uns S ≤ 100 := by
    unfold uns
    have := List.countP_le_length (p := notS S) (l := List.range 100)
    simpa using this
  obtain ⟨h1, h2⟩ := dfs_closed L hL 100 n S hn hs hu
  have h3 := dfs_nodup L 100 (n : Int) S hs hS
  have h4 := dfs_sound L 100 (n : Int) S
  rw [hU] at h1 h2 h3 h4
  have hcl : ∀ u ∈ S ++ U, ∀ v ∈ nbL L u, v ∈ S ++ U := fun u hu v hv => by
    rcases h2 u hu with h | h
    · exact List.mem_append_left _ (hc u h v hv)
    · exact h v hv
  refine ⟨U, hU, h3, fun y => ⟨fun hy => ?_, fun hy => ?_⟩, hcl⟩
  · rcases h4 y (List.mem_append_right _ hy) with h | h
    · exact absurd rfl ((List.nodup_append.1 h3).2.2 y h y hy)
    · exact h
  · rcases List.mem_append.1 (hy.into h1 hcl) with h | h
    · exact absurd (hy.symm.into h hc) (hasI_not.1 hs)
    · exact h
/-- The routers that can be reached from r, ascending. -/
def cls (L : List Lk) (r : Int) : List Int := srt (dfs L 100 r [])
theorem cls_spec {L : List Lk} (hL : ∀ x, ∀ y ∈ nbL L x, ∃ m : Nat, y = (m : Int) ∧ m < 100) {n : Nat} (hn : n < 100) : (cls L (n : Int)).Pairwise (· < ·) ∧ ∀ y, y ∈ cls L (n : Int) ↔ Rch L (n : Int) y := by
  obtain ⟨U, h1, h2, h3, -⟩ := visit hL hn (S := []) rfl List.nodup_nil (fun u h => by cases h)
  rw [List.nil_append] at h1 h2
  unfold cls
  rw [h1]
  exact ⟨srt_lt h2, fun y => (srt_mem U y).trans (h3 y)⟩
/-- While the components are found: P: the routers gone through. -/
structure CI (R : List Rt) (L : List Lk) (P : List Rt) (Cs : List (List Int)) (S : List Int) : Prop where
  nd : S.Nodup
  cl : ∀ u ∈ S, ∀ v ∈ nbL L u, v ∈ S
  pm : Cs.flatten.Perm S
  each : ∀ C ∈ Cs, C.Pairwise (· < ·) ∧ (∀ x ∈ C, ∀ y, y ∈ C ↔ Rch L x y) ∧ ∃ r ∈ P, r.id ∈ C
  ids : ∀ x ∈ S, ∃ r ∈ R, r.id = x
  all : ∀ r ∈ P, r.id ∈ S
theorem CI.nil (R : List Rt) (L : List Lk) : CI R L [] [] [] := ⟨List.nodup_nil, (fun u h => by cases h), List.Perm.refl _, (fun C h => by cases h), (fun x h => by cases h), (fun r h => by cases h)⟩
theorem okT_near100 {R : List Rt} {L : List Lk} (h : okT R L = true) : ∀ x, ∀ y ∈ nbL L x, ∃ m : Nat, y = (m : Int) ∧ m < 100 := by
  intro x y hy
  obtain ⟨m, e, hm⟩ := okT_near h x y hy
  obtain ⟨h1, -⟩ := okT_ids h
  obtain ⟨r, hr, e2⟩ := List.mem_map.1 hm
  have := List.any_eq_false.1 h1 r hr
  unfold wrId at this
  have h3 : 1 ≤ r.id ∧ r.id ≤ 99 := by simpa using this
  exact ⟨m, e, by omega⟩
theorem rt_nat {R : List Rt} {L : List Lk} (h : okT R L = true) {r : Rt} (hr : r ∈ R) : ∃ n : Nat, r.id = (n : Int) ∧ n < 100 := by
  obtain ⟨h1, -⟩ := okT_ids h
  have := List.any_eq_false.1 h1 r hr
  unfold wrId at this
  have h3 : 1 ≤ r.id ∧ r.id ≤ 99 := by simpa using this
  exact ⟨r.id.toNat, by omega, by omega⟩
theorem reach_id {R : List Rt} {L : List Lk} (h : okT R L = true) {x y : Int} (hx : ∃ r ∈ R, r.id = x) (hy : Rch L x y) : ∃ r ∈ R, r.id = y := by
  refine hy (fun z => ∃ r ∈ R, r.id = z) hx (fun u v _ hv => ?_)
  obtain ⟨m, e, hm⟩ := okT_near h u v hv
  obtain ⟨r, hr, e2⟩ := List.mem_map.1 hm
  obtain ⟨n, e3, -⟩ := rt_nat h hr
  exact ⟨r, hr, by omega⟩
theorem CI.next {R P : List Rt} {L : List Lk} {Cs : List (List Int)} {S : List Int} {r : Rt} (hv : okT R L = true) (h : CI R L P Cs S) (hr : r ∈ R) :
    CI R L (P ++ [r]) (cstep L (Cs, S) r).1 (cstep L (Cs, S) r).2 ∧ (hasI S r.id = false → (cstep L (Cs, S) r).1 = Cs ++ [cls L r.id]) := by
  obtain ⟨n, en, hn⟩ := rt_nat hv hr
  have hL := okT_near100 hv
  unfold cstep
  simp only
  cases hs : hasI S r.id
  · rw [if_neg (by simp)]
    rw [en] at hs ⊢
    obtain ⟨U, h1, h2, h3, h4⟩ := visit hL hn hs h.nd h.cl
    obtain ⟨c1, c2⟩ := cls_spec hL hn
    simp only [h1, List.drop_left]
    obtain ⟨n1, n2, n3⟩ := List.nodup_append.1 h2
    have hsrt : srt U = cls L (n : Int) := eq_of_asc (srt_lt n2) c1 (fun x => (srt_mem U x).trans ((h3 x).trans (c2 x).symm))
    rw [hsrt]
    have hin : (n : Int) ∈ cls L (n : Int) := (c2 _).2 (Rch.refl L _)
    refine ⟨⟨h2, h4, ?_, ?_, ?_, ?_⟩, fun _ => rfl⟩
    · rw [List.flatten_append]
      refine h.pm.append ?_
      rw [← hsrt]
      simpa using srt_perm U
    · intro C hC
      rcases List.mem_append.1 hC with hC | hC
      · obtain ⟨e1, e2, r', e3, e4⟩ := h.each C hC
        exact ⟨e1, e2, r', List.mem_append_left _ e3, e4⟩
      · rw [List.mem_singleton] at hC
        subst hC
        refine ⟨c1, fun x hx y => ?_, r, by simp, by rw [en]; exact hin⟩
        rw [c2]
        have hx2 := (c2 x).1 hx
        exact ⟨fun hy => hx2.symm.trans hy, fun hy => hx2.trans hy⟩
    · intro x hx
      rcases List.mem_append.1 hx with hx | hx
      · exact h.ids x hx
      · exact reach_id hv ⟨r, hr, en⟩ ((h3 x).1 hx)
    · intro r' hr'
      rcases List.mem_append.1 hr' with hr' | hr'
      · exact List.mem_append_left _ (h.all r' hr')
      · rw [List.mem_singleton] at hr'
        subst hr'
        rw [en]
        exact List.mem_append_right _ ((h3 _).2 (Rch.refl L _))
  · rw [if_pos rfl]
    refine ⟨⟨h.nd, h.cl, h.pm, fun C hC => ?_, h.ids, fun r' hr' => ?_⟩, fun h => by cases h⟩
    · obtain ⟨e1, e2, r', e3, e4⟩ := h.each C hC
      exact ⟨e1, e2, r', List.mem_append_left _ e3, e4⟩
    · rcases List.mem_append.1 hr' with hr' | hr'
      · exact h.all r' hr'
      · rw [List.mem_singleton] at hr'
        subst hr'
        exact hasI_mem.1 hs
theorem CI.at_ {R : List Rt} {L : List Lk} (hv : okT R L = true) : ∀ k, k ≤ R.length → CI R L (R.take k) (compsF L (R.take k)).1 (compsF L (R.take k)).2
  | 0, _ => CI.nil R L
  | k + 1, hk => by
    have ih := CI.at_ hv k (by omega)
    obtain ⟨r, hr⟩ : ∃ r, R[k]? = some r := ⟨_, List.getElem?_eq_getElem (by omega)⟩
    rw [compsF_take hr, List.take_add_one, hr]
    exact (ih.next hv (List.mem_of_getElem? hr)).1
theorem CI.done {R : List Rt} {L : List Lk} (hv : okT R L = true) : CI R L R (comps R L) (compsF L R).2 := by
  have := CI.at_ hv R.length (Nat.le_refl _)
  rw [List.take_length] at this
  unfold comps
  rw [if_pos hv]
  exact this
/-- Two routers are connected. -/
theorem conn_iff {R : List Rt} {L : List Lk} (hv : okT R L = true) (a b : Int) : conn R L a b = true ↔ (∃ r ∈ R, r.id = a) ∧ Rch L a b := by
  have h := CI.done hv
  unfold conn
  rw [List.any_eq_true]
  constructor
  · rintro ⟨C, hC, hb⟩
    unfold both at hb
    rw [Bool.and_eq_true, hasI_mem, hasI_mem] at hb
    refine ⟨h.ids a (h.pm.mem_iff.1 (List.mem_flatten.2 ⟨C, hC, hb.1⟩)), ?_⟩
    exact ((h.each C hC).2.1 a hb.1 b).1 hb.2
  · rintro ⟨⟨r, hr, rfl⟩, hab⟩
    obtain ⟨C, hC, hx⟩ := List.mem_flatten.1 (h.pm.mem_iff.2 (h.all r hr))
    refine ⟨C, hC, ?_⟩
    unfold both
    rw [Bool.and_eq_true, hasI_mem, hasI_mem]
    exact ⟨hx, ((h.each C hC).2.1 _ hx b).2 hab⟩
/-- The components by the routers that are the least of theirs. -/
def rcomps (R : List Rt) (L : List Lk) : List (List Int) := (R.filter fun r => decide ((cls L r.id).head? = some r.id)).map fun r => cls L r.id
theorem head_least {l : List Int} {x : Int} (h : l.Pairwise (· < ·)) (hx : x ∈ l) : (∀ y ∈ l, x ≤ y) ↔ l.head? = some x := by
  cases l with
  | nil => cases hx
  | cons a t =>
    obtain ⟨h1, -⟩ := List.pairwise_cons.1 h
    simp only [List.head?_cons, Option.some.injEq]
    constructor
    · intro hy
      have h2 := hy a List.mem_cons_self
      rcases List.mem_cons.1 hx with e | hx
      · exact e.symm
      · have := h1 x hx
        omega
    · rintro rfl y hy
      rcases List.mem_cons.1 hy with e | hy
      · omega
      · have := h1 y hy
        omega
theorem rcomps_at {R : List Rt} {L : List Lk} (hv : okT R L = true) : ∀ k, k ≤ R.length → (compsF L (R.take k)).1 = rcomps (R.take k) L
  | 0, _ => rfl
  | k + 1, hk => by
    have ih := rcomps_at hv k (by omega)
    have hc := CI.at_ hv k (by omega)
    have ho := okT_all hv
    have hp := pair_of_asc ltR ltR_trans R ho.rs
    obtain ⟨r, hr⟩ : ∃ r, R[k]? = some r := ⟨_, List.getElem?_eq_getElem (by omega)⟩
    have hm := List.mem_of_getElem? hr
    obtain ⟨n, en, hn⟩ := rt_nat hv hm
    obtain ⟨c1, c2⟩ := cls_spec (okT_near100 hv) hn
    rw [← en] at c1 c2
    have hin : r.id ∈ cls L r.id := (c2 _).2 (Rch.refl L _)
    have hbefore : ∀ r' ∈ R.take k, r'.id < r.id := fun r' hr' => by
      obtain ⟨i, hi⟩ := List.mem_iff_getElem?.1 hr'
      have hik : i < k := by
        have := (List.getElem?_eq_some_iff.1 hi).1
        rw [List.length_take] at this
        omega
      rw [List.getElem?_take_of_lt hik] at hi
      have := pair_get hp hik hi hr
      exact of_decide_eq_true this
    rw [compsF_take hr, List.take_add_one, hr]
    have hstep := (hc.next hv hm).2
    unfold rcomps at ih ⊢
    rw [List.filter_append, List.map_append, ← ih]
    cases hs : hasI (compsF L (R.take k)).2 r.id
    · have e1 := hstep hs
      have hl : (cls L r.id).head? = some r.id := by
        refine (head_least c1 hin).1 (fun y hy => ?_)
        have hy2 := (c2 y).1 hy
        obtain ⟨r2, hr2, e2⟩ := reach_id hv ⟨r, hm, rfl⟩ hy2
        obtain ⟨i, hi⟩ := List.mem_iff_getElem?.1 hr2
        rcases Nat.lt_trichotomy i k with h | h | h
        · have : r2 ∈ R.take k := List.mem_iff_getElem?.2 ⟨i, by rw [List.getElem?_take_of_lt h]; exact hi⟩
          have h3 := hc.all r2 this
          rw [e2] at h3
          exact absurd (hy2.symm.into h3 hc.cl) (hasI_not.1 hs)
        · subst h
          rw [hr] at hi
          obtain rfl := Option.some.inj hi
          omega
        · have := of_decide_eq_true (pair_get hp h hr hi)
          omega
      rw [show (cstep L (compsF L (R.take k)) r).1 = _ from e1]
      congr 1
      simp [hl]
    · have hx := hasI_mem.1 hs
      obtain ⟨C, hC, hxC⟩ := List.mem_flatten.1 (hc.pm.mem_iff.2 hx)
      obtain ⟨e1, e2, r', e3, e4⟩ := hc.each C hC
      have hb := hbefore r' e3
      have hr' : r'.id ∈ cls L r.id := (c2 _).2 ((e2 _ hxC _).1 e4)
      have hl : ¬ ((cls L r.id).head? = some r.id) := fun hh => by
        have := (head_least c1 hin).2 hh _ hr'
        omega
      have e5 : (cstep L (compsF L (R.take k)) r).1 = (compsF L (R.take k)).1 := by
        unfold cstep
        rw [if_pos hs]
      rw [e5]
      simp [hl]
theorem comps_eq {R : List Rt} {L : List Lk} (hv : okT R L = true) : comps R L = rcomps R L := by
  have := rcomps_at hv R.length (Nat.le_refl _)
  rw [List.take_length] at this
  unfold comps
  rw [if_pos hv]
  exact this
/-- In a valid topology the components hold each router once. -/
theorem comps_perm {R : List Rt} {L : List Lk} (hv : okT R L = true) : (comps R L).flatten.Nodup ∧ (comps R L).flatten.length = R.length ∧ ∀ x, x ∈ (comps R L).flatten ↔ ∃ r ∈ R, r.id = x := by
  have h := CI.done hv
  have hnd := h.pm.nodup_iff.2 h.nd
  have hm : ∀ x, x ∈ (comps R L).flatten ↔ ∃ r ∈ R, r.id = x := fun x => by
    rw [h.pm.mem_iff]
    exact ⟨h.ids x, fun ⟨r, hr, e⟩ => e ▸ h.all r hr⟩
  have hp := pair_of_asc ltR ltR_trans R (okT_all hv).rs
  have hids : (R.map (·.id)).Nodup := by
    unfold List.Nodup
    rw [List.pairwise_map]
    exact hp.imp (fun h => by have := of_decide_eq_true h; omega)
  refine ⟨hnd, ?_, hm⟩
  have : (comps R L).flatten.Perm (R.map (·.id)) := (List.perm_ext_iff_of_nodup hnd hids).2 (fun x => by rw [hm, List.mem_map])
  rw [this.length_eq, List.length_map]
end Go.Proofs.Ytiencdgmnkphjaa
