/- Parts of the proof, packed: ToOrdM, ToWoM, ToLkM, ToLook, ToCln, ToOpnC, ToTopK. -/
import Derived.Test.YtiencdgmnkphjaaApl2
import Derived.Test.YtiencdgmnkphjaaApl6
import Derived.Test.YtiencdgmnkphjaaApl7
import Derived.Lib.SliceRun
import Derived.Test.YtiencdgmnkphjaaApl1
import Derived.Deep.AppendLies
import Derived.Deep.Onto
import Derived.Laws.OwnMore
/- Links in order, and the tape's topologies: the mathematics. -/
namespace Go.Proofs.Ytiencdgmnkphjaa
open Go.RowKit Bs
/-- A link laid where the lesser ones end. -/
def insL (O : List Lk) (y : Lk) : List Lk := O.takeWhile (fun x => ltL x y) ++ y :: O.dropWhile (fun x => ltL x y)
def ordL (L : List Lk) : List Lk := L.foldl insL []
theorem insL_cons (a : Lk) (t : List Lk) (y : Lk) : insL (a :: t) y = if ltL a y then a :: insL t y else y :: a :: t := by
  unfold insL
  rw [List.takeWhile_cons, List.dropWhile_cons]
  split <;> rfl
theorem insL_len (O : List Lk) (y : Lk) : (insL O y).length = O.length + 1 := by
  unfold insL
  rw [List.length_append, List.length_cons]
  have := congrArg List.length (List.takeWhile_append_dropWhile (p := fun x => ltL x y) (l := O))
  rw [List.length_append] at this
  omega
theorem ordL_take (L : List Lk) (k : Nat) (y : Lk) (h : L[k]? = some y) : ordL (L.take (k + 1)) = insL (ordL (L.take k)) y := by
  unfold ordL
  rw [List.take_add_one, h, List.foldl_append]
  rfl
theorem foldl_insL_len : ∀ (L O : List Lk), (L.foldl insL O).length = O.length + L.length
  | [], O => by simp
  | a :: t, O => by rw [List.foldl_cons, foldl_insL_len t, insL_len, List.length_cons]; omega
theorem ordL_len (L : List Lk) : (ordL L).length = L.length := by
  unfold ordL
  rw [foldl_insL_len]; simp
theorem insL_at (y : Lk) : ∀ (O : List Lk) (j : Nat), j ≤ O.length → (∀ i x, i < j → O[i]? = some x → ltL x y = true) → (∀ x, O[j]? = some x → ltL x y = false) → insL O y = O.take j ++ y :: O.drop j
  | [], j, hj, _, _ => by
    obtain rfl : j = 0 := by simpa using hj
    rfl
  | a :: t, 0, _, _, h2 => by
    rw [insL_cons, h2 a rfl]
    rfl
  | a :: t, j + 1, hj, h1, h2 => by
    rw [insL_cons, if_pos (h1 0 a (by omega) rfl), insL_at y t j (by simpa using hj) (fun i x hi hx => h1 (i + 1) x (by omega) (by simpa using hx)) (fun x hx => h2 x (by simpa using hx))]
    rfl
theorem mem_insL (y z : Lk) : ∀ O : List Lk, z ∈ insL O y ↔ z = y ∨ z ∈ O
  | [] => by simp [insL]
  | a :: t => by
    rw [insL_cons]
    split
    · rw [List.mem_cons, List.mem_cons, mem_insL y z t]
      constructor
      · rintro (h | h | h)
        · exact .inr (.inl h)
        · exact .inl h
        · exact .inr (.inr h)
      · rintro (h | h | h)
        · exact .inr (.inl h)
        · exact .inl h
        · exact .inr (.inr h)
    · simp
theorem ltL_trans {x y z : Lk} (h1 : ltL x y = true) (h2 : ltL y z = true) : ltL x z = true := by
  unfold ltL at *
  have h1 := of_decide_eq_true h1
  have h2 := of_decide_eq_true h2
  exact decide_eq_true (by omega)
/-- The ends differ. -/
def EndsNe (x y : Lk) : Prop := x.a ≠ y.a ∨ x.b ≠ y.b
theorem ltL_flip {x y : Lk} (h : ltL x y = false) (hn : EndsNe x y) : ltL y x = true := by
  unfold ltL at *
  have h := of_decide_eq_false h
  unfold EndsNe at hn
  exact decide_eq_true (by omega)
theorem insL_pair (y : Lk) : ∀ O : List Lk, O.Pairwise (fun x z => ltL x z = true) → (∀ x ∈ O, EndsNe x y) → (insL O y).Pairwise (fun x z => ltL x z = true)
  | [], _, _ => by simp [insL]
  | a :: t, hp, hn => by
    rw [insL_cons]
    obtain ⟨h1, h2⟩ := List.pairwise_cons.1 hp
    split
    · next hlt =>
      refine List.pairwise_cons.2 ⟨fun z hz => ?_, insL_pair y t h2 (fun x hx => hn x (List.mem_cons_of_mem _ hx))⟩
      rcases (mem_insL y z t).1 hz with rfl | hz
      · exact hlt
      · exact h1 z hz
    · next hlt =>
      have hya := ltL_flip (by simpa using hlt) (hn a (by simp))
      refine List.pairwise_cons.2 ⟨fun z hz => ?_, hp⟩
      rcases List.mem_cons.1 hz with rfl | hz
      · exact hya
      · exact ltL_trans hya (h1 z hz)
theorem foldl_insL_pair : ∀ (L O : List Lk), O.Pairwise (fun x z => ltL x z = true) → L.Pairwise EndsNe → (∀ x ∈ O, ∀ y ∈ L, EndsNe x y) → (L.foldl insL O).Pairwise (fun x z => ltL x z = true)
  | [], O, h, _, _ => h
  | a :: t, O, h, hL, hx => by
    obtain ⟨h1, h2⟩ := List.pairwise_cons.1 hL
    rw [List.foldl_cons]
    refine foldl_insL_pair t _ (insL_pair a O h (fun x hx1 => hx x hx1 a (by simp))) h2 (fun x hx1 y hy => ?_)
    rcases (mem_insL a x O).1 hx1 with rfl | h3
    · exact h1 y hy
    · exact hx x h3 y (List.mem_cons_of_mem _ hy)
theorem foldl_insL_mem (z : Lk) : ∀ (L O : List Lk), z ∈ L.foldl insL O ↔ z ∈ O ∨ z ∈ L
  | [], O => by simp
  | a :: t, O => by
    rw [List.foldl_cons, foldl_insL_mem z t, mem_insL, List.mem_cons]
    constructor
    · rintro ((h | h) | h)
      · exact .inr (.inl h)
      · exact .inl h
      · exact .inr (.inr h)
    · rintro (h | h | h)
      · exact .inl (.inr h)
      · exact .inl (.inl h)
      · exact .inr h
theorem ordL_mem (L : List Lk) (z : Lk) : z ∈ ordL L ↔ z ∈ L := by
  unfold ordL
  rw [foldl_insL_mem]
  simp
theorem ordL_pair (L : List Lk) (h : L.Pairwise EndsNe) : (ordL L).Pairwise (fun x z => ltL x z = true) :=
  foldl_insL_pair L [] List.Pairwise.nil h (fun x hx => by simp at hx)
theorem asc_of_pair {α : Type} (f : α → α → Bool) : ∀ l : List α, l.Pairwise (fun x z => f x z = true) → ascB f l = true
  | [], _ => rfl
  | [a], _ => rfl
  | a :: b :: t, h => by
    obtain ⟨h1, h2⟩ := List.pairwise_cons.1 h
    rw [ascB, h1 b (by simp), asc_of_pair f (b :: t) h2]
    rfl
/-- The routers 1 to k. -/
def rts (k : Nat) : List Rt := (List.range k).map fun (i : Nat) => (⟨(i : Int) + 1, true⟩ : Rt)
theorem rts_succ (k : Nat) : rts (k + 1) = rts k ++ [⟨(k : Int) + 1, true⟩] := by
  unfold rts
  rw [List.range_succ, List.map_append]
  rfl
theorem rts_len (k : Nat) : (rts k).length = k := by unfold rts; simp
theorem rts_mem (k : Nat) (r : Rt) : r ∈ rts k ↔ ∃ i : Nat, i < k ∧ r = ⟨(i : Int) + 1, true⟩ := by
  unfold rts
  rw [List.mem_map]
  constructor
  · rintro ⟨i, hi, rfl⟩; exact ⟨i, List.mem_range.1 hi, rfl⟩
  · rintro ⟨i, hi, rfl⟩; exact ⟨i, List.mem_range.2 hi, rfl⟩
/-- Links of the routers 1 to k, each before (b, a) in the order that the tape makes them, no two with the same ends. -/
structure GoodL (k b a : Int) (L : List Lk) : Prop where
  ok : ∀ l ∈ L, (1 ≤ l.a ∧ l.a < l.b ∧ l.b ≤ k) ∧ wrNum l = false
  lt : ∀ l ∈ L, l.b < b ∨ (l.b = b ∧ l.a < a)
  ne : L.Pairwise EndsNe
theorem GoodL.nil (k b a : Int) : GoodL k b a [] := ⟨by simp, by simp, List.Pairwise.nil⟩
theorem GoodL.next {k b a : Int} {L : List Lk} (h : GoodL k b a L) : GoodL k b (a + 1) L := ⟨h.ok, fun l hl => by rcases h.lt l hl with h1 | h1 <;> omega, h.ne⟩
theorem GoodL.row {k b a : Int} {L : List Lk} (h : GoodL k b a L) : GoodL k (b + 1) 1 L := ⟨h.ok, fun l hl => by rcases h.lt l hl with h1 | h1 <;> omega, h.ne⟩
theorem GoodL.add {k b a : Int} {L : List Lk} (h : GoodL k b a L) (y : Lk) (ha : y.a = a) (hb : y.b = b) (h1 : 1 ≤ a) (h2 : a < b) (h3 : b ≤ k) (hw : wrNum y = false) : GoodL k b (a + 1) (L ++ [y]) := by
  refine ⟨fun l hl => ?_, fun l hl => ?_, ?_⟩
  · rcases List.mem_append.1 hl with hl | hl
    · exact h.ok l hl
    · obtain rfl : l = y := by simpa using hl
      exact ⟨by omega, hw⟩
  · rcases List.mem_append.1 hl with hl | hl
    · rcases h.lt l hl with h4 | h4 <;> omega
    · obtain rfl : l = y := by simpa using hl
      omega
  · refine List.pairwise_append.2 ⟨h.ne, by simp, fun x hx z hz => ?_⟩
    obtain rfl : z = y := by simpa using hz
    unfold EndsNe
    rcases h.lt x hx with h4 | h4 <;> omega
theorem chk_good {k : Nat} {b a : Int} {L : List Lk} (h : GoodL k b a L) (hk : k ≤ 24) (hl : L.length ≤ 60) : chk (rts k) (ordL L) = 0 := by
  unfold chk
  rw [if_neg (by rw [rts_len, ordL_len]; omega), if_neg, if_neg, if_neg, if_neg, if_neg, if_neg]
  · rw [asc_of_pair ltL _ (ordL_pair L h.ne)]
    simp
  · rw [List.any_eq_true]
    rintro ⟨l, hl1, hw⟩
    have := (h.ok l ((ordL_mem L l).1 hl1)).1
    unfold wrEnd at hw
    have := of_decide_eq_true hw
    omega
  · rw [List.any_eq_true]
    rintro ⟨l, hl1, hw⟩
    have := (h.ok l ((ordL_mem L l).1 hl1)).1
    have hh : ∀ x : Int, 1 ≤ x → x ≤ k → hasR (rts k) x = true := fun x h1 h2 => by
      unfold hasR
      refine List.any_eq_true.2 ⟨⟨x, true⟩, (rts_mem k _).2 ⟨(x - 1).toNat, by omega, ?_⟩, by simp⟩
      congr 1
      omega
    unfold unk at hw
    rw [hh _ this.1 (by omega), hh _ (by omega) this.2.2] at hw
    simp at hw
  · rw [List.any_eq_true]
    rintro ⟨l, hl1, hw⟩
    rw [(h.ok l ((ordL_mem L l).1 hl1)).2] at hw
    cases hw
  · rw [asc_of_pair ltR (rts k)]
    · simp
    · unfold rts
      rw [List.pairwise_map]
      exact List.pairwise_lt_range.imp (fun {a b} hab => decide_eq_true (by show (a : Int) + 1 < (b : Int) + 1; omega))
  · rw [List.any_eq_true]
    rintro ⟨r, hr, hw⟩
    obtain ⟨i, hi, rfl⟩ := (rts_mem k r).1 hr
    have : wrId ⟨(i : Int) + 1, true⟩ = false := by
      unfold wrId
      rw [decide_eq_true (by constructor <;> (dsimp; omega))]
      rfl
    rw [this] at hw
    cases hw
/-- What the tape says of a topology of at most 'most' routers. -/
def TopOf (most : Nat) (n : Int) (R : List Rt) (L : List Lk) : Prop :=
  1 ≤ R.length ∧ (R.length ≤ most + 1 ∨ 25 ≤ R.length) ∧ R.length ≤ most + 25 ∧ L.length ≤ 60 ∧ (n ≤ 0 → chk R L = 0 ∧ R.length ≤ most)
end Go.Proofs.Ytiencdgmnkphjaa

/- What is left of a valid topology is valid. -/
namespace Go.Proofs.Ytiencdgmnkphjaa
open Go.RowKit Bs
theorem pair_of_asc {α : Type} (f : α → α → Bool) (ht : ∀ x y z, f x y = true → f y z = true → f x z = true) : ∀ l : List α, ascB f l = true → l.Pairwise (fun x z => f x z = true)
  | [], _ => List.Pairwise.nil
  | [a], _ => by simp
  | a :: b :: t, h => by
    rw [ascB, Bool.and_eq_true] at h
    have hp := pair_of_asc f ht (b :: t) h.2
    refine List.pairwise_cons.2 ⟨fun z hz => ?_, hp⟩
    rcases List.mem_cons.1 hz with rfl | hz
    · exact h.1
    · exact ht a b z h.1 ((List.pairwise_cons.1 hp).1 z hz)
theorem asc_filter {α : Type} (f : α → α → Bool) (ht : ∀ x y z, f x y = true → f y z = true → f x z = true) (g : α → Bool) {l : List α} (h : ascB f l = true) : ascB f (l.filter g) = true :=
  asc_of_pair f _ ((pair_of_asc f ht l h).sublist List.filter_sublist)
theorem any_filter {α : Type} (p g : α → Bool) {l : List α} (h : l.any p = false) : (l.filter g).any p = false := by
  rw [List.any_eq_false] at h ⊢
  intro x hx
  exact h x (List.mem_filter.1 hx).1
/-- What a valid topology meets. -/
structure OkAll (R : List Rt) (L : List Lk) : Prop where
  l1 : R.length ≤ 24
  l2 : L.length ≤ 60
  id : R.any wrId = false
  rs : ascB ltR R = true
  nm : L.any wrNum = false
  un : L.any (unk R) = false
  en : L.any wrEnd = false
  ls : ascB ltL L = true
theorem okAll_chk {R : List Rt} {L : List Lk} (h : OkAll R L) : chk R L = 0 := by
  unfold chk
  rw [if_neg (by have := h.l1; have := h.l2; omega), h.id, h.rs, h.nm, h.un, h.en, h.ls]
  rfl
theorem chk_okAll {R : List Rt} {L : List Lk} (h : chk R L = 0) : OkAll R L := by
  unfold chk at h
  by_cases h1 : 24 < R.length ∨ 60 < L.length
  · rw [if_pos h1] at h; cases h
  rw [if_neg h1] at h
  cases h2 : R.any wrId
  case true => rw [h2] at h; cases h
  cases h3 : ascB ltR R
  case false => rw [h2, h3] at h; cases h
  cases h4 : L.any wrNum
  case true => rw [h2, h3, h4] at h; cases h
  cases h5 : L.any (unk R)
  case true => rw [h2, h3, h4, h5] at h; cases h
  cases h6 : L.any wrEnd
  case true => rw [h2, h3, h4, h5, h6] at h; cases h
  cases h7 : ascB ltL L
  case false => rw [h2, h3, h4, h5, h6, h7] at h; cases h
  exact ⟨by omega, by omega, h2, h3, h4, h5, h6, h7⟩
theorem ltR_trans (x y z : Rt) (h1 : ltR x y = true) (h2 : ltR y z = true) : ltR x z = true := by
  unfold ltR at *
  have h1 := of_decide_eq_true h1
  have h2 := of_decide_eq_true h2
  exact decide_eq_true (by omega)
theorem wo_ok (F : Fl) {R : List Rt} {L : List Lk} (h : OkAll R L) : OkAll (woR F R) (woL F L) := by
  refine ⟨Nat.le_trans (List.length_filter_le _ _) h.l1, Nat.le_trans (List.length_filter_le _ _) h.l2, any_filter _ _ h.id, asc_filter _ ltR_trans _ h.rs, any_filter _ _ h.nm, ?_, any_filter _ _ h.en, asc_filter ltL (fun _ _ _ => ltL_trans) _ h.ls⟩
  have hh : ∀ x, hasR R x = true → hasI F.X x = false → hasR (woR F R) x = true := by
    intro x hx hi
    unfold hasR at hx ⊢
    obtain ⟨r, hr, he⟩ := List.any_eq_true.1 hx
    refine List.any_eq_true.2 ⟨r, List.mem_filter.2 ⟨hr, ?_⟩, he⟩
    rw [of_decide_eq_true he, hi]
    rfl
  rw [List.any_eq_false]
  intro l hl hu
  obtain ⟨hl1, hk⟩ := List.mem_filter.1 hl
  have h1 := List.any_eq_false.1 h.un l hl1
  unfold woK at hk
  rw [Bool.and_eq_true, Bool.and_eq_true] at hk
  have ha : hasI F.X l.a = false := by simpa using hk.1
  have hb : hasI F.X l.b = false := by simpa using hk.2.1
  unfold unk at h1 hu
  cases e1 : hasR R l.a
  · rw [e1] at h1; simp at h1
  cases e2 : hasR R l.b
  · rw [e1, e2] at h1; simp at h1
  rw [hh _ e1 ha, hh _ e2 hb] at hu
  simp at hu
theorem wo_chk (F : Fl) (R : List Rt) (L : List Lk) : chk (if okT R L = true then woR F R else []) (if okT R L = true then woL F L else []) = 0 := by
  by_cases h : okT R L = true
  · rw [if_pos h, if_pos h]
    refine okAll_chk (wo_ok F (chk_okAll ?_))
    unfold okT at h
    simpa using h
  · rw [if_neg h, if_neg h]
    rfl
end Go.Proofs.Ytiencdgmnkphjaa

/- What is looked up in a valid topology: the mathematics. -/
namespace Go.Proofs.Ytiencdgmnkphjaa
open Go.RowKit Bs
theorem pair_get {α : Type} {f : α → α → Bool} {l : List α} (h : l.Pairwise (fun x z => f x z = true)) {i j : Nat} {x y : α} (hij : i < j) (hx : l[i]? = some x) (hy : l[j]? = some y) : f x y = true := by
  obtain ⟨hi, rfl⟩ := List.getElem?_eq_some_iff.1 hx
  obtain ⟨hj, rfl⟩ := List.getElem?_eq_some_iff.1 hy
  exact List.pairwise_iff_getElem.1 h i j hi hj hij
/-- The router with a number, the first. -/
def capR (R : List Rt) (x : Int) : Bool := match R.find? (fun r => decide (r.id = x)) with
  | some r => r.cap
  | none => false
theorem bs_router {R : List Rt} {L : List Lk} (ho : OkAll R L) {x : Int} {c b : Bool} {i : Nat} (h : BsP cvR R ⟨x, c⟩ i b) :
    b = hasR R x ∧ (b = true → ∃ r, R[i]? = some r ∧ r.id = x ∧ r.cap = capR R x) := by
  have hp := pair_of_asc ltR ltR_trans R ho.rs
  have key : ∀ j y, R[j]? = some y → y.id = x → i = j := by
    intro j y hy hyx
    have hlt := (List.getElem?_eq_some_iff.1 hy).1
    by_cases h1 : i < j
    · obtain ⟨z, hz⟩ : ∃ z, R[i]? = some z := ⟨_, List.getElem?_eq_getElem (by omega)⟩
      have h2 := h.hi z hz
      have h3 := of_decide_eq_true (show decide (z.id < y.id) = true from pair_get hp h1 hz hy)
      unfold cvR at h2
      have h4 := cmpV_ge.1 h2
      simp only at h4
      omega
    · by_cases h1' : j < i
      · obtain ⟨z, hz⟩ : ∃ z, R[i - 1]? = some z := ⟨_, List.getElem?_eq_getElem (by have := h.le; omega)⟩
        have h2 := h.lo z (by omega) hz
        unfold cvR at h2
        have h4 := cmpV_lt.1 h2
        simp only at h4
        by_cases hj : j = i - 1
        · subst hj
          rw [hz] at hy
          obtain rfl := Option.some.inj hy
          omega
        · have h3 := of_decide_eq_true (show decide (y.id < z.id) = true from pair_get hp (by omega) hy hz)
          omega
      · omega
  have hb : b = true → ∃ r, R[i]? = some r ∧ r.id = x := by
    intro hb
    have he := h.eq
    rw [hb] at he
    cases hr : R[i]? with
    | none => rw [hr] at he; cases he
    | some r =>
      rw [hr] at he
      refine ⟨r, rfl, ?_⟩
      have he2 : cvR r ⟨x, c⟩ = 0 := by simpa using he.symm
      exact cmpV_eq.1 he2
  constructor
  · cases hh : hasR R x
    · cases hbb : b
      · rfl
      · obtain ⟨r, hr, he⟩ := hb hbb
        have : hasR R x = true := List.any_eq_true.2 ⟨r, List.mem_of_getElem? hr, decide_eq_true he⟩
        rw [hh] at this
        cases this
    · obtain ⟨r, hr, he⟩ := List.any_eq_true.1 hh
      obtain ⟨j, hj, hje⟩ := List.mem_iff_getElem.1 hr
      have hjs : R[j]? = some r := by rw [List.getElem?_eq_getElem hj, hje]
      obtain rfl := key j r hjs (of_decide_eq_true he)
      rw [h.eq, hjs]
      have : cvR r ⟨x, c⟩ = 0 := cmpV_eq.2 (of_decide_eq_true he)
      simp [this]
  · intro hbt
    obtain ⟨r, hr, he⟩ := hb hbt
    refine ⟨r, hr, he, ?_⟩
    unfold capR
    cases hf : R.find? (fun r => decide (r.id = x)) with
    | none =>
      have := List.find?_eq_none.1 hf r (List.mem_of_getElem? hr)
      rw [decide_eq_true he] at this
      exact absurd rfl this
    | some r2 =>
      have h2 := List.find?_some hf
      obtain ⟨j, hj, hje⟩ := List.mem_iff_getElem.1 (List.mem_of_find?_eq_some hf)
      have hjs : R[j]? = some r2 := by rw [List.getElem?_eq_getElem hj, hje]
      obtain rfl := key j r2 hjs (of_decide_eq_true h2)
      rw [hr] at hjs
      obtain rfl := Option.some.inj hjs
      rfl
/-- The cost from one router to another, of the first link that joins them. -/
def priceB (a b : Int) (l : Lk) : Option Int := if l.a = a ∧ l.b = b then some l.ca else if l.b = a ∧ l.a = b then some l.cb else none
def priceV (L : List Lk) (a b : Int) : Int × Bool := match L.findSome? (priceB a b) with
  | some c => (c, true)
  | none => (0, false)
theorem bs_link {R : List Rt} {L : List Lk} (ho : OkAll R L) {x y : Int} {b : Bool} {i : Nat} (h : BsP cvL L ⟨x, y, 0, 0, 0⟩ i b) :
    (b = true → ∃ l, L[i]? = some l ∧ l.a = x ∧ l.b = y) ∧ ∀ l ∈ L, l.a = x → l.b = y → b = true ∧ L[i]? = some l := by
  have hp := pair_of_asc ltL (fun _ _ _ => ltL_trans) L ho.ls
  have hb : b = true → ∃ r, L[i]? = some r ∧ r.a = x ∧ r.b = y := by
    intro hb
    have he := h.eq
    rw [hb] at he
    cases hr : L[i]? with
    | none => rw [hr] at he; cases he
    | some r =>
      rw [hr] at he
      have he2 : cvL r ⟨x, y, 0, 0, 0⟩ = 0 := by simpa using he.symm
      exact ⟨r, rfl, cmpL_eq.1 he2⟩
  refine ⟨hb, ?_⟩
  intro l hl hx hy
  obtain ⟨j, hj, hje⟩ := List.mem_iff_getElem.1 hl
  have hjs : L[j]? = some l := by rw [List.getElem?_eq_getElem hj, hje]
  have e : i = j := by
    by_cases h1 : i < j
    · obtain ⟨z, hz⟩ : ∃ z, L[i]? = some z := ⟨_, List.getElem?_eq_getElem (by omega)⟩
      have h2 := cmpL_ge.1 (show 0 ≤ cmpL z ⟨x, y, 0, 0, 0⟩ from h.hi z hz)
      have h3 := pair_get hp h1 hz hjs
      unfold ltL at h2 h3
      have h2 := of_decide_eq_false h2
      have h3 := of_decide_eq_true h3
      simp only at h2
      omega
    · by_cases h1' : j < i
      · obtain ⟨z, hz⟩ : ∃ z, L[i - 1]? = some z := ⟨_, List.getElem?_eq_getElem (by have := h.le; omega)⟩
        have h2 : ltL z ⟨x, y, 0, 0, 0⟩ = true := by
          cases hl2 : ltL z ⟨x, y, 0, 0, 0⟩ with
          | true => rfl
          | false =>
            have := cmpL_ge.2 hl2
            have h5 : cmpL z ⟨x, y, 0, 0, 0⟩ < 0 := h.lo z (by omega) hz
            omega
        unfold ltL at h2
        have h2 := of_decide_eq_true h2
        simp only at h2
        by_cases hj2 : j = i - 1
        · subst hj2
          rw [hz] at hjs
          obtain rfl := Option.some.inj hjs
          omega
        · have h3 := pair_get hp (show j < i - 1 by omega) hjs hz
          unfold ltL at h3
          have h3 := of_decide_eq_true h3
          omega
      · omega
  subst e
  refine ⟨?_, hjs⟩
  rw [h.eq, hjs]
  have : cvL l ⟨x, y, 0, 0, 0⟩ = 0 := cmpL_eq.2 ⟨hx, hy⟩
  simp [this]
theorem ends_lt {R : List Rt} {L : List Lk} (ho : OkAll R L) : ∀ l ∈ L, l.a < l.b := by
  intro l hl
  have h := List.any_eq_false.1 ho.en l hl
  unfold wrEnd at h
  have h2 : ¬ l.b ≤ l.a := fun hc => h (decide_eq_true hc)
  omega
/-- What Cost returns, by where the binary search has ended. -/
theorem bs_cost {R : List Rt} {L : List Lk} (ho : OkAll R L) {x y : Int} {b : Bool} {i : Nat} (h : BsP cvL L ⟨min x y, max x y, 0, 0, 0⟩ i b) :
    (b = false → priceV L x y = (0, false)) ∧ (b = true → ∃ l, L[i]? = some l ∧ priceV L x y = (if x < y then l.ca else l.cb, true)) := by
  obtain ⟨h1, h2⟩ := bs_link ho h
  have he := ends_lt ho
  constructor
  · intro hb
    unfold priceV
    have : L.findSome? (priceB x y) = none := by
      rw [List.findSome?_eq_none_iff]
      intro l hl
      have hlt := he l hl
      unfold priceB
      have n1 : ¬ (l.a = x ∧ l.b = y) := fun hc => by
        have := (h2 l hl (by omega) (by omega)).1
        rw [hb] at this; cases this
      have n2 : ¬ (l.b = x ∧ l.a = y) := fun hc => by
        have := (h2 l hl (by omega) (by omega)).1
        rw [hb] at this; cases this
      rw [if_neg n1, if_neg n2]
    rw [this]
  · intro hb
    obtain ⟨l, hl, ha, hbb⟩ := h1 hb
    refine ⟨l, hl, ?_⟩
    have hlt := he l (List.mem_of_getElem? hl)
    have hxy : x ≠ y := by omega
    have hall : ∀ m ∈ L, ∀ c, priceB x y m = some c → m = l := by
      intro m hm c hc
      unfold priceB at hc
      have hmlt := he m hm
      have hends : m.a = min x y ∧ m.b = max x y := by
        by_cases k1 : m.a = x ∧ m.b = y
        · omega
        · rw [if_neg k1] at hc
          by_cases k2 : m.b = x ∧ m.a = y
          · omega
          · rw [if_neg k2] at hc; cases hc
      have := (h2 m hm hends.1 hends.2).2
      rw [hl] at this
      exact (Option.some.inj this).symm
    have hval : priceB x y l = some (if x < y then l.ca else l.cb) := by
      unfold priceB
      by_cases hlt2 : x < y
      · rw [if_pos (by omega), if_pos hlt2]
      · rw [if_neg (by omega), if_pos (by omega), if_neg hlt2]
    unfold priceV
    cases hf : L.findSome? (priceB x y) with
    | none =>
      have := List.findSome?_eq_none_iff.1 hf l (List.mem_of_getElem? hl)
      rw [hval] at this; cases this
    | some c =>
      obtain ⟨m, hm, hmc⟩ := List.exists_of_findSome?_eq_some hf
      obtain rfl := hall m hm c hmc
      rw [hval] at hmc
      obtain rfl := Option.some.inj hmc
      rfl
/-- The neighbours of a router, in the order of the routers. -/
def nearR (R : List Rt) (L : List Lk) (x : Int) : List Int := (R.filter fun r => (priceV L x r.id).2).map (·.id)
theorem eq_of_asc : ∀ {l m : List Int}, l.Pairwise (· < ·) → m.Pairwise (· < ·) → (∀ x, x ∈ l ↔ x ∈ m) → l = m
  | [], [], _, _, _ => rfl
  | [], b :: m, _, _, h => by have := (h b).2 (by simp); cases this
  | a :: l, [], _, _, h => by have := (h a).1 (by simp); cases this
  | a :: l, b :: m, hl, hm, h => by
    obtain ⟨h1, h2⟩ := List.pairwise_cons.1 hl
    obtain ⟨h3, h4⟩ := List.pairwise_cons.1 hm
    have e : a = b := by
      have ha := (h a).1 (by simp)
      have hb := (h b).2 (by simp)
      rcases List.mem_cons.1 ha with ha | ha
      · exact ha
      rcases List.mem_cons.1 hb with hb | hb
      · exact hb.symm
      have := h1 b hb
      have := h3 a ha
      omega
    subst e
    congr 1
    refine eq_of_asc h2 h4 fun x => ?_
    constructor
    · intro hx
      rcases List.mem_cons.1 ((h x).1 (List.mem_cons_of_mem _ hx)) with rfl | hx2
      · have := h1 x hx; omega
      · exact hx2
    · intro hx
      rcases List.mem_cons.1 ((h x).2 (List.mem_cons_of_mem _ hx)) with rfl | hx2
      · have := h3 x hx; omega
      · exact hx2
theorem nb1_mem (x y : Int) (l : Lk) : y ∈ nb1 x l ↔ (l.b = x ∧ y = l.a) ∨ (l.a = x ∧ y = l.b) := by
  unfold nb1
  rw [List.mem_append]
  by_cases h1 : l.b = x <;> by_cases h2 : l.a = x <;> simp [h1, h2]
theorem price_ok (L : List Lk) (x y : Int) : (priceV L x y).2 = true ↔ ∃ l ∈ L, (l.b = x ∧ y = l.a) ∨ (l.a = x ∧ y = l.b) := by
  unfold priceV
  cases hf : L.findSome? (priceB x y) with
  | none =>
    simp only
    constructor
    · intro h; cases h
    · rintro ⟨l, hl, h⟩
      have := List.findSome?_eq_none_iff.1 hf l hl
      unfold priceB at this
      by_cases k1 : l.a = x ∧ l.b = y
      · rw [if_pos k1] at this; cases this
      · rw [if_neg k1] at this
        by_cases k2 : l.b = x ∧ l.a = y
        · rw [if_pos k2] at this; cases this
        · omega
  | some c =>
    simp only
    refine ⟨fun _ => ?_, fun _ => by trivial⟩
    obtain ⟨m, hm, hmc⟩ := List.exists_of_findSome?_eq_some hf
    refine ⟨m, hm, ?_⟩
    unfold priceB at hmc
    by_cases k1 : m.a = x ∧ m.b = y
    · exact .inr ⟨k1.1, k1.2.symm⟩
    · rw [if_neg k1] at hmc
      by_cases k2 : m.b = x ∧ m.a = y
      · exact .inl ⟨k2.1, k2.2.symm⟩
      · rw [if_neg k2] at hmc; cases hmc
theorem near_eq {R : List Rt} {L : List Lk} (ho : OkAll R L) (x : Int) : nbL L x = nearR R L x := by
  have he := ends_lt ho
  have hp := pair_of_asc ltL (fun _ _ _ => ltL_trans) L ho.ls
  have hr := pair_of_asc ltR ltR_trans R ho.rs
  refine eq_of_asc ?_ ?_ fun y => ?_
  · unfold nbL
    rw [List.pairwise_flatMap]
    refine ⟨fun l hl => ?_, ?_⟩
    · have := he l hl
      unfold nb1
      by_cases h1 : l.b = x <;> by_cases h2 : l.a = x <;> simp [h1, h2]
      omega
    · refine List.Pairwise.imp_of_mem ?_ hp
      intro l m hl hm hlm u hu v hv
      have h1 := he l hl
      have h2 := he m hm
      unfold ltL at hlm
      have h3 := of_decide_eq_true hlm
      rcases (nb1_mem x u l).1 hu with hu | hu <;> rcases (nb1_mem x v m).1 hv with hv | hv <;> omega
  · unfold nearR
    rw [List.pairwise_map]
    exact (hr.sublist List.filter_sublist).imp (fun h => of_decide_eq_true h)
  · unfold nbL nearR
    rw [List.mem_flatMap, List.mem_map]
    constructor
    · rintro ⟨l, hl, hy⟩
      have hy := (nb1_mem x y l).1 hy
      have hk := List.any_eq_false.1 ho.un l hl
      unfold unk at hk
      have hak : hasR R l.a = true ∧ hasR R l.b = true := by
        cases e1 : hasR R l.a <;> cases e2 : hasR R l.b <;> rw [e1, e2] at hk <;> simp at hk ⊢
      have hyr : hasR R y = true := by
        rcases hy with hy | hy
        · rw [hy.2]; exact hak.1
        · rw [hy.2]; exact hak.2
      obtain ⟨r, hr2, hid⟩ := List.any_eq_true.1 hyr
      have hid := of_decide_eq_true hid
      refine ⟨r, List.mem_filter.2 ⟨hr2, ?_⟩, hid⟩
      rw [hid]
      exact (price_ok L x y).2 ⟨l, hl, hy⟩
    · rintro ⟨r, hr2, rfl⟩
      obtain ⟨l, hl, h⟩ := (price_ok L x r.id).1 (List.mem_filter.1 hr2).2
      exact ⟨l, hl, (nb1_mem x r.id l).2 h⟩
end Go.Proofs.Ytiencdgmnkphjaa

/- topology: routerAt, linkAt, Has, Capable, Cost, Neighbours. -/
namespace Go.Proofs.Ytiencdgmnkphjaa
open Go.RowKit Bs
set_option maxRecDepth 100000 in
set_option maxHeartbeats 1600000 in
theorem trat_any (T : Tg) (x : Int) (q : Nat → Prop) (w : World) (hT : TgOk w q T) (h1 : T.R.length ≤ 1000000) :
    Calls Try.prog 68 #[.agg #[.slice T.pR T.R.length T.cR, .slice T.pL T.L.length T.cL], .int .i64 x] w fun e w' => BsPost cvR T.R ⟨x, false⟩ w e w' := by
  obtain ⟨R, L, pR, cR, pL, cL⟩ := T
  simp only at h1 ⊢
  obtain ⟨k1, k2⟩ := tone_box w #[.slice pR R.length cR, .slice pL L.length cL] 26
  have HB := Lib.hid (And.intro k1 (And.intro k2 (hT.keep k2)))
  clear k1 k2 hT
  go_enter Try.func68, Try.ntmps68
  go_upto_region 1 with fail
  generalize w.alloc _ = wa at *
  obtain ⟨c0, c1⟩ := row_cells HB.out.1
  go_wp2_with fail
  refine (bsR_any R ⟨x, false⟩ pR cR _ wa HB.out.2.2.r h1).mono ?_
  rintro e w1 ⟨i, b, rfl, hb, hg⟩
  have HG := Lib.hid hg
  clear hg
  go_wp2_with fail
  go_ret2
  exact ⟨i, b, rfl, hb, grown_trans HB.out.2.1 HG.out⟩
set_option maxRecDepth 100000 in
set_option maxHeartbeats 1600000 in
theorem tlat_any (T : Tg) (x y : Int) (q : Nat → Prop) (w : World) (hT : TgOk w q T) (h1 : T.L.length ≤ 1000000) :
    Calls Try.prog 72 #[.agg #[.slice T.pR T.R.length T.cR, .slice T.pL T.L.length T.cL], .int .i64 x, .int .i64 y] w fun e w' => BsPost cvL T.L ⟨x, y, 0, 0, 0⟩ w e w' := by
  obtain ⟨R, L, pR, cR, pL, cL⟩ := T
  simp only at h1 ⊢
  obtain ⟨k1, k2⟩ := tone_box w #[.slice pR R.length cR, .slice pL L.length cL] 26
  have HB := Lib.hid (And.intro k1 (And.intro k2 (hT.keep k2)))
  clear k1 k2 hT
  go_enter Try.func72, Try.ntmps72
  go_upto_region 1 with fail
  generalize w.alloc _ = wa at *
  obtain ⟨c0, c1⟩ := row_cells HB.out.1
  go_wp2_with fail
  refine (bsL_any L ⟨x, y, 0, 0, 0⟩ pL cL _ wa HB.out.2.2.l h1).mono ?_
  rintro e w1 ⟨i, b, rfl, hb, hg⟩
  have HG := Lib.hid hg
  clear hg
  go_wp2_with fail
  go_ret2
  exact ⟨i, b, rfl, hb, grown_trans HB.out.2.1 HG.out⟩
/-- The results of Has, Capable, Cost, Neighbours. -/
def hasV (R : List Rt) (L : List Lk) (x : Int) : Bool := okT R L && hasR R x
def capV (R : List Rt) (L : List Lk) (x : Int) : Bool := okT R L && capR R x
def costV (R : List Rt) (L : List Lk) (x y : Int) : Int × Bool := if okT R L = true then priceV L x y else (0, false)
def nearV (R : List Rt) (L : List Lk) (x : Int) : List Int := if okT R L = true then nearR R L x else []
theorem capR_has {R : List Rt} {x : Int} (h : hasR R x = false) : capR R x = false := by
  unfold capR
  cases hf : R.find? (fun r => decide (r.id = x)) with
  | none => rfl
  | some r =>
    have h2 := List.find?_some hf
    have : hasR R x = true := List.any_eq_true.2 ⟨r, List.mem_of_find?_eq_some hf, h2⟩
    rw [h] at this; cases this
theorem okT_all {R : List Rt} {L : List Lk} (h : okT R L = true) : OkAll R L := chk_okAll (by unfold okT at h; simpa using h)
set_option maxRecDepth 100000 in
set_option maxHeartbeats 1600000 in
theorem thas_any (T : Tg) (x : Int) (q : Nat → Prop) (w : World) (hT : TgOk w q T) (h1 : T.R.length ≤ 1000000) :
    Calls Try.prog 20 #[.agg #[.slice T.pR T.R.length T.cR, .slice T.pL T.L.length T.cL], .int .i64 x] w fun e w' => e = .returned (.bool (hasV T.R T.L x)) ∧ w.grownBy w' none := by
  obtain ⟨R, L, pR, cR, pL, cL⟩ := T
  simp only at h1 ⊢
  obtain ⟨k1, k2⟩ := tone_box w #[.slice pR R.length cR, .slice pL L.length cL] 26
  have HB := Lib.hid (And.intro k1 (And.intro k2 (hT.keep k2)))
  clear k1 k2 hT
  obtain ⟨z, hz⟩ : ∃ z, hasV R L x = z := ⟨_, rfl⟩
  rw [hz]
  have HZ := Lib.hid hz
  clear hz
  go_enter Try.func20, Try.ntmps20
  go_upto_region 1 with fail
  generalize w.alloc _ = wa at *
  obtain ⟨c0, c1⟩ := row_cells HB.out.1
  go_wp2_with fail
  refine (trat_any ⟨R, L, pR, cR, pL, cL⟩ x _ wa HB.out.2.2 h1).mono ?_
  rintro e w1 ⟨i, b, rfl, hb, hg⟩
  have HG := Lib.hid hg
  clear hg c0 c1
  obtain ⟨c0, c1⟩ := row_cells (kept_row HB.out.1 HG.out (by simp))
  cases hv : okT R L
  · obtain rfl : false = z := by have := HZ.out; unfold hasV at this; rw [hv] at this; simpa using this
    go_wp2_with fail
    refine (tvalid_any ⟨R, L, pR, cR, pL, cL⟩ _ w1 (HB.out.2.2.keep HG.out)).mono ?_
    rintro e w2 ⟨rfl, hg⟩
    simp only
    rw [hv]
    have HG2 := Lib.hid (grown_trans HG.out hg)
    clear hg hv
    go_wp2_with fail
    go_ret
    exact ⟨rfl, grown_trans HB.out.2.1 HG2.out⟩
  · obtain rfl : b = z := by have := HZ.out; unfold hasV at this; rw [hv] at this; rw [← this]; exact (bs_router (okT_all hv) hb.out).1
    go_wp2_with fail
    refine (tvalid_any ⟨R, L, pR, cR, pL, cL⟩ _ w1 (HB.out.2.2.keep HG.out)).mono ?_
    rintro e w2 ⟨rfl, hg⟩
    simp only
    rw [hv]
    have HG2 := Lib.hid (grown_trans HG.out hg)
    clear hg hv
    go_wp2_with fail
    go_ret
    exact ⟨rfl, grown_trans HB.out.2.1 HG2.out⟩
set_option maxRecDepth 100000 in
set_option maxHeartbeats 1600000 in
theorem tcap_any (T : Tg) (x : Int) (q : Nat → Prop) (w : World) (hT : TgOk w q T) (h1 : T.R.length ≤ 1000000) :
    Calls Try.prog 22 #[.agg #[.slice T.pR T.R.length T.cR, .slice T.pL T.L.length T.cL], .int .i64 x] w fun e w' => e = .returned (.bool (capV T.R T.L x)) ∧ w.grownBy w' none := by
  obtain ⟨R, L, pR, cR, pL, cL⟩ := T
  simp only at h1 ⊢
  obtain ⟨k1, k2⟩ := tone_box w #[.slice pR R.length cR, .slice pL L.length cL] 26
  have HB := Lib.hid (And.intro k1 (And.intro k2 (hT.keep k2)))
  clear k1 k2 hT
  obtain ⟨z, hz⟩ : ∃ z, capV R L x = z := ⟨_, rfl⟩
  rw [hz]
  have HZ := Lib.hid hz
  clear hz
  go_enter Try.func22, Try.ntmps22
  go_upto_region 1 with fail
  generalize w.alloc _ = wa at *
  obtain ⟨c0, c1⟩ := row_cells HB.out.1
  go_wp2_with fail
  refine (trat_any ⟨R, L, pR, cR, pL, cL⟩ x _ wa HB.out.2.2 h1).mono ?_
  rintro e w1 ⟨i, b, rfl, hb, hg⟩
  have HG := Lib.hid hg
  clear hg c0 c1
  obtain ⟨c0, c1⟩ := row_cells (kept_row HB.out.1 HG.out (by simp))
  cases hv : okT R L
  · obtain rfl : false = z := by have := HZ.out; unfold capV at this; rw [hv] at this; simpa using this
    go_wp2_with fail
    refine (tvalid_any ⟨R, L, pR, cR, pL, cL⟩ _ w1 (HB.out.2.2.keep HG.out)).mono ?_
    rintro e w2 ⟨rfl, hg⟩
    simp only
    rw [hv]
    have HG2 := Lib.hid (grown_trans HG.out hg)
    clear hg hv
    go_wp2_with fail
    go_ret
    exact ⟨rfl, grown_trans HB.out.2.1 HG2.out⟩
  · have hbr := bs_router (okT_all hv) hb.out
    cases b
    · obtain rfl : false = z := by have := HZ.out; unfold capV at this; rw [hv, capR_has hbr.1.symm] at this; simpa using this
      clear hbr
      go_wp2_with fail
      refine (tvalid_any ⟨R, L, pR, cR, pL, cL⟩ _ w1 (HB.out.2.2.keep HG.out)).mono ?_
      rintro e w2 ⟨rfl, hg⟩
      simp only
      rw [hv]
      have HG2 := Lib.hid (grown_trans HG.out hg)
      clear hg hv
      go_wp2_with fail
      go_ret
      exact ⟨rfl, grown_trans HB.out.2.1 HG2.out⟩
    · obtain ⟨r, hr, -, hcap⟩ := hbr.2 rfl
      obtain rfl : r.cap = z := by have := HZ.out; unfold capV at this; rw [hv] at this; rw [hcap]; simpa using this
      have hlt := (List.getElem?_eq_some_iff.1 hr).1
      have HR := Lib.hid hr
      clear hbr hr hcap
      go_wp2_with fail
      refine (tvalid_any ⟨R, L, pR, cR, pL, cL⟩ _ w1 (HB.out.2.2.keep HG.out)).mono ?_
      rintro e w2 ⟨rfl, hg⟩
      simp only
      rw [hv]
      have HG2 := Lib.hid (grown_trans HG.out hg)
      clear hg hv c0 c1
      obtain ⟨c0, c1⟩ := row_cells (kept_row HB.out.1 HG2.out (by simp))
      obtain ⟨-, bb, off, rfl, -, hc⟩ := rdr_cells (R := R) (HB.out.2.2.keep HG2.out).r (by omega)
      obtain ⟨a0, a1⟩ := hc i r HR.out
      have i0 : (0 : Int) ≤ (i : Int) := by omega
      have i1 : (i : Int) < (R.length : Int) := by omega
      clear hc
      go_wp2_with fail
      go_ret
      exact ⟨rfl, grown_trans HB.out.2.1 HG2.out⟩
end Go.Proofs.Ytiencdgmnkphjaa

/- slices.Clone of links and of routers; linkOf; what Apply makes (the values). -/
namespace Go.Proofs.Ytiencdgmnkphjaa
open Go.RowKit Bs
set_option maxRecDepth 100000 in
theorem info_lk2 : (Try.prog.info? 68).map (fun i => (i.zero, i.size, i.bytes)) = some (some (.agg #[.int .i64 0, .int .i64 0, .int .i64 0, .int .i64 0, .int .i64 0]), 5, 40) := by kernel_rfl
set_option maxRecDepth 100000 in
theorem info_rt2 : (Try.prog.info? 73).map (fun i => (i.zero, i.size, i.bytes)) = some (some (.agg #[.int .i64 0, .bool false]), 2, 16) := by kernel_rfl
set_option maxRecDepth 100000 in
set_option maxHeartbeats 1600000 in
theorem tcloneL_any (L : List Lk) (p : Option Addr) (c : Nat) (q : Nat → Prop) (w : World) (hR : RdL5 w q (.slice p L.length c) L) (hn : p = none → c = 0) (hc : L.length ≤ c ∧ c ≤ 9223372036854775807) (hm : L.length ≤ 1000) :
    Calls Try.prog 79 #[.slice p L.length c] w fun e w' => ∃ v, e = .returned v ∧ w'.ownsRow w.heap.size 68 5 v L.length (L.flatMap lkC) ∧ w.grownBy w' none := by
  obtain ⟨ii, hii, hi0, hi1, hi2⟩ := info_parts info_lk2
  cases p with
  | none =>
    obtain rfl := hn rfl
    have h0 : L.length = 0 := by omega
    obtain rfl := List.eq_nil_of_length_eq_zero h0
    clear hR
    have heq : ∀ w : World, (binOp .eql 24 (.slice none 0 0) (.slice none 0 0)).run Try.prog w = .ok (.bool true) w := fun w => Lib.run_eql_slice_nil w _ _ none 0 0 0 0 Try.underlying24
    go_enter Try.func79, Try.ntmps79
    go_wp2_with fail
    go_ret
    exact ⟨_, rfl, World.ownsRow_nil _ _ _ _, grown_refl _ _⟩
  | some ad =>
    have k0 := World.grownBy_alloc w (.cells #[] 68) none
    have hlit : (w.alloc (.cells #[] 68)).ownsRow w.heap.size 68 5 (.slice (some ⟨w.heap.size, 0, none⟩) 0 0) 0 (([] : List Lk).flatMap lkC) := World.ownsRow_lit w #[] 0 (Nat.le_refl _) (by decide) rfl
    have HL := Lib.hid (And.intro hlit (And.intro k0 (hR.keep k0)))
    clear hlit k0 hR
    have heq : ∀ w : World, (binOp .eql 24 (.slice (some ad) L.length c) (.slice none 0 0)).run Try.prog w = .ok (.bool false) w := fun w => Lib.run_eql_slice_nil w _ _ (some ad) L.length c 0 0 Try.underlying24
    go_enter Try.func79, Try.ntmps79
    go_wp2_with (at_builtin; refine hold_on ?_)
    refine Lib.hid ?_
    refine wpList_append_f lkC 5 40 (by decide) (fun _ => rfl) lk_one 68 24 ii _ Try.underlying24 hii hi0 hi1 hi2 rfl (by decide) rfl _ _ rfl w.heap.size _ [] 0 rfl rfl HL.out.1 _ _ _ L rfl rfl (fun h => by cases h) q HL.out.2.2 hc.1 (by omega) (by simp) ?_
    intro v' w1 hown hg
    rw [List.nil_append] at hown
    have HO := Lib.hid (And.intro hown (old_grow HL.out.2.1 HL.out.1 (Nat.le_refl _) hg))
    clear hown hg
    go_wp2_with fail
    go_ret
    exact ⟨v', rfl, HO.out.1, HO.out.2⟩
set_option maxRecDepth 100000 in
set_option maxHeartbeats 1600000 in
theorem tcloneR_any (L : List Rt) (p : Option Addr) (c : Nat) (q : Nat → Prop) (w : World) (hR : RdR w q (.slice p L.length c) L) (hn : p = none → c = 0) (hc : L.length ≤ c ∧ c ≤ 9223372036854775807) (hm : L.length ≤ 1000) :
    Calls Try.prog 82 #[.slice p L.length c] w fun e w' => ∃ v, e = .returned v ∧ w'.ownsRow w.heap.size 73 2 v L.length (L.flatMap rtC) ∧ w.grownBy w' none := by
  obtain ⟨ii, hii, hi0, hi1, hi2⟩ := info_parts info_rt2
  cases p with
  | none =>
    obtain rfl := hn rfl
    have h0 : L.length = 0 := by omega
    obtain rfl := List.eq_nil_of_length_eq_zero h0
    clear hR
    have heq : ∀ w : World, (binOp .eql 23 (.slice none 0 0) (.slice none 0 0)).run Try.prog w = .ok (.bool true) w := fun w => Lib.run_eql_slice_nil w _ _ none 0 0 0 0 Try.underlying23
    go_enter Try.func82, Try.ntmps82
    go_wp2_with fail
    go_ret
    exact ⟨_, rfl, World.ownsRow_nil _ _ _ _, grown_refl _ _⟩
  | some ad =>
    have k0 := World.grownBy_alloc w (.cells #[] 73) none
    have hlit : (w.alloc (.cells #[] 73)).ownsRow w.heap.size 73 2 (.slice (some ⟨w.heap.size, 0, none⟩) 0 0) 0 (([] : List Rt).flatMap rtC) := World.ownsRow_lit w #[] 0 (Nat.le_refl _) (by decide) rfl
    have HL := Lib.hid (And.intro hlit (And.intro k0 (hR.keep k0)))
    clear hlit k0 hR
    have heq : ∀ w : World, (binOp .eql 23 (.slice (some ad) L.length c) (.slice none 0 0)).run Try.prog w = .ok (.bool false) w := fun w => Lib.run_eql_slice_nil w _ _ (some ad) L.length c 0 0 Try.underlying23
    go_enter Try.func82, Try.ntmps82
    go_wp2_with (at_builtin; refine hold_on ?_)
    refine Lib.hid ?_
    refine wpList_append_f rtC 2 16 (by decide) (fun _ => rfl) rt_one 73 23 ii _ Try.underlying23 hii hi0 hi1 hi2 rfl (by decide) rfl _ _ rfl w.heap.size _ [] 0 rfl rfl HL.out.1 _ _ _ L rfl rfl (fun h => by cases h) q HL.out.2.2 hc.1 (by omega) (by simp) ?_
    intro v' w1 hown hg
    rw [List.nil_append] at hown
    have HO := Lib.hid (And.intro hown (old_grow HL.out.2.1 HL.out.1 (Nat.le_refl _) hg))
    clear hown hg
    go_wp2_with fail
    go_ret
    exact ⟨v', rfl, HO.out.1, HO.out.2⟩
/-- A change. -/
structure Ch where
  a : Int
  b : Int
  ca : Int
  cb : Int
def lkOf (c : Ch) : Lk := if c.b < c.a then ⟨c.b, c.a, c.cb, c.ca, 0⟩ else ⟨c.a, c.b, c.ca, c.cb, 0⟩
set_option maxRecDepth 100000 in
theorem ch_facts {w : World} {b : Nat} {x0 x1 x2 x3 : Value} {t : TypeId} (h : w.heap[b]? = some (.cells #[x0, x1, x2, x3] t (0, 0))) :
    w.cell? ⟨b, 0, none⟩ = some x0 ∧ w.cell? ⟨b, 1, none⟩ = some x1 ∧ w.cell? ⟨b, 2, none⟩ = some x2 ∧ w.cell? ⟨b, 3, none⟩ = some x3 := by
  refine ⟨?_, ?_, ?_, ?_⟩ <;> (rw [cell_of_row _ _ _ _ _ _ h]; rfl)
theorem link_size : (Try.prog.info? 68).map (·.size) = some 5 := by kernel_rfl
theorem res_link {fn : Func} {p : Tmp} (h : fn.results = #[.cell p 68]) (tmps : Array Value) (w : World) (g : Nat) (xs : Array Value) (hp : tmps.getD p undef = .pointer (some ⟨g, 0, none⟩)) (hn : xs.size = 5) (hg : w.heap[g]? = some (.cells xs 68 (0, 0))) :
    (results fn tmps).run Try.prog w = .ok (.agg xs) w := by
  exact results_cell_row h tmps w g _ _ _ _ hp hg Try.underlying68 rfl (by rw [hn]; exact link_size)
set_option maxRecDepth 100000 in
theorem store5 {w : World} {b : Nat} {x0 x1 x2 x3 x4 y0 y1 y2 y3 y4 : Value} {t : TypeId} (h : w.heap[b]? = some (.cells #[x0, x1, x2, x3, x4] t (0, 0))) :
    (((((w.setCell ⟨b, 0, none⟩ y0).setCell ⟨b, 1, none⟩ y1).setCell ⟨b, 2, none⟩ y2).setCell ⟨b, 3, none⟩ y3).setCell ⟨b, 4, none⟩ y4).heap[b]? = some (.cells #[y0, y1, y2, y3, y4] t (0, 0)) ∧ w.grownBy (((((w.setCell ⟨b, 0, none⟩ y0).setCell ⟨b, 1, none⟩ y1).setCell ⟨b, 2, none⟩ y2).setCell ⟨b, 3, none⟩ y3).setCell ⟨b, 4, none⟩ y4) (some b) := by
  refine ⟨?_, grown_trans (grown_trans (grown_trans (grown_trans (grown_setCell w ⟨b, 0, none⟩ y0) (grown_setCell _ ⟨b, 1, none⟩ y1)) (grown_setCell _ ⟨b, 2, none⟩ y2)) (grown_setCell _ ⟨b, 3, none⟩ y3)) (grown_setCell _ ⟨b, 4, none⟩ y4)⟩
  have e1 := heap_setCell_same w b 0 _ _ y0 h
  have e2 := heap_setCell_same _ b 1 _ _ y1 e1
  have e3 := heap_setCell_same _ b 2 _ _ y2 e2
  have e4 := heap_setCell_same _ b 3 _ _ y3 e3
  have e5 := heap_setCell_same _ b 4 _ _ y4 e4
  rw [e5]; rfl
set_option maxRecDepth 100000 in
set_option maxHeartbeats 1600000 in
theorem tlinkOf_any (c : Ch) (w : World) :
    Calls Try.prog 78 #[.agg #[.int .i64 c.a, .int .i64 c.b, .int .i64 c.ca, .int .i64 c.cb]] w fun e w' => e = .returned (.agg (lkA (lkOf c))) ∧ w.grownBy w' none := by
  obtain ⟨wb, hwb⟩ : ∃ wb, wb = (w.alloc (.cells #[.int .i64 c.a, .int .i64 c.b, .int .i64 c.ca, .int .i64 c.cb] 54)).alloc (.cells #[.int .i64 0, .int .i64 0, .int .i64 0, .int .i64 0, .int .i64 0] 68) := ⟨_, rfl⟩
  obtain ⟨k1, k2, k3, k4⟩ := two_boxes w #[.int .i64 c.a, .int .i64 c.b, .int .i64 c.ca, .int .i64 c.cb] #[.int .i64 0, .int .i64 0, .int .i64 0, .int .i64 0, .int .i64 0] 54 68
  rw [← hwb] at k1 k2 k3
  have HW := Lib.hid hwb
  have hs : ∀ y0 y1 y2 y3 y4 : Value, Hid ((((((wb.setCell ⟨w.heap.size + 1, 0, none⟩ y0).setCell ⟨w.heap.size + 1, 1, none⟩ y1).setCell ⟨w.heap.size + 1, 2, none⟩ y2).setCell ⟨w.heap.size + 1, 3, none⟩ y3).setCell ⟨w.heap.size + 1, 4, none⟩ y4).heap[w.heap.size + 1]? = some (.cells #[y0, y1, y2, y3, y4] 68 (0, 0)) ∧ w.grownBy (((((wb.setCell ⟨w.heap.size + 1, 0, none⟩ y0).setCell ⟨w.heap.size + 1, 1, none⟩ y1).setCell ⟨w.heap.size + 1, 2, none⟩ y2).setCell ⟨w.heap.size + 1, 3, none⟩ y3).setCell ⟨w.heap.size + 1, 4, none⟩ y4) none) := fun y0 y1 y2 y3 y4 => by
    obtain ⟨s1, s2⟩ := store5 (y0 := y0) (y1 := y1) (y2 := y2) (y3 := y3) (y4 := y4) k2
    exact Lib.hid ⟨s1, grown_new k3 s2 (by omega)⟩
  have HS := Lib.hid hs
  obtain ⟨c0, c1, c2, c3⟩ := ch_facts k1
  have y0 := frozen_of_row wb (w.heap.size + 1) 0 _ _ k2
  have y1 := frozen_of_row wb (w.heap.size + 1) 1 _ _ k2
  have y2 := frozen_of_row wb (w.heap.size + 1) 2 _ _ k2
  have y3 := frozen_of_row wb (w.heap.size + 1) 3 _ _ k2
  have y4 := frozen_of_row wb (w.heap.size + 1) 4 _ _ k2
  have z0 : wb.cell? ⟨w.heap.size + 1, 0, none⟩ = some (.int .i64 0) := by rw [cell_of_row _ _ _ _ _ _ k2]; rfl
  have z1 : wb.cell? ⟨w.heap.size + 1, 1, none⟩ = some (.int .i64 0) := by rw [cell_of_row _ _ _ _ _ _ k2]; rfl
  have z2 : wb.cell? ⟨w.heap.size + 1, 2, none⟩ = some (.int .i64 0) := by rw [cell_of_row _ _ _ _ _ _ k2]; rfl
  have z3 : wb.cell? ⟨w.heap.size + 1, 3, none⟩ = some (.int .i64 0) := by rw [cell_of_row _ _ _ _ _ _ k2]; rfl
  have z4 : wb.cell? ⟨w.heap.size + 1, 4, none⟩ = some (.int .i64 0) := by rw [cell_of_row _ _ _ _ _ _ k2]; rfl
  have HE : Hid (lkA (lkOf c) = if c.b < c.a then #[.int .i64 c.b, .int .i64 c.a, .int .i64 c.cb, .int .i64 c.ca, .int .i64 0] else #[.int .i64 c.a, .int .i64 c.b, .int .i64 c.ca, .int .i64 c.cb, .int .i64 0]) := Lib.hid (by unfold lkOf; split <;> rfl)
  clear k1 k2 k3 k4 hs hwb
  go_enter Try.func78, Try.ntmps78
  go_upto_region 1 with fail
  rw [← HW.out]
  by_cases h : c.b < c.a
  · go_wp2_with fail
    refine bodyPost_ret (res_link rfl _ _ (w.heap.size + 1) _ rfl rfl (HS.out _ _ _ _ _).out.1) rfl ?_
    rw [HE.out, if_pos h]
    exact ⟨rfl, (HS.out _ _ _ _ _).out.2⟩
  · go_wp2_with fail
    refine bodyPost_ret (res_link rfl _ _ (w.heap.size + 1) _ rfl rfl (HS.out _ _ _ _ _).out.1) rfl ?_
    rw [HE.out, if_neg (by omega)]
    exact ⟨rfl, (HS.out _ _ _ _ _).out.2⟩
end Go.Proofs.Ytiencdgmnkphjaa

/- A change that comes in as an argument. -/
namespace Go.Proofs.Ytiencdgmnkphjaa
open Go.ChangeShapes Go.WideShapes Go.ChangeAt Go.RowKit Go.Joins Bs
theorem tlist4 {α : Type} {l : List α} (h : l.length = 4) : ∃ a b c d, l = [a, b, c, d] := by
  match l, h with
  | [a, b, c, d], _ => exact ⟨a, b, c, d, rfl⟩
section
variable {H : Type} {enc : TypeId × Value → H} {W : World} {base : Nat} {v : Value} {d : DataW H} {ps : List MemPlace}
set_option maxRecDepth 100000 in
theorem opn_change (hval : Value.okWide Try.prog W .any base 54 v) (h : DataW.Trod enc Try.prog W 0 (fun _ => true) true 54 v d ps) :
    ∃ c : Ch, v = .agg #[.int .i64 c.a, .int .i64 c.b, .int .i64 c.ca, .int .i64 c.cb] := by
  have hs := Try.underlying54
  obtain ⟨cs, rfl, hsz⟩ := okWide_struct hs hval
  obtain ⟨fuel, hf⟩ := h
  obtain ⟨xs, n, _, _, hl, hlen, hf⟩ := DataW.trod_struct hs hf
  have h2 : cs.toList.length = 4 := hsz.trans (by kernel_rfl)
  obtain ⟨c0, c1, c2, c3, hct⟩ := tlist4 h2
  obtain ⟨x0, x1, x2, x3, rfl⟩ := tlist4 hlen
  have h0 : DataW.trod enc Try.prog W 0 (fun _ => true) true n 3 [c0] = some x0 := by simpa [Value.cells, kit_cellsInt, hct] using hf 0 _ rfl
  have h1 : DataW.trod enc Try.prog W 0 (fun _ => true) true n 3 [c1] = some x1 := by simpa [Value.cells, kit_cellsInt, hct] using hf 1 _ rfl
  have h2 : DataW.trod enc Try.prog W 0 (fun _ => true) true n 3 [c2] = some x2 := by simpa [Value.cells, kit_cellsInt, hct] using hf 2 _ rfl
  have h3 : DataW.trod enc Try.prog W 0 (fun _ => true) true n 3 [c3] = some x3 := by simpa [Value.cells, kit_cellsInt, hct] using hf 3 _ rfl
  obtain ⟨m0, e0, _, _⟩ := DataW.trod_int Try.underlying3 h0
  obtain rfl : c0 = .int .i64 m0 := by simpa using e0
  obtain ⟨m1, e1, _, _⟩ := DataW.trod_int Try.underlying3 h1
  obtain rfl : c1 = .int .i64 m1 := by simpa using e1
  obtain ⟨m2, e2, _, _⟩ := DataW.trod_int Try.underlying3 h2
  obtain rfl : c2 = .int .i64 m2 := by simpa using e2
  obtain ⟨m3, e3, _, _⟩ := DataW.trod_int Try.underlying3 h3
  obtain rfl : c3 = .int .i64 m3 := by simpa using e3
  exact ⟨⟨m0, m1, m2, m3⟩, congrArg Value.agg (Array.ext' hct)⟩
end
end Go.Proofs.Ytiencdgmnkphjaa

/- While the tape makes a topology. -/
namespace Go.Proofs.Ytiencdgmnkphjaa
open Go.RowKit Bs
/-- While a topology is made: its block holds uR, uL; the routers and the links lie in rows of the call's own, vR and vL. -/
structure TK (a : Nat) (W : World) (uR uL vR vL : Value) (R : List Rt) (L : List Lk) (w : World) : Prop where
  gb : w.heap[W.heap.size + 1]? = some (.cells #[uR, uL] 26 (0, 0))
  rb : w.heap[W.heap.size]? = some (.cells #[.slice none 0 0, .slice none 0 0] 26 (0, 0))
  oR : w.ownsRow (W.heap.size + 2) 73 2 vR R.length (R.flatMap rtC)
  oL : w.ownsRow (W.heap.size + 2) 68 5 vL L.length (L.flatMap lkC)
  ap : ∀ g, vR.ownBlock = some g → vL.ownBlock ≠ some g
  st : St a W w
  sz : W.heap.size + 2 ≤ w.heap.size
theorem own_other {w w' : World} {base size n b : Nat} {e : TypeId} {v : Value} {xs : List Value} (h : w.ownsRow base e size v n xs) (g : w.grownBy w' (some b)) (hb : b < base) : w'.ownsRow base e size v n xs :=
  h.kept g (by
    cases hv : v.ownBlock with
    | none => exact .inl rfl
    | some k => exact .inr (fun e => by have e2 := Option.some.inj e; have := (h.lt k hv).1; omega))
theorem St.storeT {a b : Nat} {W w w1 : World} (h : St a W w) (g : w.grownBy w1 (some b)) (hb : W.heap.size ≤ b) (ha : a < W.heap.size) : St a W w1 := by
  refine ⟨⟨g.os.trans h.1.os, g.tape.trans h.1.tape, g.output.trans h.1.output, Nat.le_trans h.1.size g.size, fun i hi hia => (g.block i (Nat.lt_of_lt_of_le hi h.1.size) (fun e => by have := Option.some.inj e; omega)).trans (h.1.block i hi hia)⟩, ?_⟩
  obtain ⟨v, n, i, T⟩ := h.2
  have hlt : a < w.heap.size := Nat.lt_of_lt_of_le ha h.1.size
  have hk : w1.heap[a]? = w.heap[a]? := g.block a hlt (fun e => by have := Option.some.inj e; omega)
  refine ⟨v, n, i, (World.cell?_of_block (a := ⟨a, 0, none⟩) hk).trans T.l, (World.cell?_of_block (a := ⟨a, 1, none⟩) hk).trans T.p, (World.frozen?_of_block (a := ⟨a, 1, none⟩) hk).trans T.fr, ?_, T.le, T.len⟩
  obtain ⟨p, c, hv, hc⟩ := T.ints
  refine ⟨p, c, hv, fun hn => ?_⟩
  obtain ⟨b1, off, hp, hb1, hx⟩ := hc hn
  refine ⟨b1, off, hp, hb1, fun i hi => ?_⟩
  obtain ⟨x, hx1, hcell⟩ := hx i hi
  exact ⟨x, hx1, g.cell hcell (fun e => by have : b1 = b := Option.some.inj e; omega)⟩
section
variable {a : Nat} {W w w1 : World} {uR uL vR vL v' : Value} {R : List Rt} {L : List Lk}
theorem TK.keep (h : TK a W uR uL vR vL R L w) (g : w.grownBy w1 none) : TK a W uR uL vR vL R L w1 :=
  ⟨kept_row h.gb g (by simp), kept_row h.rb g (by simp), h.oR.kept g (by cases hv : vR.ownBlock <;> simp), h.oL.kept g (by cases hv : vL.ownBlock <;> simp), h.ap, h.st.trans ⟨grown_none g _, h.st.2.keep g⟩, Nat.le_trans h.sz g.size⟩
theorem TK.tape (h : TK a W uR uL vR vL R L w) (ha : a < W.heap.size) (k : St a w w1) : TK a W uR uL vR vL R L w1 :=
  ⟨kept_row h.gb k.1 (fun e => by have := Option.some.inj e; omega), kept_row h.rb k.1 (fun e => by have := Option.some.inj e; omega), own_other h.oR k.1 (by omega), own_other h.oL k.1 (by omega), h.ap, h.st.trans k, Nat.le_trans h.sz k.1.size⟩
theorem TK.start (hT : Tp w a) : TK a w (.slice none 0 0) (.slice none 0 0) (.slice none 0 0) (.slice none 0 0) [] [] ((w.alloc (.cells #[.slice none 0 0, .slice none 0 0] 26)).alloc (.cells #[.slice none 0 0, .slice none 0 0] 26)) := by
  obtain ⟨k1, k2, k3, _⟩ := two_boxes w #[.slice none 0 0, .slice none 0 0] #[.slice none 0 0, .slice none 0 0] 26 26
  exact ⟨k2, k1, World.ownsRow_nil _ _ _ _, World.ownsRow_nil _ _ _ _, fun g hg => (by cases hg), ⟨grown_none k3 _, hT.keep k3⟩, by simp⟩
theorem St.rowT {a base size n : Nat} {W w w1 : World} {e : TypeId} {v : Value} {xs : List Value} (h : St a W w) (ho : w.ownsRow base e size v n xs) (hb : W.heap.size ≤ base) (ha : a < W.heap.size) (k : w.grownBy w1 v.ownBlock) : St a W w1 := by
  cases hv : v.ownBlock with
  | none => rw [hv] at k; exact ⟨grown_trans h.1 (grown_none k _), h.2.keep k⟩
  | some g => rw [hv] at k; exact h.storeT k (Nat.le_trans hb (ho.lt g hv).1) ha
theorem TK.addR {g n cap : Nat} {y : Rt} (h : TK a W uR uL vR vL R L w) (ha : a < W.heap.size) (hown : w1.ownsRow (W.heap.size + 2) 73 2 (.slice (some ⟨g, 0, none⟩) n cap) (R.length + 1) (R.flatMap rtC ++ [.int .i64 y.id, .bool y.cap])) (hg : w.grownBy w1 vR.ownBlock) (hat : vR.ownBlock = some g ∨ g = w.heap.size) :
    TK a W uR uL (.slice (some ⟨g, 0, none⟩) n cap) vL (R ++ [y]) L w1 := by
  have hne : ∀ k, k < W.heap.size + 2 → some k ≠ vR.ownBlock := fun k hk e => by
    have := (h.oR.lt k e.symm).1
    omega
  refine ⟨kept_row h.gb hg (hne _ (by omega)), kept_row h.rb hg (hne _ (by omega)), ?_, h.oL.kept hg ?_, ?_, h.st.rowT h.oR (by omega) ha hg, Nat.le_trans h.sz hg.size⟩
  · rw [List.length_append, List.flatMap_append]; exact hown
  · cases hv : vL.ownBlock with
    | none => exact .inl rfl
    | some k => exact .inr (fun e => h.ap k e.symm hv)
  · intro g2 hg2 e
    obtain rfl : g = g2 := by simpa [Value.ownBlock] using hg2
    rcases hat with hat | hat
    · exact h.ap g hat e
    · have := (h.oL.lt g e).2
      omega
theorem TK.addL {g n cap : Nat} {y : Lk} (h : TK a W uR uL vR vL R L w) (ha : a < W.heap.size) (hown : w1.ownsRow (W.heap.size + 2) 68 5 (.slice (some ⟨g, 0, none⟩) n cap) (L.length + 1) (L.flatMap lkC ++ [.int .i64 y.a, .int .i64 y.b, .int .i64 y.ca, .int .i64 y.cb, .int .i64 y.cp])) (hg : w.grownBy w1 vL.ownBlock) (hat : vL.ownBlock = some g ∨ g = w.heap.size) :
    TK a W uR uL vR (.slice (some ⟨g, 0, none⟩) n cap) R (L ++ [y]) w1 := by
  have hne : ∀ k, k < W.heap.size + 2 → some k ≠ vL.ownBlock := fun k hk e => by
    have := (h.oL.lt k e.symm).1
    omega
  refine ⟨kept_row h.gb hg (hne _ (by omega)), kept_row h.rb hg (hne _ (by omega)), h.oR.kept hg ?_, ?_, ?_, h.st.rowT h.oL (by omega) ha hg, Nat.le_trans h.sz hg.size⟩
  · cases hv : vR.ownBlock with
    | none => exact .inl rfl
    | some k => exact .inr (fun e => h.ap k hv e.symm)
  · rw [List.length_append, List.flatMap_append]; exact hown
  · intro g2 hg2 e
    obtain rfl : g = g2 := by simpa [Value.ownBlock] using e
    rcases hat with hat | hat
    · exact h.ap g hg2 hat
    · have := (h.oR.lt g hg2).2
      omega
theorem TK.put0 (h : TK a W uR uL vR vL R L w) (ha : a < W.heap.size) : TK a W vR uL vR vL R L (w.setCell ⟨W.heap.size + 1, 0, none⟩ vR) := by
  have k : w.grownBy (w.setCell ⟨W.heap.size + 1, 0, none⟩ vR) (some (W.heap.size + 1)) := grown_setCell w ⟨W.heap.size + 1, 0, none⟩ vR
  exact ⟨heap_setCell_same w _ 0 _ _ vR h.gb, kept_row h.rb k (fun e => by have : W.heap.size = W.heap.size + 1 := Option.some.inj e; omega), own_other h.oR k (by omega), own_other h.oL k (by omega), h.ap, h.st.storeT k (by omega) ha, Nat.le_trans h.sz k.size⟩
theorem TK.put1 (h : TK a W uR uL vR vL R L w) (ha : a < W.heap.size) : TK a W uR vL vR vL R L (w.setCell ⟨W.heap.size + 1, 1, none⟩ vL) := by
  have k : w.grownBy (w.setCell ⟨W.heap.size + 1, 1, none⟩ vL) (some (W.heap.size + 1)) := grown_setCell w ⟨W.heap.size + 1, 1, none⟩ vL
  exact ⟨heap_setCell_same w _ 1 _ _ vL h.gb, kept_row h.rb k (fun e => by have : W.heap.size = W.heap.size + 1 := Option.some.inj e; omega), own_other h.oR k (by omega), own_other h.oL k (by omega), h.ap, h.st.storeT k (by omega) ha, Nat.le_trans h.sz k.size⟩
theorem TK.newL {O : List Lk} (h : TK a W uR uL vR vL R L w) (hown : w1.ownsRow w.heap.size 68 5 v' O.length (O.flatMap lkC)) (g : w.grownBy w1 none) : TK a W uR uL vR v' R O w1 := by
  have h1 := h.keep g
  refine ⟨h1.gb, h1.rb, h1.oR, hown.mono h.sz, fun k hk e => ?_, h1.st, h1.sz⟩
  have := (hown.lt k e).1
  have := (h.oR.lt k hk).2
  omega
theorem flat_set : ∀ (L : List Lk) (k j : Nat) (x : Int), k < L.length → j < 5 → ∃ L' : List Lk, L'.length = L.length ∧ L'.flatMap lkC = (L.flatMap lkC).set (k * 5 + j) (.int .i64 x)
  | [], k, _, _, hk, _ => absurd hk (Nat.not_lt_zero k)
  | m :: t, 0, j, x, _, hj => by
    rcases (show j = 0 ∨ j = 1 ∨ j = 2 ∨ j = 3 ∨ j = 4 by omega) with rfl | rfl | rfl | rfl | rfl
    · exact ⟨⟨x, m.b, m.ca, m.cb, m.cp⟩ :: t, rfl, rfl⟩
    · exact ⟨⟨m.a, x, m.ca, m.cb, m.cp⟩ :: t, rfl, rfl⟩
    · exact ⟨⟨m.a, m.b, x, m.cb, m.cp⟩ :: t, rfl, rfl⟩
    · exact ⟨⟨m.a, m.b, m.ca, x, m.cp⟩ :: t, rfl, rfl⟩
    · exact ⟨⟨m.a, m.b, m.ca, m.cb, x⟩ :: t, rfl, rfl⟩
  | m :: t, k + 1, j, x, hk, hj => by
    obtain ⟨L', h1, h2⟩ := flat_set t k j x (by simpa using hk) hj
    refine ⟨m :: L', by simp [h1], ?_⟩
    rw [List.flatMap_cons, h2, List.flatMap_cons]
    have e : (k + 1) * 5 + j = (lkC m).length + (k * 5 + j) := by
      show (k + 1) * 5 + j = 5 + (k * 5 + j)
      omega
    rw [e, List.set_append_right _ _ (Nat.le_add_right _ _), Nat.add_sub_cancel_left]
theorem TK.setL {g n cap k j : Nat} {x : Int} (h : TK a W uR uL vR (.slice (some ⟨g, 0, none⟩) n cap) R L w) (ha : a < W.heap.size) (hk : k < L.length) (hj : j < 5) :
    ∃ L', L'.length = L.length ∧ TK a W uR uL vR (.slice (some ⟨g, 0, none⟩) n cap) R L' (w.setCell ⟨g, k * 5 + j, none⟩ (.int .i64 x)) := by
  obtain ⟨L', hl, hf⟩ := flat_set L k j x hk hj
  obtain ⟨-, -, -⟩ : True ∧ True ∧ True := ⟨trivial, trivial, trivial⟩
  have hg0 := (h.oL.lt g rfl).1
  have hn : n = L.length := by
    obtain ⟨p, c, e, _⟩ := own_shape h.oL
    injection e
  subst hn
  obtain ⟨s1, s2⟩ := h.oL.stored (k * 5 + j) (.int .i64 x)
  refine ⟨L', hl, kept_row h.gb s2 (fun e => by have : W.heap.size + 1 = g := Option.some.inj e; omega), kept_row h.rb s2 (fun e => by have : W.heap.size = g := Option.some.inj e; omega), h.oR.kept s2 ?_, ?_, h.ap, h.st.storeT s2 (by omega) ha, Nat.le_trans h.sz s2.size⟩
  · cases hv : vR.ownBlock with
    | none => exact .inl rfl
    | some k => exact .inr (fun e => h.ap k hv (by rw [e]; rfl))
  · rw [hl, hf]; exact s1
end
/-- What returns a topology of the tape's. -/
def TopoPost (a : Nat) (most : Nat) (n : Int) (w : World) (e : Ending) (w' : World) : Prop :=
  ∃ (R : List Rt) (L : List Lk) (vR vL : Value), e = .returned (.agg #[vR, vL]) ∧ w'.ownsRow w.heap.size 73 2 vR R.length (R.flatMap rtC) ∧ w'.ownsRow w.heap.size 68 5 vL L.length (L.flatMap lkC) ∧ (∀ g, vR.ownBlock = some g → vL.ownBlock ≠ some g) ∧ TopOf most n R L ∧ St a w w'
theorem tg_of_own {w : World} {base : Nat} {vR vL : Value} {R : List Rt} {L : List Lk} (hR : w.ownsRow base 73 2 vR R.length (R.flatMap rtC)) (hL : w.ownsRow base 68 5 vL L.length (L.flatMap lkC)) :
    ∃ pR cR pL cL, vR = .slice pR R.length cR ∧ vL = .slice pL L.length cL ∧ TgOk w (fun b => base ≤ b ∧ b < w.heap.size) ⟨R, L, pR, cR, pL, cL⟩ := by
  obtain ⟨pR, cR, rfl, h1, h2⟩ := own_shape hR
  obtain ⟨pL, cL, rfl, h3, h4⟩ := own_shape hL
  exact ⟨pR, cR, pL, cL, rfl, rfl, rdf_of_own2 hR, rdf_of_own2 hL, ⟨h1, h2⟩, ⟨h3, h4⟩⟩
end Go.Proofs.Ytiencdgmnkphjaa
