/- Parts of the proof, packed: IdM, IdRsM, ToSeek, ToRow, ToJoin, ToCheck, ToNear, ToHop, ToCheckR, ToFail, ToWith, ToRws, IdArr, IdLeaf. -/
import Derived.Test.YtlgmankojgjfjaaCk1
import Derived.IntWalk
import Derived.Lib.SmallJoins
import Derived.Deep.WholeRow
import Derived.Deep.CutBlock
/- identify: claims and plans, the mathematics. -/
namespace Go.Proofs.Ytlgmankojgjfjaa
open Go.RowKit Bs
/-- A router's claim of an ID: router, subdomain, ID, length. -/
structure Od where
  r : Int
  s : Int
  i : Int
  l : Int
def odC (x : Od) : List Value := [.int .i64 x.r, .int .i64 x.s, .int .i64 x.i, .int .i64 x.l]
set_option maxRecDepth 100000 in
theorem od_len (x : Od) : (odC x).length = 4 := rfl
set_option maxRecDepth 100000 in
theorem od_one (x : Od) : ∀ u ∈ odC x, u.oneCell' = true := by
  intro u hu
  simp [odC] at hu
  rcases hu with rfl | rfl | rfl | rfl <;> rfl
def inV (n a b : Int) : Bool := decide (a ≤ n ∧ n ≤ b)
def wrO (x : Od) : Bool := !(inV x.r 1 99 && inV x.s 0 7 && inV x.i 1 256 && vl x.l)
def ltO (x y : Od) : Bool := decide (x.r < y.r ∨ (x.r = y.r ∧ x.s < y.s))
def cmpO (x y : Od) : Int := orV [cmpV x.r y.r, cmpV x.s y.s]
set_option maxRecDepth 100000 in
theorem cmpO_ge {x y : Od} : (0 ≤ cmpO x y) ↔ ltO x y = false := by
  unfold cmpO ltO orV orV orV cmpV
  rw [decide_eq_false_iff_not]
  repeat' split
  all_goals omega
/-- What Check returns. -/
def ckO (l : List Od) : Int := if 192 < l.length then 3 else if l.any wrO then 2 else if ascB ltO l then 0 else 25
def isO (sub id : Int) (x : Od) : Bool := decide (x.s = sub ∧ x.i = id)
/-- How many claims for a subdomain have an ID. -/
def cnt (l : List Od) (sub id : Int) : Nat := l.countP (isO sub id)
set_option maxRecDepth 100000 in
theorem cnt_snoc (l : List Od) (x : Od) (sub id : Int) : cnt (l ++ [x]) sub id = cnt l sub id + if x.s = sub ∧ x.i = id then 1 else 0 := by
  unfold cnt
  rw [List.countP_append]
  congr 1
  by_cases h : x.s = sub ∧ x.i = id
  · have e : isO sub id x = true := decide_eq_true h
    rw [if_pos h, List.countP_cons_of_pos e]; rfl
  · have e : ¬ isO sub id x = true := by unfold isO; simpa using h
    rw [if_neg h, List.countP_cons_of_neg e]; rfl
set_option maxRecDepth 100000 in
theorem cnt_take {l : List Od} {k : Nat} {x : Od} (hx : l[k]? = some x) (sub id : Int) : cnt (l.take (k + 1)) sub id = cnt (l.take k) sub id + if x.s = sub ∧ x.i = id then 1 else 0 := by
  rw [List.take_add_one, hx]
  exact cnt_snoc _ _ _ _
set_option maxRecDepth 100000 in
theorem cnt_le (l : List Od) (sub id : Int) : cnt l sub id ≤ l.length := List.countP_le_length
set_option maxRecDepth 100000 in
theorem ck_any {l : List Od} (h : ckO l = 0) : l.length ≤ 192 ∧ l.any wrO = false ∧ ascB ltO l = true := by
  unfold ckO at h
  by_cases h1 : 192 < l.length
  · rw [if_pos h1] at h; cases h
  · rw [if_neg h1] at h
    cases h2 : l.any wrO
    · rw [h2] at h
      cases h3 : ascB ltO l
      · rw [h3] at h; cases h
      · exact ⟨by omega, rfl, rfl⟩
    · rw [h2] at h; cases h
set_option maxRecDepth 100000 in
theorem wr_fields {x : Od} (h : wrO x = false) : (1 ≤ x.r ∧ x.r ≤ 99) ∧ (0 ≤ x.s ∧ x.s ≤ 7) ∧ (1 ≤ x.i ∧ x.i ≤ 256) ∧ vl x.l = true := by
  unfold wrO inV at h
  have h2 : (decide (1 ≤ x.r ∧ x.r ≤ 99) && decide (0 ≤ x.s ∧ x.s ≤ 7) && decide (1 ≤ x.i ∧ x.i ≤ 256) && vl x.l) = true := by
    cases hh : (decide (1 ≤ x.r ∧ x.r ≤ 99) && decide (0 ≤ x.s ∧ x.s ≤ 7) && decide (1 ≤ x.i ∧ x.i ≤ 256) && vl x.l)
    · rw [hh] at h; cases h
    · rfl
  simp only [Bool.and_eq_true, decide_eq_true_eq] at h2
  exact ⟨h2.1.1.1, h2.1.1.2, h2.1.2, h2.2⟩
set_option maxRecDepth 100000 in
theorem any_mem {α : Type} {p : α → Bool} {l : List α} (h : l.any p = false) {x : α} (hx : x ∈ l) : p x = false := by
  cases hp : p x
  · rfl
  · rw [List.any_eq_true.2 ⟨x, hx, hp⟩] at h; cases h
set_option maxRecDepth 100000 in
theorem ck_id {l : List Od} (h : ckO l = 0) {x : Od} (hx : x ∈ l) : 1 ≤ x.i ∧ x.i ≤ 256 := (wr_fields (any_mem (ck_any h).2.1 hx)).2.2.1
/-- The numbers from 0 to n - 1. -/
def idr (n : Nat) : List Int := (List.range n).map (fun k : Nat => (k : Int))
set_option maxRecDepth 100000 in
theorem idr_succ (n : Nat) : idr (n + 1) = idr n ++ [(n : Int)] := by
  unfold idr
  rw [List.range_succ, List.map_append]; rfl
set_option maxRecDepth 100000 in
theorem idr_mem {n : Nat} {x : Int} : x ∈ idr n ↔ 0 ≤ x ∧ x < n := by
  unfold idr
  rw [List.mem_map]
  constructor
  · rintro ⟨k, hk, rfl⟩
    have := List.mem_range.1 hk
    omega
  · intro h
    exact ⟨x.toNat, List.mem_range.2 (by omega), by omega⟩
/-- One claim more for the least length. -/
def lnS (sub : Int) (a : Int) (x : Od) : Int := if x.s = sub ∧ (a = 0 ∨ x.l < a) then x.l else a
def lnK (l : List Od) (sub : Int) : Int := l.foldl (lnS sub) 0
def lnO (l : List Od) (sub : Int) : Int := if ckO l = 0 then lnK l sub else 0
set_option maxRecDepth 100000 in
theorem lnK_take {l : List Od} {k : Nat} {x : Od} (hx : l[k]? = some x) (sub : Int) : lnK (l.take (k + 1)) sub = lnS sub (lnK (l.take k) sub) x := by
  unfold lnK
  rw [List.take_add_one, hx]
  show ((l.take k) ++ [x]).foldl _ _ = _
  rw [List.foldl_append]; rfl
/-- The least number from 1 to 256 that is not counted. -/
def FreeIs (c : Nat → Nat) (n : Int) (ok : Bool) : Prop :=
  (ok = true ∧ 1 ≤ n ∧ n ≤ 256 ∧ c n.toNat = 0 ∧ ∀ j : Nat, 1 ≤ j → (j : Int) < n → c j ≠ 0) ∨ (ok = false ∧ n = 0 ∧ ∀ j : Nat, 1 ≤ j → j ≤ 256 → c j ≠ 0)
/-- A router and its ID. -/
structure Ed where
  r : Int
  i : Int
def edC (e : Ed) : List Value := [.int .i64 e.r, .int .i64 e.i]
set_option maxRecDepth 100000 in
theorem ed_one (x : Ed) : ∀ u ∈ edC x, u.oneCell' = true := by
  intro u hu
  simp [edC] at hu
  rcases hu with rfl | rfl <;> rfl
def wrE (e : Ed) : Bool := !(inV e.r 1 99 && inV e.i 1 256)
def ltE (x y : Ed) : Bool := decide (x.i < y.i)
def repI (r : List Int) : Bool := (List.range r.length).any fun i => (r.take i).contains (r.getD i 0)
/-- Is a plan valid? -/
def vPl (sub len : Int) (E : List Ed) : Bool :=
  inV sub 0 7 && (vl len || (decide (len = 0) && decide (E.length = 0))) && decide (E.length ≤ 24) && !E.any wrE && ascB ltE E && !repI (E.map Ed.r)
def edOf (x : Od) : Ed := ⟨x.r, x.i⟩
/-- The edges of claims in their order. -/
def e1P (l : List Od) (sub : Int) (x : Od) : Bool := decide (x.s = sub ∧ cnt l sub x.i = 1)
def e1K (l m : List Od) (sub : Int) : List Ed := (m.filter (e1P l sub)).map edOf
set_option maxRecDepth 100000 in
theorem e1K_yes {l m : List Od} {sub : Int} {k : Nat} {x : Od} (hx : m[k]? = some x) (h : x.s = sub ∧ cnt l sub x.i = 1) : e1K l (m.take (k + 1)) sub = e1K l (m.take k) sub ++ [edOf x] := by
  unfold e1K
  rw [List.take_add_one, hx]
  show List.map _ (List.filter _ (m.take k ++ [x])) = _
  have e : e1P l sub x = true := decide_eq_true h
  rw [List.filter_append, List.filter_cons_of_pos e, List.map_append]; rfl
set_option maxRecDepth 100000 in
theorem e1K_no {l m : List Od} {sub : Int} {k : Nat} {x : Od} (hx : m[k]? = some x) (h : ¬ (x.s = sub ∧ cnt l sub x.i = 1)) : e1K l (m.take (k + 1)) sub = e1K l (m.take k) sub := by
  unfold e1K
  rw [List.take_add_one, hx]
  show List.map _ (List.filter _ (m.take k ++ [x])) = _
  have e : ¬ e1P l sub x = true := by unfold e1P; simpa using h
  rw [List.filter_append, List.filter_cons_of_neg e, List.filter_nil, List.append_nil]
/-- The edges of one ID, and of the first n numbers. -/
def e2I (l : List Od) (sub id : Int) : List Ed := if cnt l sub id = 1 then (l.filter (isO sub id)).map edOf else []
def e2K (l : List Od) (sub : Int) (n : Nat) : List Ed := (idr n).flatMap (e2I l sub)
set_option maxRecDepth 100000 in
theorem e2K_succ (l : List Od) (sub : Int) (n : Nat) : e2K l sub (n + 1) = e2K l sub n ++ e2I l sub n := by
  unfold e2K
  rw [idr_succ, List.flatMap_append]
  simp
set_option maxRecDepth 100000 in
theorem one_of_count {α : Type} (p : α → Bool) : ∀ l : List α, l.countP p = 1 → ∃ x, x ∈ l ∧ l.filter p = [x]
  | l, h => by
    rw [List.countP_eq_length_filter] at h
    obtain ⟨x, hx⟩ := List.length_eq_one_iff.1 h
    exact ⟨x, (List.mem_filter.1 (by rw [hx]; exact List.mem_singleton.2 rfl : x ∈ l.filter p)).1, hx⟩
set_option maxRecDepth 100000 in
theorem e2I_mem {l : List Od} {sub id : Int} {e : Ed} (h : e ∈ e2I l sub id) : e.i = id := by
  unfold e2I at h
  split at h
  · obtain ⟨x, hx, rfl⟩ := List.mem_map.1 h
    exact (of_decide_eq_true (List.mem_filter.1 hx).2).2
  · cases h
set_option maxRecDepth 100000 in
theorem e2I_len (l : List Od) (sub id : Int) : (e2I l sub id).length ≤ 1 := by
  unfold e2I
  split
  · rename_i h
    obtain ⟨x, -, hx⟩ := one_of_count _ _ h
    rw [hx]; exact Nat.le_refl _
  · exact Nat.zero_le _
set_option maxRecDepth 100000 in
/-- The second form ascends by ID. -/
theorem e2K_asc (l : List Od) (sub : Int) : ∀ n : Nat, (∀ e ∈ e2K l sub n, 0 ≤ e.i ∧ e.i < n) ∧ (e2K l sub n).Pairwise (fun x y => x.i < y.i)
  | 0 => ⟨fun e he => (by cases he), List.Pairwise.nil⟩
  | n + 1 => by
    obtain ⟨h1, h2⟩ := e2K_asc l sub n
    rw [e2K_succ]
    refine ⟨fun e he => ?_, ?_⟩
    · rcases List.mem_append.1 he with h | h
      · have := h1 e h; omega
      · have := e2I_mem h; omega
    · refine List.pairwise_append.2 ⟨h2, ?_, fun x hx y hy => ?_⟩
      · have h3 := e2I_len l sub n
        rcases hh : e2I l sub n with _ | ⟨a, _ | ⟨b, t⟩⟩
        · exact List.Pairwise.nil
        · exact List.pairwise_singleton _ _
        · rw [hh] at h3; simp at h3
      · have := (h1 x hx).2
        have := e2I_mem hy
        omega
set_option maxRecDepth 100000 in
theorem pair_ascE : ∀ E : List Ed, E.Pairwise (fun x y => x.i < y.i) → ascB ltE E = true
  | [], _ => rfl
  | [a], _ => rfl
  | a :: b :: t, h => by
    have h1 := List.pairwise_cons.1 h
    rw [ascB, pair_ascE (b :: t) h1.2, Bool.and_true]
    exact decide_eq_true (h1.1 b (List.mem_cons_self ..))
set_option maxRecDepth 100000 in
/-- Two lists that ascend by ID and hold the same edges are equal. -/
theorem asc_uniqE : ∀ E F : List Ed, E.Pairwise (fun x y => x.i < y.i) → F.Pairwise (fun x y => x.i < y.i) → (∀ e, e ∈ E ↔ e ∈ F) → E = F
  | [], F, _, _, h => by
    cases F with
    | nil => rfl
    | cons b t => exact absurd ((h b).2 (List.mem_cons_self ..)) (by simp)
  | a :: s, [], _, _, h => absurd ((h a).1 (List.mem_cons_self ..)) (by simp)
  | a :: s, b :: t, hE, hF, h => by
    obtain ⟨e1, e2⟩ := List.pairwise_cons.1 hE
    obtain ⟨f1, f2⟩ := List.pairwise_cons.1 hF
    have hab : a = b := by
      rcases List.mem_cons.1 ((h a).1 (List.mem_cons_self ..)) with h1 | h1
      · exact h1
      · rcases List.mem_cons.1 ((h b).2 (List.mem_cons_self ..)) with h2 | h2
        · exact h2.symm
        · have := f1 a h1
          have := e1 b h2
          omega
    subst hab
    congr 1
    refine asc_uniqE s t e2 f2 fun e => ?_
    constructor
    · intro hm
      rcases List.mem_cons.1 ((h e).1 (List.mem_cons_of_mem _ hm)) with h1 | h1
      · have := e1 e hm; rw [h1] at this; omega
      · exact h1
    · intro hm
      rcases List.mem_cons.1 ((h e).2 (List.mem_cons_of_mem _ hm)) with h1 | h1
      · have := f1 e hm; rw [h1] at this; omega
      · exact h1
set_option maxRecDepth 100000 in
theorem e1_mem {l : List Od} {sub : Int} {e : Ed} : e ∈ e1K l l sub ↔ ∃ x ∈ l, x.s = sub ∧ cnt l sub x.i = 1 ∧ edOf x = e := by
  unfold e1K
  rw [List.mem_map]
  constructor
  · rintro ⟨x, hx, rfl⟩
    obtain ⟨h1, h2⟩ := List.mem_filter.1 hx
    have := of_decide_eq_true h2
    exact ⟨x, h1, this.1, this.2, rfl⟩
  · rintro ⟨x, h1, h2, h3, rfl⟩
    exact ⟨x, List.mem_filter.2 ⟨h1, decide_eq_true ⟨h2, h3⟩⟩, rfl⟩
set_option maxRecDepth 100000 in
theorem e2_mem {l : List Od} (hv : ckO l = 0) {sub : Int} {e : Ed} : e ∈ e2K l sub 257 ↔ ∃ x ∈ l, x.s = sub ∧ cnt l sub x.i = 1 ∧ edOf x = e := by
  unfold e2K
  rw [List.mem_flatMap]
  constructor
  · rintro ⟨id, _, he⟩
    unfold e2I at he
    split at he
    · rename_i hc
      obtain ⟨x, hx, rfl⟩ := List.mem_map.1 he
      obtain ⟨h1, h2⟩ := List.mem_filter.1 hx
      have h3 := of_decide_eq_true h2
      exact ⟨x, h1, h3.1, by rw [h3.2]; exact hc, rfl⟩
    · cases he
  · rintro ⟨x, h1, h2, h3, rfl⟩
    have := ck_id hv h1
    refine ⟨x.i, idr_mem.2 (by omega), ?_⟩
    unfold e2I
    rw [if_pos h3]
    exact List.mem_map.2 ⟨x, List.mem_filter.2 ⟨h1, decide_eq_true ⟨h2, rfl⟩⟩, rfl⟩
set_option maxRecDepth 100000 in
/-- What is sorted of the first form is the second. -/
theorem edges_eq {l : List Od} (hv : ckO l = 0) (sub : Int) {F : List Ed} (hp : F.Perm (e1K l l sub)) (hs : F.Pairwise (fun x y => x.i ≤ y.i)) : F = e2K l sub 257 := by
  have hnd : ((e1K l l sub).map Ed.i).Nodup := by
    unfold e1K
    rw [List.map_map]
    show ((l.filter (e1P l sub)).map (Ed.i ∘ edOf)).Nodup
    rw [List.Nodup, List.pairwise_map]
    rw [List.pairwise_iff_getElem]
    intro i j hi hj hij he
    have hx := List.getElem_mem hi
    have hy := List.getElem_mem hj
    have h1 := of_decide_eq_true (List.mem_filter.1 hx).2
    have h2 := of_decide_eq_true (List.mem_filter.1 hy).2
    have he' : (l.filter (e1P l sub))[i].i = (l.filter (e1P l sub))[j].i := he
    obtain ⟨z, -, hz⟩ := one_of_count (isO sub (l.filter (e1P l sub))[i].i) l h1.2
    have hle : ((l.filter (e1P l sub)).filter (isO sub (l.filter (e1P l sub))[i].i)).length ≤ 1 := by
      have : ((l.filter (e1P l sub)).filter (isO sub (l.filter (e1P l sub))[i].i)).Sublist (l.filter (isO sub (l.filter (e1P l sub))[i].i)) := List.Sublist.filter _ List.filter_sublist
      have h3 := this.length_le
      rw [hz] at h3
      exact h3
    rw [← List.countP_eq_length_filter] at hle
    have h4 : 2 ≤ (l.filter (e1P l sub)).countP (isO sub (l.filter (e1P l sub))[i].i) := by
      have hsub : [(l.filter (e1P l sub))[i], (l.filter (e1P l sub))[j]].Sublist (l.filter (e1P l sub)) := by
        have h5 := List.drop_sublist i (l.filter (e1P l sub))
        rw [List.drop_eq_getElem_cons hi] at h5
        refine List.Sublist.trans ?_ h5
        refine List.Sublist.cons_cons _ ?_
        rw [List.singleton_sublist]
        rw [List.mem_iff_getElem]
        refine ⟨j - (i + 1), by rw [List.length_drop]; omega, ?_⟩
        rw [List.getElem_drop]
        congr 1; omega
      have h6 := List.Sublist.countP_le (p := isO sub (l.filter (e1P l sub))[i].i) hsub
      have q1 : isO sub (l.filter (e1P l sub))[i].i (l.filter (e1P l sub))[i] = true := decide_eq_true ⟨h1.1, rfl⟩
      have q2 : isO sub (l.filter (e1P l sub))[i].i (l.filter (e1P l sub))[j] = true := decide_eq_true ⟨h2.1, he'.symm⟩
      rw [List.countP_cons_of_pos q1, List.countP_cons_of_pos q2] at h6
      simpa using h6
    omega
  have hnd2 : (F.map Ed.i).Nodup := ((hp.map Ed.i).nodup_iff).2 hnd
  have hlt : F.Pairwise (fun x y => x.i < y.i) := by
    rw [List.Nodup, List.pairwise_map] at hnd2
    exact (hs.and hnd2).imp (fun h => by have := h.1; have := h.2; omega)
  refine asc_uniqE _ _ hlt (e2K_asc l sub 257).2 fun e => ?_
  rw [hp.mem_iff, e1_mem, e2_mem hv]
end Go.Proofs.Ytlgmankojgjfjaa

/- identify: Resolve, the mathematics. -/
namespace Go.Proofs.Ytlgmankojgjfjaa
open Go.RowKit Bs
/-- The least number from 1 to 256 that is not counted. -/
def frL (c : Nat → Nat) : Option Nat := (List.range 257).find? (fun j => decide (1 ≤ j ∧ c j = 0))
set_option maxRecDepth 100000 in
theorem frL_some {c : Nat → Nat} {n : Nat} (h1 : 1 ≤ n) (h2 : n ≤ 256) (h0 : c n = 0) (hm : ∀ j, 1 ≤ j → j < n → c j ≠ 0) : frL c = some n := by
  unfold frL
  rw [List.find?_range_eq_some]
  refine ⟨decide_eq_true ⟨h1, h0⟩, List.mem_range.2 (by omega), fun j hj => ?_⟩
  simp only [Bool.not_eq_true', decide_eq_false_iff_not]
  rintro ⟨q1, q2⟩
  exact hm j q1 hj q2
set_option maxRecDepth 100000 in
theorem frL_none {c : Nat → Nat} (hm : ∀ j, 1 ≤ j → j ≤ 256 → c j ≠ 0) : frL c = none := by
  unfold frL
  rw [List.find?_eq_none]
  intro j hj
  have := List.mem_range.1 hj
  simp only [decide_eq_true_eq]
  rintro ⟨q1, q2⟩
  exact hm j q1 (by omega) q2
set_option maxRecDepth 100000 in
theorem frL_is {c : Nat → Nat} {n : Int} {ok : Bool} (h : FreeIs c n ok) : (ok = true ∧ ∃ m : Nat, n = (m : Int) ∧ 1 ≤ m ∧ m ≤ 256 ∧ c m = 0 ∧ frL c = some m) ∨ (ok = false ∧ frL c = none) := by
  rcases h with ⟨rfl, h1, h2, h3, h4⟩ | ⟨rfl, rfl, h4⟩
  · refine Or.inl ⟨rfl, n.toNat, by omega, by omega, by omega, h3, frL_some (by omega) (by omega) h3 (fun j q1 q2 => h4 j q1 (by omega))⟩
  · exact Or.inr ⟨rfl, frL_none h4⟩
/-- The counts, with what was given. -/
def cgv (l : List Od) (sub : Int) (giv : List Nat) (j : Nat) : Nat := cnt l sub j + giv.count j
set_option maxRecDepth 100000 in
theorem cgv_snoc (l : List Od) (sub : Int) (giv : List Nat) (m : Nat) : (fun j => cgv l sub (giv ++ [m]) j) = fun j => if j = m then cgv l sub giv m + 1 else cgv l sub giv j := by
  funext j
  unfold cgv
  rw [List.count_append]
  by_cases h : j = m
  · subst h
    rw [if_pos rfl]
    simp
    omega
  · rw [if_neg h, List.count_eq_zero_of_not_mem (a := j) (l := [m]) (by simpa using h)]
    rfl
/-- Is there an earlier claim for the same ID? -/
def erl (l : List Od) (sub : Int) (k : Nat) (x : Od) : Bool := decide (x.s = sub ∧ 0 < cnt (l.take k) sub x.i)
/-- The first k claims settled; what was given. -/
def rsv (l : List Od) (sub : Int) : Nat → Option (List Od × List Nat)
  | 0 => some ([], [])
  | k + 1 => match rsv l sub k, l[k]? with
    | some (out, giv), some x =>
      if erl l sub k x then
        match frL (cgv l sub giv) with
        | some m => some (out ++ [{ x with i := (m : Int) }], giv ++ [m])
        | none => none
      else some (out ++ [x], giv)
    | r, none => r
    | none, _ => none
set_option maxRecDepth 100000 in
theorem rsv_keep {l : List Od} {sub : Int} {k : Nat} {x : Od} {out : List Od} {giv : List Nat} (h : rsv l sub k = some (out, giv)) (hx : l[k]? = some x) (he : erl l sub k x = false) : rsv l sub (k + 1) = some (out ++ [x], giv) := by
  rw [rsv, h, hx]
  simp [he]
set_option maxRecDepth 100000 in
theorem rsv_new {l : List Od} {sub : Int} {k m : Nat} {x : Od} {out : List Od} {giv : List Nat} (h : rsv l sub k = some (out, giv)) (hx : l[k]? = some x) (he : erl l sub k x = true) (hf : frL (cgv l sub giv) = some m) : rsv l sub (k + 1) = some (out ++ [{ x with i := (m : Int) }], giv ++ [m]) := by
  rw [rsv, h, hx]
  simp [he, hf]
set_option maxRecDepth 100000 in
theorem rsv_none {l : List Od} {sub : Int} {k : Nat} {x : Od} {out : List Od} {giv : List Nat} (h : rsv l sub k = some (out, giv)) (hx : l[k]? = some x) (he : erl l sub k x = true) (hf : frL (cgv l sub giv) = none) : rsv l sub (k + 1) = none := by
  rw [rsv, h, hx]
  simp [he, hf]
set_option maxRecDepth 100000 in
theorem rsv_stay {l : List Od} {sub : Int} {k : Nat} (h : rsv l sub k = none) : rsv l sub (k + 1) = none := by
  rw [rsv, h]
  cases l[k]? <;> rfl
set_option maxRecDepth 100000 in
theorem rsv_none_le {l : List Od} {sub : Int} {k n : Nat} (h : rsv l sub k = none) (hn : k ≤ n) : rsv l sub n = none := by
  induction n with
  | zero =>
    obtain rfl : k = 0 := by omega
    exact h
  | succ n ih =>
    by_cases hk : k = n + 1
    · subst hk; exact h
    · exact rsv_stay (ih (by omega))
/-- What Resolve returns. -/
def rsX (l : List Od) (sub : Int) : Int := if ckO l ≠ 0 then ckO l else if (rsv l sub l.length).isSome = true then 0 else 9
def rsO (l : List Od) (sub : Int) : List Od := if ckO l ≠ 0 then [] else ((rsv l sub l.length).getD ([], [])).1
set_option maxRecDepth 100000 in
theorem rsv_len {l : List Od} {sub : Int} : ∀ {k : Nat} {out : List Od} {giv : List Nat}, k ≤ l.length → rsv l sub k = some (out, giv) → out.length = k ∧ giv.length ≤ k
  | 0, out, giv, _, h => by
    rw [rsv] at h
    injection h with h
    injection h with h1 h2
    subst h1
    subst h2
    exact ⟨rfl, Nat.le_refl _⟩
  | k + 1, out, giv, hk, h => by
    obtain ⟨x, hx⟩ : ∃ x, l[k]? = some x := ⟨_, List.getElem?_eq_getElem (by omega)⟩
    cases hp : rsv l sub k with
    | none => rw [rsv_stay hp] at h; cases h
    | some r =>
      obtain ⟨o, g⟩ := r
      obtain ⟨i1, i2⟩ := rsv_len (by omega) hp
      cases he : erl l sub k x with
      | false =>
        rw [rsv_keep hp hx he] at h
        injection h with h
        injection h with h1 h2
        subst h1
        subst h2
        exact ⟨by simp [i1], by omega⟩
      | true =>
        cases hf : frL (cgv l sub g) with
        | none => rw [rsv_none hp hx he hf] at h; cases h
        | some m =>
          rw [rsv_new hp hx he hf] at h
          injection h with h
          injection h with h1 h2
          subst h1
          subst h2
          exact ⟨by simp [i1], by simp; omega⟩
set_option maxRecDepth 100000 in
theorem od_set : ∀ (M : List Od) (k : Nat) (v : Int) (x : Od), M[k]? = some x → (M.flatMap odC).set (k * 4 + 2) (.int .i64 v) = (M.set k { x with i := v }).flatMap odC
  | [], _, _, _, h => by simp at h
  | a :: t, 0, v, x, h => by
    obtain rfl : a = x := by simpa using h
    simp [odC]
  | a :: t, k + 1, v, x, h => by
    rw [List.flatMap_cons, List.set_append_right _ _ (by rw [od_len]; omega), od_len, show (k + 1) * 4 + 2 - 4 = k * 4 + 2 by omega, od_set t k v x (by simpa using h), List.set_cons_succ, List.flatMap_cons]

end Go.Proofs.Ytlgmankojgjfjaa

/- topology: IndexFunc, ContainsFunc and ascending at routers and at links. -/
namespace Go.Proofs.Ytlgmankojgjfjaa
open Go.RowKit Bs
abbrev EnterF (g : Nat) : Prop := ∀ (args : Array Value) (w : World), (callFunc g args).run Try.prog w = .ok (.enter g args) w

end Go.Proofs.Ytlgmankojgjfjaa

/- Blocks that a call fills; the array of the routers that are known. -/
namespace Go.Proofs.Ytlgmankojgjfjaa
open Go.RowKit Bs
end Go.Proofs.Ytlgmankojgjfjaa

/- topology: joinsUnknown. -/
namespace Go.Proofs.Ytlgmankojgjfjaa
open Go.RowKit Bs
end Go.Proofs.Ytlgmankojgjfjaa

/- topology: Check, valid. -/
namespace Go.Proofs.Ytlgmankojgjfjaa
open Go.RowKit Bs
end Go.Proofs.Ytlgmankojgjfjaa

/- topology: neighbours. -/
namespace Go.Proofs.Ytlgmankojgjfjaa
open Go.RowKit Bs
def tv (z : Int) : Value := .int .i64 z
/-- Numbers in a row of the call's own. -/
structure NK (w : World) (v : Value) (l : List Int) (wr : World) : Prop where
  own : wr.ownsRow w.heap.size 3 1 v l.length (l.map tv)
  gr : w.grownBy wr none
set_option maxRecDepth 100000 in
theorem NK.keep {w wr w' : World} {v : Value} {l : List Int} (h : NK w v l wr) (g : wr.grownBy w' none) : NK w v l w' :=
  ⟨h.own.kept g (by cases hv : v.ownBlock <;> simp), grown_trans h.gr g⟩
set_option maxRecDepth 100000 in
theorem NK.more {w wr wy w1 : World} {v v' : Value} {l : List Int} {x : Int} {o : Obj} (h : NK w v l wr) (g : wr.grownBy wy none) (hown' : w1.ownsRow w.heap.size 3 1 v' (l.length + 1) (l.map tv ++ [.int .i64 x])) (hg : (wy.alloc o).grownBy w1 v.ownBlock) :
    NK w v' (l ++ [x]) w1 ∧ (∀ b ob, wr.heap.size ≤ b → wy.heap[b]? = some ob → w1.heap[b]? = some ob) := by
  have hy := h.keep g
  refine ⟨⟨?_, own_step hy.gr hy.own hg⟩, fun b ob hb he => ?_⟩
  · rw [List.length_append, List.map_append]; exact hown'
  · have k0 := World.grownBy_alloc wy o none
    refine kept_row (kept_row he k0 (by simp)) hg (fun e => ?_)
    have := (h.own.lt b e.symm).2
    omega
end Go.Proofs.Ytlgmankojgjfjaa

/- topology: Contains of numbers and of hops; the closures of Without. -/
namespace Go.Proofs.Ytlgmankojgjfjaa
open Go.RowKit Bs
end Go.Proofs.Ytlgmankojgjfjaa

/- The reference's has, cost, Check of a topology. -/
namespace Go.Proofs.Ytlgmankojgjfjaa
open Go.RowKit Bs
end Go.Proofs.Ytlgmankojgjfjaa

/- topology: the closures of Without; what memory holds while it runs. -/
namespace Go.Proofs.Ytlgmankojgjfjaa
open Go.RowKit Bs
set_option maxRecDepth 100000 in
/-- What is read lies below. -/
theorem RdF.old {w : World} {q : Nat → Prop} {v : Value} {n : Nat} {xs : List Value} (h : RdF w q v n xs) : RdF w (· < w.heap.size) v n xs := by
  obtain ⟨p, c, hv, hc⟩ := h
  refine ⟨p, c, hv, fun hne => ?_⟩
  obtain ⟨b, off, hp, hb, hx⟩ := hc hne
  obtain ⟨x, hx0⟩ : ∃ x, xs[0]? = some x := by
    cases xs with
    | nil => exact absurd rfl hne
    | cons a t => exact ⟨a, rfl⟩
  exact ⟨b, off, hp, World.block_lt_of_cell? w ⟨b, off + 0, none⟩ (hx 0 x hx0), hx⟩
set_option maxRecDepth 100000 in
theorem Rd.old {w : World} {q : Nat → Prop} {v : Value} {xs : List Value} (h : Rd w q v xs) : Rd w (· < w.heap.size) v xs := by
  obtain ⟨p, c, hv, hc⟩ := h
  refine ⟨p, c, hv, fun hne => ?_⟩
  obtain ⟨b, off, hp, hb, hx⟩ := hc hne
  obtain ⟨x, hx0⟩ : ∃ x, xs[0]? = some x := by
    cases xs with
    | nil => exact absurd rfl hne
    | cons a t => exact ⟨a, rfl⟩
  exact ⟨b, off, hp, World.block_lt_of_cell? w ⟨b, off + 0, none⟩ (hx 0 x hx0), hx⟩
set_option maxRecDepth 100000 in
theorem info_rt : (Try.prog.info? 54).map (fun i => (i.zero, i.size, i.bytes)) = some (some (.agg #[.int .i64 0, .bool false]), 2, 16) := by kernel_rfl
set_option maxRecDepth 100000 in
theorem info_lk : (Try.prog.info? 58).map (fun i => (i.zero, i.size, i.bytes)) = some (some (.agg #[.int .i64 0, .int .i64 0, .int .i64 0, .int .i64 0, .int .i64 0]), 5, 40) := by kernel_rfl
end Go.Proofs.Ytlgmankojgjfjaa

/- topology: Without. -/
namespace Go.Proofs.Ytlgmankojgjfjaa
open Go.RowKit Bs
set_option maxRecDepth 100000 in
theorem grown_any {w w1 w2 : World} {r : Option Nat} (h : w.grownBy w1 none) (k : w1.grownBy w2 r) (hr : ∀ b, b < w.heap.size → some b ≠ r) : w.grownBy w2 none :=
  ⟨k.os.trans h.os, k.tape.trans h.tape, k.output.trans h.output, Nat.le_trans h.size k.size, fun b hb _ => (k.block b (Nat.lt_of_lt_of_le hb h.size) (hr b hb)).trans (h.block b hb (by simp))⟩
set_option maxRecDepth 100000 in
theorem rdf_of_own2 {w : World} {base size : Nat} {e : TypeId} {v : Value} {n : Nat} {xs : List Value} (h : w.ownsRow base e size v n xs) : RdF w (fun b => base ≤ b ∧ b < w.heap.size) v n xs := by
  obtain ⟨p, c, hv, hc⟩ := rdf_of_own h
  refine ⟨p, c, hv, fun hne => ?_⟩
  obtain ⟨b, off, hp, hb, hx⟩ := hc hne
  obtain ⟨x, hx0⟩ : ∃ x, xs[0]? = some x := by
    cases xs with
    | nil => exact absurd rfl hne
    | cons a t => exact ⟨a, rfl⟩
  exact ⟨b, off, hp, ⟨hb, World.block_lt_of_cell? w ⟨b, off + 0, none⟩ (hx 0 x hx0)⟩, hx⟩
set_option maxRecDepth 100000 in
theorem topo_size : (Try.prog.info? 35).map (·.size) = some 2 := by kernel_rfl
set_option maxRecDepth 100000 in
theorem res_topo {fn : Func} {p : Tmp} (h : fn.results = #[.cell p 35]) (tmps : Array Value) (w : World) (g : Nat) (x y : Value) (hp : tmps.getD p undef = .pointer (some ⟨g, 0, none⟩)) (hg : w.heap[g]? = some (.cells #[x, y] 35 (0, 0))) :
    (results fn tmps).run Try.prog w = .ok (.agg #[x, y]) w :=
  results_cell_row h tmps w g _ _ _ _ hp hg Try.underlying35 rfl topo_size
set_option maxRecDepth 100000 in
theorem own_shape {w : World} {base size n : Nat} {e : TypeId} {v : Value} {xs : List Value} (h : w.ownsRow base e size v n xs) : ∃ p c, v = .slice p n c ∧ n ≤ c ∧ c ≤ 9223372036854775807 := by
  rcases h.2 with ⟨rfl, h0⟩ | ⟨g, cap, cur, rfl, _, _, hn, hm, _⟩
  · subst h0
    exact ⟨none, 0, rfl, Nat.le_refl _, by omega⟩
  · unfold maxLen at hm
    exact ⟨_, cap, rfl, hn, by omega⟩
set_option maxRecDepth 100000 in
theorem cells2 (w : World) (x y : Value) (t : TypeId) : ∀ j u, [x, y][j]? = some u → (w.alloc (.cells #[x, y] t)).cell? ((⟨w.heap.size, 0, none⟩ : Addr).add j) = some u := by
  intro j u hj
  have hb : (w.alloc (.cells #[x, y] t)).heap[w.heap.size]? = some (.cells #[x, y] t (0, 0)) := heap_alloc_new w _
  have hadd : (⟨w.heap.size, 0, none⟩ : Addr).add j = ⟨w.heap.size, j, none⟩ := by rw [add_plain, Nat.zero_add]
  rw [hadd, cell_of_row _ _ _ _ _ _ hb]
  simpa using hj
set_option maxRecDepth 100000 in
theorem cells5 (w : World) (a b c d e : Value) (t : TypeId) : ∀ j u, [a, b, c, d, e][j]? = some u → (w.alloc (.cells #[a, b, c, d, e] t)).cell? ((⟨w.heap.size, 0, none⟩ : Addr).add j) = some u := by
  intro j u hj
  have hb : (w.alloc (.cells #[a, b, c, d, e] t)).heap[w.heap.size]? = some (.cells #[a, b, c, d, e] t (0, 0)) := heap_alloc_new w _
  have hadd : (⟨w.heap.size, 0, none⟩ : Addr).add j = ⟨w.heap.size, j, none⟩ := by rw [add_plain, Nat.zero_add]
  rw [hadd, cell_of_row _ _ _ _ _ _ hb]
  simpa using hj
end Go.Proofs.Ytlgmankojgjfjaa

/- Rows of structs: parts of them, and append. -/
namespace Go.Proofs.Ytlgmankojgjfjaa
open Go.RowKit Bs
set_option maxRecDepth 100000 in
/-- A walk stops here. -/
theorem hold_on {p : Prop} (h : Hid p) : p := h.out
set_option maxRecDepth 100000 in
theorem flat_drop {α : Type} (f : α → List Value) (k : Nat) (hf : ∀ x, (f x).length = k) : ∀ (l : List α) (j : Nat), (l.drop j).flatMap f = (l.flatMap f).drop (j * k)
  | [], j => by simp
  | a :: t, 0 => by simp
  | a :: t, j + 1 => by
    rw [List.drop_succ_cons, flat_drop f k hf t j, List.flatMap_cons, Nat.add_mul, Nat.one_mul, Nat.add_comm, ← List.drop_drop, List.drop_append_of_le_length (by rw [hf]; exact Nat.le_refl _), ← hf a, List.drop_length, List.nil_append]
set_option maxRecDepth 100000 in
theorem flat_take {α : Type} (f : α → List Value) (k : Nat) (hf : ∀ x, (f x).length = k) : ∀ (l : List α) (j : Nat), (l.take j).flatMap f = (l.flatMap f).take (j * k)
  | [], j => by simp
  | a :: t, 0 => by simp
  | a :: t, j + 1 => by
    rw [List.take_succ_cons, List.flatMap_cons, flat_take f k hf t j, List.flatMap_cons, List.take_append, hf, List.take_of_length_le (l := f a) (by rw [hf, Nat.add_mul]; omega), Nat.add_mul, Nat.one_mul, Nat.add_sub_cancel]
set_option maxRecDepth 100000 in
theorem RdF.part {α : Type} {f : α → List Value} {k : Nat} (hf : ∀ x, (f x).length = k) {w : World} {q : Nat → Prop} {p : Option Addr} {c : Nat} {l : List α} (h : RdF w q (.slice p l.length c) l.length (l.flatMap f)) (j : Nat) (hj : j ≤ l.length) (c' : Nat) :
    RdF w q (.slice p j c') (l.take j).length ((l.take j).flatMap f) := by
  obtain ⟨p1, c1, e1, hx⟩ := h
  injection e1 with a1 a2 a3
  subst a1
  have hlen : (l.take j).length = j := by rw [List.length_take]; omega
  rw [hlen]
  refine ⟨p, c', rfl, fun hne => ?_⟩
  rw [flat_take f k hf] at hne ⊢
  obtain ⟨b, off, hp, hq, hc⟩ := hx (by intro e; rw [e] at hne; simp at hne)
  refine ⟨b, off, hp, hq, fun i x hi => hc i x ?_⟩
  rw [List.getElem?_take] at hi
  split at hi
  · exact hi
  · cases hi
set_option maxRecDepth 100000 in
theorem RdF.rest {α : Type} {f : α → List Value} {k : Nat} (hf : ∀ x, (f x).length = k) {w : World} {q : Nat → Prop} {b off c : Nat} {l : List α} (h : RdF w q (.slice (some ⟨b, off, none⟩) l.length c) l.length (l.flatMap f)) (j : Nat) (c' : Nat) :
    RdF w q (.slice (some ⟨b, off + j * k, none⟩) (l.length - j) c') (l.drop j).length ((l.drop j).flatMap f) := by
  obtain ⟨p1, c1, e1, hx⟩ := h
  injection e1 with a1 a2 a3
  subst a1
  have hlen : (l.drop j).length = l.length - j := by rw [List.length_drop]
  rw [hlen]
  refine ⟨_, c', rfl, fun hne => ?_⟩
  rw [flat_drop f k hf] at hne ⊢
  obtain ⟨b1, off1, hp, hq, hc⟩ := hx (by intro e; rw [e] at hne; simp at hne)
  injection hp with hp
  injection hp with hb ho
  subst hb
  subst ho
  refine ⟨b, off + j * k, rfl, hq, fun i x hi => ?_⟩
  rw [List.getElem?_drop] at hi
  rw [Nat.add_assoc]
  exact hc _ x hi
set_option maxRecDepth 100000 in
theorem rdf_news {w : World} {q : Nat → Prop} {ad : Addr} {n c m : Nat} {xs : List Value} (hR : RdF w q (.slice (some ad) n c) m xs) : ∀ j u, xs[j]? = some u → w.cell? (ad.add j) = some u := by
  intro j u hj
  obtain ⟨p1, c1, e1, hx⟩ := hR
  injection e1 with a1 a2 a3
  subst a1
  obtain ⟨b, off, hp, hq, hc⟩ := hx (by intro e; rw [e] at hj; simp at hj)
  injection hp with hp
  subst hp
  rw [add_plain]
  exact hc j u hj
set_option maxRecDepth 100000 in
theorem rdf_one {w : World} {b off n : Nat} {xs : List Value} (q : Nat → Prop) (hq : q b) (h : ∀ j u, xs[j]? = some u → w.cell? ((⟨b, off, none⟩ : Addr).add j) = some u) (c : Nat) : RdF w q (.slice (some ⟨b, off, none⟩) n c) n xs :=
  ⟨_, c, rfl, fun _ => ⟨b, off, rfl, hq, fun i x hi => by have := h i x hi; rw [add_plain] at this; exact this⟩⟩
set_option maxRecDepth 100000 in
theorem wpList_append_f {α : Type} (f : α → List Value) (size bytes : Nat) (hsz : 0 < size) (hf : ∀ x, (f x).length = size) (hone : ∀ x, ∀ u ∈ f x, u.oneCell' = true) (e t : TypeId) (i : TypeInfo) (z : Value)
    (ht : Try.prog.underlying t = some (.slice e)) (hi : Try.prog.info? e = some i) (hz : i.zero = some z) (hsize : i.size = size) (hby : i.bytes = bytes) (hzs : z.cells.size = size) (hb40 : bytes ≤ 1000)
    {w : World} {ops : Array Oper} {rest : List Oper} {o : Oper} {a : Act} {Q : Exit → Act → World → Prop} (hgd : o.guard = none) (s x : Operand)
    (ho : o.op = .call { callee := .builtin .append, args := #[s, x], argTypes := #[t, t] }) (base : Nat) (v : Value) (l : List α) (n : Nat) (hn : n = l.length) (hs : a.eval s = v) (hown : w.ownsRow base e size v n (l.flatMap f))
    (p : Option Addr) (k c : Nat) (r : List α) (hx : a.eval x = .slice p k c) (hk : k = r.length) (hn0 : p = none → c = 0) (q : Nat → Prop) (hR : RdF w q (.slice p k c) r.length (r.flatMap f)) (hkc : k ≤ c) (h63 : n + r.length ≤ 100000) (hbase : base ≤ w.heap.size)
    (h : ∀ v' w', w'.ownsRow base e size v' (l ++ r).length ((l ++ r).flatMap f) → w.grownBy w' v.ownBlock → wpList Try.prog ops Q rest (a.put o.dst v') w') : wpList Try.prog ops Q (o :: rest) a w := by
  subst hn
  cases p with
  | none =>
    obtain rfl := hn0 rfl
    have hr : r.length = 0 := by omega
    obtain rfl := List.eq_nil_of_length_eq_zero hr
    obtain rfl : k = 0 := hk
    refine wpList_append_own_none hgd s x t ho base e i size ht hi v l.length (l.flatMap f) hs hown hx ?_
    refine h v w ?_ (grown_refl _ _)
    rw [List.append_nil]; exact hown
  | some ad =>
    have hb2 : (l.length + k) * bytes ≤ 140737488355328 := Nat.le_trans (Nat.mul_le_mul (show l.length + k ≤ 100000 by omega) hb40) (by decide)
    refine wpList_append_own w hgd s x t ho base e i z size bytes ht hi hz hsize hby hzs hsz v l.length (l.flatMap f) hs hown ad k c (r.flatMap f) hx (by rw [flat_len f size hf, hk]) (rdf_news hR) ?_ (by unfold maxLen; omega) hb2 hbase ?_
    · intro u hu
      obtain ⟨y, _, hy⟩ := List.mem_flatMap.1 hu
      exact hone y u hy
    · intro v' w' h1 h2 _
      refine h v' w' ?_ h2
      rw [List.length_append, List.flatMap_append, ← hk]; exact h1
set_option maxRecDepth 100000 in
theorem own_apartF {w w1 : World} {base base2 size size2 : Nat} {e e2 : TypeId} {v v2 : Value} {n m : Nat} {xs ys : List Value} (h : w.ownsRow base e size v n xs) (hv : w.ownsRow base2 e2 size2 v2 m ys) (hg : ∀ g, v.ownBlock = some g → g < base2) (k : w.grownBy w1 v2.ownBlock) : w1.ownsRow base e size v n xs := by
  refine h.kept k ?_
  cases hb : v.ownBlock with
  | none => exact .inl rfl
  | some g =>
    refine .inr fun e => ?_
    have := (hv.lt g e.symm).1
    have := hg g hb
    omega
set_option maxRecDepth 100000 in
theorem old_grow {w w1 : World} {base2 size2 : Nat} {e2 : TypeId} {v2 : Value} {m : Nat} {ys : List Value} {W : World} (g : W.grownBy w none) (hv : w.ownsRow base2 e2 size2 v2 m ys) (hb : W.heap.size ≤ base2) (k : w.grownBy w1 v2.ownBlock) : W.grownBy w1 none :=
  grown_any g k (fun b hlt e => by have := (hv.lt b e.symm).1; omega)
set_option maxRecDepth 100000 in
theorem lk_one (x : Lk) : ∀ u ∈ lkC x, u.oneCell' = true := by
  intro u hu
  simp [lkC] at hu
  rcases hu with rfl | rfl | rfl | rfl | rfl <;> rfl
end Go.Proofs.Ytlgmankojgjfjaa

/- identify: arrays by value, count. -/
namespace Go.Proofs.Ytlgmankojgjfjaa
open Go.RowKit Bs
/-- The cells of an array. -/
def arrV (n : Nat) (f : Nat → Value) : Array Value := ((List.range n).map f).toArray
set_option maxRecDepth 100000 in
theorem arr_size (n : Nat) (f : Nat → Value) : (arrV n f).size = n := by simp [arrV]
set_option maxRecDepth 100000 in
theorem arr_at {n k : Nat} (f : Nat → Value) (h : k < n) : (arrV n f)[k]? = some (f k) := by
  unfold arrV
  simp [h]
set_option maxRecDepth 100000 in
theorem arr_set {n k : Nat} (f : Nat → Value) (v : Value) (h : k < n) : (arrV n f).setIfInBounds k v = arrV n (fun j => if j = k then v else f j) := by
  apply Array.ext'
  unfold arrV
  simp only [List.setIfInBounds_toArray]
  apply List.ext_getElem?
  intro j
  rw [List.getElem?_set]
  simp only [List.length_map, List.length_range, List.getElem?_map, List.getElem?_range]
  by_cases hj : k = j
  · subst hj
    simp [h]
  · by_cases hn : j < n
    · simp [hj, hn, List.getElem?_range, Ne.symm hj, fun e : j = k => hj e.symm]
    · simp [hj, hn]
set_option maxRecDepth 100000 in
theorem arr_congr {n : Nat} {f g : Nat → Value} (h : ∀ k, k < n → f k = g k) : arrV n f = arrV n g := by
  unfold arrV
  congr 1
  exact List.map_congr_left (fun k hk => h k (List.mem_range.1 hk))
set_option maxRecDepth 100000 in
theorem arr_one {n : Nat} {f : Nat → Value} (h : ∀ k, (f k).oneCell' = true) : (arrV n f).all (·.oneCell') = true := by
  rw [Array.all_eq_true_iff_forall_mem]
  intro v hv
  unfold arrV at hv
  rw [List.mem_toArray] at hv
  obtain ⟨k, -, rfl⟩ := List.mem_map.1 hv
  exact h k
def ivN (f : Nat → Nat) (k : Nat) : Value := .int .i64 (f k : Int)
def bvN (f : Nat → Bool) (k : Nat) : Value := .bool (f k)
set_option maxRecDepth 100000 in
theorem info_cs : (Try.prog.info? 86).map (fun i => (i.zero, i.size)) = some (some (.agg (arrV 257 (ivN fun _ => 0))), 257) := by kernel_rfl
set_option maxRecDepth 100000 in
theorem arr_row {w : World} {b n k : Nat} {f : Nat → Value} {t : TypeId} (h : w.heap[b]? = some (.cells (arrV n f) t (0, 0))) (hk : k < n) : w.cell? ⟨b, k, none⟩ = some (f k) := by
  rw [cell_of_row _ _ _ _ _ _ h]; exact arr_at f hk
set_option maxRecDepth 100000 in
theorem arr_put {w : World} {b n k : Nat} {f : Nat → Value} {t : TypeId} (v : Value) (h : w.heap[b]? = some (.cells (arrV n f) t (0, 0))) (hk : k < n) :
    (w.setCell ⟨b, k, none⟩ v).heap[b]? = some (.cells (arrV n (fun j => if j = k then v else f j)) t (0, 0)) ∧ w.grownBy (w.setCell ⟨b, k, none⟩ v) (some b) := by
  have h1 := heap_setCell_same w b k _ _ v h
  rw [arr_set f v hk] at h1
  exact ⟨h1, grown_setCell w ⟨b, k, none⟩ v⟩
set_option maxRecDepth 100000 in
theorem grown_setRow {w : World} {b : Nat} {cs : Array Value} : w.grownBy (w.setRow b cs) (some b) := by
  refine ⟨rfl, rfl, rfl, by simp, fun k hk hne => ?_⟩
  unfold World.setRow
  simp only [Array.getElem?_modify]
  have : b ≠ k := fun e => hne (by rw [e])
  simp [this]
set_option maxRecDepth 100000 in
theorem od_cells {w : World} {q : Nat → Prop} {p : Option Addr} {n c : Nat} {l : List Od} (h : RdF w q (.slice p n c) l.length (l.flatMap odC)) (hn : 0 < l.length) :
    n = l.length ∧ ∃ b off, p = some ⟨b, off, none⟩ ∧ q b ∧ ∀ i x, l[i]? = some x → w.cell? ⟨b, off + i * 4, none⟩ = some (.int .i64 x.r) ∧ w.cell? ⟨b, off + i * 4 + 1, none⟩ = some (.int .i64 x.s) ∧ w.cell? ⟨b, off + i * 4 + 2, none⟩ = some (.int .i64 x.i) ∧ w.cell? ⟨b, off + i * 4 + 3, none⟩ = some (.int .i64 x.l) := by
  obtain ⟨h0, b, off, hp, hq, hc⟩ := RdF.cells (f := odC) (k := 4) (fun _ => rfl) (by decide) h hn
  exact ⟨h0, b, off, hp, hq, fun i x hi => ⟨hc i x hi 0 _ rfl, hc i x hi 1 _ rfl, hc i x hi 2 _ rfl, hc i x hi 3 _ rfl⟩⟩
set_option maxRecDepth 100000 in
theorem ed_cells {w : World} {q : Nat → Prop} {p : Option Addr} {n c : Nat} {l : List Ed} (h : RdF w q (.slice p n c) l.length (l.flatMap edC)) (hn : 0 < l.length) :
    n = l.length ∧ ∃ b off, p = some ⟨b, off, none⟩ ∧ q b ∧ ∀ i x, l[i]? = some x → w.cell? ⟨b, off + i * 2, none⟩ = some (.int .i64 x.r) ∧ w.cell? ⟨b, off + i * 2 + 1, none⟩ = some (.int .i64 x.i) := by
  obtain ⟨h0, b, off, hp, hq, hc⟩ := RdF.cells (f := edC) (k := 2) (fun _ => rfl) (by decide) h hn
  exact ⟨h0, b, off, hp, hq, fun i x hi => ⟨hc i x hi 0 _ rfl, hc i x hi 1 _ rfl⟩⟩
end Go.Proofs.Ytlgmankojgjfjaa

/- identify: the leaves, of the program and of the reference. -/
namespace Go.Proofs.Ytlgmankojgjfjaa
open Go.RowKit Bs
set_option maxRecDepth 100000 in
theorem row4i {w : World} {b : Nat} {x0 x1 x2 x3 : Value} {t : TypeId} (h : w.heap[b]? = some (.cells #[x0, x1, x2, x3] t (0, 0))) :
    w.cell? ⟨b, 0, none⟩ = some x0 ∧ w.cell? ⟨b, 1, none⟩ = some x1 ∧ w.cell? ⟨b, 2, none⟩ = some x2 ∧ w.cell? ⟨b, 3, none⟩ = some x3 :=
  ⟨cell_of_row _ _ _ _ _ _ h, cell_of_row _ _ _ _ _ _ h, cell_of_row _ _ _ _ _ _ h, cell_of_row _ _ _ _ _ _ h⟩
set_option maxRecDepth 100000 in
theorem ivr_lit (n : Int) (b : Bool) (h : inV n 1 99 = b) (w : World) :
    Calls Try.prog 42 #[.int .i64 n] w fun e w' => e = .returned (.bool b) ∧ w = w' := by
  subst h
  unfold inV
  go_enter Try.func42, Try.ntmps42
  by_cases h1 : (1 : Int) ≤ n
  · by_cases h2 : n ≤ (99 : Int)
    · rw [decide_eq_true (show 1 ≤ n ∧ n ≤ 99 from ⟨h1, h2⟩)]
      go_wp2_with fail
      go_ret
      exact ⟨rfl, rfl⟩
    · rw [decide_eq_false (show ¬ (1 ≤ n ∧ n ≤ 99) from fun h => h2 h.2)]
      go_wp2_with fail
      go_ret
      exact ⟨rfl, rfl⟩
  · rw [decide_eq_false (show ¬ (1 ≤ n ∧ n ≤ 99) from fun h => h1 h.1)]
    go_wp2_with fail
    go_ret
    exact ⟨rfl, rfl⟩
set_option maxRecDepth 100000 in
theorem ivs_lit (n : Int) (b : Bool) (h : inV n 0 7 = b) (w : World) :
    Calls Try.prog 27 #[.int .i64 n] w fun e w' => e = .returned (.bool b) ∧ w = w' := by
  subst h
  unfold inV
  go_enter Try.func27, Try.ntmps27
  by_cases h1 : (0 : Int) ≤ n
  · by_cases h2 : n ≤ (7 : Int)
    · rw [decide_eq_true (show 0 ≤ n ∧ n ≤ 7 from ⟨h1, h2⟩)]
      go_wp2_with fail
      go_ret
      exact ⟨rfl, rfl⟩
    · rw [decide_eq_false (show ¬ (0 ≤ n ∧ n ≤ 7) from fun h => h2 h.2)]
      go_wp2_with fail
      go_ret
      exact ⟨rfl, rfl⟩
  · rw [decide_eq_false (show ¬ (0 ≤ n ∧ n ≤ 7) from fun h => h1 h.1)]
    go_wp2_with fail
    go_ret
    exact ⟨rfl, rfl⟩
set_option maxRecDepth 100000 in
theorem ivi_lit (n : Int) (b : Bool) (h : inV n 1 256 = b) (w : World) :
    Calls Try.prog 43 #[.int .i64 n] w fun e w' => e = .returned (.bool b) ∧ w = w' := by
  subst h
  unfold inV
  go_enter Try.func43, Try.ntmps43
  by_cases h1 : (1 : Int) ≤ n
  · by_cases h2 : n ≤ (256 : Int)
    · rw [decide_eq_true (show 1 ≤ n ∧ n ≤ 256 from ⟨h1, h2⟩)]
      go_wp2_with fail
      go_ret
      exact ⟨rfl, rfl⟩
    · rw [decide_eq_false (show ¬ (1 ≤ n ∧ n ≤ 256) from fun h => h2 h.2)]
      go_wp2_with fail
      go_ret
      exact ⟨rfl, rfl⟩
  · rw [decide_eq_false (show ¬ (1 ≤ n ∧ n ≤ 256) from fun h => h1 h.1)]
    go_wp2_with fail
    go_ret
    exact ⟨rfl, rfl⟩
set_option maxRecDepth 100000 in
theorem rin10_lit (n lo hi : Int) (b : Bool) (h : inV n lo hi = b) (w : World) :
    Calls Try.prog 25 #[.int .i64 n, .int .i64 lo, .int .i64 hi] w fun e w' => e = .returned (.bool b) ∧ w = w' := by
  subst h
  unfold inV
  go_enter Try.func25, Try.ntmps25
  by_cases h1 : lo ≤ n
  · by_cases h2 : n ≤ hi
    · rw [decide_eq_true (show lo ≤ n ∧ n ≤ hi from ⟨h1, h2⟩)]
      go_wp2_with fail
      go_ret
      exact ⟨rfl, rfl⟩
    · rw [decide_eq_false (show ¬ (lo ≤ n ∧ n ≤ hi) from fun h => h2 h.2)]
      go_wp2_with fail
      go_ret
      exact ⟨rfl, rfl⟩
  · rw [decide_eq_false (show ¬ (lo ≤ n ∧ n ≤ hi) from fun h => h1 h.1)]
    go_wp2_with fail
    go_ret
    exact ⟨rfl, rfl⟩
set_option maxRecDepth 100000 in
theorem vlp_lit (n : Int) (b : Bool) (h : vl n = b) (w : World) :
    Calls Try.prog 28 #[.int .i64 n] w fun e w' => e = .returned (.bool b) ∧ w = w' := by
  rw [← h]; exact vlp_any n w
set_option maxRecDepth 100000 in
theorem vlr10_lit (n : Int) (b : Bool) (h : vl n = b) (w : World) :
    Calls Try.prog 26 #[.int .i64 n] w fun e w' => e = .returned (.bool b) ∧ w = w' := by
  rw [← h]; exact vlr_any n w
set_option maxRecDepth 100000 in
set_option maxHeartbeats 1600000 in
theorem iwrc_any (x : Od) (w : World) :
    Calls Try.prog 22 #[.agg #[.int .i64 x.r, .int .i64 x.s, .int .i64 x.i, .int .i64 x.l]] w fun e w' => e = .returned (.bool (wrO x)) ∧ w.grownBy w' none := by
  obtain ⟨k1, k2⟩ := tone_box w #[.int .i64 x.r, .int .i64 x.s, .int .i64 x.i, .int .i64 x.l] 50
  obtain ⟨c0, c1, c2, c3⟩ := row4i k1
  have K := Lib.hid k2
  clear k1 k2
  go_enter Try.func22, Try.ntmps22
  go_upto_region 1 with fail
  generalize w.alloc _ = wa at *
  obtain ⟨n1, n2⟩ := tone_box wa #[.int .i64 x.s, .int .i64 x.i, .int .i64 x.l] 48
  have hb0 : w.heap.size < wa.heap.size := block_lt_of_cell c0
  have d0 := n2.cell c0 (by simp)
  have e0 : (wa.alloc (.cells #[.int .i64 x.s, .int .i64 x.i, .int .i64 x.l] 48)).cell? ⟨wa.heap.size, 0, none⟩ = some (.int .i64 x.s) := cell_of_row _ _ _ _ _ _ n1
  have e1 : (wa.alloc (.cells #[.int .i64 x.s, .int .i64 x.i, .int .i64 x.l] 48)).cell? ⟨wa.heap.size, 1, none⟩ = some (.int .i64 x.i) := cell_of_row _ _ _ _ _ _ n1
  have e2 : (wa.alloc (.cells #[.int .i64 x.s, .int .i64 x.i, .int .i64 x.l] 48)).cell? ⟨wa.heap.size, 2, none⟩ = some (.int .i64 x.l) := cell_of_row _ _ _ _ _ _ n1
  have K2 := Lib.hid (grown_trans K.out n2)
  clear n1 n2 K
  go_upto_region 2 with fail
  clear c0 c1 c2 c3
  generalize wa.alloc _ = wb at *
  have HW : Hid (wrO x = !(inV x.r 1 99 && inV x.s 0 7 && inV x.i 1 256 && vl x.l)) := Lib.hid rfl
  obtain ⟨b1, h1⟩ : ∃ b, inV x.r 1 99 = b := ⟨_, rfl⟩
  obtain ⟨b2, h2⟩ : ∃ b, inV x.s 0 7 = b := ⟨_, rfl⟩
  obtain ⟨b3, h3⟩ : ∃ b, inV x.i 1 256 = b := ⟨_, rfl⟩
  obtain ⟨b4, h4⟩ : ∃ b, vl x.l = b := ⟨_, rfl⟩
  rw [h1, h2, h3, h4] at HW
  have H1 := Lib.hid h1
  have H2 := Lib.hid h2
  have H3 := Lib.hid h3
  have H4 := Lib.hid h4
  clear h1 h2 h3 h4
  cases b1
  case false =>
    go_wp2_with (go_at_call 42; refine (ivr_lit _ _ H1.out _).mono ?_; rintro e w' ⟨rfl, rfl⟩)
    go_ret
    exact ⟨by rw [HW.out]; rfl, K2.out⟩
  cases b2
  case false =>
    go_wp2_with (first | (go_at_call 42; refine (ivr_lit _ _ H1.out _).mono ?_; rintro e w' ⟨rfl, rfl⟩) | (go_at_call 27; refine (ivs_lit _ _ H2.out _).mono ?_; rintro e w' ⟨rfl, rfl⟩))
    go_ret
    exact ⟨by rw [HW.out]; rfl, K2.out⟩
  cases b3
  case false =>
    go_wp2_with (first | (go_at_call 42; refine (ivr_lit _ _ H1.out _).mono ?_; rintro e w' ⟨rfl, rfl⟩) | (go_at_call 27; refine (ivs_lit _ _ H2.out _).mono ?_; rintro e w' ⟨rfl, rfl⟩) | (go_at_call 43; refine (ivi_lit _ _ H3.out _).mono ?_; rintro e w' ⟨rfl, rfl⟩))
    go_ret
    exact ⟨by rw [HW.out]; rfl, K2.out⟩
  go_wp2_with (first | (go_at_call 42; refine (ivr_lit _ _ H1.out _).mono ?_; rintro e w' ⟨rfl, rfl⟩) | (go_at_call 27; refine (ivs_lit _ _ H2.out _).mono ?_; rintro e w' ⟨rfl, rfl⟩) | (go_at_call 43; refine (ivi_lit _ _ H3.out _).mono ?_; rintro e w' ⟨rfl, rfl⟩) | (go_at_call 28; refine (vlp_lit _ _ H4.out _).mono ?_; rintro e w' ⟨rfl, rfl⟩))
  go_ret
  exact ⟨by rw [HW.out]; rfl, K2.out⟩
set_option maxRecDepth 100000 in
set_option maxHeartbeats 1600000 in
theorem iwre_any (x : Ed) (w : World) :
    Calls Try.prog 30 #[.agg #[.int .i64 x.r, .int .i64 x.i]] w fun e w' => e = .returned (.bool (wrE x)) ∧ w.grownBy w' none := by
  obtain ⟨k1, k2⟩ := tone_box w #[.int .i64 x.r, .int .i64 x.i] 56
  obtain ⟨c0, c1⟩ := row_cells k1
  have K := Lib.hid k2
  clear k1 k2
  go_enter Try.func30, Try.ntmps30
  go_upto_region 1 with fail
  generalize w.alloc _ = wa at *
  have HW : Hid (wrE x = !(inV x.r 1 99 && inV x.i 1 256)) := Lib.hid rfl
  obtain ⟨b1, h1⟩ : ∃ b, inV x.r 1 99 = b := ⟨_, rfl⟩
  obtain ⟨b2, h2⟩ : ∃ b, inV x.i 1 256 = b := ⟨_, rfl⟩
  rw [h1, h2] at HW
  have H1 := Lib.hid h1
  have H2 := Lib.hid h2
  clear h1 h2
  cases b1
  case false =>
    go_wp2_with (go_at_call 42; refine (ivr_lit _ _ H1.out _).mono ?_; rintro e w' ⟨rfl, rfl⟩)
    go_ret
    exact ⟨by rw [HW.out]; rfl, K.out⟩
  go_wp2_with (first | (go_at_call 42; refine (ivr_lit _ _ H1.out _).mono ?_; rintro e w' ⟨rfl, rfl⟩) | (go_at_call 43; refine (ivi_lit _ _ H2.out _).mono ?_; rintro e w' ⟨rfl, rfl⟩))
  go_ret
  exact ⟨by rw [HW.out]; rfl, K.out⟩
set_option maxRecDepth 100000 in
set_option maxHeartbeats 1600000 in
theorem icmpe_any (r s : Ed) (w : World) :
    Calls Try.prog 32 #[.agg #[.int .i64 r.r, .int .i64 r.i], .agg #[.int .i64 s.r, .int .i64 s.i]] w fun e w' => e = .returned (.int .i64 (cmpV r.i s.i)) ∧ w' = (w.alloc (.cells #[.int .i64 r.r, .int .i64 r.i] 56)).alloc (.cells #[.int .i64 s.r, .int .i64 s.i] 56) := by
  obtain ⟨k1, k2, k3, k4⟩ := two_boxes w #[.int .i64 r.r, .int .i64 r.i] #[.int .i64 s.r, .int .i64 s.i] 56 56
  obtain ⟨c0, c1⟩ := row_cells k1
  obtain ⟨d0, d1⟩ := row_cells k2
  clear k1 k2 k3 k4
  go_enter Try.func32, Try.ntmps32
  go_wp2_with (go_at_call 45; refine (tcmp_any _ _ _).mono ?_; rintro e w' ⟨rfl, rfl⟩)
  go_ret
  exact ⟨rfl, rfl⟩
set_option maxRecDepth 100000 in
theorem keep4o {w5 w' : World} {b g : Nat} {l m : Od} (h : w5.heap[b]? = some (.cells #[.int .i64 l.r, .int .i64 l.s, .int .i64 l.i, .int .i64 l.l] 50 (0, 0)) ∧ w5.heap[g]? = some (.cells #[.int .i64 m.r, .int .i64 m.s, .int .i64 m.i, .int .i64 m.l] 50 (0, 0))) (hg : Hid (w5.grownBy w' none)) :
    w'.cell? ⟨b, 0, none⟩ = some (.int .i64 l.r) ∧ w'.cell? ⟨b, 1, none⟩ = some (.int .i64 l.s) ∧ w'.cell? ⟨g, 0, none⟩ = some (.int .i64 m.r) ∧ w'.cell? ⟨g, 1, none⟩ = some (.int .i64 m.s) ∧ Hid (w5.grownBy w' none) := by
  obtain ⟨a0, a1, -, -⟩ := row4i (kept_row h.1 hg.out (by simp))
  obtain ⟨b0, b1, -, -⟩ := row4i (kept_row h.2 hg.out (by simp))
  exact ⟨a0, a1, b0, b1, hg⟩
set_option maxRecDepth 100000 in
set_option maxHeartbeats 3200000 in
theorem icmpo_any (l m : Od) (w : World) :
    Calls Try.prog 24 #[.agg #[.int .i64 l.r, .int .i64 l.s, .int .i64 l.i, .int .i64 l.l], .agg #[.int .i64 m.r, .int .i64 m.s, .int .i64 m.i, .int .i64 m.l]] w fun e w' => e = .returned (.int .i64 (cmpO l m)) ∧ w.grownBy w' none := by
  obtain ⟨k1, k2, k3, k4⟩ := two_boxes w #[.int .i64 l.r, .int .i64 l.s, .int .i64 l.i, .int .i64 l.l] #[.int .i64 m.r, .int .i64 m.s, .int .i64 m.i, .int .i64 m.l] 50 50
  have HB := Lib.hid (And.intro k1 k2)
  have K := Lib.hid k3
  clear k1 k2 k3 k4
  go_enter Try.func24, Try.ntmps24
  go_upto_region 1 with fail
  generalize (w.alloc _).alloc _ = wa at *
  have GZ : Hid (wa.grownBy wa none) := Lib.hid (grown_refl _ _)
  obtain ⟨a0, a1, b0, b1, -⟩ := keep4o HB.out GZ
  go_region_held3 (fun w' => w'.cell? ⟨w.heap.size, 0, none⟩ = some (.int .i64 l.r) ∧ w'.cell? ⟨w.heap.size, 1, none⟩ = some (.int .i64 l.s) ∧ w'.cell? ⟨w.heap.size + 1, 0, none⟩ = some (.int .i64 m.r) ∧ w'.cell? ⟨w.heap.size + 1, 1, none⟩ = some (.int .i64 m.s) ∧ Hid (wa.grownBy w' none))
    (first | with_reducible exact keep4o HB.out (hid_drew GZ) | with_reducible exact keep4o HB.out (hid_drew (hid_more GZ (World.grownBy_alloc _ _ _))) | (go_split_ands; with_reducible refine keep4o HB.out ?_; with_reducible assumption) | (go_split_ands; with_reducible refine keep4o HB.out (hid_more ?_ (World.grownBy_alloc _ _ _)); with_reducible assumption))
    (first
      | (go_at_call 45; refine (tcmp_any _ _ _).mono ?_; rintro e w' ⟨rfl, rfl⟩)
      | (go_at_call 44; refine (tor_any [cmpV l.r m.r, cmpV l.s m.s] _ _ (fun _ => True) _ ?_ (by simp)).mono ?_; exact (rd_pair _ _ _ _ trivial).keep (grown_drew (grown_refl _ _)); rintro e w' ⟨rfl, rfl⟩))
  all_goals
    go_split_ands
    go_wp2_with fail
    go_ret
    exact ⟨rfl, grown_trans K.out (Hid.out (by assumption))⟩
end Go.Proofs.Ytlgmankojgjfjaa
