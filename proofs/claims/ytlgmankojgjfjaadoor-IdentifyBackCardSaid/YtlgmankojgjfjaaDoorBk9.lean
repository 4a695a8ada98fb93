/- Parts of the proof, packed: IdTpM. -/
import Derived.Test.YtlgmankojgjfjaaDoorBk2
import Derived.Test.YtlgmankojgjfjaaDoorBk7
import Derived.Test.YtlgmankojgjfjaaDoorBk8
/- The tape's plans: the mathematics. -/
namespace Go.Proofs.YtlgmankojgjfjaaDoor
open Go.RowKit Bs
/-- The number of the router at a place. -/
def ridR (R : List Rt) (k : Nat) : Int := (R[k]?.map Rt.id).getD 0
set_option maxRecDepth 100000 in
theorem ridR_at {R : List Rt} {k : Nat} {r : Rt} (h : R[k]? = some r) : ridR R k = r.id := by unfold ridR; rw [h]; rfl
/-- What is known of the edges that were made of the first i places of an order, the last ID being id. -/
structure PlE (R : List Rt) (O : List Nat) (i : Nat) (id : Int) (E : List Ed) : Prop where
  sub : (E.map Ed.r).Sublist ((O.take i).map (ridR R))
  ids : ∀ e ∈ E, 1 ≤ e.i ∧ e.i ≤ id ∧ e.i ≤ 256
  asc : E.Pairwise (fun x y => x.i < y.i)
set_option maxRecDepth 100000 in
theorem PlE.nil (R : List Rt) (O : List Nat) : PlE R O 0 0 [] := ⟨List.nil_sublist _, fun e h => (by cases h), List.Pairwise.nil⟩
set_option maxRecDepth 100000 in
theorem take_map_succ {O : List Nat} {i k : Nat} (hk : O[i]? = some k) (f : Nat → Int) : (O.take (i + 1)).map f = (O.take i).map f ++ [f k] := by
  rw [List.take_add_one, hk, List.map_append]; rfl
set_option maxRecDepth 100000 in
theorem PlE.skip {R : List Rt} {O : List Nat} {i : Nat} {id : Int} {E : List Ed} (h : PlE R O i id E) : PlE R O (i + 1) id E := by
  refine ⟨h.sub.trans ?_, h.ids, h.asc⟩
  exact List.Sublist.map _ (List.take_sublist_take_left (by omega))
set_option maxRecDepth 100000 in
theorem PlE.more {R : List Rt} {O : List Nat} {i : Nat} {id id2 : Int} {E : List Ed} (h : PlE R O i id E) (h2 : id ≤ id2) : PlE R O i id2 E :=
  ⟨h.sub, fun e he => by have := h.ids e he; omega, h.asc⟩
set_option maxRecDepth 100000 in
theorem PlE.add {R : List Rt} {O : List Nat} {i k : Nat} {id id2 r : Int} {E : List Ed} (h : PlE R O i id E) (hk : O[i]? = some k) (hr : ridR R k = r) (h0 : 0 ≤ id) (h1 : id < id2) (h2 : id2 ≤ 256) : PlE R O (i + 1) id2 (E ++ [⟨r, id2⟩]) := by
  refine ⟨?_, fun e he => ?_, ?_⟩
  · rw [List.map_append, take_map_succ hk, hr]
    exact List.Sublist.append h.sub (List.Sublist.refl _)
  · rcases List.mem_append.1 he with he | he
    · have := h.ids e he; omega
    · obtain rfl : e = ⟨r, id2⟩ := by simpa using he
      exact ⟨by show 1 ≤ id2; omega, Int.le_refl _, h2⟩
  · refine List.pairwise_append.2 ⟨h.asc, List.pairwise_singleton _ _, fun x hx y hy => ?_⟩
    obtain rfl : y = ⟨r, id2⟩ := by simpa using hy
    have := h.ids x hx
    show x.i < id2
    omega
set_option maxRecDepth 100000 in
theorem PlE.len {R : List Rt} {O : List Nat} {i : Nat} {id : Int} {E : List Ed} (h : PlE R O i id E) : E.length ≤ i := by
  have := h.sub.length_le
  rw [List.length_map, List.length_map, List.length_take] at this
  omega
set_option maxRecDepth 100000 in
theorem rep_noT {L : List Int} (h : ∀ k x, L[k]? = some x → x ∉ L.take k) : repI L = false := by
  unfold repI
  rw [List.any_eq_false]
  intro k hk
  have hk := List.mem_range.1 hk
  rw [List.getD_eq_getElem?_getD, List.getElem?_eq_getElem hk]
  simpa using h k _ (List.getElem?_eq_getElem hk)
set_option maxRecDepth 100000 in
theorem repI_nodup {L : List Int} (h : L.Nodup) : repI L = false := by
  refine rep_noT fun k x hx hm => ?_
  obtain ⟨hk, e⟩ := List.getElem?_eq_some_iff.1 hx
  obtain ⟨j, hj, hj2⟩ := List.mem_iff_getElem.1 hm
  rw [List.length_take] at hj
  rw [List.getElem_take] at hj2
  have := (List.nodup_iff_pairwise_ne.1 h)
  have h3 := List.pairwise_iff_getElem.1 this j k (by omega) hk (by omega)
  exact h3 (by rw [hj2, e])
set_option maxRecDepth 100000 in
theorem ascR_nodup : ∀ R : List Rt, ascB ltR R = true → R.Pairwise (fun x y => x.id < y.id)
  | [], _ => List.Pairwise.nil
  | [a], _ => List.pairwise_singleton _ _
  | a :: b :: t, h => by
    rw [ascB, Bool.and_eq_true] at h
    have ih := ascR_nodup (b :: t) h.2
    have hab : a.id < b.id := of_decide_eq_true h.1
    refine List.pairwise_cons.2 ⟨fun y hy => ?_, ih⟩
    rcases List.mem_cons.1 hy with rfl | hy
    · exact hab
    · have := (List.pairwise_cons.1 ih).1 y hy; omega
set_option maxRecDepth 100000 in
theorem chk0 {R : List Rt} {L : List Lk} (h : chk R L = 0) : R.length ≤ 24 ∧ R.any wrId = false ∧ ascB ltR R = true := by
  unfold chk at h
  split at h
  · cases h
  · rename_i h1
    split at h
    · cases h
    · rename_i h2
      split at h
      · cases h
      · rename_i h3
        exact ⟨by omega, by simpa using h2, by simpa using h3⟩
set_option maxRecDepth 100000 in
/-- Of a valid topology and an order come valid edges. -/
theorem PlE.valid {R : List Rt} {L : List Lk} {O : List Nat} {i : Nat} {id : Int} {E : List Ed} (h : PlE R O i id E) (hc : chk R L = 0) (hO : Ord O R.length) {s n : Int} (hs : inV s 0 7 = true) (hn : vl n = true) :
    vPl s n E = true ∧ E.length ≤ R.length ∧ ∀ e ∈ E, hasR R e.r = true := by
  obtain ⟨c1, c2, c3⟩ := chk0 hc
  have hmem : ∀ e ∈ E, ∃ r ∈ R, r.id = e.r := fun e he => by
    have h1 := h.sub.subset (List.mem_map.2 ⟨e, he, rfl⟩)
    obtain ⟨k, hk, hke⟩ := List.mem_map.1 h1
    have hk2 := hO.2.2 k (List.mem_of_mem_take hk)
    refine ⟨R[k], List.getElem_mem hk2, ?_⟩
    rw [← hke, ridR_at (List.getElem?_eq_getElem hk2)]
  have hnd : (E.map Ed.r).Nodup := by
    refine List.Nodup.sublist (h.sub.trans (List.Sublist.map _ (List.take_sublist i O))) ?_
    rw [List.Nodup, List.pairwise_map]
    refine List.Pairwise.imp_of_mem (fun {x y} hx hy hne => ?_) hO.2.1
    have hx := hO.2.2 x hx
    have hy := hO.2.2 y hy
    rw [ridR_at (List.getElem?_eq_getElem hx), ridR_at (List.getElem?_eq_getElem hy)]
    have hp := List.pairwise_iff_getElem.1 (ascR_nodup R c3)
    rcases Nat.lt_or_gt_of_ne hne with hlt | hlt
    · have := hp x y hx hy hlt; omega
    · have := hp y x hy hx hlt; omega
  have hlen : E.length ≤ R.length := by
    have h1 := (h.sub.trans (List.Sublist.map _ (List.take_sublist i O))).length_le
    rw [List.length_map, List.length_map, hO.1] at h1
    exact h1
  refine ⟨?_, hlen, fun e he => ?_⟩
  · unfold vPl
    rw [hs, hn, repI_nodup hnd, pair_ascE E h.asc, decide_eq_true (show E.length ≤ 24 by omega)]
    have hw : E.any wrE = false := by
      rw [List.any_eq_false]
      intro e he
      obtain ⟨r, hr, hre⟩ := hmem e he
      have h1 := any_mem c2 hr
      have h2 := h.ids e he
      unfold wrId at h1
      rw [hre] at h1
      unfold wrE inV
      rw [decide_eq_true (show 1 ≤ e.i ∧ e.i ≤ 256 by omega)]
      have h3 : decide (1 ≤ e.r ∧ e.r ≤ 99) = true := by
        cases hh : decide (1 ≤ e.r ∧ e.r ≤ 99)
        · rw [hh] at h1; cases h1
        · rfl
      rw [h3]; simp
    rw [hw]; rfl
  · obtain ⟨r, hr, hre⟩ := hmem e he
    exact List.any_eq_true.2 ⟨r, hr, decide_eq_true hre⟩
end Go.Proofs.YtlgmankojgjfjaaDoor
