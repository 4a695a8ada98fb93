/- Parts of the proof, packed: FwFitM. -/
import Derived.Test.YtpogblengagpaaaDoorDv7
import Derived.Test.YtpogblengagpaaaDoorDv10
import Derived.Test.YtpogblengagpaaaDoorDv5
/- forward: the tables of fit are valid. -/
namespace Go.Proofs.YtpogblengagpaaaDoor
set_option maxRecDepth 100000
open Go.RowKit Bs
def FxN (r : Int) (X : List Int) : Prop := X.Pairwise (· < ·) ∧ X.length ≤ 7 ∧ (∀ z ∈ X, 1 ≤ z ∧ z ≤ 99) ∧ (1 < X.length → r ∉ X)
def FxM (r : Int) (E : List Ed) (M : List Rw) : Prop := M.length = E.length ∧ ∀ (i : Nat) (e : Ed) (x : Rw), E[i]? = some e → M[i]? = some x → x.id = e.i ∧ FxN r x.nx
theorem FxM.nil (r : Int) : FxM r [] [] := ⟨rfl, fun i e x h => by simp at h⟩
theorem FxM.push {r : Int} {E : List Ed} {M : List Rw} {i : Nat} {e : Ed} {x : Rw} (h : FxM r (E.take i) M) (he : E[i]? = some e) (hid : x.id = e.i) (hx : FxN r x.nx) : FxM r (E.take (i + 1)) (M ++ [x]) := by
 have hi := (List.getElem?_eq_some_iff.1 he).1
 have hl : M.length = i := by have := h.1; rw [List.length_take] at this; omega
 refine ⟨by rw [List.length_append, List.length_take, hl]; simp; omega, fun j f y hj hy => ?_⟩
 have hjl : j < i + 1 := by have := (List.getElem?_eq_some_iff.1 hj).1; rw [List.length_take] at this; omega
 rcases Nat.lt_or_ge j i with h1 | h1
 ·rw [List.getElem?_append_left (by omega)] at hy
  refine h.2 j f y ?_ hy
  rw [List.getElem?_take, if_pos h1]
  rw [List.getElem?_take, if_pos hjl] at hj
  exact hj
 ·obtain rfl : j = i := by omega
  rw [List.getElem?_take, if_pos hjl, he] at hj
  obtain rfl := Option.some.inj hj
  rw [List.getElem?_append_right (by omega), hl, Nat.sub_self] at hy
  obtain rfl : x = y := by simpa using hy
  exact ⟨hid, hx⟩
theorem fit_valid {r s n : Int} {E : List Ed} {M : List Rw} (hB : FxM r E M) (hp : vPl s n E = true) (hro2 : 1 ≤ r ∧ r ≤ 99) : ckT r s n M = 0 := by
 have hv := hp
 unfold vPl at hv
 simp only [Bool.and_eq_true, Bool.not_eq_true', decide_eq_true_eq, Bool.or_eq_true] at hv
 obtain ⟨⟨⟨⟨⟨v1, v2⟩, v3⟩, v4⟩, v5⟩, -⟩ := hv
 have hat : ∀ x ∈ M, ∃ e ∈ E, x.id = e.i ∧ FxN r x.nx := fun x hx => by
  obtain ⟨i, hi, rfl⟩ := List.getElem_of_mem hx
  have hi2 : i < E.length := by have := hB.1; omega
  exact ⟨E[i], List.getElem_mem hi2, hB.2 i E[i] M[i] (List.getElem?_eq_getElem hi2) (List.getElem?_eq_getElem hi)⟩
 have hE : ∀ e ∈ E, 1 ≤ e.i ∧ e.i ≤ 256 := fun e he => by
  have := List.any_eq_false.1 v4 e he
  unfold wrE inV at this
  simp only [Bool.not_eq_true, Bool.not_eq_false', Bool.and_eq_true, decide_eq_true_eq] at this
  exact this.2
 have c1 : hdT r s n M = false := by
  unfold hdT
  rw [Bool.not_eq_false']
  simp only [Bool.and_eq_true, Bool.or_eq_true, decide_eq_true_eq]
  refine ⟨⟨by unfold inV; simpa using hro2, v1⟩, ?_⟩
  rcases v2 with v2 | v2
  ·exact Or.inl v2
  ·exact Or.inr ⟨v2.1, by rw [hB.1]; exact v2.2⟩
 have c2 : M.any wrW = false := List.any_eq_false.2 fun x hx => by
  obtain ⟨e, he, h1, h2⟩ := hat x hx
  unfold wrW
  simp only [Bool.not_eq_true, Bool.or_eq_false_iff, Bool.not_eq_false']
  refine ⟨by unfold inV; have := hE e he; rw [h1]; simpa using this, List.any_eq_false.2 fun z hz => ?_⟩
  have := h2.2.2.1 z hz
  unfold inV
  simpa using this
 have c4 : M.any lgW = false := List.any_eq_false.2 fun x hx => by
  obtain ⟨e, he, h1, h2⟩ := hat x hx
  unfold lgW
  have := h2.2.1
  simp only [decide_eq_true_eq]
  omega
 have c5 : ascB ltW M = true := by
  refine asc_ofW M (List.pairwise_iff_getElem.2 fun i j hi hj hij => ?_)
  have hi2 : i < E.length := by have := hB.1; omega
  have hj2 : j < E.length := by have := hB.1; omega
  have h1 := (hB.2 i E[i] M[i] (List.getElem?_eq_getElem hi2) (List.getElem?_eq_getElem hi)).1
  have h2 := (hB.2 j E[j] M[j] (List.getElem?_eq_getElem hj2) (List.getElem?_eq_getElem hj)).1
  have h3 := List.pairwise_iff_getElem.1 (asc_pairT E v5) i j hi2 hj2 hij
  unfold ltW
  simp only [decide_eq_true_eq]
  omega
 have c6 : M.any dsW = false := List.any_eq_false.2 fun x hx => by
  obtain ⟨e, he, -, h2⟩ := hat x hx
  unfold dsW
  have : ascB ltI x.nx = true := asc_ofW x.nx (h2.1.imp (fun h => by unfold ltI; simpa using h))
  rw [this]; decide
 have c7 : M.any (cfW r) = false := List.any_eq_false.2 fun x hx => by
  obtain ⟨e, he, -, h2⟩ := hat x hx
  unfold cfW
  simp only [Bool.and_eq_true, decide_eq_true_eq, List.any_eq_true, not_and, not_exists]
  exact fun h1 z hz h3 => h2.2.2.2 h1 (h3 ▸ hz)
 have c3 : M.length ≤ 256 := by have := hB.1; omega
 unfold ckT
 rw [c1, c2, c4, c5, c6, c7]
 simp; omega
def XK (r : Int) (k : Nat) (X : List Int) : Prop := X.Pairwise (· < ·) ∧ X.length < k ∧ ∀ z ∈ X, 1 ≤ z ∧ z < (k : Int) ∧ z ≠ r
theorem XK.nil (r : Int) : XK r 1 [] := ⟨List.Pairwise.nil, Nat.zero_lt_one, fun z h => by cases h⟩
theorem XK.skip {r : Int} {k : Nat} {X : List Int} (h : XK r k X) : XK r (k + 1) X := ⟨h.1, by have := h.2.1; omega, fun z hz => by have := h.2.2 z hz; omega⟩
theorem XK.push {r : Int} {k : Nat} {X : List Int} (h : XK r k X) (hk : 1 ≤ k) (hr : (k : Int) ≠ r) : XK r (k + 1) (X ++ [(k : Int)]) := by
 refine ⟨List.pairwise_append.2 ⟨h.1, List.pairwise_singleton _ _, fun x hx y hy => ?_⟩, by rw [List.length_append]; have := h.2.1; simp; omega, fun z hz => ?_⟩
 ·rw [List.mem_singleton.1 hy]
  exact (h.2.2 x hx).2.1
 ·rcases List.mem_append.1 hz with hz | hz
  ·have := h.2.2 z hz; omega
  ·rw [List.mem_singleton.1 hz]
   omega
theorem XK.fin {r : Int} {X : List Int} (h : XK r 8 X) : FxN r X := ⟨h.1, by have := h.2.1; omega, fun z hz => by have := h.2.2 z hz; omega, fun _ hm => (h.2.2 r hm).2.2 rfl⟩
theorem fxN_own {r : Int} (h : 1 ≤ r ∧ r ≤ 99) : FxN r [r] := ⟨List.pairwise_singleton _ _, by simp, fun z hz => by rw [List.mem_singleton.1 hz]; exact h, fun h1 => by simp at h1⟩
theorem OwnT.pushT {lo a : Nat} {w0 w w1 : World} {v v' : Value} {M : List Rw} {x : Rw} (h : OwnT lo w0 v M) (hlo : lo ≤ w0.heap.size) (ha : a < lo) (g0 : w0.grownBy w (some a)) (hx : w.ownsRow w0.heap.size 3 1 x.v x.nx.length (x.nx.map tv)) (hown : w1.ownsRow lo 70 2 v' (M ++ [x]).length ((M ++ [x]).flatMap rwC)) (g : w.grownBy w1 v.ownBlock) (hv : v'.ownBlock = v.ownBlock ∨ ∀ b, some b = v'.ownBlock → w.heap.size ≤ b) : OwnT lo w1 v' (M ++ [x]) := by
 have hvl : ∀ b, v.ownBlock = some b → b < w0.heap.size := fun b e => (h.own.lt b e).2
 have hyl : ∀ y ∈ M, ∀ b, y.v.ownBlock = some b → b < w0.heap.size := fun y hy b e => ((h.nx y hy).lt b e).2
 have hxl : ∀ b, x.v.ownBlock = some b → w0.heap.size ≤ b ∧ b < w.heap.size := fun b e => hx.lt b e
 have hv' : ∀ b, v'.ownBlock = some b → (v.ownBlock = some b ∨ w.heap.size ≤ b) := fun b e => by
  rcases hv with hv | hv
  ·exact Or.inl (hv ▸ e)
  ·exact Or.inr (hv b e.symm)
 refine ⟨hown, fun y hy => ?_, fun y hy b hb e => ?_, ?_⟩
 ·rcases List.mem_append.1 hy with hy | hy
  ·exact own_keptV (own_otherL (h.nx y hy) g0 ha) g (h.ap y hy)
  ·rw [List.mem_singleton.1 hy]
   exact (own_keptV hx g (fun b hb e => by have := hxl b hb; have := hvl b e; omega)).mono hlo
 ·have h0 := g0.size
  rcases List.mem_append.1 hy with hy | hy
  ·rcases hv' b e with e | e
   ·exact h.ap y hy b hb e
   ·have := hyl y hy b hb; omega
  ·rw [List.mem_singleton.1 hy] at hb
   have := hxl b hb
   rcases hv' b e with e | e
   ·have := hvl b e; omega
   ·omega
 ·refine List.pairwise_append.2 ⟨h.pw, List.pairwise_singleton _ _, fun y hy z hz b hb e => ?_⟩
  rw [List.mem_singleton.1 hz] at e
  have := hyl y hy b hb
  have := hxl b e
  omega
end Go.Proofs.YtpogblengagpaaaDoor
