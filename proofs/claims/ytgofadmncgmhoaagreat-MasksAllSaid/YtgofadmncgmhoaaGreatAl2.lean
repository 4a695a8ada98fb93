/- Parts of the proof, packed: ToRow, ToJoin, ToCheck, ToNear, ToHop. -/
import Derived.Test.YtgofadmncgmhoaaGreatAl1
import Derived.Lib.SmallJoins
/- Blocks that a call fills; the array of the routers that are known. -/
namespace Go.Proofs.YtgofadmncgmhoaaGreat
open Go.RowKit Bs
/-- Block g has the cells xs. -/
def TRow (w : World) (g : Nat) (t : TypeId) (xs : List Value) : Prop := w.heap[g]? = some (.cells xs.toArray t (0, 0))
set_option maxRecDepth 100000 in
theorem TRow.set {w : World} {g : Nat} {t : TypeId} {xs : List Value} (h : TRow w g t xs) (j : Nat) (v : Value) : TRow (w.setCell ⟨g, j, none⟩ v) g t (xs.set j v) := by
  have := heap_setCell_same w g j _ _ v h
  rw [List.setIfInBounds_toArray] at this
  exact this
set_option maxRecDepth 100000 in
theorem TRow.cell {w : World} {g : Nat} {t : TypeId} {xs : List Value} (h : TRow w g t xs) {j : Nat} {x : Value} (hj : xs[j]? = some x) : w.cell? ⟨g, j, none⟩ = some x := by
  rw [cell_of_row _ _ _ _ _ _ h]
  simpa using hj
set_option maxRecDepth 100000 in
theorem TRow.frozen {w : World} {g : Nat} {t : TypeId} {xs : List Value} (h : TRow w g t xs) (j : Nat) : w.frozen? ⟨g, j, none⟩ = false := frozen_of_row _ _ _ _ _ h
set_option maxRecDepth 100000 in
theorem TRow.kept {w w' : World} {g : Nat} {t : TypeId} {xs : List Value} {r : Option Nat} (h : TRow w g t xs) (k : w.grownBy w' r) (hr : some g ≠ r) : TRow w' g t xs := kept_row h k hr
set_option maxRecDepth 100000 in
theorem TRow.lt {w : World} {g : Nat} {t : TypeId} {xs : List Value} (h : TRow w g t xs) : g < w.heap.size := by
  unfold TRow at h
  rcases Nat.lt_or_ge g w.heap.size with h1 | h1
  · exact h1
  · rw [Array.getElem?_eq_none h1] at h; cases h
set_option maxRecDepth 100000 in
theorem hasR_range {R : List Rt} {x : Int} (hid : R.any wrId = false) (h : hasR R x = true) : 1 ≤ x ∧ x ≤ 99 := by
  obtain ⟨r, hr, e⟩ := List.any_eq_true.1 h
  rw [decide_eq_true_eq] at e
  subst e
  have := List.any_eq_false.1 hid r hr
  unfold wrId at this
  simpa using this
end Go.Proofs.YtgofadmncgmhoaaGreat

/- topology: joinsUnknown. -/
namespace Go.Proofs.YtgofadmncgmhoaaGreat
open Go.RowKit Bs
end Go.Proofs.YtgofadmncgmhoaaGreat

/- topology: Check, valid. -/
namespace Go.Proofs.YtgofadmncgmhoaaGreat
open Go.RowKit Bs
/-- A topology that came in as a value lies in the call's own box. -/
structure CK (w : World) (T : Tg) (wr : World) : Prop where
  box : wr.heap[w.heap.size]? = some (.cells #[.slice T.pR T.R.length T.cR, .slice T.pL T.L.length T.cL] 45 (0, 0))
  gr : w.grownBy wr none
  ok : TgOk wr (fun _ => True) T
set_option maxRecDepth 100000 in
theorem CK.keep {w wr w' : World} {T : Tg} (h : CK w T wr) (g : wr.grownBy w' none) : CK w T w' := ⟨kept_row h.box g (by simp), grown_trans h.gr g, h.ok.keep g⟩
set_option maxRecDepth 100000 in
theorem CK.start {w : World} {q : Nat → Prop} {T : Tg} (h : TgOk w q T) : CK w T (w.alloc (.cells #[.slice T.pR T.R.length T.cR, .slice T.pL T.L.length T.cL] 45)) :=
  have k := World.grownBy_alloc w (.cells #[.slice T.pR T.R.length T.cR, .slice T.pL T.L.length T.cL] 45) none
  ⟨heap_alloc_new w _, k, (h.mono fun _ _ => trivial).keep k⟩
/-- Is a topology valid? -/
def okT (R : List Rt) (L : List Lk) : Bool := chk R L == 0
end Go.Proofs.YtgofadmncgmhoaaGreat

/- topology: neighbours. -/
namespace Go.Proofs.YtgofadmncgmhoaaGreat
open Go.RowKit Bs
def tv (z : Int) : Value := .int .i64 z
/-- Numbers in a row of the call's own. -/
structure NK (w : World) (v : Value) (l : List Int) (wr : World) : Prop where
  own : wr.ownsRow w.heap.size 3 1 v l.length (l.map tv)
  gr : w.grownBy wr none
set_option maxRecDepth 100000 in
theorem NK.keep {w wr w' : World} {v : Value} {l : List Int} (h : NK w v l wr) (g : wr.grownBy w' none) : NK w v l w' :=
  ⟨h.own.kept g (by cases hv : v.ownBlock <;> simp), grown_trans h.gr g⟩
set_option maxRecDepth 100000 in
theorem NK.more {w wr wy w1 : World} {v v' : Value} {l : List Int} {x : Int} {o : Obj} (h : NK w v l wr) (g : wr.grownBy wy none) (hown' : w1.ownsRow w.heap.size 3 1 v' (l.length + 1) (l.map tv ++ [.int .i64 x])) (hg : (wy.alloc o).grownBy w1 v.ownBlock) :
    NK w v' (l ++ [x]) w1 ∧ (∀ b ob, wr.heap.size ≤ b → wy.heap[b]? = some ob → w1.heap[b]? = some ob) := by
  have hy := h.keep g
  refine ⟨⟨?_, own_step hy.gr hy.own hg⟩, fun b ob hb he => ?_⟩
  · rw [List.length_append, List.map_append]; exact hown'
  · have k0 := World.grownBy_alloc wy o none
    refine kept_row (kept_row he k0 (by simp)) hg (fun e => ?_)
    have := (h.own.lt b e.symm).2
    omega
/-- What returns a list that can be read. -/
def TRet (l : List Int) (w : World) (e : Ending) (w' : World) : Prop := ∃ p c, e = .returned (.slice p l.length c) ∧ Rd w' (w.heap.size ≤ ·) (.slice p l.length c) (l.map tv) ∧ (l.length ≤ c ∧ c ≤ 9223372036854775807) ∧ (p = none → c = 0) ∧ w.grownBy w' none
set_option maxRecDepth 100000 in
theorem NK.ret {w wr : World} {v : Value} {l : List Int} (h : NK w v l wr) : ∃ p c, v = .slice p l.length c ∧ Rd wr (w.heap.size ≤ ·) (.slice p l.length c) (l.map tv) ∧ (l.length ≤ c ∧ c ≤ 9223372036854775807) ∧ (p = none → c = 0) ∧ w.grownBy wr none := by
  have hr := rd_of_own h.own
  rcases Joins.ownsRow_forms h.own with ⟨e, e0⟩ | ⟨g, cap, e⟩
  · subst e
    obtain rfl := List.eq_nil_of_length_eq_zero e0
    exact ⟨none, 0, rfl, hr, ⟨Nat.le_refl _, by omega⟩, fun _ => rfl, h.gr⟩
  · subst e
    have := own_cap h.own
    unfold maxLen at this
    exact ⟨_, cap, rfl, hr, ⟨this.1, by omega⟩, (fun e => by cases e), h.gr⟩
end Go.Proofs.YtgofadmncgmhoaaGreat

/- topology: Contains of numbers and of hops; the closures of Without. -/
namespace Go.Proofs.YtgofadmncgmhoaaGreat
open Go.RowKit Bs
structure Hp where
  f : Int
  t : Int
def hasI (X : List Int) (x : Int) : Bool := X.any fun y => decide (y = x)
end Go.Proofs.YtgofadmncgmhoaaGreat
