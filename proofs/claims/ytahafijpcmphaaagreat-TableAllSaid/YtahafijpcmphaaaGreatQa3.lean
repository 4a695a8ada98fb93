/- Parts of the proof, packed: ToNear, ToHop. -/
import Derived.Test.YtahafijpcmphaaaGreatQa2
import Derived.Lib.SmallJoins
/- topology: neighbours. -/
namespace Go.Proofs.YtahafijpcmphaaaGreat
open Go.RowKit Bs
def tv (z : Int) : Value := .int .i64 z
def nb1 (x : Int) (l : Lk) : List Int := (if l.b = x then [l.a] else []) ++ (if l.a = x then [l.b] else [])
/-- The other ends of a router's links. -/
def nbL (L : List Lk) (x : Int) : List Int := L.flatMap (nb1 x)
/-- Numbers in a row of the call's own. -/
structure NK (w : World) (v : Value) (l : List Int) (wr : World) : Prop where
  own : wr.ownsRow w.heap.size 3 1 v l.length (l.map tv)
  gr : w.grownBy wr none
set_option maxRecDepth 100000 in
theorem NK.keep {w wr w' : World} {v : Value} {l : List Int} (h : NK w v l wr) (g : wr.grownBy w' none) : NK w v l w' :=
  ⟨h.own.kept g (by cases hv : v.ownBlock <;> simp), grown_trans h.gr g⟩
set_option maxRecDepth 100000 in
theorem NK.more {w wr wy w1 : World} {v v' : Value} {l : List Int} {x : Int} {o : Obj} (h : NK w v l wr) (g : wr.grownBy wy none) (hown' : w1.ownsRow w.heap.size 3 1 v' (l.length + 1) (l.map tv ++ [.int .i64 x])) (hg : (wy.alloc o).grownBy w1 v.ownBlock) :
    NK w v' (l ++ [x]) w1 ∧ (∀ b ob, wr.heap.size ≤ b → wy.heap[b]? = some ob → w1.heap[b]? = some ob) := by
  have hy := h.keep g
  refine ⟨⟨?_, own_step hy.gr hy.own hg⟩, fun b ob hb he => ?_⟩
  · rw [List.length_append, List.map_append]; exact hown'
  · have k0 := World.grownBy_alloc wy o none
    refine kept_row (kept_row he k0 (by simp)) hg (fun e => ?_)
    have := (h.own.lt b e.symm).2
    omega
/-- What returns a list that can be read. -/
def TRet (l : List Int) (w : World) (e : Ending) (w' : World) : Prop := ∃ p c, e = .returned (.slice p l.length c) ∧ Rd w' (w.heap.size ≤ ·) (.slice p l.length c) (l.map tv) ∧ (l.length ≤ c ∧ c ≤ 9223372036854775807) ∧ (p = none → c = 0) ∧ w.grownBy w' none
set_option maxRecDepth 100000 in
theorem NK.ret {w wr : World} {v : Value} {l : List Int} (h : NK w v l wr) : ∃ p c, v = .slice p l.length c ∧ Rd wr (w.heap.size ≤ ·) (.slice p l.length c) (l.map tv) ∧ (l.length ≤ c ∧ c ≤ 9223372036854775807) ∧ (p = none → c = 0) ∧ w.grownBy wr none := by
  have hr := rd_of_own h.own
  rcases Joins.ownsRow_forms h.own with ⟨e, e0⟩ | ⟨g, cap, e⟩
  · subst e
    obtain rfl := List.eq_nil_of_length_eq_zero e0
    exact ⟨none, 0, rfl, hr, ⟨Nat.le_refl _, by omega⟩, fun _ => rfl, h.gr⟩
  · subst e
    have := own_cap h.own
    unfold maxLen at this
    exact ⟨_, cap, rfl, hr, ⟨this.1, by omega⟩, (fun e => by cases e), h.gr⟩
end Go.Proofs.YtahafijpcmphaaaGreat

/- topology: Contains of numbers and of hops; the closures of Without. -/
namespace Go.Proofs.YtahafijpcmphaaaGreat
open Go.RowKit Bs
structure Hp where
  f : Int
  t : Int
def hasI (X : List Int) (x : Int) : Bool := X.any fun y => decide (y = x)
end Go.Proofs.YtahafijpcmphaaaGreat
