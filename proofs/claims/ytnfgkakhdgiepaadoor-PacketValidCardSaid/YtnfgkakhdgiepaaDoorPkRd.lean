/- packet: the header of a packet is read. -/
import Derived.Test.YtnfgkakhdgiepaaDoorPkCalls
import Derived.Deep.CutRange
namespace Go.Proofs.YtnfgkakhdgiepaaDoor
open Go.RowKit Bs
/-- A header's cells behind k fields. -/
def hdc (V : Nat → Nat) (k : Nat) (n : Int) : Array Value := #[.int .i64 ((if 0 < k then V 0 else 0 : Nat) : Int), .int .i64 ((if 1 < k then V 1 else 0 : Nat) : Int), .int .i64 ((if 2 < k then V 2 else 0 : Nat) : Int), .int .i64 ((if 3 < k then V 3 else 0 : Nat) : Int), .int .i64 n, .int .i64 ((if 5 < k then V 5 else 0 : Nat) : Int), .int .i64 ((if 6 < k then V 6 else 0 : Nat) : Int), .int .i64 ((if 7 < k then V 7 else 0 : Nat) : Int), .int .i64 ((if 8 < k then V 8 else 0 : Nat) : Int), .int .u64 0, .string ⟨#[]⟩, .int .i64 ((if 4 < k then V 4 else 0 : Nat) : Int), .int .i64 ((if 9 < k then V 9 else 0 : Nat) : Int)]
def wids : List Nat := [2, 2, 3, 5, 2, 6, 10, 9, 3, 7]
def offs : List Nat := [0, 2, 4, 7, 12, 14, 20, 30, 39, 42, 49]
/-- The number in field k of these bytes. -/
def fv (l : List Nat) (k : Nat) : Nat := num (bt l) (offs.getD k 0) (wids.getD k 0)
set_option maxRecDepth 100000 in
theorem read_at (V : Nat → Nat) (h k : Nat) (hk : k < 10) : ∃ o : Nat, (fcells h)[k * 2]? = some (.pointer (some ⟨h, o, none⟩)) ∧ (fcells h)[k * 2 + 1]? = some (.int .i64 ((wids.getD k 0 : Nat) : Int)) ∧ (hdc V k 0)[o]? = some (.int .i64 0) ∧ (hdc V k 0).setIfInBounds o (.int .i64 ((V k : Nat) : Int)) = hdc V (k + 1) 0 ∧
    offs.getD (k + 1) 0 = offs.getD k 0 + wids.getD k 0 ∧ wids.getD k 0 ≤ 10 ∧ offs.getD k 0 + wids.getD k 0 ≤ 49 := by
  rcases (show k = 0 ∨ k = 1 ∨ k = 2 ∨ k = 3 ∨ k = 4 ∨ k = 5 ∨ k = 6 ∨ k = 7 ∨ k = 8 ∨ k = 9 by omega) with rfl | rfl | rfl | rfl | rfl | rfl | rfl | rfl | rfl | rfl
  · exact ⟨0, rfl, rfl, rfl, rfl, rfl, by decide, by decide⟩
  · exact ⟨1, rfl, rfl, rfl, rfl, rfl, by decide, by decide⟩
  · exact ⟨2, rfl, rfl, rfl, rfl, rfl, by decide, by decide⟩
  · exact ⟨3, rfl, rfl, rfl, rfl, rfl, by decide, by decide⟩
  · exact ⟨11, rfl, rfl, rfl, rfl, rfl, by decide, by decide⟩
  · exact ⟨5, rfl, rfl, rfl, rfl, rfl, by decide, by decide⟩
  · exact ⟨6, rfl, rfl, rfl, rfl, rfl, by decide, by decide⟩
  · exact ⟨7, rfl, rfl, rfl, rfl, rfl, by decide, by decide⟩
  · exact ⟨8, rfl, rfl, rfl, rfl, rfl, by decide, by decide⟩
  · exact ⟨12, rfl, rfl, rfl, rfl, rfl, by decide, by decide⟩
set_option maxRecDepth 100000 in
theorem vs_whole {l : List Nat} (h : 8 * l.length ≤ 8192) : vs l ((8 * l.length : Nat) : Int) = true := vs_iff.2 ⟨h, by omega, fun i h1 h2 => absurd h2 (by omega)⟩
/-- While a header is read. -/
structure RD (W : World) (l : List Nat) (p : Option Addr) (c : Nat) (V : Nat → Nat) (g k : Nat) (w : World) : Prop where
  fb : w.heap[g]? = some (.cells (fcells (W.heap.size + 1)) 124 (0, 0))
  hb : w.heap[W.heap.size + 1]? = some (.cells (hdc V k 0) 101 (0, 0))
  sb : w.heap[W.heap.size + 2]? = some (.cells #[.slice p l.length c, .int .i64 (8 * (l.length : Int))] 91 (0, 0))
  rb : w.heap[W.heap.size]? = some (.cells zcells 101 (0, 0))
  rd : Rd w (· < W.heap.size) (.slice p l.length c) (l.map nv)
  gr : W.grownBy w none
section
variable {W w w1 : World} {l : List Nat} {p : Option Addr} {c : Nat} {V : Nat → Nat} {g k : Nat}
set_option maxRecDepth 100000 in
theorem RD.keep (H : RD W l p c V g k w) (j : w.grownBy w1 none) : RD W l p c V g k w1 :=
  ⟨kept_row H.fb j (by simp), kept_row H.hb j (by simp), kept_row H.sb j (by simp), kept_row H.rb j (by simp), H.rd.keep j, grown_trans H.gr j⟩
set_option maxRecDepth 100000 in
theorem RD.turn (H : RD W l p c V g k w) (hg : W.heap.size + 2 < g) {o : Nat} (ho : (hdc V k 0).setIfInBounds o (.int .i64 ((V k : Nat) : Int)) = hdc V (k + 1) 0) :
    RD W l p c V g (k + 1) (w.setCell ⟨W.heap.size + 1, o, none⟩ (.int .i64 ((V k : Nat) : Int))) := by
  have j := grown_setCell w ⟨W.heap.size + 1, o, none⟩ (.int .i64 ((V k : Nat) : Int))
  refine ⟨kept_row H.fb j (fun e => by have : g = W.heap.size + 1 := Option.some.inj e; omega), ?_, kept_row H.sb j (fun e => by have : W.heap.size + 2 = W.heap.size + 1 := Option.some.inj e; omega), kept_row H.rb j (fun e => by have : W.heap.size = W.heap.size + 1 := Option.some.inj e; omega), H.rd.grown j (fun b hb e => by have : b = W.heap.size + 1 := Option.some.inj e; omega), grown_new H.gr j (by show W.heap.size ≤ W.heap.size + 1; omega)⟩
  rw [← ho]
  exact heap_setCell_same w _ o _ _ _ H.hb
end
end Go.Proofs.YtnfgkakhdgiepaaDoor
