/- packet: a header's value comes back. -/
import Derived.Test.YtnfgkakhdgiepaaDoorPkRd
namespace Go.Proofs.YtnfgkakhdgiepaaDoor
open Go.RowKit Bs
set_option maxRecDepth 100000 in
theorem three_new (w : World) (A B C : Obj) : (((w.alloc A).alloc B).alloc C).heap[w.heap.size]? = some A ∧ (((w.alloc A).alloc B).alloc C).heap[w.heap.size + 1]? = some B ∧ (((w.alloc A).alloc B).alloc C).heap[w.heap.size + 2]? = some C ∧ w.grownBy (((w.alloc A).alloc B).alloc C) none ∧ (((w.alloc A).alloc B).alloc C).heap.size = w.heap.size + 3 := by
  have g1 := World.grownBy_alloc w A none
  have g2 := World.grownBy_alloc (w.alloc A) B none
  have g3 := World.grownBy_alloc ((w.alloc A).alloc B) C none
  have s1 : (w.alloc A).heap.size = w.heap.size + 1 := by simp
  have s2 : ((w.alloc A).alloc B).heap.size = w.heap.size + 2 := by simp
  have h1 := heap_alloc_new w A
  have h2 := heap_alloc_new (w.alloc A) B
  have h3 := heap_alloc_new ((w.alloc A).alloc B) C
  rw [s1] at h2
  rw [s2] at h3
  exact ⟨kept_row (kept_row h1 g2 (by simp)) g3 (by simp), kept_row h2 g3 (by simp), h3, grown_trans g1 (grown_trans g2 g3), by simp⟩
set_option maxRecDepth 100000 in
theorem hput_row {w : World} {h : Nat} (v0 v1 v2 v3 v4 v5 v6 v7 v8 v9 v10 v11 v12 : Value) (hr : w.heap[h]? = some (.cells zcells 101 (0, 0))) :
    (((((((((((((w.setCell ⟨h, 0, none⟩ v0).setCell ⟨h, 1, none⟩ v1).setCell ⟨h, 2, none⟩ v2).setCell ⟨h, 3, none⟩ v3).setCell ⟨h, 4, none⟩ v4).setCell ⟨h, 5, none⟩ v5).setCell ⟨h, 6, none⟩ v6).setCell ⟨h, 7, none⟩ v7).setCell ⟨h, 8, none⟩ v8).setCell ⟨h, 9, none⟩ v9).setCell ⟨h, 10, none⟩ v10).setCell ⟨h, 11, none⟩ v11).setCell ⟨h, 12, none⟩ v12).heap[h]? = some (.cells #[v0, v1, v2, v3, v4, v5, v6, v7, v8, v9, v10, v11, v12] 101 (0, 0)) := by
  have e0 := heap_setCell_same _ h 0 _ _ v0 hr
  generalize w.setCell ⟨h, 0, none⟩ v0 = w0 at *
  replace e0 : w0.heap[h]? = some (.cells #[v0, .int .i64 0, .int .i64 0, .int .i64 0, .int .i64 0, .int .i64 0, .int .i64 0, .int .i64 0, .int .i64 0, .int .u64 0, .string ⟨#[]⟩, .int .i64 0, .int .i64 0] 101 (0, 0)) := e0
  have e1 := heap_setCell_same _ h 1 _ _ v1 e0
  generalize w0.setCell ⟨h, 1, none⟩ v1 = w1 at *
  replace e1 : w1.heap[h]? = some (.cells #[v0, v1, .int .i64 0, .int .i64 0, .int .i64 0, .int .i64 0, .int .i64 0, .int .i64 0, .int .i64 0, .int .u64 0, .string ⟨#[]⟩, .int .i64 0, .int .i64 0] 101 (0, 0)) := e1
  have e2 := heap_setCell_same _ h 2 _ _ v2 e1
  generalize w1.setCell ⟨h, 2, none⟩ v2 = w2 at *
  replace e2 : w2.heap[h]? = some (.cells #[v0, v1, v2, .int .i64 0, .int .i64 0, .int .i64 0, .int .i64 0, .int .i64 0, .int .i64 0, .int .u64 0, .string ⟨#[]⟩, .int .i64 0, .int .i64 0] 101 (0, 0)) := e2
  have e3 := heap_setCell_same _ h 3 _ _ v3 e2
  generalize w2.setCell ⟨h, 3, none⟩ v3 = w3 at *
  replace e3 : w3.heap[h]? = some (.cells #[v0, v1, v2, v3, .int .i64 0, .int .i64 0, .int .i64 0, .int .i64 0, .int .i64 0, .int .u64 0, .string ⟨#[]⟩, .int .i64 0, .int .i64 0] 101 (0, 0)) := e3
  have e4 := heap_setCell_same _ h 4 _ _ v4 e3
  generalize w3.setCell ⟨h, 4, none⟩ v4 = w4 at *
  replace e4 : w4.heap[h]? = some (.cells #[v0, v1, v2, v3, v4, .int .i64 0, .int .i64 0, .int .i64 0, .int .i64 0, .int .u64 0, .string ⟨#[]⟩, .int .i64 0, .int .i64 0] 101 (0, 0)) := e4
  have e5 := heap_setCell_same _ h 5 _ _ v5 e4
  generalize w4.setCell ⟨h, 5, none⟩ v5 = w5 at *
  replace e5 : w5.heap[h]? = some (.cells #[v0, v1, v2, v3, v4, v5, .int .i64 0, .int .i64 0, .int .i64 0, .int .u64 0, .string ⟨#[]⟩, .int .i64 0, .int .i64 0] 101 (0, 0)) := e5
  have e6 := heap_setCell_same _ h 6 _ _ v6 e5
  generalize w5.setCell ⟨h, 6, none⟩ v6 = w6 at *
  replace e6 : w6.heap[h]? = some (.cells #[v0, v1, v2, v3, v4, v5, v6, .int .i64 0, .int .i64 0, .int .u64 0, .string ⟨#[]⟩, .int .i64 0, .int .i64 0] 101 (0, 0)) := e6
  have e7 := heap_setCell_same _ h 7 _ _ v7 e6
  generalize w6.setCell ⟨h, 7, none⟩ v7 = w7 at *
  replace e7 : w7.heap[h]? = some (.cells #[v0, v1, v2, v3, v4, v5, v6, v7, .int .i64 0, .int .u64 0, .string ⟨#[]⟩, .int .i64 0, .int .i64 0] 101 (0, 0)) := e7
  have e8 := heap_setCell_same _ h 8 _ _ v8 e7
  generalize w7.setCell ⟨h, 8, none⟩ v8 = w8 at *
  replace e8 : w8.heap[h]? = some (.cells #[v0, v1, v2, v3, v4, v5, v6, v7, v8, .int .u64 0, .string ⟨#[]⟩, .int .i64 0, .int .i64 0] 101 (0, 0)) := e8
  have e9 := heap_setCell_same _ h 9 _ _ v9 e8
  generalize w8.setCell ⟨h, 9, none⟩ v9 = w9 at *
  replace e9 : w9.heap[h]? = some (.cells #[v0, v1, v2, v3, v4, v5, v6, v7, v8, v9, .string ⟨#[]⟩, .int .i64 0, .int .i64 0] 101 (0, 0)) := e9
  have e10 := heap_setCell_same _ h 10 _ _ v10 e9
  generalize w9.setCell ⟨h, 10, none⟩ v10 = w10 at *
  replace e10 : w10.heap[h]? = some (.cells #[v0, v1, v2, v3, v4, v5, v6, v7, v8, v9, v10, .int .i64 0, .int .i64 0] 101 (0, 0)) := e10
  have e11 := heap_setCell_same _ h 11 _ _ v11 e10
  generalize w10.setCell ⟨h, 11, none⟩ v11 = w11 at *
  replace e11 : w11.heap[h]? = some (.cells #[v0, v1, v2, v3, v4, v5, v6, v7, v8, v9, v10, v11, .int .i64 0] 101 (0, 0)) := e11
  have e12 := heap_setCell_same _ h 12 _ _ v12 e11
  generalize w11.setCell ⟨h, 12, none⟩ v12 = w12 at *
  replace e12 : w12.heap[h]? = some (.cells #[v0, v1, v2, v3, v4, v5, v6, v7, v8, v9, v10, v11, v12] 101 (0, 0)) := e12
  exact e12
set_option maxRecDepth 100000 in
theorem hput_grown (w : World) (h : Nat) (v0 v1 v2 v3 v4 v5 v6 v7 v8 v9 v10 v11 v12 : Value) : w.grownBy (((((((((((((w.setCell ⟨h, 0, none⟩ v0).setCell ⟨h, 1, none⟩ v1).setCell ⟨h, 2, none⟩ v2).setCell ⟨h, 3, none⟩ v3).setCell ⟨h, 4, none⟩ v4).setCell ⟨h, 5, none⟩ v5).setCell ⟨h, 6, none⟩ v6).setCell ⟨h, 7, none⟩ v7).setCell ⟨h, 8, none⟩ v8).setCell ⟨h, 9, none⟩ v9).setCell ⟨h, 10, none⟩ v10).setCell ⟨h, 11, none⟩ v11).setCell ⟨h, 12, none⟩ v12) (some h) := by
  exact grown_trans (grown_trans (grown_trans (grown_trans (grown_trans (grown_trans (grown_trans (grown_trans (grown_trans (grown_trans (grown_trans (grown_trans (grown_setCell _ ⟨h, 0, none⟩ _) (grown_setCell _ ⟨h, 1, none⟩ _)) (grown_setCell _ ⟨h, 2, none⟩ _)) (grown_setCell _ ⟨h, 3, none⟩ _)) (grown_setCell _ ⟨h, 4, none⟩ _)) (grown_setCell _ ⟨h, 5, none⟩ _)) (grown_setCell _ ⟨h, 6, none⟩ _)) (grown_setCell _ ⟨h, 7, none⟩ _)) (grown_setCell _ ⟨h, 8, none⟩ _)) (grown_setCell _ ⟨h, 9, none⟩ _)) (grown_setCell _ ⟨h, 10, none⟩ _)) (grown_setCell _ ⟨h, 11, none⟩ _)) (grown_setCell _ ⟨h, 12, none⟩ _)
set_option maxRecDepth 100000 in
theorem header_size : (Tryd.prog.info? 101).map (·.size) = some 13 := by kernel_rfl
set_option maxRecDepth 100000 in
theorem res_header {fn : Func} {p : Tmp} (h : fn.results = #[.cell p 101]) (tmps : Array Value) (w : World) (g : Nat) (xs : Array Value) (hp : tmps.getD p undef = .pointer (some ⟨g, 0, none⟩)) (hn : xs.size = 13) (hg : w.heap[g]? = some (.cells xs 101 (0, 0))) :
    (results fn tmps).run Tryd.prog w = .ok (.agg xs) w := by
  exact results_cell_row h tmps w g _ _ _ _ hp hg Tryd.underlying101 rfl (by rw [hn]; exact header_size)
set_option maxRecDepth 100000 in
theorem z_cells {w : World} {h : Nat} (hr : w.heap[h]? = some (.cells zcells 101 (0, 0))) :
    w.cell? ⟨h, 0, none⟩ = some (.int .i64 0) ∧ w.cell? ⟨h, 1, none⟩ = some (.int .i64 0) ∧ w.cell? ⟨h, 2, none⟩ = some (.int .i64 0) ∧ w.cell? ⟨h, 3, none⟩ = some (.int .i64 0) ∧ w.cell? ⟨h, 4, none⟩ = some (.int .i64 0) ∧ w.cell? ⟨h, 5, none⟩ = some (.int .i64 0) ∧ w.cell? ⟨h, 6, none⟩ = some (.int .i64 0) ∧ w.cell? ⟨h, 7, none⟩ = some (.int .i64 0) ∧ w.cell? ⟨h, 8, none⟩ = some (.int .i64 0) ∧ w.cell? ⟨h, 9, none⟩ = some (.int .u64 0) ∧ w.cell? ⟨h, 10, none⟩ = some (.string ⟨#[]⟩) ∧ w.cell? ⟨h, 11, none⟩ = some (.int .i64 0) ∧ w.cell? ⟨h, 12, none⟩ = some (.int .i64 0) :=
  ⟨cell_of_row _ _ _ _ _ _ hr, cell_of_row _ _ _ _ _ _ hr, cell_of_row _ _ _ _ _ _ hr, cell_of_row _ _ _ _ _ _ hr, cell_of_row _ _ _ _ _ _ hr, cell_of_row _ _ _ _ _ _ hr, cell_of_row _ _ _ _ _ _ hr, cell_of_row _ _ _ _ _ _ hr, cell_of_row _ _ _ _ _ _ hr, cell_of_row _ _ _ _ _ _ hr, cell_of_row _ _ _ _ _ _ hr, cell_of_row _ _ _ _ _ _ hr, cell_of_row _ _ _ _ _ _ hr⟩
set_option maxRecDepth 100000 in
theorem r_cells {w : World} {h : Nat} {V : Nat → Nat} (hr : w.heap[h]? = some (.cells (hdc V 10 0) 101 (0, 0))) :
    w.cell? ⟨h, 0, none⟩ = some (.int .i64 (V 0 : Int)) ∧ w.cell? ⟨h, 1, none⟩ = some (.int .i64 (V 1 : Int)) ∧ w.cell? ⟨h, 2, none⟩ = some (.int .i64 (V 2 : Int)) ∧ w.cell? ⟨h, 3, none⟩ = some (.int .i64 (V 3 : Int)) ∧ w.cell? ⟨h, 4, none⟩ = some (.int .i64 0) ∧ w.cell? ⟨h, 5, none⟩ = some (.int .i64 (V 5 : Int)) ∧ w.cell? ⟨h, 6, none⟩ = some (.int .i64 (V 6 : Int)) ∧ w.cell? ⟨h, 7, none⟩ = some (.int .i64 (V 7 : Int)) ∧ w.cell? ⟨h, 8, none⟩ = some (.int .i64 (V 8 : Int)) ∧ w.cell? ⟨h, 9, none⟩ = some (.int .u64 0) ∧ w.cell? ⟨h, 10, none⟩ = some (.string ⟨#[]⟩) ∧ w.cell? ⟨h, 11, none⟩ = some (.int .i64 (V 4 : Int)) ∧ w.cell? ⟨h, 12, none⟩ = some (.int .i64 (V 9 : Int)) :=
  ⟨cell_of_row _ _ _ _ _ _ hr, cell_of_row _ _ _ _ _ _ hr, cell_of_row _ _ _ _ _ _ hr, cell_of_row _ _ _ _ _ _ hr, cell_of_row _ _ _ _ _ _ hr, cell_of_row _ _ _ _ _ _ hr, cell_of_row _ _ _ _ _ _ hr, cell_of_row _ _ _ _ _ _ hr, cell_of_row _ _ _ _ _ _ hr, cell_of_row _ _ _ _ _ _ hr, cell_of_row _ _ _ _ _ _ hr, cell_of_row _ _ _ _ _ _ hr, cell_of_row _ _ _ _ _ _ hr⟩
/-- A header's value. -/
def hval (V : Nat → Nat) (n : Int) : Value := .agg (hdc V 10 n)
end Go.Proofs.YtnfgkakhdgiepaaDoor
