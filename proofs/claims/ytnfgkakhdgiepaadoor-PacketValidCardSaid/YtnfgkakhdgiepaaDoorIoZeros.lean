/- The program's zeros; copy into a row of the call's own. -/
import Derived.Test.YtnfgkakhdgiepaaDoorIoPut
import Derived.Deep.OwnRows
namespace Go.Proofs.YtnfgkakhdgiepaaDoor
open Go.RowKit Bs
set_option maxRecDepth 100000 in
theorem made_zero (N : Nat) : madeCells #[Value.int .u8 0] N = ((List.replicate N 0).map nv).toArray := by
  unfold madeCells
  apply Array.ext'
  rw [Array.toList_map, Array.toList_range, List.map_replicate]
  apply List.ext_getElem?
  intro i
  rw [List.getElem?_map, List.getElem?_replicate]
  by_cases h : i < N
  · rw [List.getElem?_range h, if_pos h]
    simp [nv, Nat.mod_one]
  · rw [List.getElem?_eq_none (by simpa using h), if_neg h]; rfl
/-- A stream of zero bits: its block is new. -/
def ZerosPost (n : Nat) (w : World) (e : Ending) (w' : World) : Prop :=
  ∃ g, e = .returned (.agg #[.slice (some ⟨g, 0, none⟩) ((n + 7) / 8) ((n + 7) / 8), .int .i64 (n : Int)]) ∧ w.heap.size ≤ g ∧ Blk w' g (List.replicate ((n + 7) / 8) 0) ∧ w.grownBy w' none
set_option maxRecDepth 100000 in
/-- make of bytes, as a law for the walk: the block a letter. -/
theorem wpList_make_bytes (w : World) {ops : Array Oper} {rest : List Oper} {o : Oper} {a : Act} {Q : Exit → Act → World → Prop} (hg : o.guard = none) (l c : Operand) (hop : o.op = Op.makeSlice 34 l c) (M : Nat)
    (hl : a.eval l = .int .i64 (M : Int)) (hc : a.eval c = .int .i64 (M : Int)) (hM : M ≤ 100000)
    (hK : ∀ g w', w.heap.size ≤ g → Blk w' g (List.replicate M 0) → w.grownBy w' none → wpList Tryd.prog ops Q rest (a.put o.dst (.slice (some ⟨g, 0, none⟩) M M)) w') : wpList Tryd.prog ops Q (o :: rest) a w := by
  obtain ⟨i0, hi, hz0, hz1, hz2⟩ := info_parts info_u8
  refine wpList_make_row w hg l c 34 hop 5 i0 (.int .u8 0) Tryd.underlying34 hi hz0 hz1 rfl .i64 .i64 M hl hc (by rw [hz2]; omega) (by omega) ?_
  refine hK w.heap.size _ (Nat.le_refl _) ?_ (World.grownBy_alloc w _ _)
  refine (heap_alloc_new w _).trans ?_
  rw [made_zero]
set_option maxRecDepth 100000 in
theorem zeros_fin {w w3 : World} {n M g : Nat} (hrow : w3.heap[w.heap.size]? = some (.cells #[.slice none 0 0, .int .i64 0] 91 (0, 0))) (hg : w.heap.size + 1 ≤ g) (hB : Blk w3 g (List.replicate M 0)) (hgr : w.grownBy w3 none) (hM : M = (n + 7) / 8) :
    (((w3.setCell ⟨w.heap.size, 0, none⟩ (.slice (some ⟨g, 0, none⟩) M M)).setCell ⟨w.heap.size, 1, none⟩ (.int .i64 (n : Int)))).heap[w.heap.size]? = some (.cells #[.slice (some ⟨g, 0, none⟩) M M, .int .i64 (n : Int)] 91 (0, 0)) ∧
      ZerosPost n w (.returned (.agg #[.slice (some ⟨g, 0, none⟩) M M, .int .i64 (n : Int)])) ((w3.setCell ⟨w.heap.size, 0, none⟩ (.slice (some ⟨g, 0, none⟩) M M)).setCell ⟨w.heap.size, 1, none⟩ (.int .i64 (n : Int))) := by
  subst hM
  have gr := grown_store2 w3 w.heap.size (.slice (some ⟨g, 0, none⟩) ((n + 7) / 8) ((n + 7) / 8)) (.int .i64 (n : Int))
  exact ⟨store2 hrow, g, rfl, by omega, hB.grown gr (by intro e; have := Option.some.inj e; omega), grown_new hgr gr (Nat.le_refl _)⟩
set_option maxRecDepth 100000 in
set_option maxHeartbeats 800000 in
theorem zeros_any (n : Nat) (hn : n ≤ 20000) (w : World) :
    Calls Tryd.prog 112 #[.int .i64 (n : Int)] w fun e w' => ZerosPost n w e w' := by
  obtain ⟨M, hM⟩ : ∃ M : Nat, M = (n + 7) / 8 := ⟨_, rfl⟩
  have hB := fun w => bytesFor_any n (by omega) w
  rw [← hM] at hB
  have HM := Lib.hid hM
  have hM9 : M ≤ 20000 := by omega
  clear hM
  go_enter Tryd.func112, Tryd.ntmps112
  go_wp2_with fail
  generalize hw2 : w.alloc (.cells #[.slice none 0 0, .int .i64 0] 91) = w2
  have hs : w2.heap.size = w.heap.size + 1 := by rw [← hw2]; simp
  have hrow : Hid (w2.heap[w.heap.size]? = some (.cells #[.slice none 0 0, .int .i64 0] 91 (0, 0))) := Lib.hid (by rw [← hw2]; exact heap_alloc_new w _)
  have hgw : Hid (w.grownBy w2 none) := Lib.hid (by rw [← hw2]; exact World.grownBy_alloc w _ _)
  have HS := Lib.hid hs
  clear hw2 hs
  go_wp2_with (first
    | (go_at_call 115; refine (hB _).mono ?_; rintro e w' ⟨rfl, rfl⟩)
    | (at_make; refine wpList_make_bytes _ rfl _ _ rfl M rfl rfl (by omega) ?_; intro g w3 hge hB3 hg3; have hrow3 := kept_row hrow.out hg3 (by simp); obtain ⟨r0, r1⟩ := row_cells hrow3; have g0 := frozen_of_row _ _ 0 _ _ hrow3; have g1 := frozen_of_row _ _ 1 _ _ hrow3; have HB := Lib.hid (zeros_fin (n := n) hrow3 (by rw [← HS.out]; exact hge) hB3 (grown_trans hgw.out hg3) HM.out); clear hrow3 hB3 hg3))
  refine bodyPost_ret (res_stream rfl _ _ w.heap.size _ _ rfl HB.out.1) rfl ?_
  exact HB.out.2
end Go.Proofs.YtnfgkakhdgiepaaDoor
