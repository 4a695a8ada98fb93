/- Parts of the proof, packed: PkRes, PkRead, PkValid, PkMis, PkBox, Ref, Draw, IoRows, PkTape. -/
import Derived.Test.YtnfgkakhdgiepaaDoorEn5
import Derived.Deep.CutRange
import Derived.Test.YtnfgkakhdgiepaaDoorEn4
import Derived.Test.YtnfgkakhdgiepaaDoorEn3
import Derived.Test.YtnfgkakhdgiepaaDoorEn1
import Derived.Test.YtnfgkakhdgiepaaDoorEn2
/- packet: a header's value comes back. -/
namespace Go.Proofs.YtnfgkakhdgiepaaDoor
open Go.RowKit Bs
set_option maxRecDepth 100000 in
theorem three_new (w : World) (A B C : Obj) : (((w.alloc A).alloc B).alloc C).heap[w.heap.size]? = some A ∧ (((w.alloc A).alloc B).alloc C).heap[w.heap.size + 1]? = some B ∧ (((w.alloc A).alloc B).alloc C).heap[w.heap.size + 2]? = some C ∧ w.grownBy (((w.alloc A).alloc B).alloc C) none ∧ (((w.alloc A).alloc B).alloc C).heap.size = w.heap.size + 3 := by
  have g1 := World.grownBy_alloc w A none
  have g2 := World.grownBy_alloc (w.alloc A) B none
  have g3 := World.grownBy_alloc ((w.alloc A).alloc B) C none
  have s1 : (w.alloc A).heap.size = w.heap.size + 1 := by simp
  have s2 : ((w.alloc A).alloc B).heap.size = w.heap.size + 2 := by simp
  have h1 := heap_alloc_new w A
  have h2 := heap_alloc_new (w.alloc A) B
  have h3 := heap_alloc_new ((w.alloc A).alloc B) C
  rw [s1] at h2
  rw [s2] at h3
  exact ⟨kept_row (kept_row h1 g2 (by simp)) g3 (by simp), kept_row h2 g3 (by simp), h3, grown_trans g1 (grown_trans g2 g3), by simp⟩
set_option maxRecDepth 100000 in
theorem hput_row {w : World} {h : Nat} (v0 v1 v2 v3 v4 v5 v6 v7 v8 v9 v10 v11 v12 : Value) (hr : w.heap[h]? = some (.cells zcells 101 (0, 0))) :
    (((((((((((((w.setCell ⟨h, 0, none⟩ v0).setCell ⟨h, 1, none⟩ v1).setCell ⟨h, 2, none⟩ v2).setCell ⟨h, 3, none⟩ v3).setCell ⟨h, 4, none⟩ v4).setCell ⟨h, 5, none⟩ v5).setCell ⟨h, 6, none⟩ v6).setCell ⟨h, 7, none⟩ v7).setCell ⟨h, 8, none⟩ v8).setCell ⟨h, 9, none⟩ v9).setCell ⟨h, 10, none⟩ v10).setCell ⟨h, 11, none⟩ v11).setCell ⟨h, 12, none⟩ v12).heap[h]? = some (.cells #[v0, v1, v2, v3, v4, v5, v6, v7, v8, v9, v10, v11, v12] 101 (0, 0)) := by
  have e0 := heap_setCell_same _ h 0 _ _ v0 hr
  generalize w.setCell ⟨h, 0, none⟩ v0 = w0 at *
  replace e0 : w0.heap[h]? = some (.cells #[v0, .int .i64 0, .int .i64 0, .int .i64 0, .int .i64 0, .int .i64 0, .int .i64 0, .int .i64 0, .int .i64 0, .int .u64 0, .string ⟨#[]⟩, .int .i64 0, .int .i64 0] 101 (0, 0)) := e0
  have e1 := heap_setCell_same _ h 1 _ _ v1 e0
  generalize w0.setCell ⟨h, 1, none⟩ v1 = w1 at *
  replace e1 : w1.heap[h]? = some (.cells #[v0, v1, .int .i64 0, .int .i64 0, .int .i64 0, .int .i64 0, .int .i64 0, .int .i64 0, .int .i64 0, .int .u64 0, .string ⟨#[]⟩, .int .i64 0, .int .i64 0] 101 (0, 0)) := e1
  have e2 := heap_setCell_same _ h 2 _ _ v2 e1
  generalize w1.setCell ⟨h, 2, none⟩ v2 = w2 at *
  replace e2 : w2.heap[h]? = some (.cells #[v0, v1, v2, .int .i64 0, .int .i64 0, .int .i64 0, .int .i64 0, .int .i64 0, .int .i64 0, .int .u64 0, .string ⟨#[]⟩, .int .i64 0, .int .i64 0] 101 (0, 0)) := e2
  have e3 := heap_setCell_same _ h 3 _ _ v3 e2
  generalize w2.setCell ⟨h, 3, none⟩ v3 = w3 at *
  replace e3 : w3.heap[h]? = some (.cells #[v0, v1, v2, v3, .int .i64 0, .int .i64 0, .int .i64 0, .int .i64 0, .int .i64 0, .int .u64 0, .string ⟨#[]⟩, .int .i64 0, .int .i64 0] 101 (0, 0)) := e3
  have e4 := heap_setCell_same _ h 4 _ _ v4 e3
  generalize w3.setCell ⟨h, 4, none⟩ v4 = w4 at *
  replace e4 : w4.heap[h]? = some (.cells #[v0, v1, v2, v3, v4, .int .i64 0, .int .i64 0, .int .i64 0, .int .i64 0, .int .u64 0, .string ⟨#[]⟩, .int .i64 0, .int .i64 0] 101 (0, 0)) := e4
  have e5 := heap_setCell_same _ h 5 _ _ v5 e4
  generalize w4.setCell ⟨h, 5, none⟩ v5 = w5 at *
  replace e5 : w5.heap[h]? = some (.cells #[v0, v1, v2, v3, v4, v5, .int .i64 0, .int .i64 0, .int .i64 0, .int .u64 0, .string ⟨#[]⟩, .int .i64 0, .int .i64 0] 101 (0, 0)) := e5
  have e6 := heap_setCell_same _ h 6 _ _ v6 e5
  generalize w5.setCell ⟨h, 6, none⟩ v6 = w6 at *
  replace e6 : w6.heap[h]? = some (.cells #[v0, v1, v2, v3, v4, v5, v6, .int .i64 0, .int .i64 0, .int .u64 0, .string ⟨#[]⟩, .int .i64 0, .int .i64 0] 101 (0, 0)) := e6
  have e7 := heap_setCell_same _ h 7 _ _ v7 e6
  generalize w6.setCell ⟨h, 7, none⟩ v7 = w7 at *
  replace e7 : w7.heap[h]? = some (.cells #[v0, v1, v2, v3, v4, v5, v6, v7, .int .i64 0, .int .u64 0, .string ⟨#[]⟩, .int .i64 0, .int .i64 0] 101 (0, 0)) := e7
  have e8 := heap_setCell_same _ h 8 _ _ v8 e7
  generalize w7.setCell ⟨h, 8, none⟩ v8 = w8 at *
  replace e8 : w8.heap[h]? = some (.cells #[v0, v1, v2, v3, v4, v5, v6, v7, v8, .int .u64 0, .string ⟨#[]⟩, .int .i64 0, .int .i64 0] 101 (0, 0)) := e8
  have e9 := heap_setCell_same _ h 9 _ _ v9 e8
  generalize w8.setCell ⟨h, 9, none⟩ v9 = w9 at *
  replace e9 : w9.heap[h]? = some (.cells #[v0, v1, v2, v3, v4, v5, v6, v7, v8, v9, .string ⟨#[]⟩, .int .i64 0, .int .i64 0] 101 (0, 0)) := e9
  have e10 := heap_setCell_same _ h 10 _ _ v10 e9
  generalize w9.setCell ⟨h, 10, none⟩ v10 = w10 at *
  replace e10 : w10.heap[h]? = some (.cells #[v0, v1, v2, v3, v4, v5, v6, v7, v8, v9, v10, .int .i64 0, .int .i64 0] 101 (0, 0)) := e10
  have e11 := heap_setCell_same _ h 11 _ _ v11 e10
  generalize w10.setCell ⟨h, 11, none⟩ v11 = w11 at *
  replace e11 : w11.heap[h]? = some (.cells #[v0, v1, v2, v3, v4, v5, v6, v7, v8, v9, v10, v11, .int .i64 0] 101 (0, 0)) := e11
  have e12 := heap_setCell_same _ h 12 _ _ v12 e11
  generalize w11.setCell ⟨h, 12, none⟩ v12 = w12 at *
  replace e12 : w12.heap[h]? = some (.cells #[v0, v1, v2, v3, v4, v5, v6, v7, v8, v9, v10, v11, v12] 101 (0, 0)) := e12
  exact e12
set_option maxRecDepth 100000 in
theorem hput_grown (w : World) (h : Nat) (v0 v1 v2 v3 v4 v5 v6 v7 v8 v9 v10 v11 v12 : Value) : w.grownBy (((((((((((((w.setCell ⟨h, 0, none⟩ v0).setCell ⟨h, 1, none⟩ v1).setCell ⟨h, 2, none⟩ v2).setCell ⟨h, 3, none⟩ v3).setCell ⟨h, 4, none⟩ v4).setCell ⟨h, 5, none⟩ v5).setCell ⟨h, 6, none⟩ v6).setCell ⟨h, 7, none⟩ v7).setCell ⟨h, 8, none⟩ v8).setCell ⟨h, 9, none⟩ v9).setCell ⟨h, 10, none⟩ v10).setCell ⟨h, 11, none⟩ v11).setCell ⟨h, 12, none⟩ v12) (some h) := by
  exact grown_trans (grown_trans (grown_trans (grown_trans (grown_trans (grown_trans (grown_trans (grown_trans (grown_trans (grown_trans (grown_trans (grown_trans (grown_setCell _ ⟨h, 0, none⟩ _) (grown_setCell _ ⟨h, 1, none⟩ _)) (grown_setCell _ ⟨h, 2, none⟩ _)) (grown_setCell _ ⟨h, 3, none⟩ _)) (grown_setCell _ ⟨h, 4, none⟩ _)) (grown_setCell _ ⟨h, 5, none⟩ _)) (grown_setCell _ ⟨h, 6, none⟩ _)) (grown_setCell _ ⟨h, 7, none⟩ _)) (grown_setCell _ ⟨h, 8, none⟩ _)) (grown_setCell _ ⟨h, 9, none⟩ _)) (grown_setCell _ ⟨h, 10, none⟩ _)) (grown_setCell _ ⟨h, 11, none⟩ _)) (grown_setCell _ ⟨h, 12, none⟩ _)
set_option maxRecDepth 100000 in
theorem header_size : (Tryd.prog.info? 101).map (·.size) = some 13 := by kernel_rfl
set_option maxRecDepth 100000 in
theorem res_header {fn : Func} {p : Tmp} (h : fn.results = #[.cell p 101]) (tmps : Array Value) (w : World) (g : Nat) (xs : Array Value) (hp : tmps.getD p undef = .pointer (some ⟨g, 0, none⟩)) (hn : xs.size = 13) (hg : w.heap[g]? = some (.cells xs 101 (0, 0))) :
    (results fn tmps).run Tryd.prog w = .ok (.agg xs) w := by
  exact results_cell_row h tmps w g _ _ _ _ hp hg Tryd.underlying101 rfl (by rw [hn]; exact header_size)
set_option maxRecDepth 100000 in
theorem z_cells {w : World} {h : Nat} (hr : w.heap[h]? = some (.cells zcells 101 (0, 0))) :
    w.cell? ⟨h, 0, none⟩ = some (.int .i64 0) ∧ w.cell? ⟨h, 1, none⟩ = some (.int .i64 0) ∧ w.cell? ⟨h, 2, none⟩ = some (.int .i64 0) ∧ w.cell? ⟨h, 3, none⟩ = some (.int .i64 0) ∧ w.cell? ⟨h, 4, none⟩ = some (.int .i64 0) ∧ w.cell? ⟨h, 5, none⟩ = some (.int .i64 0) ∧ w.cell? ⟨h, 6, none⟩ = some (.int .i64 0) ∧ w.cell? ⟨h, 7, none⟩ = some (.int .i64 0) ∧ w.cell? ⟨h, 8, none⟩ = some (.int .i64 0) ∧ w.cell? ⟨h, 9, none⟩ = some (.int .u64 0) ∧ w.cell? ⟨h, 10, none⟩ = some (.string ⟨#[]⟩) ∧ w.cell? ⟨h, 11, none⟩ = some (.int .i64 0) ∧ w.cell? ⟨h, 12, none⟩ = some (.int .i64 0) :=
  ⟨cell_of_row _ _ _ _ _ _ hr, cell_of_row _ _ _ _ _ _ hr, cell_of_row _ _ _ _ _ _ hr, cell_of_row _ _ _ _ _ _ hr, cell_of_row _ _ _ _ _ _ hr, cell_of_row _ _ _ _ _ _ hr, cell_of_row _ _ _ _ _ _ hr, cell_of_row _ _ _ _ _ _ hr, cell_of_row _ _ _ _ _ _ hr, cell_of_row _ _ _ _ _ _ hr, cell_of_row _ _ _ _ _ _ hr, cell_of_row _ _ _ _ _ _ hr, cell_of_row _ _ _ _ _ _ hr⟩
set_option maxRecDepth 100000 in
theorem r_cells {w : World} {h : Nat} {V : Nat → Nat} (hr : w.heap[h]? = some (.cells (hdc V 10 0) 101 (0, 0))) :
    w.cell? ⟨h, 0, none⟩ = some (.int .i64 (V 0 : Int)) ∧ w.cell? ⟨h, 1, none⟩ = some (.int .i64 (V 1 : Int)) ∧ w.cell? ⟨h, 2, none⟩ = some (.int .i64 (V 2 : Int)) ∧ w.cell? ⟨h, 3, none⟩ = some (.int .i64 (V 3 : Int)) ∧ w.cell? ⟨h, 4, none⟩ = some (.int .i64 0) ∧ w.cell? ⟨h, 5, none⟩ = some (.int .i64 (V 5 : Int)) ∧ w.cell? ⟨h, 6, none⟩ = some (.int .i64 (V 6 : Int)) ∧ w.cell? ⟨h, 7, none⟩ = some (.int .i64 (V 7 : Int)) ∧ w.cell? ⟨h, 8, none⟩ = some (.int .i64 (V 8 : Int)) ∧ w.cell? ⟨h, 9, none⟩ = some (.int .u64 0) ∧ w.cell? ⟨h, 10, none⟩ = some (.string ⟨#[]⟩) ∧ w.cell? ⟨h, 11, none⟩ = some (.int .i64 (V 4 : Int)) ∧ w.cell? ⟨h, 12, none⟩ = some (.int .i64 (V 9 : Int)) :=
  ⟨cell_of_row _ _ _ _ _ _ hr, cell_of_row _ _ _ _ _ _ hr, cell_of_row _ _ _ _ _ _ hr, cell_of_row _ _ _ _ _ _ hr, cell_of_row _ _ _ _ _ _ hr, cell_of_row _ _ _ _ _ _ hr, cell_of_row _ _ _ _ _ _ hr, cell_of_row _ _ _ _ _ _ hr, cell_of_row _ _ _ _ _ _ hr, cell_of_row _ _ _ _ _ _ hr, cell_of_row _ _ _ _ _ _ hr, cell_of_row _ _ _ _ _ _ hr, cell_of_row _ _ _ _ _ _ hr⟩
/-- A header's value. -/
def hval (V : Nat → Nat) (n : Int) : Value := .agg (hdc V 10 n)
end Go.Proofs.YtnfgkakhdgiepaaDoor

/- packet: the header of a packet is read. -/
namespace Go.Proofs.YtnfgkakhdgiepaaDoor
open Go.RowKit Bs
set_option maxRecDepth 100000 in
set_option maxHeartbeats 3200000 in
theorem readHeader_any (l : List Nat) (hl : By l) (h7 : 7 ≤ l.length ∧ l.length ≤ 1000) (q : Nat → Prop) (p : Option Addr) (c : Nat) (w : World) (hR : Rd w q (.slice p l.length c) (l.map nv)) :
    Calls Tryd.prog 81 #[.slice p l.length c] w fun e w' => e = .returned (hval (fv l) (8 * 2 ^ fv l 4)) ∧ w.grownBy w' none := by
  obtain ⟨h71, h72⟩ := h7
  obtain ⟨k1, k2, k3, k4, k5⟩ := three_new w (.cells #[.int .i64 0, .int .i64 0, .int .i64 0, .int .i64 0, .int .i64 0, .int .i64 0, .int .i64 0, .int .i64 0, .int .i64 0, .int .u64 0, .string ⟨#[]⟩, .int .i64 0, .int .i64 0] 101) (.cells #[.int .i64 0, .int .i64 0, .int .i64 0, .int .i64 0, .int .i64 0, .int .i64 0, .int .i64 0, .int .i64 0, .int .i64 0, .int .u64 0, .string ⟨#[]⟩, .int .i64 0, .int .i64 0] 101) (.cells #[.slice p l.length c, .int .i64 (8 * (l.length : Int))] 91)
  have HA := Lib.hid (And.intro k1 (And.intro k2 (And.intro k3 (And.intro k4 k5))))
  have HR := Lib.hid (hR.bound.keep k4)
  clear k1 k2 k3 k4 k5 hR
  go_enter Tryd.func81, Tryd.ntmps81
  go_wp2_with fail
  generalize ((w.alloc (.cells #[.int .i64 0, .int .i64 0, .int .i64 0, .int .i64 0, .int .i64 0, .int .i64 0, .int .i64 0, .int .i64 0, .int .i64 0, .int .u64 0, .string ⟨#[]⟩, .int .i64 0, .int .i64 0] 101)).alloc (.cells #[.int .i64 0, .int .i64 0, .int .i64 0, .int .i64 0, .int .i64 0, .int .i64 0, .int .i64 0, .int .i64 0, .int .i64 0, .int .u64 0, .string ⟨#[]⟩, .int .i64 0, .int .i64 0] 101)).alloc (.cells #[.slice p l.length c, .int .i64 (8 * (l.length : Int))] 91) = wa at *
  refine (fields_any (w.heap.size + 1) _).mono ?_
  rintro e w5 ⟨g, rfl, hfb, hge, hg5⟩
  have HG : Hid (w.heap.size + 2 < g) := Lib.hid (by rw [HA.out.2.2.2.2] at hge; omega)
  have H0 : Hid (RD w l p c (fv l) g 0 w5) := Lib.hid ⟨hfb, kept_row HA.out.2.1 hg5 (by simp), kept_row HA.out.2.2.1 hg5 (by simp), kept_row HA.out.1 hg5 (by simp), HR.out.keep hg5, grown_trans HA.out.2.2.2.1 hg5⟩
  clear hfb hge hg5 HA HR
  go_wp2_with fail
  go_loopw [5, 17] (fun at_ i wr => ∃ k : Nat, k ≤ 10 ∧ i = .int .i64 (k : Int) ∧ at_ = .int .i64 ((offs.getD k 0 : Nat) : Int) ∧ Hid (RD w l p c (fv l) g k wr)) (fun _ i _ => (10 - (intOf i).toNat))
  case atStart => exact ⟨0, Nat.zero_le _, rfl, rfl, H0⟩
  case round =>
    obtain ⟨k, hk, rfl, rfl, hR⟩ := hrel
    clear H0
    by_cases hk2 : k < 10
    · obtain ⟨o, hc0, hc1, hc2, ho, hof, hwd, hle⟩ := read_at (fv l) (w.heap.size + 1) k hk2
      have hfv : fv l k = num (bt l) (offs.getD k 0) (wids.getD k 0) := rfl
      have d0 := (cell_of_row _ _ _ _ _ _ hR.out.fb).trans hc0
      have d1 := (cell_of_row _ _ _ _ _ _ hR.out.fb).trans hc1
      have hxlt : fv l k < 2 ^ (wids.getD k 0) := num_lt _ _ _
      obtain ⟨a2, ha2⟩ : ∃ a2, a2 = offs.getD (k + 1) 0 := ⟨_, rfl⟩
      rw [← ha2] at hof
      generalize offs.getD k 0 = a at *
      generalize wids.getD k 0 = wd at *
      have hok := takeV_ok (l := l) (n := ((8 * l.length : Nat) : Int)) (a := ((a : Nat) : Int)) (k := ((wd : Nat) : Int)) (vs_whole (by omega)) (by unfold vw; simp; omega) (by omega) (by omega)
      rw [Int.toNat_natCast, Int.toNat_natCast, ← hfv, Int.natCast_mul] at hok
      change takeV l (8 * (l.length : Int)) _ _ = _ at hok
      have hx10 : fv l k < 1024 := Nat.lt_of_lt_of_le hxlt (Nat.pow_le_pow_right (n := 2) (by decide) hwd)
      have HO := Lib.hid (And.intro ho hof)
      have HC2 := Lib.hid hc2
      have HA2 := Lib.hid ha2
      have HX := Lib.hid hok
      have HR := hR
      clear hc0 hc1 hc2 hR ho hof hok hxlt hfv ha2
      go_upto_region 7 with fail
      have HRf := Lib.hid (HR.out.keep (World.grownBy_alloc wr (.cells #[.pointer (some ⟨w.heap.size + 1, o, none⟩), .int .i64 (wd : Int)] 124) none))
      have RF := Lib.hid (heap_alloc_new wr (.cells #[.pointer (some ⟨w.heap.size + 1, o, none⟩), .int .i64 (wd : Int)] 124))
      clear d0 d1 HR
      generalize wr.alloc (.cells #[.pointer (some ⟨w.heap.size + 1, o, none⟩), .int .i64 (wd : Int)] 124) = wf at *
      have x0 : wf.cell? ⟨wr.heap.size, 0, none⟩ = some (.pointer (some ⟨w.heap.size + 1, o, none⟩)) := cell_of_row _ _ _ _ _ _ RF.out
      have x1 : wf.cell? ⟨wr.heap.size, 1, none⟩ = some (.int .i64 (wd : Int)) := cell_of_row _ _ _ _ _ _ RF.out
      have s0 : wf.cell? ⟨w.heap.size + 1 + 1, 0, none⟩ = some (.slice p l.length c) := cell_of_row _ _ _ _ _ _ HRf.out.sb
      have s1 : wf.cell? ⟨w.heap.size + 1 + 1, 1, none⟩ = some (.int .i64 (8 * (l.length : Int))) := cell_of_row _ _ _ _ _ _ HRf.out.sb
      go_wp2_with fail
      refine (takep_any l (8 * (l.length : Int)) (a : Int) (wd : Int) _ p c hl (by unfold I64; omega) _ HRf.out.rd).mono ?_
      rintro e w7 ⟨rfl, hg⟩
      rw [HX.out]
      have H7 := Lib.hid (HRf.out.keep hg)
      have hrf := kept_row RF.out hg (by simp)
      have x0 : w7.cell? ⟨wr.heap.size, 0, none⟩ = some (.pointer (some ⟨w.heap.size + 1, o, none⟩)) := cell_of_row _ _ _ _ _ _ hrf
      have x1 : w7.cell? ⟨wr.heap.size, 1, none⟩ = some (.int .i64 (wd : Int)) := cell_of_row _ _ _ _ _ _ hrf
      have t0 := (cell_of_row _ _ _ _ _ _ H7.out.hb).trans HC2.out
      have t1 := frozen_of_row _ _ o _ _ H7.out.hb
      have hne : w.heap.size + 1 ≠ wr.heap.size := fun e => by
        have h1 := RF.out
        rw [← e, HRf.out.hb] at h1
        cases h1
      have H8 := Lib.hid (H7.out.turn HG.out HO.out.1)
      clear hg hrf s0 s1 RF HRf
      go_wp2_with fail
      go_roundw
      case rel => exact ⟨k + 1, by omega, by go_num, by rw [← HA2.out, HO.out.2]; go_num, H8⟩
      case measure => simp [intOf]; omega
    · obtain rfl : k = 10 := by omega
      obtain ⟨c0, c1, c2, c3, c4, c5, c6, c7, c8, c9, c10, c11, c12⟩ := r_cells hR.out.hb
      obtain ⟨z0, z1, z2, z3, z4, z5, z6, z7, z8, z9, z10, z11, z12⟩ := z_cells hR.out.rb
      obtain ⟨f0, f1, f2, f3, f4, f5, f6, f7, f8, f9, f10, f11, f12⟩ := h_facts hR.out.rb
      have fh := frozen_of_row _ _ 4 _ _ hR.out.hb
      have hx4 : fv l 4 < 4 := num_lt _ _ 2
      go_wp2_with fail
      have hw : wrap64 (8 * 2 ^ fv l 4) = 8 * 2 ^ fv l 4 := by
        rcases (show fv l 4 = 0 ∨ fv l 4 = 1 ∨ fv l 4 = 2 ∨ fv l 4 = 3 by omega) with h | h | h | h <;> rw [h] <;> decide +kernel
      rw [hw]
      have gh := grown_setCell wr ⟨w.heap.size + 1, 4, none⟩ (.int .i64 (8 * 2 ^ fv l 4))
      have hrb := kept_row hR.out.rb gh (fun e => by have : w.heap.size = w.heap.size + 1 := Option.some.inj e; omega)
      have gr1 := grown_new hR.out.gr gh (by show w.heap.size ≤ w.heap.size + 1; omega)
      refine bodyPost_ret (res_header rfl _ _ w.heap.size _ rfl rfl (hput_row _ _ _ _ _ _ _ _ _ _ _ _ _ hrb)) rfl ?_
      exact ⟨rfl, grown_new gr1 (hput_grown _ w.heap.size _ _ _ _ _ _ _ _ _ _ _ _ _) (Nat.le_refl _)⟩
end Go.Proofs.YtnfgkakhdgiepaaDoor

/- packet: Valid. -/
namespace Go.Proofs.YtnfgkakhdgiepaaDoor
open Go.RowKit Bs
def vrows (P : Pk) : List (Int × Int × Int) := [(P.mode, 1, 3), (P.sub, 0, 7), (P.set, 0, 31), (P.ttl, 0, 63), (P.ent, 0, 1023), (P.ing, 0, 256), (P.pro, 0, 7), ((P.pay.size : Int), 0, 64)]
def vcells (P : Pk) : Array Value := #[.int .i64 P.mode, .int .i64 1, .int .i64 3, .int .i64 P.sub, .int .i64 0, .int .i64 7, .int .i64 P.set, .int .i64 0, .int .i64 31, .int .i64 P.ttl, .int .i64 0, .int .i64 63,
  .int .i64 P.ent, .int .i64 0, .int .i64 1023, .int .i64 P.ing, .int .i64 0, .int .i64 256, .int .i64 P.pro, .int .i64 0, .int .i64 7, .int .i64 (P.pay.size : Int), .int .i64 0, .int .i64 64]
set_option maxRecDepth 100000 in
theorem vrow_at (P : Pk) (k : Nat) (hk : k < 8) : ∃ x lo hi : Int, (vcells P)[k * 3]? = some (.int .i64 x) ∧ (vcells P)[k * 3 + 1]? = some (.int .i64 lo) ∧ (vcells P)[k * 3 + 2]? = some (.int .i64 hi) ∧ (vrows P)[k]? = some (x, lo, hi) := by
  rcases (show k = 0 ∨ k = 1 ∨ k = 2 ∨ k = 3 ∨ k = 4 ∨ k = 5 ∨ k = 6 ∨ k = 7 by omega) with rfl | rfl | rfl | rfl | rfl | rfl | rfl | rfl <;> exact ⟨_, _, _, rfl, rfl, rfl, rfl⟩
/-- The first k rows are kept. -/
def Kept (P : Pk) (k : Nat) : Prop := ∀ j x lo hi, j < k → (vrows P)[j]? = some (x, lo, hi) → lo ≤ x ∧ x ≤ hi
set_option maxRecDepth 100000 in
theorem vpk_kept {P : Pk} (h : Kept P 8) : vpk P = vb P.bits P.len := by
  have h0 := h 0 _ _ _ (by decide) rfl
  have h1 := h 1 _ _ _ (by decide) rfl
  have h2 := h 2 _ _ _ (by decide) rfl
  have h3 := h 3 _ _ _ (by decide) rfl
  have h4 := h 4 _ _ _ (by decide) rfl
  have h5 := h 5 _ _ _ (by decide) rfl
  have h6 := h 6 _ _ _ (by decide) rfl
  have h7 := h 7 _ _ _ (by decide) rfl
  unfold vpk
  by_cases hb : vb P.bits P.len = true
  · rw [hb]; exact decide_eq_true ⟨h0, h1, h2, h3, h4, h5, h6, by omega, rfl⟩
  · rw [Bool.not_eq_true] at hb
    rw [hb]; exact decide_eq_false fun h => by cases h.2.2.2.2.2.2.2.2
set_option maxRecDepth 100000 in
theorem vpk_row {P : Pk} (h : vpk P = true) {k : Nat} {x lo hi : Int} (hk : k < 8) (hr : (vrows P)[k]? = some (x, lo, hi)) : lo ≤ x ∧ x ≤ hi := by
  obtain ⟨h0, h1, h2, h3, h4, h5, h6, h7, _⟩ := vpk_parts h
  rcases (show k = 0 ∨ k = 1 ∨ k = 2 ∨ k = 3 ∨ k = 4 ∨ k = 5 ∨ k = 6 ∨ k = 7 by omega) with rfl | rfl | rfl | rfl | rfl | rfl | rfl | rfl <;> cases hr
  · exact h0
  · exact h1
  · exact h2
  · exact h3
  · exact h4
  · exact h5
  · exact h6
  · exact ⟨by omega, by omega⟩
set_option maxRecDepth 100000 in
theorem vpk_not {P : Pk} {k : Nat} {x lo hi : Int} (hk : k < 8) (hr : (vrows P)[k]? = some (x, lo, hi)) (hn : ¬ (lo ≤ x ∧ x ≤ hi)) : vpk P = false := by
  cases h : vpk P with
  | false => rfl
  | true => exact absurd (vpk_row h hk hr) hn
set_option maxRecDepth 100000 in
set_option maxHeartbeats 3200000 in
theorem pvalid_any (P : Pk) (hP : P.Wf) (w : World) :
    Calls Tryd.prog 16 #[P.val] w fun e w' => e = .returned (.bool (vpk P)) ∧ w.grownBy w' none := by
  unfold Pk.val
  go_enter Tryd.func16, Tryd.ntmps16
  go_wp2_with fail
  obtain ⟨k1, k2, k3, k4⟩ := two_boxes w (pcells P) (vcells P) 25 86
  have HA := Lib.hid (And.intro k1 (And.intro k2 k3))
  clear k1 k2 k3 k4
  unfold pcells vcells at HA
  generalize ((w.alloc (.cells #[.int .i64 P.mode, .int .i64 P.sub, .int .i64 P.set, .int .i64 P.len, .int .i64 P.ttl, .int .i64 P.ent, .int .i64 P.ing, .int .i64 P.pro, .int .u64 (P.bits : Int), .string P.pay] 25)).alloc _) = wa at *
  change Hid (wa.heap[w.heap.size]? = some (.cells (pcells P) 25 (0, 0)) ∧ wa.heap[w.heap.size + 1]? = some (.cells (vcells P) 86 (0, 0)) ∧ w.grownBy wa none) at HA
  have hK0 : Hid (Kept P 0) := Lib.hid fun j x lo hi hj => absurd hj (Nat.not_lt_zero j)
  go_loopw [32] (fun i wr => ∃ k : Nat, k ≤ 8 ∧ i = .int .i64 (k : Int) ∧ Hid (Kept P k) ∧ Hid (wa.grownBy wr none)) (fun i _ => (8 - (intOf i).toNat))
  case atStart => exact ⟨0, Nat.zero_le _, rfl, hK0, Lib.hid (grown_refl _ _)⟩
  case round =>
    obtain ⟨k, hk, rfl, hK, hG⟩ := hrel
    clear hK0
    have GE := Lib.hid (grown_trans HA.out.2.2 hG.out)
    by_cases hk2 : k < 8
    · obtain ⟨x, lo, hi, c0, c1, c2, hr⟩ := vrow_at P k hk2
      have hrow := kept_row HA.out.2.1 hG.out (by simp)
      have d0 := (cell_of_row _ _ _ _ _ _ hrow).trans c0
      have d1 := (cell_of_row _ _ _ _ _ _ hrow).trans c1
      have d2 := (cell_of_row _ _ _ _ _ _ hrow).trans c2
      have HR := Lib.hid hr
      clear c0 c1 c2 hr hrow
      by_cases h1 : x < lo
      · have hn := Lib.hid (vpk_not hk2 HR.out (by omega))
        go_wp2_with fail
        go_ret
        exact ⟨by rw [hn.out]; rfl, grown_trans GE.out (World.grownBy_alloc _ _ none)⟩
      · by_cases h2 : hi < x
        · have hn := Lib.hid (vpk_not hk2 HR.out (by omega))
          go_wp2_with fail
          go_ret
          exact ⟨by rw [hn.out]; rfl, grown_trans GE.out (World.grownBy_alloc _ _ none)⟩
        · go_wp2_with fail
          go_roundw
          case rel =>
            refine ⟨k + 1, by omega, by go_num, Lib.hid fun j y lo' hi' hj hr => ?_, Lib.hid (grown_trans hG.out (World.grownBy_alloc _ _ none))⟩
            by_cases hjk : j < k
            · exact hK.out j y lo' hi' hjk hr
            · obtain rfl : j = k := by omega
              rw [HR.out] at hr
              cases hr
              exact ⟨by omega, by omega⟩
          case measure => simp [intOf]; omega
    · obtain rfl : k = 8 := by omega
      obtain ⟨a0, a1, a2, a3, a4, a5, a6, a7, a8, a9⟩ := p_facts (kept_row HA.out.1 hG.out (by simp))
      have hv := Lib.hid (vpk_kept hK.out)
      go_wp2_with fail
      refine (bvalidp_any P.bits P.len hP.bits _).mono ?_
      rintro e w9 ⟨rfl, rfl⟩
      go_wp2_with fail
      go_ret
      exact ⟨by rw [hv.out]; rfl, GE.out⟩
end Go.Proofs.YtnfgkakhdgiepaaDoor

/- packet: sizes; the mistakes of a header. -/
namespace Go.Proofs.YtnfgkakhdgiepaaDoor
open Go.RowKit Bs
set_option maxRecDepth 100000 in
set_option maxHeartbeats 3200000 in
theorem wholeBytes_any (n : Nat) (hn : n ≤ 100000) (w : World) :
    Calls Tryd.prog 80 #[.int .i64 (n : Int)] w fun e w' => e = .returned (.int .i64 (((n + 7) / 8 : Nat) : Int)) ∧ w = w' := by
  go_enter Tryd.func80, Tryd.ntmps80
  go_wp2
  all_goals (go_ret; exact ⟨by go_num, rfl⟩)
set_option maxRecDepth 100000 in
theorem bytesForP_any (n m : Nat) (hn : n ≤ 10000) (hm : m ≤ 1000) (w : World) :
    Calls Tryd.prog 66 #[.int .i64 (n : Int), .int .i64 (m : Int)] w fun e w' => e = .returned (.int .i64 (((49 + n + 8 * m + 16 + 7) / 8 : Nat) : Int)) ∧ w = w' := by
  go_enter Tryd.func66, Tryd.ntmps66
  go_wp2_with (go_at_call 80; rw [show (49 + (n : Int) + 8 * (m : Int) + 16) = ((49 + n + 8 * m + 16 : Nat) : Int) by omega]; refine (wholeBytes_any (49 + n + 8 * m + 16) (by omega) _).mono ?_; rintro e w' ⟨rfl, rfl⟩)
  all_goals (go_ret; exact ⟨rfl, rfl⟩)
/-- The first mistake of a header. -/
def misV (V : Nat → Nat) : Int := if V 0 ≠ 2 then 22 else if V 1 = 0 then 1 else if 256 < V 7 ∨ 64 < V 9 then 2 else 0
set_option maxRecDepth 100000 in
set_option maxHeartbeats 3200000 in
theorem mistake_any (V : Nat → Nat) (n : Int) (h : Nat) (w : World) (hr : w.heap[h]? = some (.cells (hdc V 10 n) 101 (0, 0))) :
    Calls Tryd.prog 82 #[.pointer (some ⟨h, 0, none⟩)] w fun e w' => e = .returned (.int .i64 (misV V)) ∧ w = w' := by
  have c0 : w.cell? ⟨h, 0, none⟩ = some (.int .i64 (V 0 : Int)) := cell_of_row _ _ _ _ _ _ hr
  have c1 : w.cell? ⟨h, 1, none⟩ = some (.int .i64 (V 1 : Int)) := cell_of_row _ _ _ _ _ _ hr
  have c7 : w.cell? ⟨h, 7, none⟩ = some (.int .i64 (V 7 : Int)) := cell_of_row _ _ _ _ _ _ hr
  have c9 : w.cell? ⟨h, 12, none⟩ = some (.int .i64 (V 9 : Int)) := cell_of_row _ _ _ _ _ _ hr
  clear hr
  by_cases h0 : V 0 = 2
  · by_cases h1 : V 1 = 0
    · have hm := Lib.hid (show misV V = 1 by unfold misV; rw [if_neg (by simp [h0]), if_pos h1])
      go_enter Tryd.func82, Tryd.ntmps82
      go_wp2
      all_goals (go_ret; exact ⟨by rw [hm.out]; rfl, rfl⟩)
    · by_cases h2 : 256 < V 7
      · have hm := Lib.hid (show misV V = 2 by unfold misV; rw [if_neg (by simp [h0]), if_neg h1, if_pos (.inl h2)])
        go_enter Tryd.func82, Tryd.ntmps82
        go_wp2
        all_goals (go_ret; exact ⟨by rw [hm.out]; rfl, rfl⟩)
      · by_cases h3 : 64 < V 9
        · have hm := Lib.hid (show misV V = 2 by unfold misV; rw [if_neg (by simp [h0]), if_neg h1, if_pos (.inr h3)])
          go_enter Tryd.func82, Tryd.ntmps82
          go_wp2
          all_goals (go_ret; exact ⟨by rw [hm.out]; rfl, rfl⟩)
        · have hm := Lib.hid (show misV V = 0 by unfold misV; rw [if_neg (by simp [h0]), if_neg h1, if_neg (by omega)])
          go_enter Tryd.func82, Tryd.ntmps82
          go_wp2
          all_goals (go_ret; exact ⟨by rw [hm.out]; rfl, rfl⟩)
  · have hm := Lib.hid (show misV V = 22 by unfold misV; rw [if_pos h0])
    go_enter Tryd.func82, Tryd.ntmps82
    go_wp2
    all_goals (go_ret; exact ⟨by rw [hm.out]; rfl, rfl⟩)
end Go.Proofs.YtnfgkakhdgiepaaDoor

/- packet: a packet's block. -/
namespace Go.Proofs.YtnfgkakhdgiepaaDoor
open Go.RowKit Bs
def zpk : Array Value := #[.int .i64 0, .int .i64 0, .int .i64 0, .int .i64 0, .int .i64 0, .int .i64 0, .int .i64 0, .int .i64 0, .int .u64 0, .string ⟨#[]⟩]
set_option maxRecDepth 100000 in
theorem pput_row {w : World} {h : Nat} (v0 v1 v2 v3 v4 v5 v6 v7 v8 v9 : Value) (hr : w.heap[h]? = some (.cells zpk 25 (0, 0))) :
    ((((((((((w.setCell ⟨h, 0, none⟩ v0).setCell ⟨h, 1, none⟩ v1).setCell ⟨h, 2, none⟩ v2).setCell ⟨h, 3, none⟩ v3).setCell ⟨h, 4, none⟩ v4).setCell ⟨h, 5, none⟩ v5).setCell ⟨h, 6, none⟩ v6).setCell ⟨h, 7, none⟩ v7).setCell ⟨h, 8, none⟩ v8).setCell ⟨h, 9, none⟩ v9).heap[h]? = some (.cells #[v0, v1, v2, v3, v4, v5, v6, v7, v8, v9] 25 (0, 0)) := by
  have e0 := heap_setCell_same _ h 0 _ _ v0 hr
  generalize w.setCell ⟨h, 0, none⟩ v0 = w0 at *
  replace e0 : w0.heap[h]? = some (.cells #[v0, .int .i64 0, .int .i64 0, .int .i64 0, .int .i64 0, .int .i64 0, .int .i64 0, .int .i64 0, .int .u64 0, .string ⟨#[]⟩] 25 (0, 0)) := e0
  have e1 := heap_setCell_same _ h 1 _ _ v1 e0
  generalize w0.setCell ⟨h, 1, none⟩ v1 = w1 at *
  replace e1 : w1.heap[h]? = some (.cells #[v0, v1, .int .i64 0, .int .i64 0, .int .i64 0, .int .i64 0, .int .i64 0, .int .i64 0, .int .u64 0, .string ⟨#[]⟩] 25 (0, 0)) := e1
  have e2 := heap_setCell_same _ h 2 _ _ v2 e1
  generalize w1.setCell ⟨h, 2, none⟩ v2 = w2 at *
  replace e2 : w2.heap[h]? = some (.cells #[v0, v1, v2, .int .i64 0, .int .i64 0, .int .i64 0, .int .i64 0, .int .i64 0, .int .u64 0, .string ⟨#[]⟩] 25 (0, 0)) := e2
  have e3 := heap_setCell_same _ h 3 _ _ v3 e2
  generalize w2.setCell ⟨h, 3, none⟩ v3 = w3 at *
  replace e3 : w3.heap[h]? = some (.cells #[v0, v1, v2, v3, .int .i64 0, .int .i64 0, .int .i64 0, .int .i64 0, .int .u64 0, .string ⟨#[]⟩] 25 (0, 0)) := e3
  have e4 := heap_setCell_same _ h 4 _ _ v4 e3
  generalize w3.setCell ⟨h, 4, none⟩ v4 = w4 at *
  replace e4 : w4.heap[h]? = some (.cells #[v0, v1, v2, v3, v4, .int .i64 0, .int .i64 0, .int .i64 0, .int .u64 0, .string ⟨#[]⟩] 25 (0, 0)) := e4
  have e5 := heap_setCell_same _ h 5 _ _ v5 e4
  generalize w4.setCell ⟨h, 5, none⟩ v5 = w5 at *
  replace e5 : w5.heap[h]? = some (.cells #[v0, v1, v2, v3, v4, v5, .int .i64 0, .int .i64 0, .int .u64 0, .string ⟨#[]⟩] 25 (0, 0)) := e5
  have e6 := heap_setCell_same _ h 6 _ _ v6 e5
  generalize w5.setCell ⟨h, 6, none⟩ v6 = w6 at *
  replace e6 : w6.heap[h]? = some (.cells #[v0, v1, v2, v3, v4, v5, v6, .int .i64 0, .int .u64 0, .string ⟨#[]⟩] 25 (0, 0)) := e6
  have e7 := heap_setCell_same _ h 7 _ _ v7 e6
  generalize w6.setCell ⟨h, 7, none⟩ v7 = w7 at *
  replace e7 : w7.heap[h]? = some (.cells #[v0, v1, v2, v3, v4, v5, v6, v7, .int .u64 0, .string ⟨#[]⟩] 25 (0, 0)) := e7
  have e8 := heap_setCell_same _ h 8 _ _ v8 e7
  generalize w7.setCell ⟨h, 8, none⟩ v8 = w8 at *
  replace e8 : w8.heap[h]? = some (.cells #[v0, v1, v2, v3, v4, v5, v6, v7, v8, .string ⟨#[]⟩] 25 (0, 0)) := e8
  have e9 := heap_setCell_same _ h 9 _ _ v9 e8
  generalize w8.setCell ⟨h, 9, none⟩ v9 = w9 at *
  replace e9 : w9.heap[h]? = some (.cells #[v0, v1, v2, v3, v4, v5, v6, v7, v8, v9] 25 (0, 0)) := e9
  exact e9
set_option maxRecDepth 100000 in
theorem pput_grown (w : World) (h : Nat) (v0 v1 v2 v3 v4 v5 v6 v7 v8 v9 : Value) : w.grownBy ((((((((((w.setCell ⟨h, 0, none⟩ v0).setCell ⟨h, 1, none⟩ v1).setCell ⟨h, 2, none⟩ v2).setCell ⟨h, 3, none⟩ v3).setCell ⟨h, 4, none⟩ v4).setCell ⟨h, 5, none⟩ v5).setCell ⟨h, 6, none⟩ v6).setCell ⟨h, 7, none⟩ v7).setCell ⟨h, 8, none⟩ v8).setCell ⟨h, 9, none⟩ v9) (some h) := by
  exact grown_trans (grown_trans (grown_trans (grown_trans (grown_trans (grown_trans (grown_trans (grown_trans (grown_trans (grown_setCell _ ⟨h, 0, none⟩ _) (grown_setCell _ ⟨h, 1, none⟩ _)) (grown_setCell _ ⟨h, 2, none⟩ _)) (grown_setCell _ ⟨h, 3, none⟩ _)) (grown_setCell _ ⟨h, 4, none⟩ _)) (grown_setCell _ ⟨h, 5, none⟩ _)) (grown_setCell _ ⟨h, 6, none⟩ _)) (grown_setCell _ ⟨h, 7, none⟩ _)) (grown_setCell _ ⟨h, 8, none⟩ _)) (grown_setCell _ ⟨h, 9, none⟩ _)
set_option maxRecDepth 100000 in
theorem zp_cells {w : World} {h : Nat} (hr : w.heap[h]? = some (.cells zpk 25 (0, 0))) :
    (w.cell? ⟨h, 0, none⟩ = some (.int .i64 0) ∧ w.cell? ⟨h, 1, none⟩ = some (.int .i64 0) ∧ w.cell? ⟨h, 2, none⟩ = some (.int .i64 0) ∧ w.cell? ⟨h, 3, none⟩ = some (.int .i64 0) ∧ w.cell? ⟨h, 4, none⟩ = some (.int .i64 0) ∧ w.cell? ⟨h, 5, none⟩ = some (.int .i64 0) ∧ w.cell? ⟨h, 6, none⟩ = some (.int .i64 0) ∧ w.cell? ⟨h, 7, none⟩ = some (.int .i64 0) ∧ w.cell? ⟨h, 8, none⟩ = some (.int .u64 0) ∧ w.cell? ⟨h, 9, none⟩ = some (.string ⟨#[]⟩)) ∧ w.frozen? ⟨h, 0, none⟩ = false ∧ w.frozen? ⟨h, 1, none⟩ = false ∧ w.frozen? ⟨h, 2, none⟩ = false ∧ w.frozen? ⟨h, 3, none⟩ = false ∧ w.frozen? ⟨h, 4, none⟩ = false ∧ w.frozen? ⟨h, 5, none⟩ = false ∧ w.frozen? ⟨h, 6, none⟩ = false ∧ w.frozen? ⟨h, 7, none⟩ = false ∧ w.frozen? ⟨h, 8, none⟩ = false ∧ w.frozen? ⟨h, 9, none⟩ = false :=
  ⟨⟨cell_of_row _ _ _ _ _ _ hr, cell_of_row _ _ _ _ _ _ hr, cell_of_row _ _ _ _ _ _ hr, cell_of_row _ _ _ _ _ _ hr, cell_of_row _ _ _ _ _ _ hr, cell_of_row _ _ _ _ _ _ hr, cell_of_row _ _ _ _ _ _ hr, cell_of_row _ _ _ _ _ _ hr, cell_of_row _ _ _ _ _ _ hr, cell_of_row _ _ _ _ _ _ hr⟩, frozen_of_row _ _ _ _ _ hr, frozen_of_row _ _ _ _ _ hr, frozen_of_row _ _ _ _ _ hr, frozen_of_row _ _ _ _ _ hr, frozen_of_row _ _ _ _ _ hr, frozen_of_row _ _ _ _ _ hr, frozen_of_row _ _ _ _ _ hr, frozen_of_row _ _ _ _ _ hr, frozen_of_row _ _ _ _ _ hr, frozen_of_row _ _ _ _ _ hr⟩
set_option maxRecDepth 100000 in
theorem packet_size : (Tryd.prog.info? 25).map (·.size) = some 10 := by kernel_rfl
/-- The packet of a header, with these bits and this payload. -/
def rcells (V : Nat → Nat) (n : Int) (b : Nat) (s : ByteArray) : Array Value := #[.int .i64 (V 1 : Int), .int .i64 (V 2 : Int), .int .i64 (V 3 : Int), .int .i64 n, .int .i64 (V 5 : Int), .int .i64 (V 6 : Int), .int .i64 (V 7 : Int), .int .i64 (V 8 : Int), .int .u64 (b : Int), .string s]
set_option maxRecDepth 100000 in
theorem rc_cells {w : World} {h : Nat} {V : Nat → Nat} {n : Int} {b : Nat} {s : ByteArray} (hr : w.heap[h]? = some (.cells (rcells V n b s) 25 (0, 0))) :
    w.cell? ⟨h, 0, none⟩ = some (.int .i64 (V 1 : Int)) ∧ w.cell? ⟨h, 1, none⟩ = some (.int .i64 (V 2 : Int)) ∧ w.cell? ⟨h, 2, none⟩ = some (.int .i64 (V 3 : Int)) ∧ w.cell? ⟨h, 3, none⟩ = some (.int .i64 n) ∧ w.cell? ⟨h, 4, none⟩ = some (.int .i64 (V 5 : Int)) ∧ w.cell? ⟨h, 5, none⟩ = some (.int .i64 (V 6 : Int)) ∧ w.cell? ⟨h, 6, none⟩ = some (.int .i64 (V 7 : Int)) ∧ w.cell? ⟨h, 7, none⟩ = some (.int .i64 (V 8 : Int)) ∧ w.cell? ⟨h, 8, none⟩ = some (.int .u64 (b : Int)) ∧ w.cell? ⟨h, 9, none⟩ = some (.string s) :=
  ⟨cell_of_row _ _ _ _ _ _ hr, cell_of_row _ _ _ _ _ _ hr, cell_of_row _ _ _ _ _ _ hr, cell_of_row _ _ _ _ _ _ hr, cell_of_row _ _ _ _ _ _ hr, cell_of_row _ _ _ _ _ _ hr, cell_of_row _ _ _ _ _ _ hr, cell_of_row _ _ _ _ _ _ hr, cell_of_row _ _ _ _ _ _ hr, cell_of_row _ _ _ _ _ _ hr⟩
set_option maxRecDepth 100000 in
theorem four_new (w : World) (A B C D : Obj) : ((((w.alloc A).alloc B).alloc C).alloc D).heap[w.heap.size]? = some A ∧ ((((w.alloc A).alloc B).alloc C).alloc D).heap[w.heap.size + 1]? = some B ∧ ((((w.alloc A).alloc B).alloc C).alloc D).heap[w.heap.size + 2]? = some C ∧ ((((w.alloc A).alloc B).alloc C).alloc D).heap[w.heap.size + 3]? = some D ∧
    w.grownBy ((((w.alloc A).alloc B).alloc C).alloc D) none ∧ ((((w.alloc A).alloc B).alloc C).alloc D).heap.size = w.heap.size + 4 := by
  obtain ⟨h1, h2, h3, g, s⟩ := three_new w A B C
  have g4 := World.grownBy_alloc (((w.alloc A).alloc B).alloc C) D none
  have h4 := heap_alloc_new (((w.alloc A).alloc B).alloc C) D
  rw [s] at h4
  exact ⟨kept_row h1 g4 (by simp), kept_row h2 g4 (by simp), kept_row h3 g4 (by simp), h4, grown_trans g g4, by simp⟩
end Go.Proofs.YtnfgkakhdgiepaaDoor

/- The reference's functions on bits: Count, Nth, First, Rank, Spread, Gather. -/
namespace Go.Proofs.YtnfgkakhdgiepaaDoor
open Go.RowKit Bs

/-- The call returned v and made memory alone. -/
def Nw (v : Value) (w : World) (e : Ending) (w' : World) : Prop := e = .returned v ∧ w.grownBy w' none
set_option maxRecDepth 100000 in
theorem Rd.form {w : World} {q : Nat → Prop} {v : Value} {vs : List Value} {n : Nat} (h : Rd w q v vs) (hn : vs.length = n) : ∃ p c, v = .slice p n c := by
  obtain ⟨p, c, hv, _⟩ := h
  exact ⟨p, c, by rw [hv, hn]⟩
set_option maxRecDepth 100000 in
theorem Rd.at1_ {w : World} {q : Nat → Prop} {p : Option Addr} {n c : Nat} {vs : List Value} {i : Nat} {x : Value} (h : Rd w q (.slice p n c) vs) (hi : vs[i]? = some x) :
    ∃ b off, p = some ⟨b, off, none⟩ ∧ w.cell? ⟨b, off + i, none⟩ = some x := by
  obtain ⟨p', c', hv, hc⟩ := h
  injection hv with e1 e2 e3
  subst e1
  obtain ⟨b, off, hp, _, hx⟩ := hc (by intro e; rw [e] at hi; simp at hi)
  exact ⟨b, off, hp, hx i x hi⟩
set_option maxRecDepth 100000 in
theorem bl_map_len (b : Nat) : ((bl b).map ival).length = cnt b := by rw [List.length_map]; rfl
set_option maxRecDepth 100000 in
theorem bl_map_at {b i k : Nat} (h : (bl b)[i]? = some k) : ((bl b).map ival)[i]? = some (.int .i64 (k : Int)) := by rw [List.getElem?_map, h]; rfl
set_option maxRecDepth 100000 in
theorem bl_at {b i : Nat} (h : i < cnt b) : ∃ k, (bl b)[i]? = some k ∧ k < 64 := by
  have h' : i < (bl b).length := h
  exact ⟨(bl b)[i], List.getElem?_eq_getElem h', bl_lt (List.getElem_mem h')⟩

set_option maxRecDepth 100000 in
set_option maxHeartbeats 400000 in
theorem nthr_any (b : Nat) (n : Int) (hb : U64 b) (w : World) :
    Calls Tryd.prog 87 #[.int .u64 (b : Int), .int .i64 n] w fun e w' => Nw (.int .i64 (nth b n)) w e w' := by
  have hc64 := cnt_le b
  by_cases hneg : n < 0
  · have V := Lib.hid (nth_neg (b := b) hneg)
    go_enter Tryd.func87, Tryd.ntmps87
    go_wp2_with fail
    refine (listr_any b hb _).mono ?_
    rintro e w1 ⟨v, rfl, hR, hg⟩
    obtain ⟨p, c, rfl⟩ := hR.form (bl_map_len b)
    go_wp2_with fail
    go_ret
    exact ⟨ret_int (by rw [V.out]), hg⟩
  · by_cases hfar : (cnt b : Int) ≤ n
    · have V := Lib.hid (nth_far hfar)
      go_enter Tryd.func87, Tryd.ntmps87
      go_wp2_with fail
      refine (listr_any b hb _).mono ?_
      rintro e w1 ⟨v, rfl, hR, hg⟩
      obtain ⟨p, c, rfl⟩ := hR.form (bl_map_len b)
      go_wp2_with fail
      go_ret
      exact ⟨ret_int (by rw [V.out]), hg⟩
    · obtain ⟨N, rfl⟩ := Int.eq_ofNat_of_zero_le (show 0 ≤ n by omega)
      have hN : N < cnt b := by omega
      obtain ⟨k, hk, _⟩ := bl_at hN
      have V := Lib.hid (nth_at hk)
      have n1 : decide ((N : Int) < 0) = false := by simp
      have n2 : decide (cnt b ≤ N) = false := by simp; omega
      clear hfar hneg
      go_enter Tryd.func87, Tryd.ntmps87
      go_wp2_with fail
      refine (listr_any b hb _).mono ?_
      rintro e w1 ⟨v, rfl, hR, hg⟩
      obtain ⟨p, c, rfl⟩ := hR.form (bl_map_len b)
      obtain ⟨g, off, rfl, hcell⟩ := hR.at1_ (bl_map_at hk)
      go_wp2_with fail
      go_ret
      exact ⟨ret_int (by rw [V.out]), hg⟩

set_option maxRecDepth 100000 in
theorem nth_zero (b : Nat) (hb : U64 b) : nth b 0 = fst b := by
  by_cases h0 : b = 0
  · subst h0; decide +kernel
  · rw [fst_pos h0]; exact nth_at (bl_head h0 hb.lt)
set_option maxRecDepth 100000 in
set_option maxHeartbeats 400000 in
theorem firstr_any (b : Nat) (hb : U64 b) (w : World) :
    Calls Tryd.prog 30 #[.int .u64 (b : Int)] w fun e w' => Nw (.int .i64 (fst b)) w e w' := by
  have V := Lib.hid (nth_zero b hb)
  go_enter Tryd.func30, Tryd.ntmps30
  go_wp2_with fail
  refine (nthr_any b 0 hb _).mono ?_
  rintro e w1 ⟨rfl, hg⟩
  go_wp2_with fail
  go_ret
  exact ⟨ret_int (by rw [V.out]), hg⟩

set_option maxRecDepth 100000 in
theorem rk_step_t {b j : Nat} (h : b.testBit j = true) : (blN (j + 1) b).length = (blN j b).length + 1 := by rw [bl_snoc_t h]; simp
def rkN (j b : Nat) : Nat := (blN j b).length
set_option maxRecDepth 100000 in
theorem rkN_le (j b : Nat) : rkN j b ≤ j := blN_length_le j b
set_option maxRecDepth 100000 in
theorem rkN_t {b j : Nat} (h : b.testBit j = true) : rkN (j + 1) b = rkN j b + 1 := rk_step_t h
set_option maxRecDepth 100000 in
theorem rkN_f {b j : Nat} (h : b.testBit j = false) : rkN (j + 1) b = rkN j b := by unfold rkN; rw [bl_snoc_f h]
set_option maxRecDepth 100000 in
theorem put_t (k : Nat) : put true k = b2 k := rfl
set_option maxRecDepth 100000 in
theorem put_f (k : Nat) : put false k = 0 := rfl
set_option maxRecDepth 100000 in
theorem spr_hit {x b j k : Nat} (hk : (bl b)[j]? = some k) (ht : x.testBit j = true) (h64 : k < 64) :
    bits .or .u64 ((spr x (bl b) j : Nat) : Int) ((b2 k : Nat) : Int) = ((spr x (bl b) (j + 1) : Nat) : Int) := by
  rw [orU _ _ (spr_u64 x b j) (b2_u64 h64), spr_next hk, ht]; rfl
set_option maxRecDepth 100000 in
theorem spr_miss {x j : Nat} {l : List Nat} (ht : x.testBit j = false) : spr x l (j + 1) = spr x l j := by
  rw [spr, ht, put_f]; simp
set_option maxRecDepth 100000 in
theorem gat_hit {x b j k : Nat} (hk : (bl b)[j]? = some k) (ht : x.testBit k = true) (h64 : j < 64) :
    bits .or .u64 ((gat x (bl b) j : Nat) : Int) ((b2 j : Nat) : Int) = ((gat x (bl b) (j + 1) : Nat) : Int) := by
  rw [orU _ _ (gat_u64 x _ j (by omega)) (b2_u64 h64), gat_next hk, ht]; rfl
set_option maxRecDepth 100000 in
theorem gat_miss {x j k : Nat} {l : List Nat} (hk : l[j]? = some k) (ht : x.testBit k = false) : gat x l (j + 1) = gat x l j := by
  rw [gat_next hk, ht, put_f]; simp
end Go.Proofs.YtnfgkakhdgiepaaDoor

/- The tape's bit strings. -/
namespace Go.Proofs.YtnfgkakhdgiepaaDoor
open Go.RowKit Bs

set_option maxRecDepth 100000 in
theorem vb_full {n : Int} (h : vl n = true) (z : Nat) : vb (z &&& full n) n = true := by
  unfold vb
  rw [h, and_compl z (full_u64 n)]; rfl
/-- A bit string drawn for a length. -/
def BitsPost (n : Int) (a : Nat) (w : World) (e : Ending) (w' : World) : Prop := ∃ x : Nat, e = .returned (.int .u64 (x : Int)) ∧ U64 x ∧ vb x n = true ∧ St a w w'
set_option maxRecDepth 100000 in
theorem bits_end {n : Int} (h : vl n = true) (z : Nat) (hz : U64 z) : ∃ x : Nat, bits .and .u64 (z : Int) ((full n : Nat) : Int) = (x : Int) ∧ U64 x ∧ vb x n = true :=
  ⟨z &&& full n, andU z _ hz (full_u64 n), u64_and_le z _ hz, vb_full h z⟩
set_option maxRecDepth 100000 in
theorem all_ones : (18446744073709551615 : Int) = ((lo 64 : Nat) : Int) := by decide +kernel
set_option maxRecDepth 100000 in
set_option maxHeartbeats 800000 in
theorem bits_any (a : Nat) (n : Int) (hn : vl n = true) (w : World) (hT : Tp w a) :
    Calls Tryd.prog 61 #[.pointer (some ⟨a, 0, none⟩), .int .i64 n] w fun e w' => BitsPost n a w e w' := by
  have hn1 : 1 ≤ n := by rcases vl_cases hn with h | h | h | h <;> omega
  have hn2 : n ≤ 64 := by rcases vl_cases hn with h | h | h | h <;> omega
  have HV := Lib.hid hn
  clear hn
  go_enter Tryd.func61, Tryd.ntmps61
  go_wp2_with fail
  refine (raw_any a _ hT).mono ?_
  rintro e w1 ⟨x1, rfl, hx1, hs1⟩
  go_wp2_with fail
  refine (raw_any a _ hs1.2).mono ?_
  rintro e w2 ⟨x2, rfl, hx2, hs2⟩
  have h12 := hs1.trans hs2
  clear hx1 hx2 hs1 hs2
  go_wp2_with fail
  generalize hB : bits BinOp.xor IntKind.u64 _ _ = B
  obtain ⟨z, hz, hzB⟩ : ∃ z : Nat, U64 z ∧ B = (z : Int) := by rw [← hB]; exact bitsU _ _ _
  subst hzB
  clear hB
  refine (next_any a 6 (by unfold I64; omega) _ h12.2).mono ?_
  rintro e w3 ⟨r, rfl, hr, hs3⟩
  have h13 := h12.trans hs3
  have hr0 : 0 ≤ r := hr.1
  have hr1 : r < 6 := hr.2.1 (by omega)
  clear hr h12 hs3
  by_cases c0 : r = 0
  · subst c0
    obtain ⟨y, hy, hyu, hyv⟩ := bits_end HV.out 0 (by unfold U64; decide)
    have HY := Lib.hid hy
    clear hy
    go_wp2_with (go_at_call 104; refine (fullr_any _ _).mono ?_; rintro e w' ⟨rfl, rfl⟩)
    go_ret
    exact ⟨y, ret_int HY.out, hyu, hyv, h13⟩
  · by_cases c1 : r = 1
    · subst c1
      clear c0
      go_wp2_with fail
      refine (next_any a n (by unfold I64; omega) _ h13.2).mono ?_
      rintro e w4 ⟨k, rfl, hk, hs4⟩
      have h14 := h13.trans hs4
      obtain ⟨K, rfl⟩ := Int.eq_ofNat_of_zero_le hk.1
      have hK : K < 64 := by have := hk.2.1 hn1; omega
      clear hk hs4
      obtain ⟨y, hy, hyu, hyv⟩ := bits_end HV.out (b2 K) (b2_u64 hK)
      have HY := Lib.hid hy
      clear hy
      go_wp2_with (first
        | (go_at_call 90; refine (bit_any K hK _).mono ?_; rintro e w' ⟨rfl, rfl⟩)
        | (go_at_call 104; refine (fullr_any _ _).mono ?_; rintro e w' ⟨rfl, rfl⟩))
      go_ret
      exact ⟨y, ret_int HY.out, hyu, hyv, h14⟩
    · by_cases c2 : r = 2
      · subst c2
        clear c0 c1
        obtain ⟨y, hy, hyu, hyv⟩ := bits_end HV.out (lo 64) (lo_u64 (by omega))
        rw [← all_ones] at hy
        have HY := Lib.hid hy
        clear hy
        go_wp2_with (go_at_call 104; refine (fullr_any _ _).mono ?_; rintro e w' ⟨rfl, rfl⟩)
        go_ret
        exact ⟨y, ret_int HY.out, hyu, hyv, h13⟩
      · have b0 : (r == 0) = false := by simpa using c0
        have b1 : (r == 1) = false := by simpa using c1
        have b2' : (r == 2) = false := by simpa using c2
        clear c0 c1 c2
        obtain ⟨y, hy, hyu, hyv⟩ := bits_end HV.out z hz
        have HY := Lib.hid hy
        clear hy
        go_wp2_with (go_at_call 104; refine (fullr_any _ _).mono ?_; rintro e w' ⟨rfl, rfl⟩)
        go_ret
        exact ⟨y, ret_int HY.out, hyu, hyv, h13⟩
end Go.Proofs.YtnfgkakhdgiepaaDoor

/- Rows of the call's own that grow apart. -/
namespace Go.Proofs.YtnfgkakhdgiepaaDoor
open Go.RowKit Bs
def zv (x : Nat) : Value := .int .i64 (x : Int)
set_option maxRecDepth 100000 in
theorem zv_one {l : List Nat} : ∀ u ∈ l.map zv, u.oneCell' = true := by
  intro u hu
  obtain ⟨x, _, rfl⟩ := List.mem_map.1 hu
  rfl
set_option maxRecDepth 100000 in
/-- append of ints that are read, onto a row of the call's own. -/
theorem wpList_append_ints {w : World} {ops : Array Oper} {rest : List Oper} {o : Oper} {a : Act} {Q : Exit → Act → World → Prop} (hgd : o.guard = none) (s x : Operand)
    (ho : o.op = .call { callee := .builtin .append, args := #[s, x], argTypes := #[22, 22] }) (base : Nat) (v : Value) (n : Nat) (l : List Nat) (hs : a.eval s = v) (hown : w.ownsRow base 3 1 v n (l.map zv))
    (p : Option Addr) (k c : Nat) (r : List Nat) (hx : a.eval x = .slice p k c) (hk : k = r.length) (hn0 : p = none → c = 0 ∧ k = 0) (hnews : ∀ ad, p = some ad → ∀ j u, (r.map zv)[j]? = some u → w.cell? (ad.add j) = some u) (h63 : n + r.length ≤ 100000) (hbase : base ≤ w.heap.size)
    (h : ∀ v' w', w'.ownsRow base 3 1 v' (n + r.length) ((l ++ r).map zv) → w.grownBy w' v.ownBlock → wpList Tryd.prog ops Q rest (a.put o.dst v') w') : wpList Tryd.prog ops Q (o :: rest) a w := by
  obtain ⟨i0, hi, hz0, hz1, hz2⟩ := info_parts info_int
  subst hk
  cases p with
  | none =>
    obtain ⟨rfl, hr⟩ := hn0 rfl
    obtain rfl := List.eq_nil_of_length_eq_zero hr
    refine wpList_append_own_none hgd s x 22 ho base 3 i0 1 Tryd.underlying22 hi v n (l.map zv) hs hown hx ?_
    refine h v w ?_ (grown_refl _ _)
    rw [List.append_nil]; exact hown
  | some ad =>
    refine wpList_append_own w hgd s x 22 ho base 3 i0 (.int .i64 0) 1 8 Tryd.underlying22 hi hz0 hz1 hz2 rfl (by decide) v n (l.map zv) hs hown ad r.length c (r.map zv) hx (by simp) (hnews ad rfl) zv_one (by unfold maxLen; omega) (by omega) hbase ?_
    intro v' w' h1 h2 _
    refine h v' w' ?_ h2
    rw [List.map_append]; exact h1
set_option maxRecDepth 100000 in
theorem tp_new2 {w1 w2 : World} {a b : Nat} (h : Tp w1 a) (k : w1.grownBy w2 (some b)) (hb : a < b) : Tp w2 a := by
  have hlt := h.lt
  obtain ⟨v, n, i, T⟩ := h
  have hb' : w2.heap[a]? = w1.heap[a]? := k.block a hlt (by intro e; have := Option.some.inj e; omega)
  refine ⟨v, n, i, (World.cell?_of_block (a := ⟨a, 0, none⟩) hb').trans T.l, (World.cell?_of_block (a := ⟨a, 1, none⟩) hb').trans T.p, (World.frozen?_of_block (a := ⟨a, 1, none⟩) hb').trans T.fr, ?_, T.le, T.len⟩
  obtain ⟨p, c, hv, hc⟩ := T.ints
  refine ⟨p, c, hv, fun hn => ?_⟩
  obtain ⟨g, off, hp, hg, hx⟩ := hc hn
  exact ⟨g, off, hp, hg, fun i hi => by obtain ⟨x, hx, hcell⟩ := hx i hi; exact ⟨x, hx, k.cell hcell (by intro e; have e2 : g = b := Option.some.inj e; omega)⟩⟩
set_option maxRecDepth 100000 in
theorem own_cap {w : World} {base n g cap : Nat} {e : TypeId} {xs : List Value} (h : w.ownsRow base e 1 (.slice (some ⟨g, 0, none⟩) n cap) n xs) : n ≤ cap ∧ cap ≤ maxLen := by
  rcases h.2 with ⟨h0, _⟩ | ⟨g', cap', cur, hv, _, _, hn, hc, _⟩
  · cases h0
  · injection hv with _ _ h3
    subst h3
    exact ⟨hn, hc⟩
set_option maxRecDepth 100000 in
theorem grown_own_row {w w1 : World} {k : Nat} {b : Option Nat} (h : w.grownBy w1 b) (hk : k < w.heap.size) (hb : some k ≠ b) : w1.heap[k]? = w.heap[k]? := h.block k hk hb
set_option maxRecDepth 100000 in
/-- An order is made: the old row g is read, the new one lies behind. -/
theorem own_apart {w w1 : World} {base base2 g n cap : Nat} {e : TypeId} {v : Value} {m : Nat} {e2 : TypeId} {xs ys : List Value} (h : w.ownsRow base e 1 (.slice (some ⟨g, 0, none⟩) n cap) n xs) (hv : w.ownsRow base2 e2 1 v m ys) (hg : g < base2) (k : w.grownBy w1 v.ownBlock) : w1.ownsRow base e 1 (.slice (some ⟨g, 0, none⟩) n cap) n xs :=
  h.kept k (.inr (own_ne hv hg))
set_option maxRecDepth 100000 in
theorem St.own_grow {a base n : Nat} {W w w1 : World} {e : TypeId} {v : Value} {xs : List Value} (h : St a W w) (ho : w.ownsRow base e 1 v n xs) (hb : W.heap.size ≤ base) (ha : a < W.heap.size) (k : w.grownBy w1 v.ownBlock) : St a W w1 := by
  have g : W.grownBy w1 (some a) := ⟨k.os.trans h.1.os, k.tape.trans h.1.tape, k.output.trans h.1.output, Nat.le_trans h.1.size k.size, fun i hi hia => (k.block i (Nat.lt_of_lt_of_le hi h.1.size) (own_ne ho (by omega))).trans (h.1.block i hi hia)⟩
  refine ⟨g, ?_⟩
  cases hv : v.ownBlock with
  | none => rw [hv] at k; exact h.2.keep k
  | some b =>
    rw [hv] at k
    exact tp_new2 h.2 k (by have := (ho.lt b hv).1; omega)
set_option maxRecDepth 100000 in
theorem St.none_ {a : Nat} {W w w1 : World} (h : St a W w) (g : w.grownBy w1 none) : St a W w1 := ⟨grown_trans h.1 (grown_none g _), h.2.keep g⟩
end Go.Proofs.YtnfgkakhdgiepaaDoor

/- The tape's packets. -/
namespace Go.Proofs.YtnfgkakhdgiepaaDoor
open Go.RowKit Bs
/-- A drawn packet with no mistake is valid. -/
def PacketPost (a : Nat) (w : World) (e : Ending) (w' : World) : Prop := ∃ P : Pk, e = .returned P.val ∧ P.Wf ∧ vpk P = true ∧ St a w w'
set_option maxRecDepth 100000 in
theorem tp_store {w1 w2 : World} {a b : Nat} (h : Tp w1 a) (k : w1.grownBy w2 (some b)) (hb : a < b) : Tp w2 a := tp_new2 h k hb
set_option maxRecDepth 100000 in
theorem St.store {a b : Nat} {W w w1 : World} (h : St a W w) (k : w.grownBy w1 (some b)) (hb : W.heap.size ≤ b) (ha : a < W.heap.size) : St a W w1 :=
  ⟨⟨k.os.trans h.1.os, k.tape.trans h.1.tape, k.output.trans h.1.output, Nat.le_trans h.1.size k.size, fun i hi hia => (k.block i (Nat.lt_of_lt_of_le hi h.1.size) (fun e => by have := Option.some.inj e; omega)).trans (h.1.block i hi hia)⟩, by
    exact tp_store h.2 k (by omega)⟩
set_option maxRecDepth 100000 in
theorem res_packet {fn : Func} {p : Tmp} (h : fn.results = #[.cell p 25]) (tmps : Array Value) (w : World) (g : Nat) (xs : Array Value) (hp : tmps.getD p undef = .pointer (some ⟨g, 0, none⟩)) (hn : xs.size = 10) (hg : w.heap[g]? = some (.cells xs 25 (0, 0))) :
    (results fn tmps).run Tryd.prog w = .ok (.agg xs) w := by
  exact results_cell_row h tmps w g _ _ _ _ hp hg Tryd.underlying25 rfl (by rw [hn]; exact packet_size)
set_option maxRecDepth 100000 in
theorem i64_small {x : Int} (h1 : -2000 ≤ x) (h2 : x ≤ 2000) : I64 x := by unfold I64; omega
set_option maxRecDepth 100000 in
set_option maxHeartbeats 3200000 in
theorem packet0_any (a : Nat) (w : World) (hT : Tp w a) :
    Calls Tryd.prog 15 #[.pointer (some ⟨a, 0, none⟩), .int .i64 0] w fun e w' => PacketPost a w e w' := by
  have ha := hT.lt
  obtain ⟨k1, k2⟩ := one_box w zpk 25
  have HB := Lib.hid k1
  have S0 : St a w (w.alloc (.cells zpk 25)) := ⟨grown_none k2 _, hT.keep k2⟩
  clear k1 k2
  unfold zpk at HB S0
  go_enter Tryd.func15, Tryd.ntmps15
  go_wp2_with fail
  generalize w.alloc _ = wa at *
  change Hid (wa.heap[w.heap.size]? = some (.cells zpk 25 (0, 0))) at HB
  refine (length_any a _ S0.2).mono ?_
  rintro e w1 ⟨len, rfl, hlen, hs1⟩
  have S1 := S0.trans hs1
  go_wp2_with fail
  refine (range_any a 1 3 (by decide) (by decide) (by decide) (by decide) _ S1.2).mono ?_
  rintro e w2 ⟨mode, rfl, hmode, hs2⟩
  go_wp2_with fail
  refine (range_any a 0 7 (by decide) (by decide) (by decide) (by decide) _ hs2.2).mono ?_
  rintro e w3 ⟨sub, rfl, hsub, hs3⟩
  go_wp2_with fail
  refine (pick_any (fun r => 0 ≤ r ∧ r ≤ 31) a _ 0 5 5 (by omega) (by omega) _ (hs3.2.alloc _) (among_list _ w3 a [0, 0, 1, 2, 31] _ _ hs3.2.lt rfl (by decide))).mono ?_
  rintro e w4 ⟨set, rfl, hset, hs4⟩
  go_wp2_with fail
  refine (pick_any (fun r => 0 ≤ r ∧ r ≤ 63) a _ 0 5 5 (by omega) (by omega) _ (hs4.2.alloc _) (among_list _ w4 a [0, 1, 2, 5, 63] _ _ hs4.2.lt rfl (by decide))).mono ?_
  rintro e w5 ⟨ttl, rfl, httl, hs5⟩
  go_wp2_with fail
  refine (next_any a 1024 (by unfold I64; omega) _ hs5.2).mono ?_
  rintro e w6 ⟨ent, rfl, hent, hs6⟩
  go_wp2_with fail
  refine (pick_any (fun r => 0 ≤ r ∧ r ≤ 256) a _ 0 5 5 (by omega) (by omega) _ (hs6.2.alloc _) (among_list _ w6 a [0, 1, 8, 255, 256] _ _ hs6.2.lt rfl (by decide))).mono ?_
  rintro e w7 ⟨ing, rfl, hing, hs7⟩
  go_wp2_with fail
  refine (next_any a 8 (by unfold I64; omega) _ hs7.2).mono ?_
  rintro e w8 ⟨pro, rfl, hpro, hs8⟩
  go_wp2_with fail
  refine (bits_any a len hlen _ hs8.2).mono ?_
  rintro e w9 ⟨bits, rfl, hbu, hbv, hs9⟩
  go_wp2_with fail
  refine (text_any a 6 (by decide) _ hs9.2).mono ?_
  rintro e w10 ⟨pay, rfl, hpay, hs10⟩
  have S' := ((((((((hs1.trans hs2).trans hs3).trans hs4.alloc_left).trans hs5.alloc_left).trans hs6).trans hs7.alloc_left).trans hs8).trans hs9).trans hs10
  have S := Lib.hid (S0.trans S')
  have HR := Lib.hid (kept_row HB.out S'.1 (fun e => by have := Option.some.inj e; omega))
  have hV : Hid (vpk ⟨mode, sub, set, len, ttl, ent, ing, pro, bits, pay⟩ = true ∧ (⟨mode, sub, set, len, ttl, ent, ing, pro, bits, pay⟩ : Pk).Wf) := by
    have r1 := hmode.1
    have r2 := hmode.2.1 (by decide)
    have r3 := hsub.1
    have r4 := hsub.2.1 (by decide)
    have r5 := hent.1
    have r6 := hent.2.1 (by decide)
    have r7 := hpro.1
    have r8 := hpro.2.1 (by decide)
    refine Lib.hid ⟨decide_eq_true ⟨⟨r1, r2⟩, ⟨r3, r4⟩, hset, httl, ⟨r5, by show ent ≤ 1023; omega⟩, hing, ⟨r7, by show pro ≤ 7; omega⟩, Nat.le_trans hpay (by decide), hbv⟩, ?_⟩
    have hl : I64 len := by rcases vl_cases hlen with h | h | h | h <;> rw [h] <;> (unfold I64; decide)
    obtain ⟨q1, q2⟩ := hset
    obtain ⟨q3, q4⟩ := httl
    obtain ⟨q5, q6⟩ := hing
    exact ⟨i64_small (x := mode) (by omega) (by omega), i64_small (x := sub) (by omega) (by omega), i64_small (x := set) (by omega) (by omega), hl, i64_small (x := ttl) (by omega) (by omega), i64_small (x := ent) (by omega) (by omega), i64_small (x := ing) (by omega) (by omega), i64_small (x := pro) (by omega) (by omega), hbu, Nat.le_trans hpay (by decide)⟩
  have g11 := World.grownBy_alloc w10 (.cells #[.int .i64 mode, .int .i64 sub, .int .i64 set, .int .i64 len, .int .i64 ttl, .int .i64 ent, .int .i64 ing, .int .i64 pro, .int .u64 (bits : Int), .string pay] 25) none
  have HR2 := Lib.hid (kept_row HR.out g11 (by simp))
  have S2 := Lib.hid (S.out.none_ g11)
  obtain ⟨⟨r0, r1, r2, r3, r4, r5, r6, r7, r8, r9⟩, f0, f1, f2, f3, f4, f5, f6, f7, f8, f9⟩ := zp_cells HR2.out
  clear S' S HR HB S0 S1 hs1 hs2 hs3 hs4 hs5 hs6 hs7 hs8 hs9 hs10 hmode hsub hset httl hent hing hpro hbu hbv hpay hlen g11
  go_wp2_with fail
  refine bodyPost_ret (res_packet rfl _ _ w.heap.size _ rfl rfl (pput_row _ _ _ _ _ _ _ _ _ _ HR2.out)) rfl ?_
  exact ⟨⟨mode, sub, set, len, ttl, ent, ing, pro, bits, pay⟩, rfl, hV.out.2, hV.out.1, S2.out.store (pput_grown _ w.heap.size _ _ _ _ _ _ _ _ _ _) (Nat.le_refl _) ha⟩
end Go.Proofs.YtnfgkakhdgiepaaDoor
