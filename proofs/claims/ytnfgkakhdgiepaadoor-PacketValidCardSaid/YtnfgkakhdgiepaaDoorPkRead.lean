/- packet: the header of a packet is read. -/
import Derived.Test.YtnfgkakhdgiepaaDoorPkRes
import Derived.Deep.CutRange
namespace Go.Proofs.YtnfgkakhdgiepaaDoor
open Go.RowKit Bs
set_option maxRecDepth 100000 in
set_option maxHeartbeats 3200000 in
theorem readHeader_any (l : List Nat) (hl : By l) (h7 : 7 ≤ l.length ∧ l.length ≤ 1000) (q : Nat → Prop) (p : Option Addr) (c : Nat) (w : World) (hR : Rd w q (.slice p l.length c) (l.map nv)) :
    Calls Tryd.prog 81 #[.slice p l.length c] w fun e w' => e = .returned (hval (fv l) (8 * 2 ^ fv l 4)) ∧ w.grownBy w' none := by
  obtain ⟨h71, h72⟩ := h7
  obtain ⟨k1, k2, k3, k4, k5⟩ := three_new w (.cells #[.int .i64 0, .int .i64 0, .int .i64 0, .int .i64 0, .int .i64 0, .int .i64 0, .int .i64 0, .int .i64 0, .int .i64 0, .int .u64 0, .string ⟨#[]⟩, .int .i64 0, .int .i64 0] 101) (.cells #[.int .i64 0, .int .i64 0, .int .i64 0, .int .i64 0, .int .i64 0, .int .i64 0, .int .i64 0, .int .i64 0, .int .i64 0, .int .u64 0, .string ⟨#[]⟩, .int .i64 0, .int .i64 0] 101) (.cells #[.slice p l.length c, .int .i64 (8 * (l.length : Int))] 91)
  have HA := Lib.hid (And.intro k1 (And.intro k2 (And.intro k3 (And.intro k4 k5))))
  have HR := Lib.hid (hR.bound.keep k4)
  clear k1 k2 k3 k4 k5 hR
  go_enter Tryd.func81, Tryd.ntmps81
  go_wp2_with fail
  generalize ((w.alloc (.cells #[.int .i64 0, .int .i64 0, .int .i64 0, .int .i64 0, .int .i64 0, .int .i64 0, .int .i64 0, .int .i64 0, .int .i64 0, .int .u64 0, .string ⟨#[]⟩, .int .i64 0, .int .i64 0] 101)).alloc (.cells #[.int .i64 0, .int .i64 0, .int .i64 0, .int .i64 0, .int .i64 0, .int .i64 0, .int .i64 0, .int .i64 0, .int .i64 0, .int .u64 0, .string ⟨#[]⟩, .int .i64 0, .int .i64 0] 101)).alloc (.cells #[.slice p l.length c, .int .i64 (8 * (l.length : Int))] 91) = wa at *
  refine (fields_any (w.heap.size + 1) _).mono ?_
  rintro e w5 ⟨g, rfl, hfb, hge, hg5⟩
  have HG : Hid (w.heap.size + 2 < g) := Lib.hid (by rw [HA.out.2.2.2.2] at hge; omega)
  have H0 : Hid (RD w l p c (fv l) g 0 w5) := Lib.hid ⟨hfb, kept_row HA.out.2.1 hg5 (by simp), kept_row HA.out.2.2.1 hg5 (by simp), kept_row HA.out.1 hg5 (by simp), HR.out.keep hg5, grown_trans HA.out.2.2.2.1 hg5⟩
  clear hfb hge hg5 HA HR
  go_wp2_with fail
  go_loopw [5, 17] (fun at_ i wr => ∃ k : Nat, k ≤ 10 ∧ i = .int .i64 (k : Int) ∧ at_ = .int .i64 ((offs.getD k 0 : Nat) : Int) ∧ Hid (RD w l p c (fv l) g k wr)) (fun _ i _ => (10 - (intOf i).toNat))
  case atStart => exact ⟨0, Nat.zero_le _, rfl, rfl, H0⟩
  case round =>
    obtain ⟨k, hk, rfl, rfl, hR⟩ := hrel
    clear H0
    by_cases hk2 : k < 10
    · obtain ⟨o, hc0, hc1, hc2, ho, hof, hwd, hle⟩ := read_at (fv l) (w.heap.size + 1) k hk2
      have hfv : fv l k = num (bt l) (offs.getD k 0) (wids.getD k 0) := rfl
      have d0 := (cell_of_row _ _ _ _ _ _ hR.out.fb).trans hc0
      have d1 := (cell_of_row _ _ _ _ _ _ hR.out.fb).trans hc1
      have hxlt : fv l k < 2 ^ (wids.getD k 0) := num_lt _ _ _
      obtain ⟨a2, ha2⟩ : ∃ a2, a2 = offs.getD (k + 1) 0 := ⟨_, rfl⟩
      rw [← ha2] at hof
      generalize offs.getD k 0 = a at *
      generalize wids.getD k 0 = wd at *
      have hok := takeV_ok (l := l) (n := ((8 * l.length : Nat) : Int)) (a := ((a : Nat) : Int)) (k := ((wd : Nat) : Int)) (vs_whole (by omega)) (by unfold vw; simp; omega) (by omega) (by omega)
      rw [Int.toNat_natCast, Int.toNat_natCast, ← hfv, Int.natCast_mul] at hok
      change takeV l (8 * (l.length : Int)) _ _ = _ at hok
      have hx10 : fv l k < 1024 := Nat.lt_of_lt_of_le hxlt (Nat.pow_le_pow_right (n := 2) (by decide) hwd)
      have HO := Lib.hid (And.intro ho hof)
      have HC2 := Lib.hid hc2
      have HA2 := Lib.hid ha2
      have HX := Lib.hid hok
      have HR := hR
      clear hc0 hc1 hc2 hR ho hof hok hxlt hfv ha2
      go_upto_region 7 with fail
      have HRf := Lib.hid (HR.out.keep (World.grownBy_alloc wr (.cells #[.pointer (some ⟨w.heap.size + 1, o, none⟩), .int .i64 (wd : Int)] 124) none))
      have RF := Lib.hid (heap_alloc_new wr (.cells #[.pointer (some ⟨w.heap.size + 1, o, none⟩), .int .i64 (wd : Int)] 124))
      clear d0 d1 HR
      generalize wr.alloc (.cells #[.pointer (some ⟨w.heap.size + 1, o, none⟩), .int .i64 (wd : Int)] 124) = wf at *
      have x0 : wf.cell? ⟨wr.heap.size, 0, none⟩ = some (.pointer (some ⟨w.heap.size + 1, o, none⟩)) := cell_of_row _ _ _ _ _ _ RF.out
      have x1 : wf.cell? ⟨wr.heap.size, 1, none⟩ = some (.int .i64 (wd : Int)) := cell_of_row _ _ _ _ _ _ RF.out
      have s0 : wf.cell? ⟨w.heap.size + 1 + 1, 0, none⟩ = some (.slice p l.length c) := cell_of_row _ _ _ _ _ _ HRf.out.sb
      have s1 : wf.cell? ⟨w.heap.size + 1 + 1, 1, none⟩ = some (.int .i64 (8 * (l.length : Int))) := cell_of_row _ _ _ _ _ _ HRf.out.sb
      go_wp2_with fail
      refine (takep_any l (8 * (l.length : Int)) (a : Int) (wd : Int) _ p c hl (by unfold I64; omega) _ HRf.out.rd).mono ?_
      rintro e w7 ⟨rfl, hg⟩
      rw [HX.out]
      have H7 := Lib.hid (HRf.out.keep hg)
      have hrf := kept_row RF.out hg (by simp)
      have x0 : w7.cell? ⟨wr.heap.size, 0, none⟩ = some (.pointer (some ⟨w.heap.size + 1, o, none⟩)) := cell_of_row _ _ _ _ _ _ hrf
      have x1 : w7.cell? ⟨wr.heap.size, 1, none⟩ = some (.int .i64 (wd : Int)) := cell_of_row _ _ _ _ _ _ hrf
      have t0 := (cell_of_row _ _ _ _ _ _ H7.out.hb).trans HC2.out
      have t1 := frozen_of_row _ _ o _ _ H7.out.hb
      have hne : w.heap.size + 1 ≠ wr.heap.size := fun e => by
        have h1 := RF.out
        rw [← e, HRf.out.hb] at h1
        cases h1
      have H8 := Lib.hid (H7.out.turn HG.out HO.out.1)
      clear hg hrf s0 s1 RF HRf
      go_wp2_with fail
      go_roundw
      case rel => exact ⟨k + 1, by omega, by go_num, by rw [← HA2.out, HO.out.2]; go_num, H8⟩
      case measure => simp [intOf]; omega
    · obtain rfl : k = 10 := by omega
      obtain ⟨c0, c1, c2, c3, c4, c5, c6, c7, c8, c9, c10, c11, c12⟩ := r_cells hR.out.hb
      obtain ⟨z0, z1, z2, z3, z4, z5, z6, z7, z8, z9, z10, z11, z12⟩ := z_cells hR.out.rb
      obtain ⟨f0, f1, f2, f3, f4, f5, f6, f7, f8, f9, f10, f11, f12⟩ := h_facts hR.out.rb
      have fh := frozen_of_row _ _ 4 _ _ hR.out.hb
      have hx4 : fv l 4 < 4 := num_lt _ _ 2
      go_wp2_with fail
      have hw : wrap64 (8 * 2 ^ fv l 4) = 8 * 2 ^ fv l 4 := by
        rcases (show fv l 4 = 0 ∨ fv l 4 = 1 ∨ fv l 4 = 2 ∨ fv l 4 = 3 by omega) with h | h | h | h <;> rw [h] <;> decide +kernel
      rw [hw]
      have gh := grown_setCell wr ⟨w.heap.size + 1, 4, none⟩ (.int .i64 (8 * 2 ^ fv l 4))
      have hrb := kept_row hR.out.rb gh (fun e => by have : w.heap.size = w.heap.size + 1 := Option.some.inj e; omega)
      have gr1 := grown_new hR.out.gr gh (by show w.heap.size ≤ w.heap.size + 1; omega)
      refine bodyPost_ret (res_header rfl _ _ w.heap.size _ rfl rfl (hput_row _ _ _ _ _ _ _ _ _ _ _ _ _ hrb)) rfl ?_
      exact ⟨rfl, grown_new gr1 (hput_grown _ w.heap.size _ _ _ _ _ _ _ _ _ _ _ _ _) (Nat.le_refl _)⟩
end Go.Proofs.YtnfgkakhdgiepaaDoor
