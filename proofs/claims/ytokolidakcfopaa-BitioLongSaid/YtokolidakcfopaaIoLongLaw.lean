/- BitioLong: the walk. -/
import Derived.Test.YtokolidakcfopaaIoAwake
import Derived.Test.YtokolidakcfopaaIoJoin
import Derived.Deep.RegionHeld3
namespace Go.Proofs.Ytokolidakcfopaa
open Go.RowKit Bs
theorem bt_zeros (M i : Nat) : bt (List.replicate M 0) i = false := by
  unfold bt
  rw [List.getD_eq_getElem?_getD, List.getElem?_replicate]
  split <;> simp
theorem vs_zeros {M N : Nat} (hM : M = (N + 7) / 8) (hN : N ≤ 8192) : vs (List.replicate M 0) (N : Int) = true := vs_iff.2 ⟨hN, by rw [List.length_replicate]; exact hM, fun i _ _ => bt_zeros M i⟩
theorem by_zeros (M : Nat) : By (List.replicate M 0) := fun x hx => by rw [List.eq_of_mem_replicate hx]; decide
theorem rd_zeros {w : World} {g T M C : Nat} (hB : Blk w g (List.replicate T 0)) (hM : M ≤ T) : Rd w (· < w.heap.size) (.slice (some ⟨g, 0, none⟩) (List.replicate M 0).length C) ((List.replicate M 0).map nv) := by
  refine ⟨_, C, by rw [List.length_map], fun _ => ⟨g, 0, rfl, hB.lt, fun i x hi => ?_⟩⟩
  have hB' : w.heap[g]? = some (.cells ((List.replicate T 0).map nv).toArray 5 (0, 0)) := hB
  rw [Nat.zero_add, cell_of_row _ _ _ _ _ _ hB']
  rw [List.map_replicate] at hi ⊢
  rw [List.getElem?_replicate] at hi
  split at hi
  · rw [List.getElem?_toArray, List.getElem?_replicate, if_pos (by omega)]; exact hi
  · cases hi
theorem append_zeros {g T M N K : Nat} {n k : Int} (hM : M = (N + 7) / 8) (hN : N ≤ 8192) (hT : M ≤ T) (hn : n = (N : Int)) (hk : k = (K : Int)) (hK : 1 ≤ K) (hK2 : K ≤ 64) (v : Nat) (hv : v < 2) {w : World} (hB : Blk w g (List.replicate T 0)) :
    Calls Try.prog 5 #[.agg #[.slice (some ⟨g, 0, none⟩) M T, .int .i64 n], .int .u64 (v : Int), .int .i64 k] w fun e w' => ∃ p c L m x, e = .returned (.tuple #[.agg #[.slice p L c, .int .i64 m], .int .i64 x]) ∧ w.grownBy w' none ∧ (if N + K ≤ 8192 then x = 0 ∧ m = n + k else x = 3) := by
  subst hn hk
  have h := appendp_any (List.replicate M 0) (N : Int) v (K : Int) _ (some ⟨g, 0, none⟩) T (by_zeros M) (by unfold U64; omega) w (fun _ h => h) (rd_zeros hB hT)
  rw [List.length_replicate] at h
  refine h.mono fun e w' hp => ?_
  obtain ⟨u, he, ⟨p, c, rfl, _⟩, hg⟩ := hp
  refine ⟨p, c, _, _, _, he, hg, ?_⟩
  have h2 : ¬ 2 ^ K ≤ v := by
    have : 2 ^ 1 ≤ 2 ^ K := Nat.pow_le_pow_right (by decide) hK
    omega
  have hw : vw (K : Int) = true := by unfold vw; simp; omega
  by_cases hl : N + K ≤ 8192
  · rw [if_pos hl, apV_ok (vs_zeros hM hN) hw h2 (by omega)]
    exact ⟨rfl, by show ((N + K : Nat) : Int) = _; omega⟩
  · rw [if_neg hl, apV_limit (vs_zeros hM hN) hw h2 (by omega)]
theorem join_zeros {g g2 T T2 M M2 N K : Nat} {n k : Int} (hM : M = (N + 7) / 8) (hN : N ≤ 8192) (hT : M ≤ T) (hn : n = (N : Int)) (hk : k = (K : Int)) (hK2 : K ≤ 64) (hM2 : M2 = (K + 7) / 8) (hT2 : M2 ≤ T2) {w : World} (hB : Blk w g (List.replicate T 0)) (hB2 : Blk w g2 (List.replicate T2 0)) :
    Calls Try.prog 6 #[.agg #[.slice (some ⟨g, 0, none⟩) M T, .int .i64 n], .agg #[.slice (some ⟨g2, 0, none⟩) M2 T2, .int .i64 k]] w fun e w' => ∃ p c L m x, e = .returned (.tuple #[.agg #[.slice p L c, .int .i64 m], .int .i64 x]) ∧ w.grownBy w' none ∧ (if N + K ≤ 8192 then x = 0 else x = 3) := by
  subst hn hk
  have h := joinp_any (List.replicate M 0) (List.replicate M2 0) (N : Int) (K : Int) _ (some ⟨g, 0, none⟩) (some ⟨g2, 0, none⟩) T T2 (by_zeros M) (by_zeros M2) w (fun _ h => h) (rd_zeros hB hT) (rd_zeros hB2 hT2)
  rw [List.length_replicate, List.length_replicate] at h
  refine h.mono fun e w' hp => ?_
  obtain ⟨u, he, ⟨p, c, rfl, _⟩, hg⟩ := hp
  refine ⟨p, c, _, _, _, he, hg, ?_⟩
  by_cases hl : N + K ≤ 8192
  · rw [if_pos hl, jnV_ok (vs_zeros hM hN) (vs_zeros hM2 (by omega)) rfl (by omega)]
  · rw [if_neg hl, jnV_limit (vs_zeros hM hN) (vs_zeros hM2 (by omega)) (by omega)]
section
variable {w w7 : World}
theorem two_zero (w : World) : Blk (w.alloc (.cells #[.int .u8 0, .int .u8 0] 5)) w.heap.size (List.replicate 2 0) := heap_alloc_new w _
theorem two_zero2 (w : World) (o : Obj) : Blk ((w.alloc (.cells #[.int .u8 0, .int .u8 0] 5)).alloc o) w.heap.size (List.replicate 2 0) := (two_zero w).keep (World.grownBy_alloc _ o none)
theorem size_new (w : World) (o : Obj) : (w.alloc o).heap.size = w.heap.size + 1 := by simp
theorem two_zero3 (w : World) (o : Obj) : Blk ((w.alloc o).alloc (.cells #[.int .u8 0, .int .u8 0] 5)) (w.heap.size + 1) (List.replicate 2 0) := by
  rw [← size_new w o]; exact two_zero _
theorem row_new {w : World} {b : Nat} {x y : Value} (o o2 : Obj) (h : w.heap[b]? = some (.cells #[x, y] 25 (0, 0))) :
    (w.cell? ⟨b, 0, none⟩ = some x ∧ w.cell? ⟨b, 1, none⟩ = some y) ∧ ((w.alloc o).cell? ⟨b, 0, none⟩ = some x ∧ (w.alloc o).cell? ⟨b, 1, none⟩ = some y) ∧ (((w.alloc o).alloc o2).cell? ⟨b, 0, none⟩ = some x ∧ ((w.alloc o).alloc o2).cell? ⟨b, 1, none⟩ = some y) :=
  have h1 := kept_row h (World.grownBy_alloc w o none) (by simp)
  ⟨row_cells h, row_cells h1, row_cells (kept_row h1 (World.grownBy_alloc _ o2 none) (by simp))⟩
theorem grown_undrew {w w7 : World} (g : w.drew.grownBy w7 none) : w.grownBy w7 none := ⟨g.os, g.tape, g.output, g.size, g.block⟩
theorem zbox3 {o : Obj} (g : (((w.alloc (.cells #[.slice none 0 0, .int .i64 0] 25)).alloc o).drew).grownBy w7 none) : w7.frozen? ⟨w.heap.size, 0, none⟩ = false ∧ w7.frozen? ⟨w.heap.size, 1, none⟩ = false ∧ w7.cell? ⟨w.heap.size, 0, none⟩ = some (.slice none 0 0) ∧ w7.cell? ⟨w.heap.size, 1, none⟩ = some (.int .i64 0) := by
  have h := kept_row (kept_row (heap_alloc_new w (.cells #[.slice none 0 0, .int .i64 0] 25)) (World.grownBy_alloc _ o none) (by simp)) (grown_undrew g) (by simp)
  exact ⟨frozen_of_row _ _ _ _ _ h, frozen_of_row _ _ _ _ _ h, row_cells h⟩
theorem zbox2 {o : Obj} (g : (((w.alloc o).alloc (.cells #[.slice none 0 0, .int .i64 0] 25)).drew).grownBy w7 none) : w7.frozen? ⟨w.heap.size + 1, 0, none⟩ = false ∧ w7.frozen? ⟨w.heap.size + 1, 1, none⟩ = false ∧ w7.cell? ⟨w.heap.size + 1, 0, none⟩ = some (.slice none 0 0) ∧ w7.cell? ⟨w.heap.size + 1, 1, none⟩ = some (.int .i64 0) := by
  have h := kept_row (heap_alloc_new (w.alloc o) (.cells #[.slice none 0 0, .int .i64 0] 25)) (grown_undrew g) (by simp)
  rw [size_new] at h
  exact ⟨frozen_of_row _ _ _ _ _ h, frozen_of_row _ _ _ _ _ h, row_cells h⟩
end
set_option maxRecDepth 100000 in
set_option maxHeartbeats 3200000 in
theorem long_walk (b x : Nat) (hb : b < 256) (w : World) :
    Calls Try.prog 3 #[.int .u8 (b : Int), .int .u64 (x : Int)] w fun e w' => e = .returned (.bool true) ∧ w.grownBy w' none := by
  go_enter Try.func3, Try.ntmps3
  go_wp2_with (at_make; refine wpList_make_bytes _ rfl _ _ rfl 1024 rfl rfl (by omega) ?_; intro g w3 hge hB3 hg3)
  have HB := Lib.hid (hB3.keep (World.grownBy_alloc w3 (.cells #[.slice (some ⟨g, 0, none⟩) ((8192 - b % 9 + 7) / 8) 1024, .int .i64 (8192 - (b : Int) % 9)] 25) none))
  have RA := Lib.hid (heap_alloc_new w3 (.cells #[.slice (some ⟨g, 0, none⟩) ((8192 - b % 9 + 7) / 8) 1024, .int .i64 (8192 - (b : Int) % 9)] 25))
  have G := Lib.hid (grown_trans hg3 (World.grownBy_alloc w3 (.cells #[.slice (some ⟨g, 0, none⟩) ((8192 - b % 9 + 7) / 8) 1024, .int .i64 (8192 - (b : Int) % 9)] 25) none))
  clear hge hB3 hg3
  generalize w3.alloc (.cells #[.slice (some ⟨g, 0, none⟩) ((8192 - b % 9 + 7) / 8) 1024, .int .i64 (8192 - (b : Int) % 9)] 25) = w4 at *
  refine (append_zeros (N := 8192 - b % 9) (K := b / 9 % 10 + 1) rfl (by omega) (by omega) (by omega) (by omega) (by omega) (by omega) (x % 2) (by omega) HB.out).mono ?_
  rintro e w5 ⟨p5, c5, L5, m5, x5, rfl, g5, h5⟩
  have HB5 := Lib.hid (HB.out.keep g5)
  have RA5 := Lib.hid (kept_row RA.out g5 (by simp))
  have G5 := Lib.hid (grown_trans G.out g5)
  clear g5 HB RA G
  obtain ⟨ca0, ca1⟩ := row_cells RA5.out
  by_cases h1 : b / 9 % 10 + 1 ≤ b % 9
  · rw [if_pos (by omega)] at h5
    obtain ⟨rfl, rfl⟩ := h5
    obtain ⟨ca0, ca1⟩ := row_cells (kept_row RA5.out (World.grownBy_alloc w5 (.cells #[.slice p5 L5 c5, .int .i64 (8192 - (b : Int) % 9 + ((b : Int) / 9 % 10 + 1))] 25) none) (by simp))
    go_wp2_with fail
    have HB6 := Lib.hid (HB5.out.keep (World.grownBy_alloc w5 (.cells #[.slice p5 L5 c5, .int .i64 (8192 - (b : Int) % 9 + ((b : Int) / 9 % 10 + 1))] 25) none))
    have G6 := Lib.hid (grown_trans G5.out (World.grownBy_alloc w5 (.cells #[.slice p5 L5 c5, .int .i64 (8192 - (b : Int) % 9 + ((b : Int) / 9 % 10 + 1))] 25) none))
    have RA6 := Lib.hid (kept_row RA5.out (World.grownBy_alloc w5 (.cells #[.slice p5 L5 c5, .int .i64 (8192 - (b : Int) % 9 + ((b : Int) / 9 % 10 + 1))] 25) none) (by simp))
    generalize w5.alloc (.cells #[.slice p5 L5 c5, .int .i64 (8192 - (b : Int) % 9 + ((b : Int) / 9 % 10 + 1))] 25) = w6 at *
    obtain ⟨⟨i0, i1⟩, ⟨i2, i3⟩, ⟨i4, i5⟩⟩ := row_new (.cells #[.int .u8 0, .int .u8 0] 5) (.cells #[.slice none 0 0, .int .i64 0] 25) RA6.out
    obtain ⟨_, ⟨j2, j3⟩, ⟨j4, j5⟩⟩ := row_new (.cells #[.slice none 0 0, .int .i64 0] 25) (.cells #[.int .u8 0, .int .u8 0] 5) RA6.out
    have e0 : IntKind.i64.wrap ((b : Int) / 9 % 10 + 7) = (b : Int) / 9 % 10 + 7 := by rw [IntKind.wrap_i64]; omega
    have e1 : IntKind.i64.wrap ((IntKind.i64.wrap ((b : Int) / 9 % 10 + 7)).tdiv 8) = (((b / 9 % 10 + 7) / 8 : Nat) : Int) := by
      rw [e0, Int.tdiv_eq_ediv_of_nonneg (by omega), IntKind.wrap_i64]; omega
    have e2 : 0 ≤ IntKind.i64.wrap ((IntKind.i64.wrap ((b : Int) / 9 % 10 + 7)).tdiv 8) := by rw [e1]; omega
    have e3 : IntKind.i64.wrap ((IntKind.i64.wrap ((b : Int) / 9 % 10 + 7)).tdiv 8) ≤ 2 := by rw [e1]; omega
    have E1 := Lib.hid e1
    clear e0 e1
    go_region_law (first
      | (go_simp; go_at_call 6; simp only [E1.out, Int.toNat_natCast]; refine (join_zeros (N := 8192 - b % 9) (K := b / 9 % 10) (T2 := 2) rfl (by omega) (by omega) (by omega) (by omega) (by omega) rfl (by omega) (HB6.out.keep ?_) ?_).mono ?_
         (focus (repeat (first | (with_reducible exact grown_refl _ _) | apply grown_drew | (with_reducible exact World.grownBy_alloc _ _ _) | refine grown_trans ?_ (World.grownBy_alloc _ _ _))))
         (focus (first | exact two_zero _ | exact two_zero2 _ _ | exact two_zero3 _ _))
         rintro e w7 ⟨p7, c7, L7, m7, x7, rfl, g7, h7⟩
         rw [if_pos (by omega)] at h7
         subst h7
         have GC : Hid (w6.grownBy w7 none) := (by refine Lib.hid (grown_trans ?_ g7); repeat (first | (with_reducible exact grown_refl _ _) | apply grown_drew | (with_reducible exact World.grownBy_alloc _ _ _) | refine grown_trans ?_ (World.grownBy_alloc _ _ _)))
         first | (have ZZ := zbox3 g7; obtain ⟨f0, f1, f2, f3⟩ := ZZ) | (have ZZ := zbox2 g7; obtain ⟨f0, f1, f2, f3⟩ := ZZ) | skip))
    all_goals
      go_wp2_with fail
      refine (awake_any _).mono ?_
      rintro e wz ⟨rfl, hz⟩
      have GF := Lib.hid (grown_trans G6.out (grown_trans (by first | exact grown_trans GC.out (World.grownBy_alloc _ _ _) | exact grown_new GC.out (grown_store2 _ _ _ _) (Nat.le_refl _) | exact grown_new GC.out (grown_store2 _ _ _ _) (Nat.le_succ _)) hz))
      clear hz
      go_wp2_with fail
      go_ret
      exact ⟨rfl, GF.out⟩
  · rw [if_neg (by omega)] at h5
    subst h5
    obtain ⟨ca0, ca1⟩ := row_cells (kept_row RA5.out (World.grownBy_alloc w5 (.cells #[.slice p5 L5 c5, .int .i64 m5] 25) none) (by simp))
    by_cases h2 : b / 9 % 10 ≤ b % 9
    · go_wp2_with fail
      have HB6 := Lib.hid (HB5.out.keep (World.grownBy_alloc w5 (.cells #[.slice p5 L5 c5, .int .i64 m5] 25) none))
      have G6 := Lib.hid (grown_trans G5.out (World.grownBy_alloc w5 (.cells #[.slice p5 L5 c5, .int .i64 m5] 25) none))
      have RA6 := Lib.hid (kept_row RA5.out (World.grownBy_alloc w5 (.cells #[.slice p5 L5 c5, .int .i64 m5] 25) none) (by simp))
      generalize w5.alloc (.cells #[.slice p5 L5 c5, .int .i64 m5] 25) = w6 at *
      obtain ⟨⟨i0, i1⟩, ⟨i2, i3⟩, ⟨i4, i5⟩⟩ := row_new (.cells #[.int .u8 0, .int .u8 0] 5) (.cells #[.slice none 0 0, .int .i64 0] 25) RA6.out
      obtain ⟨_, ⟨j2, j3⟩, ⟨j4, j5⟩⟩ := row_new (.cells #[.slice none 0 0, .int .i64 0] 25) (.cells #[.int .u8 0, .int .u8 0] 5) RA6.out
      have e0 : IntKind.i64.wrap ((b : Int) / 9 % 10 + 7) = (b : Int) / 9 % 10 + 7 := by rw [IntKind.wrap_i64]; omega
      have e1 : IntKind.i64.wrap ((IntKind.i64.wrap ((b : Int) / 9 % 10 + 7)).tdiv 8) = (((b / 9 % 10 + 7) / 8 : Nat) : Int) := by
        rw [e0, Int.tdiv_eq_ediv_of_nonneg (by omega), IntKind.wrap_i64]; omega
      have e2 : 0 ≤ IntKind.i64.wrap ((IntKind.i64.wrap ((b : Int) / 9 % 10 + 7)).tdiv 8) := by rw [e1]; omega
      have e3 : IntKind.i64.wrap ((IntKind.i64.wrap ((b : Int) / 9 % 10 + 7)).tdiv 8) ≤ 2 := by rw [e1]; omega
      have E1 := Lib.hid e1
      clear e0 e1
      go_region_law (first
        | (go_simp; go_at_call 6; simp only [E1.out, Int.toNat_natCast]; refine (join_zeros (N := 8192 - b % 9) (K := b / 9 % 10) (T2 := 2) rfl (by omega) (by omega) (by omega) (by omega) (by omega) rfl (by omega) (HB6.out.keep ?_) ?_).mono ?_
           (focus (repeat (first | (with_reducible exact grown_refl _ _) | apply grown_drew | (with_reducible exact World.grownBy_alloc _ _ _) | refine grown_trans ?_ (World.grownBy_alloc _ _ _))))
           (focus (first | exact two_zero _ | exact two_zero2 _ _ | exact two_zero3 _ _))
           rintro e w7 ⟨p7, c7, L7, m7, x7, rfl, g7, h7⟩
           rw [if_pos (by omega)] at h7
           subst h7
           have GC : Hid (w6.grownBy w7 none) := (by refine Lib.hid (grown_trans ?_ g7); repeat (first | (with_reducible exact grown_refl _ _) | apply grown_drew | (with_reducible exact World.grownBy_alloc _ _ _) | refine grown_trans ?_ (World.grownBy_alloc _ _ _)))
           first | (have ZZ := zbox3 g7; obtain ⟨f0, f1, f2, f3⟩ := ZZ) | (have ZZ := zbox2 g7; obtain ⟨f0, f1, f2, f3⟩ := ZZ) | skip))
      all_goals
        go_wp2_with fail
        refine (awake_any _).mono ?_
        rintro e wz ⟨rfl, hz⟩
        have GF := Lib.hid (grown_trans G6.out (grown_trans (by first | exact grown_trans GC.out (World.grownBy_alloc _ _ _) | exact grown_new GC.out (grown_store2 _ _ _ _) (Nat.le_refl _) | exact grown_new GC.out (grown_store2 _ _ _ _) (Nat.le_succ _)) hz))
        clear hz
        go_wp2_with fail
        go_ret
        exact ⟨rfl, GF.out⟩
    · go_wp2_with fail
      have HB6 := Lib.hid (HB5.out.keep (World.grownBy_alloc w5 (.cells #[.slice p5 L5 c5, .int .i64 m5] 25) none))
      have G6 := Lib.hid (grown_trans G5.out (World.grownBy_alloc w5 (.cells #[.slice p5 L5 c5, .int .i64 m5] 25) none))
      have RA6 := Lib.hid (kept_row RA5.out (World.grownBy_alloc w5 (.cells #[.slice p5 L5 c5, .int .i64 m5] 25) none) (by simp))
      generalize w5.alloc (.cells #[.slice p5 L5 c5, .int .i64 m5] 25) = w6 at *
      obtain ⟨⟨i0, i1⟩, ⟨i2, i3⟩, ⟨i4, i5⟩⟩ := row_new (.cells #[.int .u8 0, .int .u8 0] 5) (.cells #[.slice none 0 0, .int .i64 0] 25) RA6.out
      obtain ⟨_, ⟨j2, j3⟩, ⟨j4, j5⟩⟩ := row_new (.cells #[.slice none 0 0, .int .i64 0] 25) (.cells #[.int .u8 0, .int .u8 0] 5) RA6.out
      have e0 : IntKind.i64.wrap ((b : Int) / 9 % 10 + 7) = (b : Int) / 9 % 10 + 7 := by rw [IntKind.wrap_i64]; omega
      have e1 : IntKind.i64.wrap ((IntKind.i64.wrap ((b : Int) / 9 % 10 + 7)).tdiv 8) = (((b / 9 % 10 + 7) / 8 : Nat) : Int) := by
        rw [e0, Int.tdiv_eq_ediv_of_nonneg (by omega), IntKind.wrap_i64]; omega
      have e2 : 0 ≤ IntKind.i64.wrap ((IntKind.i64.wrap ((b : Int) / 9 % 10 + 7)).tdiv 8) := by rw [e1]; omega
      have e3 : IntKind.i64.wrap ((IntKind.i64.wrap ((b : Int) / 9 % 10 + 7)).tdiv 8) ≤ 2 := by rw [e1]; omega
      have E1 := Lib.hid e1
      clear e0 e1
      go_region_law (first
        | (go_simp; go_at_call 6; simp only [E1.out, Int.toNat_natCast]; refine (join_zeros (N := 8192 - b % 9) (K := b / 9 % 10) (T2 := 2) rfl (by omega) (by omega) (by omega) (by omega) (by omega) rfl (by omega) (HB6.out.keep ?_) ?_).mono ?_
           (focus (repeat (first | (with_reducible exact grown_refl _ _) | apply grown_drew | (with_reducible exact World.grownBy_alloc _ _ _) | refine grown_trans ?_ (World.grownBy_alloc _ _ _))))
           (focus (first | exact two_zero _ | exact two_zero2 _ _ | exact two_zero3 _ _))
           rintro e w7 ⟨p7, c7, L7, m7, x7, rfl, g7, h7⟩
           rw [if_neg (by omega)] at h7
           subst h7
           have GC : Hid (w6.grownBy w7 none) := (by refine Lib.hid (grown_trans ?_ g7); repeat (first | (with_reducible exact grown_refl _ _) | apply grown_drew | (with_reducible exact World.grownBy_alloc _ _ _) | refine grown_trans ?_ (World.grownBy_alloc _ _ _)))
           first | (have ZZ := zbox3 g7; obtain ⟨f0, f1, f2, f3⟩ := ZZ) | (have ZZ := zbox2 g7; obtain ⟨f0, f1, f2, f3⟩ := ZZ) | skip))
      all_goals
        go_wp2_with fail
        refine (awake_any _).mono ?_
        rintro e wz ⟨rfl, hz⟩
        have GF := Lib.hid (grown_trans G6.out (grown_trans (by first | exact grown_trans GC.out (World.grownBy_alloc _ _ _) | exact grown_new GC.out (grown_store2 _ _ _ _) (Nat.le_refl _) | exact grown_new GC.out (grown_store2 _ _ _ _) (Nat.le_succ _)) hz))
        clear hz
        go_wp2_with fail
        go_ret
        refine ⟨?_, GF.out⟩
        rw [show decide ((b : Int) / 9 % 10 ≤ (b : Int) % 9) = false from decide_eq_false (by omega)]
        rfl
end Go.Proofs.Ytokolidakcfopaa
