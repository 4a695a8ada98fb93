/- BitioTakes: the walk. -/
import Derived.Test.YthnjiknmlakkkaaIoJoinsLaw
import Derived.Deep.RegionHeld3
namespace Go.Proofs.Ythnjiknmlakkkaa
open Go.RowKit Bs
section
variable {w : World} {p : Option Addr} {c : Nat} {l : List Nat}
theorem takep_st (h : Hid (Std w p c l)) (n a k : Int) (ha : I64 a) : Calls Try.prog 22 #[.agg #[.slice p l.length c, .int .i64 n], .int .i64 a, .int .i64 k] w fun e w' => TakePost l n a k w e w' :=
  takep_any l n a k _ p c h.out.2.2 ha w h.out.1
theorem taker_st (h : Hid (Std w p c l)) (n a k : Int) (ha : I64 a) : Calls Try.prog 23 #[.agg #[.slice p l.length c, .int .i64 n], .int .i64 a, .int .i64 k] w fun e w' => TakePost l n a k w e w' :=
  taker_any l n a k _ p c h.out.2.2 ha w (fun _ hb => hb) h.out.1
theorem slicep_st (h : Hid (Std w p c l)) (n a k : Int) (ha : I64 a) (hk : I64 k) : Calls Try.prog 24 #[.agg #[.slice p l.length c, .int .i64 n], .int .i64 a, .int .i64 k] w fun e w' => SPost (slV l n a k) w e w' :=
  slicep_any l n a k _ p c h.out.2.2 ha hk w (fun _ hb => hb) h.out.1
theorem slicer_st (h : Hid (Std w p c l)) (n a k : Int) (ha : I64 a) (hk : I64 k) : Calls Try.prog 25 #[.agg #[.slice p l.length c, .int .i64 n], .int .i64 a, .int .i64 k] w fun e w' => RPost (slV l n a k) w e w' :=
  slicer_any l n a k _ p c h.out.2.2 ha hk w (fun _ hb => hb) h.out.1
end
section
variable {w0 w : World} {p : Option Addr} {c : Nat} {l : List Nat}
theorem takep_at (g : Hid (w0.grownBy w none)) (h : Hid (Std w0 p c l)) (n a k : Int) (ha : I64 a) : Calls Try.prog 22 #[.agg #[.slice p l.length c, .int .i64 n], .int .i64 a, .int .i64 k] w fun e w' => TakePost l n a k w e w' := takep_st (Std.keep h g.out) n a k ha
theorem taker_at (g : Hid (w0.grownBy w none)) (h : Hid (Std w0 p c l)) (n a k : Int) (ha : I64 a) : Calls Try.prog 23 #[.agg #[.slice p l.length c, .int .i64 n], .int .i64 a, .int .i64 k] w fun e w' => TakePost l n a k w e w' := taker_st (Std.keep h g.out) n a k ha
theorem slicep_at (g : Hid (w0.grownBy w none)) (h : Hid (Std w0 p c l)) (n a k : Int) (ha : I64 a) (hk : I64 k) : Calls Try.prog 24 #[.agg #[.slice p l.length c, .int .i64 n], .int .i64 a, .int .i64 k] w fun e w' => SPost (slV l n a k) w e w' := slicep_st (Std.keep h g.out) n a k ha hk
theorem slicer_at (g : Hid (w0.grownBy w none)) (h : Hid (Std w0 p c l)) (n a k : Int) (ha : I64 a) (hk : I64 k) : Calls Try.prog 25 #[.agg #[.slice p l.length c, .int .i64 n], .int .i64 a, .int .i64 k] w fun e w' => RPost (slV l n a k) w e w' := slicer_st (Std.keep h g.out) n a k ha hk
end
/-- What a zero struct's block holds are no bytes: a stream's data lie elsewhere. -/
theorem rd_ne {w : World} {q : Nat → Prop} {B k c : Nat} {p : Option Addr} {l : List Nat} (row : w.heap[B]? = some (.cells #[.slice none 0 0, .int .i64 0] 25 (0, 0))) (hR : Rd w q (.slice p k c) (l.map nv)) : Rd w (· ≠ B) (.slice p k c) (l.map nv) := by
  obtain ⟨p1, c1, hv, hc⟩ := hR
  refine ⟨p1, c1, hv, fun hne => ?_⟩
  obtain ⟨b, off, hp, _, hx⟩ := hc hne
  refine ⟨b, off, hp, ?_, hx⟩
  rintro rfl
  cases l with
  | nil => exact hne rfl
  | cons y r =>
    have h0 := hx 0 (nv y) rfl
    rw [cell_of_row _ _ _ _ _ _ row] at h0
    match off, h0 with
    | 0, h0 => simp [nv] at h0
    | 1, h0 => simp [nv] at h0
    | off + 2, h0 => simp at h0
/-- A zero struct that was laid ahead of the call. -/
theorem new_cells {w0 w2 : World} (hap : ((w0.alloc (.cells #[.slice none 0 0, .int .i64 0] 25)).drew).grownBy w2 none) :
    w2.cell? ⟨w0.heap.size, 0, none⟩ = some (.slice none 0 0) ∧ w2.cell? ⟨w0.heap.size, 1, none⟩ = some (.int .i64 0) ∧ w2.frozen? ⟨w0.heap.size, 0, none⟩ = false ∧ w2.frozen? ⟨w0.heap.size, 1, none⟩ = false ∧
      Hid (w2.heap[w0.heap.size]? = some (.cells #[.slice none 0 0, .int .i64 0] 25 (0, 0))) := by
  have row := kept_row (w := (w0.alloc (.cells #[.slice none 0 0, .int .i64 0] 25)).drew) (heap_alloc_new w0 _) hap (by simp)
  exact ⟨(row_cells row).1, (row_cells row).2, frozen_of_row _ _ _ _ _ row, frozen_of_row _ _ _ _ _ row, Lib.hid row⟩
theorem Std.stored {w : World} {B c : Nat} {p : Option Addr} {l : List Nat} {x y : Value} (h : Hid (Std w p c l)) (row : Hid (w.heap[B]? = some (.cells #[.slice none 0 0, .int .i64 0] 25 (0, 0)))) :
    Hid (Std ((w.setCell ⟨B, 0, none⟩ x).setCell ⟨B, 1, none⟩ y) p c l) :=
  Lib.hid ⟨((rd_ne row.out h.out.1).grown (grown_store2 w B x y) (by intro b hb e; exact hb (Option.some.inj e))).bound, h.out.2.1, h.out.2.2⟩
/-- The six numbers of the three places. -/
def Six (w : World) (b : Nat) (xs : Array Value) : Prop := w.heap[b]? = some (.cells xs 42 (0, 0))
theorem Six.keep {w w' : World} {b : Nat} {xs : Array Value} (h : Hid (Six w b xs)) (g : w.grownBy w' none) : Hid (Six w' b xs) := Lib.hid (kept_row h.out g (by simp))
theorem i64_range {r a b : Int} (h : RangeOf a b r) (h1 : a ≤ b) (h2 : -1000 ≤ a) (h3 : b ≤ 1000) : I64 r := by
  have := h.1
  have := h.2.1 h1
  unfold I64; omega
theorem i64_cut {r n : Int} (h : CutOf n r) (h1 : 1 ≤ n) (h2 : n ≤ 1000) : I64 r := by
  have := h.1
  have := h.2.1 h1
  unfold I64; omega
set_option maxRecDepth 100000 in
set_option maxHeartbeats 6400000 in
theorem takes_walk (v : Value) (x1 y1 : Int) (hx1 : I64 x1) (hy1 : I64 y1) (w : World) (hv : IntsIn w v) :
    Calls Try.prog 5 #[v, .int .i64 x1, .int .i64 y1] w fun e w' => e = .returned (.bool true) ∧ w.grownBy w' none := by
  go_enter Try.func5, Try.ntmps5
  go_wp2_with fail
  refine (new_any v w hv).mono ?_
  rintro e w2 ⟨rfl, hg1, hT1⟩
  have hlt := hT1.lt
  go_wp2_with fail
  refine (stream1_any _ 90 6 (by omega) (by unfold I64; omega) (by omega) _ hT1).mono ?_
  rintro e w3 ⟨l, n, ⟨p, c, rfl, hown⟩, _, hs⟩
  obtain ⟨r1, r2⟩ := box_new w3 (.slice p l.length c) (.int .i64 n)
  have hT3 := hs.2.keep r2
  have g13 := Lib.hid (grown_trans (grown_tape hg1 hs.1) r2)
  have O1 := hown.keep r2
  have hlt3 : w.heap.size < w3.heap.size := by have := hs.1.size; omega
  clear hs hg1 hT1 hv r2 hown
  go_wp2_with fail
  generalize w3.alloc (.cells #[.slice p l.length c, .int .i64 n] 25) = w4 at *
  refine (range_any _ (-1) 95 (by omega) (by omega) (by omega) (by omega) _ hT3).mono ?_
  rintro e w5 ⟨x2, rfl, hx2, hs5⟩
  have hx2 := i64_range hx2 (by omega) (by omega) (by omega)
  go_wp2_with fail
  refine (range_any _ (-1) 66 (by omega) (by omega) (by omega) (by omega) _ hs5.2).mono ?_
  rintro e w6 ⟨y2, rfl, hy2, hs6⟩
  have hy2 := i64_range hy2 (by omega) (by omega) (by omega)
  go_wp2_with fail
  refine (next_any _ 40 (by unfold I64; omega) _ hs6.2).mono ?_
  rintro e w7 ⟨x3, rfl, hx3, hs7⟩
  have hx3 := i64_cut hx3 (by omega) (by omega)
  go_wp2_with fail
  refine (next_any _ 40 (by unfold I64; omega) _ hs7.2).mono ?_
  rintro e w8 ⟨y3, rfl, hy3, hs8⟩
  have hy3 := i64_cut hy3 (by omega) (by omega)
  have S48 := ((hs5.trans hs6).trans hs7).trans hs8
  have hga := World.grownBy_alloc w8 (.cells #[.int .i64 x1, .int .i64 y1, .int .i64 x2, .int .i64 y2, .int .i64 x3, .int .i64 y3] 42) none
  have G := Lib.hid (grown_trans (grown_tape g13.out S48.1) hga)
  have S := ((O1.other S48.1 (by omega)).keep hga).std
  have R : Hid (Row2 (w8.alloc (.cells #[.int .i64 x1, .int .i64 y1, .int .i64 x2, .int .i64 y2, .int .i64 x3, .int .i64 y3] 42)) w3.heap.size (.slice p l.length c) (.int .i64 n)) := Lib.hid (kept_row (kept_row r1.out S48.1 (by intro e; have := Option.some.inj e; omega)) hga (by simp))
  have X : Hid (Six (w8.alloc (.cells #[.int .i64 x1, .int .i64 y1, .int .i64 x2, .int .i64 y2, .int .i64 x3, .int .i64 y3] 42)) w8.heap.size #[.int .i64 x1, .int .i64 y1, .int .i64 x2, .int .i64 y2, .int .i64 x3, .int .i64 y3]) := Lib.hid (heap_alloc_new w8 _)
  clear hs5 hs6 hs7 hs8 S48 hga O1 r1 g13 hT3 hlt hlt3
  go_wp2_with fail
  generalize w8.alloc (.cells #[.int .i64 x1, .int .i64 y1, .int .i64 x2, .int .i64 y2, .int .i64 x3, .int .i64 y3] 42) = w9 at *
  go_loopw [10] (fun i wr => ∃ j : Nat, j ≤ 3 ∧ i = .int .i64 (j : Int) ∧ w9.grownBy wr none) (fun i _ => (3 - (intOf i).toNat))
  case atStart => exact ⟨0, Nat.zero_le _, rfl, grown_refl _ _⟩
  case round =>
    obtain ⟨j, hj, rfl, hgr⟩ := hrel
    have S1 := Std.keep S hgr
    have R1 := Row2.keep R hgr
    have X1 := Six.keep X hgr
    have G1 := Lib.hid hgr
    clear hgr
    by_cases hlt : j < 3
    · obtain ⟨x, y, hx, hy, cx, cy⟩ : ∃ x y : Int, I64 x ∧ I64 y ∧ wr.cell? ⟨w8.heap.size, j * 2, none⟩ = some (.int .i64 x) ∧ wr.cell? ⟨w8.heap.size, j * 2 + 1, none⟩ = some (.int .i64 y) := by
        rcases (show j = 0 ∨ j = 1 ∨ j = 2 by omega) with rfl | rfl | rfl
        · exact ⟨x1, y1, hx1, hy1, cell_of_row _ _ _ _ _ _ X1.out, cell_of_row _ _ _ _ _ _ X1.out⟩
        · exact ⟨x2, y2, hx2, hy2, cell_of_row _ _ _ _ _ _ X1.out, cell_of_row _ _ _ _ _ _ X1.out⟩
        · exact ⟨x3, y3, hx3, hy3, cell_of_row _ _ _ _ _ _ X1.out, cell_of_row _ _ _ _ _ _ X1.out⟩
      have CX := Lib.hid cx
      have CY := Lib.hid cy
      clear cx cy X1
      obtain ⟨a1, a2, ht⟩ : ∃ a1 a2, takeV l n x y = (a1, a2) := ⟨_, _, rfl⟩
      have HT := Lib.hid ht
      obtain ⟨L2, N2, E2, hsl⟩ : ∃ L2 N2 E2, slV l n x y = (L2, N2, E2) := ⟨_, _, _, rfl⟩
      have HS := Lib.hid hsl
      clear ht hsl
      obtain ⟨c0, c1⟩ := Row2.cells R1
      have cx := CX.out
      have cy := CY.out
      go_wp2_with fail
      go_region_held3 (fun w' => w'.cell? ⟨w3.heap.size, 0, none⟩ = some (.slice p l.length c) ∧ w'.cell? ⟨w3.heap.size, 1, none⟩ = some (.int .i64 n) ∧ w'.cell? ⟨w8.heap.size, j * 2, none⟩ = some (.int .i64 x) ∧ w'.cell? ⟨w8.heap.size, j * 2 + 1, none⟩ = some (.int .i64 y) ∧ Hid (wr.grownBy w' none))
        (first | exact ⟨c0, c1, cx, cy, hid_drew0 wr⟩ | (go_split_ands; refine keep4 (w0 := wr) ?_ hap c0 c1 cx cy; assumption) | (go_split_ands; refine keep4 (w0 := wr) ?_ (World.grownBy_alloc _ _ none) c0 c1 cx cy; assumption))
        ((go_at_call 22; go_split_ands; refine (takep_at (w0 := wr) ?_ S1 n x y hx).mono ?_; assumption; intro e wb h; unfold TakePost at h; rw [HT.out] at h; obtain ⟨rfl, hap⟩ := h))
      go_split_ands
      have GW : Hid (wr.grownBy wb none) := by assumption
      have S1 := Std.keep S1 GW.out
      have R1 := Row2.keep R1 GW.out
      have G1 := Lib.hid (grown_trans G1.out GW.out)
      have CX := Lib.hid ((GW.out).cell CX.out (by simp))
      have CY := Lib.hid ((GW.out).cell CY.out (by simp))
      clear hap GW c0 c1 cx cy
      obtain ⟨c0, c1⟩ := Row2.cells R1
      have cx := CX.out
      have cy := CY.out
      go_wp2_with fail
      go_region_held3 (fun w' => w'.cell? ⟨w3.heap.size, 0, none⟩ = some (.slice p l.length c) ∧ w'.cell? ⟨w3.heap.size, 1, none⟩ = some (.int .i64 n) ∧ w'.cell? ⟨w8.heap.size, j * 2, none⟩ = some (.int .i64 x) ∧ w'.cell? ⟨w8.heap.size, j * 2 + 1, none⟩ = some (.int .i64 y) ∧ Hid (wb.grownBy w' none))
        (first | exact ⟨c0, c1, cx, cy, hid_drew0 wb⟩ | (go_split_ands; refine keep4 (w0 := wb) ?_ hap c0 c1 cx cy; assumption) | (go_split_ands; refine keep4 (w0 := wb) ?_ (World.grownBy_alloc _ _ none) c0 c1 cx cy; assumption))
        ((go_at_call 23; go_split_ands; refine (taker_at (w0 := wb) ?_ S1 n x y hx).mono ?_; assumption; intro e wd h; unfold TakePost at h; rw [HT.out] at h; obtain ⟨rfl, hap⟩ := h))
      go_split_ands
      have GW : Hid (wb.grownBy wd none) := by assumption
      have S1 := Std.keep S1 GW.out
      have R1 := Row2.keep R1 GW.out
      have G1 := Lib.hid (grown_trans G1.out GW.out)
      have CX := Lib.hid ((GW.out).cell CX.out (by simp))
      have CY := Lib.hid ((GW.out).cell CY.out (by simp))
      clear hap GW c0 c1 cx cy HT
      obtain ⟨c0, c1⟩ := Row2.cells R1
      have cx := CX.out
      have cy := CY.out
      go_wp2_with fail
      go_region_held3 (fun w' => w'.cell? ⟨w3.heap.size, 0, none⟩ = some (.slice p l.length c) ∧ w'.cell? ⟨w3.heap.size, 1, none⟩ = some (.int .i64 n) ∧ w'.cell? ⟨w8.heap.size, j * 2, none⟩ = some (.int .i64 x) ∧ w'.cell? ⟨w8.heap.size, j * 2 + 1, none⟩ = some (.int .i64 y) ∧ Hid (wd.grownBy w' none))
        (first | exact ⟨c0, c1, cx, cy, hid_drew0 wd⟩ | (go_split_ands; refine keep4 (w0 := wd) ?_ hap c0 c1 cx cy; assumption) | (go_split_ands; refine keep4 (w0 := wd) (hid_refl _) (grown_drew (World.grownBy_alloc wd _ none)) c0 c1 cx cy) | (go_split_ands; refine keep4 (w0 := wd) (hid_refl _) (grown_trans GC.out (World.grownBy_alloc wf _ none)) c0 c1 cx cy) | (go_split_ands; refine keep4 (w0 := wd) (hid_refl _) (grown_new GC.out (grown_store2 wf _ _ _) (Nat.le_refl _)) c0 c1 cx cy))
        ((go_at_call 24; go_split_ands; refine (slicep_at (w0 := wd) ?_ S1 n x y hx hy).mono ?_; assumption; intro e wf h; rw [HS.out] at h; obtain ⟨pu, cu, rfl, Su, hap⟩ := h.std; have GC : Hid (wd.grownBy wf none) := (by refine Lib.hid (grown_trans (Hid.out (p := wd.grownBy _ none) ?_) hap); assumption); first | (have ZZ := new_cells hap; obtain ⟨z0, z1, z2, z3, ZR⟩ := ZZ) | skip))
      all_goals
        first
          | (have Ru : Hid (Row2 ((wf.setCell ⟨wd.heap.size, 0, none⟩ (.slice pu L2.length cu)).setCell ⟨wd.heap.size, 1, none⟩ (.int .i64 N2)) wd.heap.size (.slice pu L2.length cu) (.int .i64 N2)) := Lib.hid (store2 ZR.out)
             have Su : Hid (Std ((wf.setCell ⟨wd.heap.size, 0, none⟩ (.slice pu L2.length cu)).setCell ⟨wd.heap.size, 1, none⟩ (.int .i64 N2)) pu cu L2) := Std.stored Su ZR
             have GW : Hid (wd.grownBy ((wf.setCell ⟨wd.heap.size, 0, none⟩ (.slice pu L2.length cu)).setCell ⟨wd.heap.size, 1, none⟩ (.int .i64 N2)) none) := Lib.hid (grown_new GC.out (grown_store2 wf wd.heap.size _ _) (Nat.le_refl _))
             clear ZR z0 z1 z2 z3
             generalize ((wf.setCell ⟨wd.heap.size, 0, none⟩ (.slice pu L2.length cu)).setCell ⟨wd.heap.size, 1, none⟩ (.int .i64 N2)) = wg at *)
          | (have Ru : Hid (Row2 (wf.alloc (.cells #[.slice pu L2.length cu, .int .i64 N2] 25)) wf.heap.size (.slice pu L2.length cu) (.int .i64 N2)) := (box_new wf (.slice pu L2.length cu) (.int .i64 N2)).1
             have Su : Hid (Std (wf.alloc (.cells #[.slice pu L2.length cu, .int .i64 N2] 25)) pu cu L2) := Std.keep Su (World.grownBy_alloc wf _ none)
             have GW : Hid (wd.grownBy (wf.alloc (.cells #[.slice pu L2.length cu, .int .i64 N2] 25)) none) := Lib.hid (grown_trans GC.out (World.grownBy_alloc wf _ none))
             generalize (wf.alloc (.cells #[.slice pu L2.length cu, .int .i64 N2] 25)) = wg at *)
        have S1 := Std.keep S1 GW.out
        have R1 := Row2.keep R1 GW.out
        have G1 := Lib.hid (grown_trans G1.out GW.out)
        have CX := Lib.hid ((GW.out).cell CX.out (by simp))
        have CY := Lib.hid ((GW.out).cell CY.out (by simp))
        clear hap GC GW c0 c1 cx cy
        obtain ⟨c0, c1⟩ := Row2.cells R1
        have cx := CX.out
        have cy := CY.out
        go_wp2_with fail
        go_region_held3 (fun w' => w'.cell? ⟨w3.heap.size, 0, none⟩ = some (.slice p l.length c) ∧ w'.cell? ⟨w3.heap.size, 1, none⟩ = some (.int .i64 n) ∧ w'.cell? ⟨w8.heap.size, j * 2, none⟩ = some (.int .i64 x) ∧ w'.cell? ⟨w8.heap.size, j * 2 + 1, none⟩ = some (.int .i64 y) ∧ Hid (wg.grownBy w' none))
          (first | exact ⟨c0, c1, cx, cy, hid_drew0 wg⟩ | (go_split_ands; refine keep4 (w0 := wg) ?_ hap c0 c1 cx cy; assumption) | (go_split_ands; refine keep4 (w0 := wg) (hid_refl _) (grown_drew (World.grownBy_alloc wg _ none)) c0 c1 cx cy) | (go_split_ands; refine keep4 (w0 := wg) (hid_refl _) (grown_trans GC.out (World.grownBy_alloc wi _ none)) c0 c1 cx cy) | (go_split_ands; refine keep4 (w0 := wg) (hid_refl _) (grown_new GC.out (grown_store2 wi _ _ _) (Nat.le_refl _)) c0 c1 cx cy))
          ((go_at_call 25; go_split_ands; refine (slicer_at (w0 := wg) ?_ S1 n x y hx hy).mono ?_; assumption; intro e wi h; rw [HS.out] at h; obtain ⟨pv, cv, rfl, Sv, hap⟩ := h.std; have GC : Hid (wg.grownBy wi none) := (by refine Lib.hid (grown_trans (Hid.out (p := wg.grownBy _ none) ?_) hap); assumption); first | (have ZZ := new_cells hap; obtain ⟨z0, z1, z2, z3, ZR⟩ := ZZ) | skip))
        all_goals
          first
            | (have Rv : Hid (Row2 ((wi.setCell ⟨wg.heap.size, 0, none⟩ (.slice pv L2.length cv)).setCell ⟨wg.heap.size, 1, none⟩ (.int .i64 N2)) wg.heap.size (.slice pv L2.length cv) (.int .i64 N2)) := Lib.hid (store2 ZR.out)
               have Sv : Hid (Std ((wi.setCell ⟨wg.heap.size, 0, none⟩ (.slice pv L2.length cv)).setCell ⟨wg.heap.size, 1, none⟩ (.int .i64 N2)) pv cv L2) := Std.stored Sv ZR
               have GW : Hid (wg.grownBy ((wi.setCell ⟨wg.heap.size, 0, none⟩ (.slice pv L2.length cv)).setCell ⟨wg.heap.size, 1, none⟩ (.int .i64 N2)) none) := Lib.hid (grown_new GC.out (grown_store2 wi wg.heap.size _ _) (Nat.le_refl _))
               clear ZR z0 z1 z2 z3
               generalize ((wi.setCell ⟨wg.heap.size, 0, none⟩ (.slice pv L2.length cv)).setCell ⟨wg.heap.size, 1, none⟩ (.int .i64 N2)) = wj at *)
            | (have Rv : Hid (Row2 (wi.alloc (.cells #[.slice pv L2.length cv, .int .i64 N2] 25)) wi.heap.size (.slice pv L2.length cv) (.int .i64 N2)) := (box_new wi (.slice pv L2.length cv) (.int .i64 N2)).1
               have Sv : Hid (Std (wi.alloc (.cells #[.slice pv L2.length cv, .int .i64 N2] 25)) pv cv L2) := Std.keep Sv (World.grownBy_alloc wi _ none)
               have GW : Hid (wg.grownBy (wi.alloc (.cells #[.slice pv L2.length cv, .int .i64 N2] 25)) none) := Lib.hid (grown_trans GC.out (World.grownBy_alloc wi _ none))
               generalize (wi.alloc (.cells #[.slice pv L2.length cv, .int .i64 N2] 25)) = wj at *)
          have S1 := Std.keep S1 GW.out
          have R1 := Row2.keep R1 GW.out
          have G1 := Lib.hid (grown_trans G1.out GW.out)
          have CX := Lib.hid ((GW.out).cell CX.out (by simp))
          have CY := Lib.hid ((GW.out).cell CY.out (by simp))
          have Su := Std.keep Su GW.out
          have Ru := Row2.keep Ru GW.out
          clear hap GC GW c0 c1 cx cy HS
          obtain ⟨c0, c1⟩ := Row2.cells Ru
          obtain ⟨d0, d1⟩ := Row2.cells Rv
          go_wp2_with fail
          refine (same_at Su Sv N2).mono ?_
          rintro e wk ⟨rfl, hx5'⟩
          have G1 := Lib.hid (grown_trans G1.out hx5')
          clear hx5' c0 c1 d0 d1 Su Sv Ru Rv
          go_wp2_with fail
          go_roundw
          case rel => exact ⟨j + 1, by omega, by go_num, G1.out⟩
          case measure => simp [intOf]; omega
    · obtain rfl : j = 3 := by omega
      clear X1
      go_wp2_with fail
      refine (awake_any _).mono ?_
      rintro e wz ⟨rfl, hz⟩
      have G := Lib.hid (grown_trans G.out (grown_trans G1.out hz))
      clear hz
      go_wp2_with fail
      go_ret
      exact ⟨rfl, G.out⟩
end Go.Proofs.Ythnjiknmlakkkaa
