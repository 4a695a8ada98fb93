/- Parts of the proof, packed: StRoute, StVFrame, StOpn, StOpnF, StJoin, StRow, StLabs, PkText, Ref, Draw. -/
import Derived.Test.YtpombmpkccnefaaDoorFrames6
import Derived.Test.YtpombmpkccnefaaDoorFrames8
import Derived.Test.YtpombmpkccnefaaDoorFrames5
import Derived.Test.YtpombmpkccnefaaDoorFrames3
import Derived.Test.YtpombmpkccnefaaDoorFrames2
import Derived.Test.YtpombmpkccnefaaDoorFrames7
import Derived.Test.YtpombmpkccnefaaDoorFrames1
/- stack: allValid, allDifferent; slices.Index and Contains of numbers. -/
namespace Go.Proofs.YtpombmpkccnefaaDoor
open Go.RowKit Bs
def iv (z : Int) : Value := .int .i64 z
set_option maxRecDepth 100000 in
theorem rdi_cells {w : World} {q : Nat → Prop} {p : Option Addr} {n c : Nat} {r : List Int} (h : Rd w q (.slice p n c) (r.map iv)) (hn : 0 < r.length) :
    ∃ b off, p = some ⟨b, off, none⟩ ∧ q b ∧ ∀ i, i < r.length → w.cell? ⟨b, off + i, none⟩ = some (.int .i64 (r.getD i 0)) := by
  obtain ⟨p1, c1, e1, hx⟩ := h
  injection e1 with a1 a2 a3
  subst a1
  obtain ⟨b, off, hp, hq, hc⟩ := hx (by intro e; have := congrArg List.length e; simp only [List.length_map, List.length_nil] at this; omega)
  refine ⟨b, off, hp, hq, fun i hi => hc i _ ?_⟩
  rw [List.getElem?_map, List.getElem?_eq_getElem hi, List.getD_eq_getElem?_getD, List.getElem?_eq_getElem hi]; rfl
set_option maxRecDepth 100000 in
theorem rdi_take {w : World} {q : Nat → Prop} {p : Option Addr} {n c : Nat} {r : List Int} (h : Rd w q (.slice p n c) (r.map iv)) (k : Nat) (hk : k ≤ r.length) : Rd w q (.slice p k c) ((r.take k).map iv) := by
  obtain ⟨p1, c1, e1, hx⟩ := h
  injection e1 with a1 a2 a3
  subst a1
  refine ⟨p, c, by rw [List.length_map, List.length_take, Nat.min_eq_left hk], fun hne => ?_⟩
  obtain ⟨b, off, hp, hq, hc⟩ := hx (by intro e; apply hne; rw [List.map_take, e]; simp)
  refine ⟨b, off, hp, hq, fun i x hi => hc i x ?_⟩
  rw [List.map_take] at hi
  rw [List.getElem?_take] at hi
  split at hi
  · exact hi
  · cases hi
set_option maxHeartbeats 1600000 in
set_option maxRecDepth 100000 in
theorem sidx_any (r : List Int) (x : Int) (p : Option Addr) (c : Nat) (q : Nat → Prop) (w : World) (hR : Rd w q (.slice p r.length c) (r.map iv)) (hm : r.length ≤ 9223372036854775807) :
    Calls Tryd.prog 112 #[.slice p r.length c, .int .i64 x] w fun e w' => ∃ i : Int, e = .returned (.int .i64 i) ∧ (decide (0 ≤ i) = r.contains x) ∧ w' = w := by
  have HR := Lib.hid hR
  clear hR
  go_enter Tryd.func112, Tryd.ntmps112
  go_wp2_with fail
  go_loopw [8] (fun a wr => ∃ k : Nat, k ≤ r.length ∧ a = .int .i64 (k : Int) ∧ wr = w ∧ ∀ j, j < k → r.getD j 0 ≠ x) (fun a _ => r.length - (intOf a).toNat)
  case atStart => exact ⟨0, Nat.zero_le _, rfl, rfl, fun j hj => absurd hj (Nat.not_lt_zero _)⟩
  case round =>
    obtain ⟨k, hk, rfl, rfl, hne⟩ := hrel
    by_cases hlt : k < r.length
    · obtain ⟨b, off, rfl, hq, hc⟩ := rdi_cells HR.out (by omega)
      have c0 := hc k hlt
      clear hc
      obtain ⟨y, hy⟩ : ∃ y, r.getD k 0 = y := ⟨_, rfl⟩
      rw [hy] at c0
      by_cases e : x = y
      · subst e
        have HY := Lib.hid hy
        clear hy
        go_wp2_with fail
        go_ret
        refine ⟨k, rfl, ?_, rfl⟩
        rw [Bool.eq_iff_iff, decide_eq_true_eq, List.contains_iff_mem]
        refine ⟨fun _ => ?_, fun _ => by omega⟩
        have h3 := HY.out
        rw [List.getD_eq_getElem?_getD, List.getElem?_eq_getElem hlt] at h3
        rw [← h3]; exact List.getElem_mem hlt
      · have HY := Lib.hid hy
        clear hy
        go_wp2_with fail
        refine ⟨⟨k + 1, by omega, congrArg _ (by omega), trivial, fun j hj => ?_⟩, by simp only [intOf]; omega⟩
        by_cases h2 : j = k
        · subst h2
          rw [HY.out]
          exact fun h => e h.symm
        · exact hne j (by omega)
    · obtain rfl : k = r.length := by omega
      go_wp2_with fail
      go_ret
      refine ⟨-1, rfl, ?_, rfl⟩
      rw [Bool.eq_iff_iff, decide_eq_true_eq, List.contains_iff_mem]
      refine ⟨fun h => by omega, fun h => ?_⟩
      obtain ⟨i, hi, he⟩ := List.getElem_of_mem h
      refine absurd ?_ (hne i hi)
      rw [List.getD_eq_getElem?_getD, List.getElem?_eq_getElem hi]
      exact he
set_option maxRecDepth 100000 in
theorem scontains_any (r : List Int) (x : Int) (p : Option Addr) (n c : Nat) (hn : n = r.length) (q : Nat → Prop) (w : World) (hR : Rd w q (.slice p n c) (r.map iv)) (hm : r.length ≤ 9223372036854775807) :
    Calls Tryd.prog 104 #[.slice p n c, .int .i64 x] w fun e w' => e = .returned (.bool (r.contains x)) ∧ w' = w := by
  subst hn
  go_enter Tryd.func104, Tryd.ntmps104
  go_wp2_with (go_at_call 112; refine (sidx_any r x p c q _ hR hm).mono ?_; rintro e w' ⟨i, rfl, hi, rfl⟩; have HI := Lib.hid hi; clear hi)
  go_ret
  rw [← HI.out]
  exact ⟨rfl, rfl⟩
set_option maxRecDepth 100000 in
theorem svr_any (z : Int) (w : World) :
    Calls Tryd.prog 103 #[.int .i64 z] w fun e w' => e = .returned (.bool (okR z)) ∧ w' = w := by
  go_enter Tryd.func103, Tryd.ntmps103
  go_wp2_with (go_at_call 73; refine (swithin_any _ _ _ _).mono ?_; rintro e w' ⟨rfl, rfl⟩)
  go_ret
  refine ⟨?_, rfl⟩
  unfold okR
  rw [Bool.decide_and]; rfl
set_option maxHeartbeats 1600000 in
set_option maxRecDepth 100000 in
theorem sallv_any (r : List Int) (p : Option Addr) (c : Nat) (q : Nat → Prop) (w : World) (hR : Rd w q (.slice p r.length c) (r.map iv)) (hm : r.length ≤ 9223372036854775807) :
    Calls Tryd.prog 74 #[.slice p r.length c] w fun e w' => e = .returned (.bool (allR r)) ∧ w' = w := by
  have HR := Lib.hid hR
  clear hR
  go_enter Tryd.func74, Tryd.ntmps74
  go_wp2_with fail
  go_loopw [7] (fun a wr => ∃ k : Nat, k ≤ r.length ∧ a = .int .i64 (k : Int) ∧ wr = w ∧ ∀ j, j < k → okR (r.getD j 0) = true) (fun a _ => r.length - (intOf a).toNat)
  case atStart => exact ⟨0, Nat.zero_le _, rfl, rfl, fun j hj => absurd hj (Nat.not_lt_zero _)⟩
  case round =>
    obtain ⟨k, hk, rfl, rfl, hne⟩ := hrel
    by_cases hlt : k < r.length
    · obtain ⟨b, off, rfl, hq, hc⟩ := rdi_cells HR.out (by omega)
      have c0 := hc k hlt
      clear hc
      obtain ⟨y, hy⟩ : ∃ y, r.getD k 0 = y := ⟨_, rfl⟩
      rw [hy] at c0
      have HY := Lib.hid hy
      clear hy
      go_wp2_with fail
      refine (svr_any y _).mono ?_
      rintro e w' ⟨rfl, rfl⟩
      cases hz : okR y
      · go_wp2_with fail
        go_ret
        refine ⟨?_, rfl⟩
        have h3 := HY.out
        rw [List.getD_eq_getElem?_getD, List.getElem?_eq_getElem hlt] at h3
        have : allR r = false := by
          rw [Bool.eq_false_iff]
          intro h
          have := List.all_eq_true.1 h _ (List.getElem_mem hlt)
          rw [show r[k] = y from h3, hz] at this
          cases this
        rw [this]; rfl
      · go_wp2_with fail
        refine ⟨⟨k + 1, by omega, congrArg _ (by omega), trivial, fun j hj => ?_⟩, by simp only [intOf]; omega⟩
        by_cases h2 : j = k
        · subst h2
          rw [HY.out]
          exact hz
        · exact hne j (by omega)
    · obtain rfl : k = r.length := by omega
      go_wp2_with fail
      go_ret
      have : allR r = true := by
        refine List.all_eq_true.2 fun x hx => ?_
        obtain ⟨i, hi, he⟩ := List.getElem_of_mem hx
        have := hne i hi
        rw [List.getD_eq_getElem?_getD, List.getElem?_eq_getElem hi] at this
        rw [← he]; exact this
      rw [this]
      exact ⟨rfl, rfl⟩
set_option maxRecDepth 100000 in
theorem rep_hit {r : List Int} {k : Nat} {y : Int} (hk : k < r.length) (hy : r.getD k 0 = y) (h : (r.take k).contains y = true) : rep r = true := by
  refine List.any_eq_true.2 ⟨k, List.mem_range.2 hk, ?_⟩
  rw [hy]; exact h
set_option maxRecDepth 100000 in
theorem rep_miss {r : List Int} (h : ∀ j, j < r.length → (r.take j).contains (r.getD j 0) = false) : rep r = false := by
  rw [Bool.eq_false_iff]
  intro hr
  obtain ⟨k, hk, h2⟩ := List.any_eq_true.1 hr
  rw [h k (List.mem_range.1 hk)] at h2
  cases h2
set_option maxHeartbeats 1600000 in
set_option maxRecDepth 100000 in
theorem salld_any (r : List Int) (p : Option Addr) (c : Nat) (hc0 : r.length ≤ c) (hcm : c ≤ 9223372036854775807) (q : Nat → Prop) (w : World) (hR : Rd w q (.slice p r.length c) (r.map iv)) :
    Calls Tryd.prog 75 #[.slice p r.length c] w fun e w' => e = .returned (.bool (!rep r)) ∧ w' = w := by
  have HR := Lib.hid hR
  have hm := Nat.le_trans hc0 hcm
  clear hR
  go_enter Tryd.func75, Tryd.ntmps75
  go_wp2_with fail
  go_loopw [7] (fun a wr => ∃ k : Nat, k ≤ r.length ∧ a = .int .i64 (k : Int) ∧ wr = w ∧ ∀ j, j < k → (r.take j).contains (r.getD j 0) = false) (fun a _ => r.length - (intOf a).toNat)
  case atStart => exact ⟨0, Nat.zero_le _, rfl, rfl, fun j hj => absurd hj (Nat.not_lt_zero _)⟩
  case round =>
    obtain ⟨k, hk, rfl, rfl, hne⟩ := hrel
    by_cases hlt : k < r.length
    · obtain ⟨b, off, rfl, hq, hc⟩ := rdi_cells HR.out (by omega)
      have c0 := hc k hlt
      have hkc : k ≤ c := by omega
      clear hc
      obtain ⟨y, hy⟩ : ∃ y, r.getD k 0 = y := ⟨_, rfl⟩
      rw [hy] at c0
      have HY := Lib.hid hy
      clear hy
      go_wp2_with fail
      refine (scontains_any (r.take k) y _ _ _ (by rw [List.length_take]; omega) q _ (rdi_take HR.out k hk) (by rw [List.length_take]; omega)).mono ?_
      rintro e w' ⟨rfl, rfl⟩
      cases hz : (r.take k).contains y
      · go_wp2_with fail
        refine ⟨⟨k + 1, by omega, congrArg _ (by omega), trivial, fun j hj => ?_⟩, by simp only [intOf]; omega⟩
        by_cases h2 : j = k
        · subst h2
          rw [HY.out]
          exact hz
        · exact hne j (by omega)
      · go_wp2_with fail
        go_ret
        rw [rep_hit hlt HY.out hz]
        exact ⟨rfl, rfl⟩
    · obtain rfl : k = r.length := by omega
      have HN := Lib.hid hne
      clear hne
      go_wp2_with fail
      go_ret
      rw [rep_miss HN.out]
      exact ⟨rfl, rfl⟩
end Go.Proofs.YtpombmpkccnefaaDoor

/- stack: ValidFrame. -/
namespace Go.Proofs.YtpombmpkccnefaaDoor
open Go.RowKit Bs
/-- A frame's cells. -/
def frcells (v : Value) (P : Pk) : Array Value := #[v, .int .i64 P.mode, .int .i64 P.sub, .int .i64 P.set, .int .i64 P.len, .int .i64 P.ttl, .int .i64 P.ent, .int .i64 P.ing, .int .i64 P.pro, .int .u64 (P.bits : Int), .string P.pay]
set_option maxRecDepth 100000 in
theorem fr_facts {w : World} {b : Nat} {v : Value} {P : Pk} (h : w.heap[b]? = some (.cells (frcells v P) 43 (0, 0))) :
    w.cell? ⟨b, 0, none⟩ = some v ∧ w.cell? ⟨b, 1, none⟩ = some (.int .i64 P.mode) ∧ w.cell? ⟨b, 2, none⟩ = some (.int .i64 P.sub) ∧ w.cell? ⟨b, 3, none⟩ = some (.int .i64 P.set) ∧ w.cell? ⟨b, 4, none⟩ = some (.int .i64 P.len) ∧ w.cell? ⟨b, 5, none⟩ = some (.int .i64 P.ttl) ∧ w.cell? ⟨b, 6, none⟩ = some (.int .i64 P.ent) ∧ w.cell? ⟨b, 7, none⟩ = some (.int .i64 P.ing) ∧ w.cell? ⟨b, 8, none⟩ = some (.int .i64 P.pro) ∧ w.cell? ⟨b, 9, none⟩ = some (.int .u64 (P.bits : Int)) ∧ w.cell? ⟨b, 10, none⟩ = some (.string P.pay) :=
  ⟨cell_of_row _ _ _ _ _ _ h, cell_of_row _ _ _ _ _ _ h, cell_of_row _ _ _ _ _ _ h, cell_of_row _ _ _ _ _ _ h, cell_of_row _ _ _ _ _ _ h, cell_of_row _ _ _ _ _ _ h, cell_of_row _ _ _ _ _ _ h, cell_of_row _ _ _ _ _ _ h, cell_of_row _ _ _ _ _ _ h, cell_of_row _ _ _ _ _ _ h, cell_of_row _ _ _ _ _ _ h⟩
/-- A frame as a value. -/
def fval (v : Value) (P : Pk) : Value := .agg #[v, .int .i64 P.mode, .int .i64 P.sub, .int .i64 P.set, .int .i64 P.len, .int .i64 P.ttl, .int .i64 P.ent, .int .i64 P.ing, .int .i64 P.pro, .int .u64 (P.bits : Int), .string P.pay]
set_option maxHeartbeats 3200000 in
set_option maxRecDepth 100000 in
theorem svfr_any (r : List Int) (P : Pk) (hP : P.Wf) (p : Option Addr) (c : Nat) (hc0 : r.length ≤ c) (hcm : c ≤ 9223372036854775807) (q : Nat → Prop) (w : World) (hR : Rd w q (.slice p r.length c) (r.map iv)) :
    Calls Tryd.prog 22 #[fval (.slice p r.length c) P] w fun e w' => e = .returned (.bool (vfr r P)) ∧ w.grownBy w' none := by
  unfold fval
  obtain ⟨k1, k2⟩ := sone_box w (frcells (.slice p r.length c) P) 43
  obtain ⟨c0, c1, c2, c3, c4, c5, c6, c7, c8, c9, c10⟩ := fr_facts k1
  have HR := Lib.hid (hR.keep k2)
  have K := Lib.hid k2
  have hval : P.val = .agg #[.int .i64 P.mode, .int .i64 P.sub, .int .i64 P.set, .int .i64 P.len, .int .i64 P.ttl, .int .i64 P.ent, .int .i64 P.ing, .int .i64 P.pro, .int .u64 (P.bits : Int), .string P.pay] := rfl
  have HV := Lib.hid hval
  have HC := Lib.hid (And.intro hc0 hcm)
  clear k1 k2 hR hval hc0 hcm
  unfold frcells at *
  go_enter Tryd.func22, Tryd.ntmps22
  go_upto_region 1 with fail
  generalize w.alloc _ = wa at *
  by_cases h24 : r.length ≤ 24
  · cases ha : allR r
    · go_wp2_with (go_at_call 74; refine (sallv_any r p c q _ HR.out (by have := HC.out; omega)).mono ?_; rw [ha]; rintro e w' ⟨rfl, rfl⟩)
      go_ret
      exact ⟨by unfold vfr; rw [ha]; simp, K.out⟩
    · cases hr : rep r
      · go_wp2_with (first | (go_at_call 74; refine (sallv_any r p c q _ HR.out (by have := HC.out; omega)).mono ?_; rw [ha]; rintro e w' ⟨rfl, rfl⟩) | (go_at_call 75; go_loud (refine (salld_any r p c HC.out.1 HC.out.2 q _ HR.out).mono ?_; rw [hr]; rintro e w' ⟨rfl, rfl⟩)) | (go_at_call 64; go_loud (rw [← HV.out]; refine (pvalid_any P hP _).mono ?_; rintro e w' ⟨rfl, hg⟩; have G := Lib.hid hg; clear hg)))
        go_ret
        refine ⟨?_, grown_trans K.out G.out⟩
        have : vfr r P = vpk P := by unfold vfr; rw [ha, hr, decide_eq_true h24]; simp
        rw [this]; rfl
      · go_wp2_with (first | (go_at_call 74; refine (sallv_any r p c q _ HR.out (by have := HC.out; omega)).mono ?_; rw [ha]; rintro e w' ⟨rfl, rfl⟩) | (go_at_call 75; go_loud (refine (salld_any r p c HC.out.1 HC.out.2 q _ HR.out).mono ?_; rw [hr]; rintro e w' ⟨rfl, rfl⟩)))
        go_ret
        exact ⟨by unfold vfr; rw [ha, hr]; simp, K.out⟩
  · go_wp2_with fail
    go_ret
    exact ⟨by unfold vfr; rw [decide_eq_false h24]; rfl, K.out⟩
end Go.Proofs.YtpombmpkccnefaaDoor

/- Labels and frames that come in as arguments. -/
namespace Go.Proofs.YtpombmpkccnefaaDoor
open Go.ChangeShapes Go.WideShapes Go.ChangeAt Go.RowKit Go.Joins Bs
set_option maxRecDepth 100000 in
theorem list3 {A : Type} {xs : List A} (h : xs.length = 3) : ∃ x0 x1 x2, xs = [x0, x1, x2] := by
  match xs, h with
  | [x0, x1, x2], _ => exact ⟨x0, x1, x2, rfl⟩
set_option maxRecDepth 100000 in
theorem kit_cellsLab : Tryd.prog.cellsOf 41 = 3 := by kernel_rfl
set_option maxRecDepth 100000 in
theorem kit_cellsPk : Tryd.prog.cellsOf 31 = 10 := by kernel_rfl
set_option maxRecDepth 100000 in
theorem kit_cellsInts : Tryd.prog.cellsOf 22 = 1 := by kernel_rfl
section
variable {H : Type} {enc : TypeId × Value → H} {W : World} {base : Nat} {v : Value} {d : DataW H} {ps : List MemPlace}
set_option maxRecDepth 100000 in
theorem lab_trod {fuel : Nat} {cs : List Value} {y : DataW H × List MemPlace} (h : DataW.trod enc Tryd.prog W 0 (fun _ => true) true fuel 41 cs = some y) : ∃ l : Lab, cs = labC l ∧ l.Wf := by
  have hs := Tryd.underlying41
  obtain ⟨xs, n, _, _, hl, hlen, hf⟩ := DataW.trod_struct hs h
  rw [kit_cellsLab] at hl
  obtain ⟨c0, c1, c2, rfl⟩ := list3 hl
  obtain ⟨x0, x1, x2, rfl⟩ := list3 hlen
  have h0 : DataW.trod enc Tryd.prog W 0 (fun _ => true) true n 3 [c0] = some x0 := by simpa [Value.cells, kit_cellsInt] using hf 0 _ rfl
  have h1 : DataW.trod enc Tryd.prog W 0 (fun _ => true) true n 3 [c1] = some x1 := by simpa [Value.cells, kit_cellsInt] using hf 1 _ rfl
  have h2 : DataW.trod enc Tryd.prog W 0 (fun _ => true) true n 3 [c2] = some x2 := by simpa [Value.cells, kit_cellsInt] using hf 2 _ rfl
  obtain ⟨m0, e0, _, w0⟩ := DataW.trod_int Tryd.underlying3 h0
  obtain rfl : c0 = .int .i64 m0 := by simpa using e0
  obtain ⟨m1, e1, _, w1⟩ := DataW.trod_int Tryd.underlying3 h1
  obtain rfl : c1 = .int .i64 m1 := by simpa using e1
  obtain ⟨m2, e2, _, w2⟩ := DataW.trod_int Tryd.underlying3 h2
  obtain rfl : c2 = .int .i64 m2 := by simpa using e2
  exact ⟨⟨m0, m1, m2⟩, rfl, i64_wf w0, i64_wf w1, i64_wf w2⟩
set_option maxRecDepth 100000 in
theorem opn_label (hval : Value.okWide Tryd.prog W .any base 41 v) (h : DataW.Trod enc Tryd.prog W 0 (fun _ => true) true 41 v d ps) : ∃ l : Lab, v = .agg #[.int .i64 l.v, .int .i64 l.c, .int .i64 l.h] ∧ l.Wf := by
  obtain ⟨cs, rfl, hsz⟩ := okWide_struct Tryd.underlying41 hval
  obtain ⟨fuel, hf⟩ := h
  obtain ⟨l, hl, hw⟩ := lab_trod hf
  refine ⟨l, congrArg Value.agg (Array.ext' ?_), hw⟩
  exact hl
set_option maxRecDepth 100000 in
theorem opn_labels (hval : Value.okWide Tryd.prog W .any base 49 v) (h : DataW.Trod enc Tryd.prog W 0 (fun _ => true) true 49 v d ps) :
    ∃ (ls : List Lab) (p : Option Addr) (c : Nat), v = .slice p ls.length c ∧ RdL W (· < W.heap.size) (.slice p ls.length c) ls ∧ ls.length ≤ c ∧ c ≤ 9223372036854775807 := by
  obtain ⟨p0, n0, c0, rfl⟩ := okWide_slice Tryd.underlying49 hval
  obtain ⟨fuel, hf⟩ := h
  rcases DataW.trod_slice Tryd.underlying49 hf with ⟨hcs, _⟩ | ⟨a, len, cap, elems, rest, n, _, hcs, _, _, hl, hm, hlen, hel, _, _⟩
  · simp [Value.cells] at hcs
    obtain ⟨rfl, rfl, rfl⟩ := hcs
    exact ⟨[], none, 0, rfl, rdk_nil _ _ _ _, Nat.le_refl _, by omega⟩
  · simp [Value.cells] at hcs
    obtain ⟨rfl, rfl, rfl⟩ := hcs
    rw [kit_cellsLab] at hel
    have each : ∀ i, ∃ l : Lab, i < n0 → ∀ k, k < 3 → W.cell? ((a.add (i * 3)).add k) = (labC l)[k]? := by
      intro i
      by_cases hi : i < n0
      · have h1 := hel i hi
        rw [List.getElem?_eq_getElem (by omega)] at h1
        obtain ⟨cs, hc1, hc2⟩ := Option.bind_eq_some_iff.1 h1
        obtain ⟨l, rfl, _⟩ := lab_trod hc2
        obtain ⟨_, _, hc3⟩ := World.cells?_some hc1
        exact ⟨l, fun _ k hk => hc3 k hk⟩
      · exact ⟨⟨0, 0, 0⟩, fun h => absurd h hi⟩
    obtain ⟨f, hfn⟩ := Classical.axiomOfChoice each
    have hll : ((List.range n0).map f).length = n0 := by simp
    refine ⟨(List.range n0).map f, some a, c0, by rw [hll], ⟨some a, c0, by rw [hll], fun hne => ?_⟩, by rw [hll]; exact hl, hm⟩
    have hpos : 0 < n0 := by
      rcases Nat.eq_zero_or_pos n0 with h0 | h0
      · subst h0
        exact absurd rfl hne
      · exact h0
    obtain ⟨b, off, spot⟩ := a
    have hspot : spot = none := by
      have := hfn 0 hpos 0 (by decide)
      simpa [Addr.add] using World.cell?_spot this
    subst hspot
    have hcell : ∀ i k, i < n0 → k < 3 → W.cell? ⟨b, off + (3 * i + k), none⟩ = (labC (f i))[k]? := by
      intro i k hi hk
      have := hfn i hi k hk
      rw [Go.WideShapes.add_plain, Go.WideShapes.add_plain] at this
      rw [← this]
      congr 2
      omega
    refine ⟨b, off, rfl, World.block_lt_of_cell? W ⟨b, off + 0, none⟩ (hcell 0 0 hpos (by decide)), fun j x hj => ?_⟩
    have hj2 : j < 3 * n0 := by
      have := (List.getElem?_eq_some_iff.1 hj).1
      rw [labsC_len, hll] at this
      exact this
    have hd : j = 3 * (j / 3) + j % 3 := by omega
    have hat : ((List.range n0).map f)[j / 3]? = some (f (j / 3)) := by
      rw [List.getElem?_map, List.getElem?_range (by omega)]; rfl
    rw [hd] at hj ⊢
    rw [labsC_at _ _ _ _ hat (by omega)] at hj
    rw [hcell _ _ (by omega) (by omega)]
    exact hj
end
end Go.Proofs.YtpombmpkccnefaaDoor

/- A frame that comes in as an argument. -/
namespace Go.Proofs.YtpombmpkccnefaaDoor
open Go.ChangeShapes Go.WideShapes Go.ChangeAt Go.RowKit Go.Joins Bs
set_option maxRecDepth 100000 in
theorem list11 {A : Type} {xs : List A} (h : xs.length = 11) : ∃ x xs', xs = x :: xs' ∧ xs'.length = 10 := by
  match xs, h with
  | x :: xs', h => exact ⟨x, xs', rfl, by simpa using h⟩
set_option maxRecDepth 100000 in
theorem list2 {A : Type} {xs : List A} (h : xs.length = 2) : ∃ x0 x1, xs = [x0, x1] := by
  match xs, h with
  | [x0, x1], _ => exact ⟨x0, x1, rfl⟩
section
variable {H : Type} {enc : TypeId × Value → H} {W : World} {base : Nat} {v : Value} {d : DataW H} {ps : List MemPlace}
set_option maxRecDepth 100000 in
theorem pk_trod {fuel : Nat} {cs : List Value} {y : DataW H × List MemPlace} (h : DataW.trod enc Tryd.prog W 0 (fun _ => true) true fuel 31 cs = some y) : ∃ P : Pk, cs = [.int .i64 P.mode, .int .i64 P.sub, .int .i64 P.set, .int .i64 P.len, .int .i64 P.ttl, .int .i64 P.ent, .int .i64 P.ing, .int .i64 P.pro, .int .u64 (P.bits : Int), .string P.pay] ∧ P.Wf := by
  have hs := Tryd.underlying31
  obtain ⟨xs, n, _, _, hl, hlen, hf⟩ := DataW.trod_struct hs h
  rw [kit_cellsPk] at hl
  obtain ⟨c0, c1, c2, c3, c4, c5, c6, c7, c8, c9, rfl⟩ := list10 hl
  obtain ⟨x0, x1, x2, x3, x4, x5, x6, x7, x8, x9, rfl⟩ := list10 hlen
  have h0 : DataW.trod enc Tryd.prog W 0 (fun _ => true) true n 3 [c0] = some x0 := by simpa [Value.cells, kit_cellsInt] using hf 0 _ rfl
  have h1 : DataW.trod enc Tryd.prog W 0 (fun _ => true) true n 3 [c1] = some x1 := by simpa [Value.cells, kit_cellsInt] using hf 1 _ rfl
  have h2 : DataW.trod enc Tryd.prog W 0 (fun _ => true) true n 3 [c2] = some x2 := by simpa [Value.cells, kit_cellsInt] using hf 2 _ rfl
  have h3 : DataW.trod enc Tryd.prog W 0 (fun _ => true) true n 3 [c3] = some x3 := by simpa [Value.cells, kit_cellsInt] using hf 3 _ rfl
  have h4 : DataW.trod enc Tryd.prog W 0 (fun _ => true) true n 3 [c4] = some x4 := by simpa [Value.cells, kit_cellsInt] using hf 4 _ rfl
  have h5 : DataW.trod enc Tryd.prog W 0 (fun _ => true) true n 3 [c5] = some x5 := by simpa [Value.cells, kit_cellsInt] using hf 5 _ rfl
  have h6 : DataW.trod enc Tryd.prog W 0 (fun _ => true) true n 3 [c6] = some x6 := by simpa [Value.cells, kit_cellsInt] using hf 6 _ rfl
  have h7 : DataW.trod enc Tryd.prog W 0 (fun _ => true) true n 3 [c7] = some x7 := by simpa [Value.cells, kit_cellsInt] using hf 7 _ rfl
  have h8 : DataW.trod enc Tryd.prog W 0 (fun _ => true) true n 29 [c8] = some x8 := by simpa [Value.cells, kit_cellsU64] using hf 8 _ rfl
  have h9 : DataW.trod enc Tryd.prog W 0 (fun _ => true) true n 9 [c9] = some x9 := by simpa [Value.cells, kit_cellsStr] using hf 9 _ rfl
  obtain ⟨m0, e0, _, w0⟩ := DataW.trod_int Tryd.underlying3 h0
  obtain rfl : c0 = .int .i64 m0 := by simpa using e0
  obtain ⟨m1, e1, _, w1⟩ := DataW.trod_int Tryd.underlying3 h1
  obtain rfl : c1 = .int .i64 m1 := by simpa using e1
  obtain ⟨m2, e2, _, w2⟩ := DataW.trod_int Tryd.underlying3 h2
  obtain rfl : c2 = .int .i64 m2 := by simpa using e2
  obtain ⟨m3, e3, _, w3⟩ := DataW.trod_int Tryd.underlying3 h3
  obtain rfl : c3 = .int .i64 m3 := by simpa using e3
  obtain ⟨m4, e4, _, w4⟩ := DataW.trod_int Tryd.underlying3 h4
  obtain rfl : c4 = .int .i64 m4 := by simpa using e4
  obtain ⟨m5, e5, _, w5⟩ := DataW.trod_int Tryd.underlying3 h5
  obtain rfl : c5 = .int .i64 m5 := by simpa using e5
  obtain ⟨m6, e6, _, w6⟩ := DataW.trod_int Tryd.underlying3 h6
  obtain rfl : c6 = .int .i64 m6 := by simpa using e6
  obtain ⟨m7, e7, _, w7⟩ := DataW.trod_int Tryd.underlying3 h7
  obtain rfl : c7 = .int .i64 m7 := by simpa using e7
  obtain ⟨m8, e8, _, w8⟩ := DataW.trod_int Tryd.underlying29 h8
  obtain rfl : c8 = .int .u64 m8 := by simpa using e8
  obtain ⟨s9, e9, _, w9⟩ := DataW.trod_string Tryd.underlying9 h9
  obtain rfl : c9 = .string s9 := by simpa using e9
  have hb : 0 ≤ m8 ∧ m8 < 18446744073709551616 := by
    simp [Lit.wf, IntKind.min, IntKind.max, IntKind.bits, IntKind.signed] at w8
    omega
  obtain ⟨b, rfl⟩ := Int.eq_ofNat_of_zero_le hb.1
  exact ⟨⟨m0, m1, m2, m3, m4, m5, m6, m7, b, s9⟩, rfl, ⟨i64_wf w0, i64_wf w1, i64_wf w2, i64_wf w3, i64_wf w4, i64_wf w5, i64_wf w6, i64_wf w7, (show U64 b by unfold U64; omega), w9⟩⟩
set_option maxRecDepth 100000 in
theorem ints_trod {fuel : Nat} {c0 : Value} {y : DataW H × List MemPlace} (h : DataW.trod enc Tryd.prog W 0 (fun _ => true) true fuel 22 [c0] = some y) :
    ∃ (zs : List Int) (p : Option Addr) (c : Nat), c0 = .slice p zs.length c ∧ (∀ z ∈ zs, I64 z) ∧ Rd W (· < W.heap.size) (.slice p zs.length c) (zs.map iv) ∧ zs.length ≤ c ∧ c ≤ 9223372036854775807 ∧ (p = none → c = 0) := by
  rcases open_ints Tryd.underlying22 Tryd.underlying3 kit_cellsInt h with ⟨hcs, _⟩ | ⟨a, n0, c1, zs, hcs, _, hl, hm, hz, _, hcell, hw⟩
  · obtain rfl : c0 = .slice none 0 0 := by simpa using hcs
    exact ⟨[], none, 0, rfl, fun _ h => by simp at h, Rd.nil_ _ _ _ _, Nat.le_refl _, Nat.zero_le _, fun _ => rfl⟩
  · obtain rfl : c0 = .slice (some a) n0 c1 := by simpa using hcs
    rw [if_pos rfl] at hz
    have hlen : (zs.take n0).length = n0 := by rw [List.length_take]; omega
    refine ⟨zs.take n0, some a, c1, by rw [hlen], fun z hzm => i64_wf (hw z (List.mem_of_mem_take hzm)), ?_, by omega, hm, by intro e; cases e⟩
    refine ⟨some a, c1, by rw [List.length_map], fun hne => ?_⟩
    have hpos : 0 < zs.length := by
      rcases Nat.eq_zero_or_pos zs.length with h0 | h0
      · rw [List.eq_nil_of_length_eq_zero h0] at hne
        simp at hne
      · exact h0
    obtain ⟨b, off, rfl, hcc⟩ := ints_at hcell hpos
    refine ⟨b, off, rfl, World.block_lt_of_cell? W ⟨b, off + 0, none⟩ (hcc 0 hpos), fun i x hi => ?_⟩
    obtain ⟨hi1, hi2⟩ := List.getElem?_eq_some_iff.1 hi
    rw [List.length_map, hlen] at hi1
    have hil : i < zs.length := by omega
    rw [hcc i hil]
    rw [List.getElem_map, List.getElem_take] at hi2
    rw [← hi2, List.getD_eq_getElem?_getD, List.getElem?_eq_getElem hil]
    rfl
set_option maxRecDepth 100000 in
theorem opn_frame (hval : Value.okWide Tryd.prog W .any base 43 v) (h : DataW.Trod enc Tryd.prog W 0 (fun _ => true) true 43 v d ps) :
    ∃ (R : List Int) (P : Pk) (p : Option Addr) (c : Nat), v = fval (.slice p R.length c) P ∧ P.Wf ∧ Rd W (· < W.heap.size) (.slice p R.length c) (R.map iv) ∧ (∀ z ∈ R, I64 z) ∧ R.length ≤ c ∧ c ≤ 9223372036854775807 ∧ (p = none → c = 0) := by
  have hs := Tryd.underlying43
  obtain ⟨cs, rfl, hsz⟩ := okWide_struct hs hval
  obtain ⟨fuel, hf⟩ := h
  obtain ⟨xs, n, _, _, hl, hlen, hf⟩ := DataW.trod_struct hs hf
  have h11 : cs.toList.length = 11 := hsz.trans (by kernel_rfl)
  obtain ⟨c0, ct, hct, hct10⟩ := list11 h11
  obtain ⟨x0, x1, rfl⟩ := list2 hlen
  have h0 : DataW.trod enc Tryd.prog W 0 (fun _ => true) true n 22 [c0] = some x0 := by simpa [Value.cells, kit_cellsInts, hct] using hf 0 _ rfl
  have h1 : DataW.trod enc Tryd.prog W 0 (fun _ => true) true n 31 ct = some x1 := by
    have := hf 1 _ rfl
    simpa [Value.cells, kit_cellsPk, hct, List.take_of_length_le (Nat.le_of_eq hct10)] using this
  obtain ⟨R, p, c, rfl, hz, hr, h2, h3, h4⟩ := ints_trod h0
  obtain ⟨P, rfl, hP⟩ := pk_trod h1
  refine ⟨R, P, p, c, congrArg Value.agg (Array.ext' ?_), hP, hr, hz, h2, h3, h4⟩
  exact hct
end
end Go.Proofs.YtpombmpkccnefaaDoor

/- stack: joined. -/
namespace Go.Proofs.YtpombmpkccnefaaDoor
open Go.RowKit Bs
/-- A slice of slices of bytes. -/
def RdB (w : World) (q : Nat → Prop) (p : Option Addr) (Ls : List (List Nat)) : Prop :=
  Ls ≠ [] → ∃ b off, p = some ⟨b, off, none⟩ ∧ ∀ i L, Ls[i]? = some L → ∃ p' c', w.cell? ⟨b, off + i, none⟩ = some (.slice p' L.length c') ∧ Rd w q (.slice p' L.length c') (L.map nv) ∧ (p' = none → c' = 0)
set_option maxRecDepth 100000 in
theorem RdB.keep {w w' : World} {q : Nat → Prop} {p : Option Addr} {Ls : List (List Nat)} (h : RdB w q p Ls) (g : w.grownBy w' none) : RdB w' q p Ls := by
  intro hne
  obtain ⟨b, off, hp, hx⟩ := h hne
  refine ⟨b, off, hp, fun i L hi => ?_⟩
  obtain ⟨p', c', h1, h2, h3⟩ := hx i L hi
  exact ⟨p', c', g.cell h1 (by simp), h2.keep g, h3⟩
/-- What joined returns. -/
def JPost (L : List Nat) (w : World) (e : Ending) (w' : World) : Prop := ∃ p c, e = .returned (.slice p L.length c) ∧ Own w' w.heap.size p c L ∧ w.grownBy w' none
set_option maxRecDepth 100000 in
theorem flat_next {Ls : List (List Nat)} {k : Nat} {L : List Nat} (h : Ls[k]? = some L) : (Ls.take (k + 1)).flatten = (Ls.take k).flatten ++ L := by
  rw [List.take_add_one, h]; simp
set_option maxRecDepth 100000 in
theorem flat_le {Ls : List (List Nat)} {k : Nat} : ((Ls.take k).flatten).length ≤ Ls.flatten.length := by
  have e : Ls.flatten = (Ls.take k).flatten ++ (Ls.drop k).flatten := by rw [← List.flatten_append, List.take_append_drop]
  rw [e, List.length_append]; omega
set_option maxHeartbeats 1600000 in
set_option maxRecDepth 100000 in
theorem sjoin_any (Ls : List (List Nat)) (hB : ∀ L ∈ Ls, By L) (hsm : Ls.flatten.length ≤ 90000) (p : Option Addr) (n c : Nat) (hn : n = Ls.length) (hn2 : Ls.length ≤ 100) (q : Nat → Prop) (w : World) (hR : RdB w q p Ls) :
    Calls Tryd.prog 78 #[.slice p n c] w fun e w' => JPost Ls.flatten w e w' := by
  subst hn
  have HR := Lib.hid hR
  have HS := Lib.hid hsm
  clear hR hsm
  go_enter Tryd.func78, Tryd.ntmps78
  go_wp2_with fail
  go_loopw [3, 8] (fun v a wr => ∃ k : Nat, k ≤ Ls.length ∧ a = .int .i64 (k : Int) ∧ wr.ownsRow w.heap.size 5 1 v ((Ls.take k).flatten).length (((Ls.take k).flatten).map nv) ∧ w.grownBy wr none) (fun _ a _ => Ls.length - (intOf a).toNat)
  case atStart => exact ⟨0, Nat.zero_le _, rfl, World.ownsRow_nil _ _ _ _, grown_refl _ _⟩
  case round =>
    obtain ⟨k, hk, rfl, hO, hG⟩ := hrel
    have HG := Lib.hid hG
    by_cases hlt : k < Ls.length
    · obtain ⟨F, hF⟩ : ∃ F, (Ls.take k).flatten = F := ⟨_, rfl⟩
      rw [hF] at hO
      have HO := Lib.hid hO
      have HFF := Lib.hid hF
      clear hO hG hF
      obtain ⟨b, off, rfl, hx⟩ := HR.out.keep HG.out (by intro e; rw [e] at hlt; simp at hlt)
      obtain ⟨L, hL⟩ : ∃ L, Ls[k]? = some L := ⟨_, List.getElem?_eq_getElem hlt⟩
      obtain ⟨p', c', h1, h2, h3⟩ := hx k L hL
      have HF : Hid ((Ls.take (k + 1)).flatten = F ++ L) := Lib.hid (by rw [flat_next hL, HFF.out])
      have HLE := Lib.hid (flat_le (Ls := Ls) (k := k + 1))
      have HRD := Lib.hid (And.intro h2 h3)
      clear hx hL h2 h3
      go_wp2_with (at_builtin; refine wpList_append_rd rfl _ _ rfl w.heap.size u3 F.length F rfl HO.out p' L.length c' L rfl rfl q HRD.out.1 HRD.out.2 ?c1 ?c2 ?_)
      case c1 => have h1 := HLE.out; have h2 := HS.out; rw [HF.out, List.length_append] at h1; omega
      case c2 => exact HG.out.size
      intro v' w' hown hg
      have HO2 : Hid (w'.ownsRow w.heap.size 5 1 v' ((Ls.take (k + 1)).flatten).length (((Ls.take (k + 1)).flatten).map nv)) := Lib.hid (by rw [HF.out, List.length_append, List.map_append]; exact hown)
      have HG2 := Lib.hid (grown_own HG.out HO.out (Nat.le_refl _) hg)
      clear hown hg
      go_wp2_with fail
      exact ⟨⟨k + 1, by omega, congrArg _ (by omega), HO2.out, HG2.out⟩, by simp only [intOf]; omega⟩
    · obtain rfl : k = Ls.length := by omega
      have e : Ls.take Ls.length = Ls := List.take_length
      rw [e] at hO
      obtain ⟨p2, c2, rfl, hpc⟩ := own_parts hO
      have HO3 := Lib.hid hO
      clear hO hG e
      go_wp2_with fail
      go_ret
      refine ⟨p2, c2, rfl, ⟨HO3.out, hpc, fun x hx => ?_⟩, HG.out⟩
      obtain ⟨L, hL, hx2⟩ := List.mem_flatten.1 hx
      exact hB L hL x hx2
end Go.Proofs.YtpombmpkccnefaaDoor

/- Blocks that a call fills: rows; make of several cells. -/
namespace Go.Proofs.YtpombmpkccnefaaDoor
open Go.RowKit Bs
/-- Block g has the cells xs. -/
def Row (w : World) (g : Nat) (t : TypeId) (xs : List Value) : Prop := w.heap[g]? = some (.cells xs.toArray t (0, 0))
set_option maxRecDepth 100000 in
theorem Row.set {w : World} {g : Nat} {t : TypeId} {xs : List Value} (h : Row w g t xs) (j : Nat) (v : Value) : Row (w.setCell ⟨g, j, none⟩ v) g t (xs.set j v) := by
  have := heap_setCell_same w g j _ _ v h
  rw [List.setIfInBounds_toArray] at this
  exact this
set_option maxRecDepth 100000 in
theorem Row.cell {w : World} {g : Nat} {t : TypeId} {xs : List Value} (h : Row w g t xs) {j : Nat} {x : Value} (hj : xs[j]? = some x) : w.cell? ⟨g, j, none⟩ = some x := by
  rw [cell_of_row _ _ _ _ _ _ h]
  simpa using hj
set_option maxRecDepth 100000 in
theorem Row.frozen {w : World} {g : Nat} {t : TypeId} {xs : List Value} (h : Row w g t xs) (j : Nat) : w.frozen? ⟨g, j, none⟩ = false := frozen_of_row _ _ _ _ _ h
set_option maxRecDepth 100000 in
theorem Row.kept {w w' : World} {g : Nat} {t : TypeId} {xs : List Value} {r : Option Nat} (h : Row w g t xs) (k : w.grownBy w' r) (hr : some g ≠ r) : Row w' g t xs := kept_row h k hr
set_option maxRecDepth 100000 in
theorem Row.lt {w : World} {g : Nat} {t : TypeId} {xs : List Value} (h : Row w g t xs) : g < w.heap.size := by
  unfold Row at h
  rcases Nat.lt_or_ge g w.heap.size with h1 | h1
  · exact h1
  · rw [Array.getElem?_eq_none h1] at h; cases h
set_option maxRecDepth 100000 in
theorem Row.rd {w : World} {g : Nat} {t : TypeId} {xs : List Value} (h : Row w g t xs) (n c : Nat) : RdK w (· = g) (.slice (some ⟨g, 0, none⟩) n c) n xs :=
  ⟨_, c, rfl, fun _ => ⟨g, 0, rfl, rfl, fun i x hi => by rw [Nat.zero_add]; exact h.cell hi⟩⟩
set_option maxRecDepth 100000 in
/-- make, as a law for the walk. -/
theorem wpList_make_k (w : World) {ops : Array Oper} {rest : List Oper} {o : Oper} {a : Act} {Q : Exit → Act → World → Prop} (hg : o.guard = none) (l c : Operand) (t : TypeId) (hop : o.op = Op.makeSlice t l c)
    (e : TypeId) (i : TypeInfo) (z : Value) (ht : Tryd.prog.underlying t = some (.slice e)) (hi : Tryd.prog.info? e = some i) (hz : i.zero = some z) (n : Nat) (hl : a.eval l = .int .i64 (n : Int)) (hc : a.eval c = .int .i64 (n : Int)) (hn : n ≤ 1000000) (hb : i.bytes ≤ 1000)
    (hK : wpList Tryd.prog ops Q rest (a.put o.dst (.slice (some ⟨w.heap.size, 0, none⟩) n n)) (w.alloc (.cells (madeCells z.cells (n * i.size)) e))) : wpList Tryd.prog ops Q (o :: rest) a w := by
  refine wpList_plain hg fun K hK' => ?_
  have hb2 : i.bytes * n ≤ 1000 * 1000000 := Nat.mul_le_mul hb hn
  have hb3 : (i.bytes : Int) * (n : Int) ≤ 281474976710656 := by
    have : ((i.bytes * n : Nat) : Int) ≤ 281474976710656 := by omega
    rwa [Int.natCast_mul] at this
  have hrun := run_make (P := Tryd.prog) w t e i z ht hi hz .i64 .i64 (n : Int) (n : Int) (by omega) (Int.le_refl _) hb3 (by omega)
  rw [Int.toNat_natCast] at hrun
  unfold Oper.wp
  simp [execOp, hop, hl, hc, hrun, Result.andThen]
  exact hK' _ _ hK
set_option maxRecDepth 100000 in
theorem made_same (z : Array Value) (x : Value) (hz : ∀ i, i < z.size → z[i]! = x) (hs : 0 < z.size) (N : Nat) : madeCells z N = (List.replicate N x).toArray := by
  unfold madeCells
  apply Array.ext'
  rw [Array.toList_map, Array.toList_range]
  apply List.ext_getElem?
  intro i
  rw [List.getElem?_map]
  show _ = (List.replicate N x)[i]?
  rw [List.getElem?_replicate]
  by_cases h : i < N
  · rw [List.getElem?_range h, if_pos h]
    show some (z[i % z.size]!) = _
    rw [hz _ (Nat.mod_lt _ hs)]
  · rw [List.getElem?_eq_none (by simpa using h), if_neg h]; rfl
end Go.Proofs.YtpombmpkccnefaaDoor

/- stack: labelOf, labelsOf. -/
namespace Go.Proofs.YtpombmpkccnefaaDoor
open Go.RowKit Bs
set_option maxRecDepth 100000 in
theorem res_lab {fn : Func} {p : Tmp} (h : fn.results = #[.cell p 41]) (tmps : Array Value) (w : World) (g : Nat) (xs : Array Value) (hp : tmps.getD p undef = .pointer (some ⟨g, 0, none⟩)) (hn : xs.size = 3) (hg : w.heap[g]? = some (.cells xs 41 (0, 0))) :
    (results fn tmps).run Tryd.prog w = .ok (.agg xs) w := by
  exact results_cell_row h tmps w g _ _ _ _ hp hg Tryd.underlying41 rfl (by rw [hn]; exact lab_size)
set_option maxRecDepth 100000 in
theorem slabof_any (z : Int) (hz : 1 ≤ z ∧ z ≤ 99) (w : World) :
    Calls Tryd.prog 105 #[.int .i64 z] w fun e w' => e = .returned (.agg #[.int .i64 (16 + z), .int .i64 0, .int .i64 255]) ∧ w.grownBy w' none := by
  obtain ⟨k1, k2⟩ := sone_box w #[.int .i64 0, .int .i64 0, .int .i64 0] 41
  have HB := Lib.hid (And.intro k1 k2)
  have f0 := frozen_of_row _ _ 0 _ _ k1
  have f1 := frozen_of_row _ _ 1 _ _ k1
  have f2 := frozen_of_row _ _ 2 _ _ k1
  obtain ⟨e0, e1, e2⟩ := lab_facts (l := ⟨0, 0, 0⟩) k1
  simp only at e0 e1 e2
  clear k1 k2
  obtain ⟨h1, h2⟩ := hz
  go_enter Tryd.func105, Tryd.ntmps105
  go_upto_region 1 with fail
  generalize w.alloc _ = wa at *
  go_wp2_with fail
  refine bodyPost_ret (res_lab rfl _ _ w.heap.size _ rfl rfl (store3 HB.out.1)) rfl ?_
  exact ⟨rfl, grown_new HB.out.2 (grown_store3 _ _ _ _ _) (Nat.le_refl _)⟩
set_option maxRecDepth 100000 in
theorem set3 {α : Type} (x y z a b c : α) (B : List α) : ∀ (A : List α) (i : Nat), A.length = i → (((A ++ x :: y :: z :: B).set i a).set (i + 1) b).set (i + 2) c = A ++ a :: b :: c :: B
  | [], i, h => by
    obtain rfl : i = 0 := h.symm
    rfl
  | d :: A, i, h => by
    rcases i with _ | i
    · simp at h
    · have := set3 x y z a b c B A i (by simpa using h)
      simp only [List.cons_append, List.set_cons_succ]
      rw [this]
def LOPost (r : List Int) (w : World) (e : Ending) (w' : World) : Prop := ∃ g, e = .returned (.slice (some ⟨g, 0, none⟩) r.length r.length) ∧ Row w' g 41 (labsC (r.map lbR)) ∧ w.heap.size ≤ g ∧ w.grownBy w' none
/-- While labels are written. -/
def labZ (r : List Int) (k : Nat) : List Value := labsC ((r.take k).map lbR) ++ List.replicate (3 * (r.length - k)) (iv 0)
set_option maxRecDepth 100000 in
theorem labZ_form {r : List Int} {k : Nat} (h : k < r.length) : labZ r k = labsC ((r.take k).map lbR) ++ iv 0 :: iv 0 :: iv 0 :: List.replicate (3 * (r.length - (k + 1))) (iv 0) := by
  unfold labZ
  rw [show 3 * (r.length - k) = 3 * (r.length - (k + 1)) + 3 by omega, List.replicate_succ, List.replicate_succ, List.replicate_succ]
set_option maxRecDepth 100000 in
theorem labZ_pre {r : List Int} {k : Nat} (h : k ≤ r.length) : (labsC ((r.take k).map lbR)).length = k * 3 := by
  rw [labsC_len, List.length_map, List.length_take, Nat.min_eq_left h, Nat.mul_comm]
set_option maxRecDepth 100000 in
theorem labZ_at {r : List Int} {k : Nat} (h : k < r.length) : (labZ r k)[k * 3]? = some (iv 0) ∧ (labZ r k)[k * 3 + 1]? = some (iv 0) ∧ (labZ r k)[k * 3 + 2]? = some (iv 0) := by
  have hl := labZ_pre (Nat.le_of_lt h)
  rw [labZ_form h]
  refine ⟨?_, ?_, ?_⟩ <;> rw [List.getElem?_append_right (by omega), hl]
  · simp
  · rw [show k * 3 + 1 - k * 3 = 1 by omega]; rfl
  · rw [show k * 3 + 2 - k * 3 = 2 by omega]; rfl
set_option maxRecDepth 100000 in
theorem labZ_set {r : List Int} {k : Nat} {z : Int} (h : k < r.length) (hz : r[k]? = some z) : (((labZ r k).set (k * 3) (iv (16 + z))).set (k * 3 + 1) (iv 0)).set (k * 3 + 2) (iv 255) = labZ r (k + 1) := by
  rw [labZ_form h, set3 _ _ _ _ _ _ _ _ _ (labZ_pre (Nat.le_of_lt h))]
  unfold labZ
  rw [List.take_add_one, hz]
  show _ = labsC (List.map lbR (r.take k ++ [z])) ++ _
  rw [List.map_append, List.map_singleton, labsC_snoc]
  simp [labC, lbR, iv]
set_option maxRecDepth 100000 in
set_option maxHeartbeats 3200000 in
theorem slabs_any (r : List Int) (hr : allR r = true) (p : Option Addr) (c : Nat) (h24 : r.length ≤ 24) (q : Nat → Prop) (w : World) (hR : Rd w q (.slice p r.length c) (r.map iv)) :
    Calls Tryd.prog 80 #[.slice p r.length c] w fun e w' => LOPost r w e w' := by
  have HR := Lib.hid hR
  have HA := Lib.hid hr
  clear hR hr
  obtain ⟨i0, hi, hz0, hz1, hz2⟩ := info_parts info_lab
  go_enter Tryd.func80, Tryd.ntmps80
  go_wp2_with (at_make; refine wpList_make_k _ rfl _ _ 49 rfl 41 i0 _ Tryd.underlying49 hi hz0 r.length rfl rfl (by omega) (by omega) ?_; rw [hz1, made_same _ (iv 0) (by intro i hi; have : i = 0 ∨ i = 1 ∨ i = 2 := by { simp [Value.cells] at hi; omega }; rcases this with rfl | rfl | rfl <;> rfl) (by simp [Value.cells]) _])
  obtain ⟨k1, k2⟩ := sone_box w (Array.replicate (r.length * 3) (iv 0)) 41
  have P0 : Hid (Row (w.alloc (.cells (Array.replicate (r.length * 3) (iv 0)) 41)) w.heap.size 41 (labZ r 0) ∧ w.grownBy (w.alloc (.cells (Array.replicate (r.length * 3) (iv 0)) 41)) none) := by
    refine Lib.hid ⟨?_, k2⟩
    unfold Row labZ
    rw [k1, List.take_zero, show 3 * (r.length - 0) = r.length * 3 by omega]
    show _ = some (Obj.cells (List.replicate (r.length * 3) (iv 0)).toArray _ _)
    rw [List.toArray_replicate]
  clear k1 k2
  generalize w.alloc _ = wa at *
  go_loopw [11] (fun a wr => ∃ k : Nat, k ≤ r.length ∧ a = .int .i64 (k : Int) ∧ Row wr w.heap.size 41 (labZ r k) ∧ w.grownBy wr none) (fun a _ => r.length - (intOf a).toNat)
  case atStart => exact ⟨0, Nat.zero_le _, rfl, P0.out.1, P0.out.2⟩
  case round =>
    obtain ⟨k, hk, rfl, hX, hG⟩ := hrel
    have HX := Lib.hid (And.intro hX hG)
    clear hX hG P0
    by_cases hlt : k < r.length
    · obtain ⟨b, off, rfl, hq, hc⟩ := rdi_cells (HR.out.keep HX.out.2) (by omega)
      have c0 := hc k hlt
      obtain ⟨z, hz⟩ : ∃ z, r.getD k 0 = z := ⟨_, rfl⟩
      rw [hz] at c0
      have hk2 : r[k]? = some z := by rw [← hz, List.getD_eq_getElem?_getD, List.getElem?_eq_getElem hlt]; rfl
      have hz9 : 1 ≤ z ∧ z ≤ 99 := by
        have := List.all_eq_true.1 HA.out z (List.mem_of_getElem? hk2)
        simpa [okR] using this
      have HK := Lib.hid hk2
      have HZ := Lib.hid hz9
      clear hc hz hk2 hz9
      go_wp2_with fail
      refine (slabof_any z HZ.out _).mono ?_
      rintro e w1 ⟨rfl, hg⟩
      have HX1 := Lib.hid (And.intro (HX.out.1.kept hg (by simp)) (grown_trans HX.out.2 hg))
      clear hg HX c0
      obtain ⟨l0, l1, l2⟩ := labZ_at hlt
      have e0 : w1.cell? ⟨w.heap.size, k * 3, none⟩ = some (.int .i64 0) := HX1.out.1.cell l0
      have e1 : w1.cell? ⟨w.heap.size, k * 3 + 1, none⟩ = some (.int .i64 0) := HX1.out.1.cell l1
      have e2 : w1.cell? ⟨w.heap.size, k * 3 + 2, none⟩ = some (.int .i64 0) := HX1.out.1.cell l2
      have f0 := HX1.out.1.frozen (k * 3)
      have f1 := HX1.out.1.frozen (k * 3 + 1)
      have f2 := HX1.out.1.frozen (k * 3 + 2)
      have HS : Hid (Row (((w1.setCell ⟨w.heap.size, k * 3, none⟩ (.int .i64 (16 + z))).setCell ⟨w.heap.size, k * 3 + 1, none⟩ (.int .i64 0)).setCell ⟨w.heap.size, k * 3 + 2, none⟩ (.int .i64 255)) w.heap.size 41 (labZ r (k + 1)) ∧
          w.grownBy (((w1.setCell ⟨w.heap.size, k * 3, none⟩ (.int .i64 (16 + z))).setCell ⟨w.heap.size, k * 3 + 1, none⟩ (.int .i64 0)).setCell ⟨w.heap.size, k * 3 + 2, none⟩ (.int .i64 255)) none) := by
        refine Lib.hid ⟨?_, grown_new HX1.out.2 (grown_trans (grown_trans (grown_setCell w1 ⟨w.heap.size, k * 3, none⟩ _) (grown_setCell _ ⟨w.heap.size, k * 3 + 1, none⟩ _)) (grown_setCell _ ⟨w.heap.size, k * 3 + 2, none⟩ _)) (Nat.le_refl _)⟩
        rw [← labZ_set hlt HK.out]
        exact ((HX1.out.1.set _ _).set _ _).set _ _
      clear l0 l1 l2
      go_wp2_with fail
      exact ⟨⟨k + 1, by omega, congrArg _ (by omega), HS.out.1, HS.out.2⟩, by simp only [intOf]; omega⟩
    · obtain rfl : k = r.length := by omega
      go_wp2_with fail
      go_ret
      refine ⟨w.heap.size, rfl, ?_, Nat.le_refl _, HX.out.2⟩
      have := HX.out.1
      unfold labZ at this
      rw [List.take_length, Nat.sub_self] at this
      simpa using this
end Go.Proofs.YtpombmpkccnefaaDoor

/- The tape's texts. -/
namespace Go.Proofs.YtpombmpkccnefaaDoor
open Go.RowKit Bs
def bval (x : UInt8) : Value := .int .u8 (x.toNat : Int)
set_option maxRecDepth 100000 in
theorem conv_bytes {w : World} {q : Nat → Prop} {v : Value} {l : List UInt8} (hR : Rd w q v (l.map bval)) (h0 : l = [] → v = .slice none 0 0) :
    (convert 23 9 v).run Tryd.prog w = .ok (.string ⟨l.toArray⟩) w := by
  by_cases hl : l = []
  · rw [h0 hl, hl]
    exact Lib.run_convert_nil_bytes (P := Tryd.prog) w 23 9 5 0 Tryd.underlying23 Tryd.underlying5 Tryd.underlying9
  · obtain ⟨p, c, rfl, hc⟩ := hR
    obtain ⟨b, off, rfl, _, hcell⟩ := hc (by simpa using hl)
    rw [List.length_map]
    refine run_convert_bytes_back (P := Tryd.prog) w 23 9 5 ⟨b, off, none⟩ c l Tryd.underlying23 Tryd.underlying5 Tryd.underlying9 (fun j hj => ?_)
    have hadd : (⟨b, off, none⟩ : Addr).add j = ⟨b, off + j, none⟩ := by unfold Addr.add; split <;> simp_all
    rw [hadd]
    exact hcell j _ (by rw [List.getElem?_map, List.getElem?_eq_getElem hj]; rfl)
/-- A drawn text. -/
def TextRel (a most : Nat) (w : World) (v : Value) (k : Nat) (wr : World) : Prop :=
  ∃ l : List UInt8, l.length + k ≤ most ∧ wr.ownsRow w.heap.size 5 1 v l.length (l.map bval) ∧ (l = [] → v = .slice none 0 0) ∧ St a w wr
set_option maxRecDepth 100000 in
theorem TextRel.open_ {a most k : Nat} {w wr : World} {v : Value} (h : TextRel a most w v k wr) : ∃ l : List UInt8, l.length + k ≤ most ∧ wr.ownsRow w.heap.size 5 1 v l.length (l.map bval) ∧ (l = [] → v = .slice none 0 0) ∧ St a w wr := h
def TextPost (a most : Nat) (w : World) (e : Ending) (w' : World) : Prop := ∃ s : ByteArray, e = .returned (.string s) ∧ s.size ≤ most ∧ St a w w'
set_option maxRecDepth 100000 in
set_option maxHeartbeats 1600000 in
theorem text_any (a : Nat) (most : Nat) (hm : most ≤ 1000) (w : World) (hT : Tp w a) :
    Calls Tryd.prog 52 #[.pointer (some ⟨a, 0, none⟩), .int .i64 (most : Int)] w fun e w' => TextPost a most w e w' := by
  obtain ⟨i0, hi, hz0, hz1, hz2⟩ := info_parts info_u8
  have ha := hT.lt
  go_enter Tryd.func52, Tryd.ntmps52
  go_wp2_with fail
  refine (range_any a 0 (most : Int) (by omega) (by omega) (by omega) (by omega) _ hT).mono ?_
  rintro e w1 ⟨r, rfl, hr, hs1⟩
  obtain ⟨K, rfl⟩ := Int.eq_ofNat_of_zero_le hr.1
  have hK : K ≤ most := by unfold RangeOf at hr; omega
  have L0 : Hid (TextRel a most w (.slice none 0 0) K w1) :=
    Lib.hid ⟨[], by simpa using hK, World.ownsRow_nil _ _ _ _, fun _ => rfl, hs1⟩
  clear hr hs1
  go_wp2_with fail
  go_loopw [5, 6] (fun v i wr => ∃ k : Nat, k ≤ most ∧ i = .int .i64 (k : Int) ∧ TextRel a most w v k wr) (fun _ i _ => (intOf i).toNat)
  case atStart => exact ⟨K, hK, rfl, L0.out⟩
  case round =>
    obtain ⟨k, hk, rfl, hL⟩ := hrel
    obtain ⟨l, hlk, hown0, hnil, hs⟩ := hL.open_
    clear hL L0
    by_cases hk1 : 1 ≤ k
    · clear hnil
      go_wp2_with fail
      refine (next_any a 256 (by unfold I64; omega) _ hs.2).mono ?_
      rintro e w2 ⟨x, rfl, hx, hs2⟩
      obtain ⟨X, rfl⟩ := Int.eq_ofNat_of_zero_le hx.1
      have hX : X < 256 := by have := hx.2.1 (by omega); omega
      have hown := own_kept ha hown0 hs2.1
      have HS := Lib.hid (hs.trans hs2)
      have HO := Lib.hid hown
      have hsz := HS.out.1.size
      have hll : l.length ≤ 1000 := by omega
      have HLK := Lib.hid hlk
      clear hx hs hs2 hown0
      go_wp2_with (at_builtin; refine wpList_append_own _ rfl _ _ 23 rfl w.heap.size 5 i0 (.int .u8 0) 1 1 Tryd.underlying23 hi hz0 hz1 hz2 rfl (by decide) _ _ _ rfl (hown.alloc _) ⟨w2.heap.size, 0, none⟩ 1 1 [.int .u8 (X : Int)] rfl rfl ?c1 ?c2 ?c3 ?c4 ?c5 ?_)
      case c1 => exact cell_one _ _ _
      case c2 => intro u hu; simp at hu; subst hu; rfl
      case c3 => unfold maxLen; omega
      case c4 => omega
      case c5 => simp; omega
      intro v' w3 hown' hg _
      have R : Hid (TextRel a most w v' (k - 1) w3) := by
        have e1 := st_append HS.out ha HO.out hg
        have ex : bval (UInt8.ofNat X) = .int .u8 (X : Int) := by
          show Value.int .u8 (((UInt8.ofNat X).toNat : Nat) : Int) = _
          rw [UInt8.toNat_ofNat', Nat.mod_eq_of_lt hX]
        exact Lib.hid ⟨l ++ [UInt8.ofNat X], by rw [List.length_append]; have := HLK.out; simp; omega, by rw [List.length_append, List.map_append, List.map_cons, List.map_nil, ex]; exact hown', fun e => by simp at e, e1⟩
      clear hown' hg hown
      go_wp2_with fail
      go_roundw
      case rel => exact ⟨k - 1, by omega, by congr 1; omega, R.out⟩
      case measure => simp [intOf]; omega
    · obtain rfl : k = 0 := by omega
      have hconv := conv_bytes (rd_of_own hown0) hnil
      have HS := Lib.hid hs
      have HL := Lib.hid hlk
      clear hown0 hnil hs hlk
      go_wp2_with fail
      go_ret
      exact ⟨_, rfl, by have := HL.out; show l.toArray.size ≤ most; simp; omega, HS.out⟩
end Go.Proofs.YtpombmpkccnefaaDoor

/- The reference's functions on bits: Count, Nth, First, Rank, Spread, Gather. -/
namespace Go.Proofs.YtpombmpkccnefaaDoor
open Go.RowKit Bs

/-- The call returned v and made memory alone. -/
def Nw (v : Value) (w : World) (e : Ending) (w' : World) : Prop := e = .returned v ∧ w.grownBy w' none
set_option maxRecDepth 100000 in
theorem Rd.form {w : World} {q : Nat → Prop} {v : Value} {vs : List Value} {n : Nat} (h : Rd w q v vs) (hn : vs.length = n) : ∃ p c, v = .slice p n c := by
  obtain ⟨p, c, hv, _⟩ := h
  exact ⟨p, c, by rw [hv, hn]⟩
set_option maxRecDepth 100000 in
theorem Rd.at1_ {w : World} {q : Nat → Prop} {p : Option Addr} {n c : Nat} {vs : List Value} {i : Nat} {x : Value} (h : Rd w q (.slice p n c) vs) (hi : vs[i]? = some x) :
    ∃ b off, p = some ⟨b, off, none⟩ ∧ w.cell? ⟨b, off + i, none⟩ = some x := by
  obtain ⟨p', c', hv, hc⟩ := h
  injection hv with e1 e2 e3
  subst e1
  obtain ⟨b, off, hp, _, hx⟩ := hc (by intro e; rw [e] at hi; simp at hi)
  exact ⟨b, off, hp, hx i x hi⟩
set_option maxRecDepth 100000 in
theorem bl_map_len (b : Nat) : ((bl b).map ival).length = cnt b := by rw [List.length_map]; rfl
set_option maxRecDepth 100000 in
theorem bl_map_at {b i k : Nat} (h : (bl b)[i]? = some k) : ((bl b).map ival)[i]? = some (.int .i64 (k : Int)) := by rw [List.getElem?_map, h]; rfl
set_option maxRecDepth 100000 in
theorem bl_at {b i : Nat} (h : i < cnt b) : ∃ k, (bl b)[i]? = some k ∧ k < 64 := by
  have h' : i < (bl b).length := h
  exact ⟨(bl b)[i], List.getElem?_eq_getElem h', bl_lt (List.getElem_mem h')⟩

set_option maxRecDepth 100000 in
theorem nth_zero (b : Nat) (hb : U64 b) : nth b 0 = fst b := by
  by_cases h0 : b = 0
  · subst h0; decide +kernel
  · rw [fst_pos h0]; exact nth_at (bl_head h0 hb.lt)
set_option maxRecDepth 100000 in
theorem rk_step_t {b j : Nat} (h : b.testBit j = true) : (blN (j + 1) b).length = (blN j b).length + 1 := by rw [bl_snoc_t h]; simp
def rkN (j b : Nat) : Nat := (blN j b).length
set_option maxRecDepth 100000 in
theorem rkN_le (j b : Nat) : rkN j b ≤ j := blN_length_le j b
set_option maxRecDepth 100000 in
theorem rkN_t {b j : Nat} (h : b.testBit j = true) : rkN (j + 1) b = rkN j b + 1 := rk_step_t h
set_option maxRecDepth 100000 in
theorem rkN_f {b j : Nat} (h : b.testBit j = false) : rkN (j + 1) b = rkN j b := by unfold rkN; rw [bl_snoc_f h]
set_option maxRecDepth 100000 in
theorem put_t (k : Nat) : put true k = b2 k := rfl
set_option maxRecDepth 100000 in
theorem put_f (k : Nat) : put false k = 0 := rfl
set_option maxRecDepth 100000 in
theorem spr_hit {x b j k : Nat} (hk : (bl b)[j]? = some k) (ht : x.testBit j = true) (h64 : k < 64) :
    bits .or .u64 ((spr x (bl b) j : Nat) : Int) ((b2 k : Nat) : Int) = ((spr x (bl b) (j + 1) : Nat) : Int) := by
  rw [orU _ _ (spr_u64 x b j) (b2_u64 h64), spr_next hk, ht]; rfl
set_option maxRecDepth 100000 in
theorem spr_miss {x j : Nat} {l : List Nat} (ht : x.testBit j = false) : spr x l (j + 1) = spr x l j := by
  rw [spr, ht, put_f]; simp
set_option maxRecDepth 100000 in
theorem gat_hit {x b j k : Nat} (hk : (bl b)[j]? = some k) (ht : x.testBit k = true) (h64 : j < 64) :
    bits .or .u64 ((gat x (bl b) j : Nat) : Int) ((b2 j : Nat) : Int) = ((gat x (bl b) (j + 1) : Nat) : Int) := by
  rw [orU _ _ (gat_u64 x _ j (by omega)) (b2_u64 h64), gat_next hk, ht]; rfl
set_option maxRecDepth 100000 in
theorem gat_miss {x j k : Nat} {l : List Nat} (hk : l[j]? = some k) (ht : x.testBit k = false) : gat x l (j + 1) = gat x l j := by
  rw [gat_next hk, ht, put_f]; simp
end Go.Proofs.YtpombmpkccnefaaDoor

/- The tape's bit strings. -/
namespace Go.Proofs.YtpombmpkccnefaaDoor
open Go.RowKit Bs

set_option maxRecDepth 100000 in
theorem vb_full {n : Int} (h : vl n = true) (z : Nat) : vb (z &&& full n) n = true := by
  unfold vb
  rw [h, and_compl z (full_u64 n)]; rfl
/-- A bit string drawn for a length. -/
def BitsPost (n : Int) (a : Nat) (w : World) (e : Ending) (w' : World) : Prop := ∃ x : Nat, e = .returned (.int .u64 (x : Int)) ∧ U64 x ∧ vb x n = true ∧ St a w w'
set_option maxRecDepth 100000 in
theorem bits_end {n : Int} (h : vl n = true) (z : Nat) (hz : U64 z) : ∃ x : Nat, bits .and .u64 (z : Int) ((full n : Nat) : Int) = (x : Int) ∧ U64 x ∧ vb x n = true :=
  ⟨z &&& full n, andU z _ hz (full_u64 n), u64_and_le z _ hz, vb_full h z⟩
set_option maxRecDepth 100000 in
theorem all_ones : (18446744073709551615 : Int) = ((lo 64 : Nat) : Int) := by decide +kernel
set_option maxRecDepth 100000 in
set_option maxHeartbeats 800000 in
theorem bits_any (a : Nat) (n : Int) (hn : vl n = true) (w : World) (hT : Tp w a) :
    Calls Tryd.prog 51 #[.pointer (some ⟨a, 0, none⟩), .int .i64 n] w fun e w' => BitsPost n a w e w' := by
  have hn1 : 1 ≤ n := by rcases vl_cases hn with h | h | h | h <;> omega
  have hn2 : n ≤ 64 := by rcases vl_cases hn with h | h | h | h <;> omega
  have HV := Lib.hid hn
  clear hn
  go_enter Tryd.func51, Tryd.ntmps51
  go_wp2_with fail
  refine (raw_any a _ hT).mono ?_
  rintro e w1 ⟨x1, rfl, hx1, hs1⟩
  go_wp2_with fail
  refine (raw_any a _ hs1.2).mono ?_
  rintro e w2 ⟨x2, rfl, hx2, hs2⟩
  have h12 := hs1.trans hs2
  clear hx1 hx2 hs1 hs2
  go_wp2_with fail
  generalize hB : bits BinOp.xor IntKind.u64 _ _ = B
  obtain ⟨z, hz, hzB⟩ : ∃ z : Nat, U64 z ∧ B = (z : Int) := by rw [← hB]; exact bitsU _ _ _
  subst hzB
  clear hB
  refine (next_any a 6 (by unfold I64; omega) _ h12.2).mono ?_
  rintro e w3 ⟨r, rfl, hr, hs3⟩
  have h13 := h12.trans hs3
  have hr0 : 0 ≤ r := hr.1
  have hr1 : r < 6 := hr.2.1 (by omega)
  clear hr h12 hs3
  by_cases c0 : r = 0
  · subst c0
    obtain ⟨y, hy, hyu, hyv⟩ := bits_end HV.out 0 (by unfold U64; decide)
    have HY := Lib.hid hy
    clear hy
    go_wp2_with (go_at_call 91; refine (fullr_any _ _).mono ?_; rintro e w' ⟨rfl, rfl⟩)
    go_ret
    exact ⟨y, ret_int HY.out, hyu, hyv, h13⟩
  · by_cases c1 : r = 1
    · subst c1
      clear c0
      go_wp2_with fail
      refine (next_any a n (by unfold I64; omega) _ h13.2).mono ?_
      rintro e w4 ⟨k, rfl, hk, hs4⟩
      have h14 := h13.trans hs4
      obtain ⟨K, rfl⟩ := Int.eq_ofNat_of_zero_le hk.1
      have hK : K < 64 := by have := hk.2.1 hn1; omega
      clear hk hs4
      obtain ⟨y, hy, hyu, hyv⟩ := bits_end HV.out (b2 K) (b2_u64 hK)
      have HY := Lib.hid hy
      clear hy
      go_wp2_with (first
        | (go_at_call 90; refine (bit_any K hK _).mono ?_; rintro e w' ⟨rfl, rfl⟩)
        | (go_at_call 91; refine (fullr_any _ _).mono ?_; rintro e w' ⟨rfl, rfl⟩))
      go_ret
      exact ⟨y, ret_int HY.out, hyu, hyv, h14⟩
    · by_cases c2 : r = 2
      · subst c2
        clear c0 c1
        obtain ⟨y, hy, hyu, hyv⟩ := bits_end HV.out (lo 64) (lo_u64 (by omega))
        rw [← all_ones] at hy
        have HY := Lib.hid hy
        clear hy
        go_wp2_with (go_at_call 91; refine (fullr_any _ _).mono ?_; rintro e w' ⟨rfl, rfl⟩)
        go_ret
        exact ⟨y, ret_int HY.out, hyu, hyv, h13⟩
      · have b0 : (r == 0) = false := by simpa using c0
        have b1 : (r == 1) = false := by simpa using c1
        have b2' : (r == 2) = false := by simpa using c2
        clear c0 c1 c2
        obtain ⟨y, hy, hyu, hyv⟩ := bits_end HV.out z hz
        have HY := Lib.hid hy
        clear hy
        go_wp2_with (go_at_call 91; refine (fullr_any _ _).mono ?_; rintro e w' ⟨rfl, rfl⟩)
        go_ret
        exact ⟨y, ret_int HY.out, hyu, hyv, h13⟩
end Go.Proofs.YtpombmpkccnefaaDoor
