/- Parts of the proof, packed: StRoute, StVFrame, StOpn, StOpnF, StOpnI, IoRows, StCat, StJoin, StRow. -/
import Derived.Test.YtpabfjhjehjebaaDoorSPsh6
import Derived.Test.YtpabfjhjehjebaaDoorSPsh8
import Derived.Test.YtpabfjhjehjebaaDoorSPsh5
import Derived.Test.YtpabfjhjehjebaaDoorSPsh2
import Derived.Test.YtpabfjhjehjebaaDoorSPsh3
import Derived.Lib.AppendZerosOnto
import Derived.Lib.SliceRun
import Derived.Lib.Walk
/- stack: allValid, allDifferent; slices.Index and Contains of numbers. -/
namespace Go.Proofs.YtpabfjhjehjebaaDoor
open Go.RowKit Bs
def iv (z : Int) : Value := .int .i64 z
set_option maxRecDepth 100000 in
theorem rdi_cells {w : World} {q : Nat → Prop} {p : Option Addr} {n c : Nat} {r : List Int} (h : Rd w q (.slice p n c) (r.map iv)) (hn : 0 < r.length) :
    ∃ b off, p = some ⟨b, off, none⟩ ∧ q b ∧ ∀ i, i < r.length → w.cell? ⟨b, off + i, none⟩ = some (.int .i64 (r.getD i 0)) := by
  obtain ⟨p1, c1, e1, hx⟩ := h
  injection e1 with a1 a2 a3
  subst a1
  obtain ⟨b, off, hp, hq, hc⟩ := hx (by intro e; have := congrArg List.length e; simp only [List.length_map, List.length_nil] at this; omega)
  refine ⟨b, off, hp, hq, fun i hi => hc i _ ?_⟩
  rw [List.getElem?_map, List.getElem?_eq_getElem hi, List.getD_eq_getElem?_getD, List.getElem?_eq_getElem hi]; rfl
set_option maxRecDepth 100000 in
theorem rdi_take {w : World} {q : Nat → Prop} {p : Option Addr} {n c : Nat} {r : List Int} (h : Rd w q (.slice p n c) (r.map iv)) (k : Nat) (hk : k ≤ r.length) : Rd w q (.slice p k c) ((r.take k).map iv) := by
  obtain ⟨p1, c1, e1, hx⟩ := h
  injection e1 with a1 a2 a3
  subst a1
  refine ⟨p, c, by rw [List.length_map, List.length_take, Nat.min_eq_left hk], fun hne => ?_⟩
  obtain ⟨b, off, hp, hq, hc⟩ := hx (by intro e; apply hne; rw [List.map_take, e]; simp)
  refine ⟨b, off, hp, hq, fun i x hi => hc i x ?_⟩
  rw [List.map_take] at hi
  rw [List.getElem?_take] at hi
  split at hi
  · exact hi
  · cases hi
set_option maxHeartbeats 1600000 in
set_option maxRecDepth 100000 in
theorem sidx_any (r : List Int) (x : Int) (p : Option Addr) (c : Nat) (q : Nat → Prop) (w : World) (hR : Rd w q (.slice p r.length c) (r.map iv)) (hm : r.length ≤ 9223372036854775807) :
    Calls Tryd.prog 90 #[.slice p r.length c, .int .i64 x] w fun e w' => ∃ i : Int, e = .returned (.int .i64 i) ∧ (decide (0 ≤ i) = r.contains x) ∧ w' = w := by
  have HR := Lib.hid hR
  clear hR
  go_enter Tryd.func90, Tryd.ntmps90
  go_wp2_with fail
  go_loopw [8] (fun a wr => ∃ k : Nat, k ≤ r.length ∧ a = .int .i64 (k : Int) ∧ wr = w ∧ ∀ j, j < k → r.getD j 0 ≠ x) (fun a _ => r.length - (intOf a).toNat)
  case atStart => exact ⟨0, Nat.zero_le _, rfl, rfl, fun j hj => absurd hj (Nat.not_lt_zero _)⟩
  case round =>
    obtain ⟨k, hk, rfl, rfl, hne⟩ := hrel
    by_cases hlt : k < r.length
    · obtain ⟨b, off, rfl, hq, hc⟩ := rdi_cells HR.out (by omega)
      have c0 := hc k hlt
      clear hc
      obtain ⟨y, hy⟩ : ∃ y, r.getD k 0 = y := ⟨_, rfl⟩
      rw [hy] at c0
      by_cases e : x = y
      · subst e
        have HY := Lib.hid hy
        clear hy
        go_wp2_with fail
        go_ret
        refine ⟨k, rfl, ?_, rfl⟩
        rw [Bool.eq_iff_iff, decide_eq_true_eq, List.contains_iff_mem]
        refine ⟨fun _ => ?_, fun _ => by omega⟩
        have h3 := HY.out
        rw [List.getD_eq_getElem?_getD, List.getElem?_eq_getElem hlt] at h3
        rw [← h3]; exact List.getElem_mem hlt
      · have HY := Lib.hid hy
        clear hy
        go_wp2_with fail
        refine ⟨⟨k + 1, by omega, congrArg _ (by omega), trivial, fun j hj => ?_⟩, by simp only [intOf]; omega⟩
        by_cases h2 : j = k
        · subst h2
          rw [HY.out]
          exact fun h => e h.symm
        · exact hne j (by omega)
    · obtain rfl : k = r.length := by omega
      go_wp2_with fail
      go_ret
      refine ⟨-1, rfl, ?_, rfl⟩
      rw [Bool.eq_iff_iff, decide_eq_true_eq, List.contains_iff_mem]
      refine ⟨fun h => by omega, fun h => ?_⟩
      obtain ⟨i, hi, he⟩ := List.getElem_of_mem h
      refine absurd ?_ (hne i hi)
      rw [List.getD_eq_getElem?_getD, List.getElem?_eq_getElem hi]
      exact he
set_option maxRecDepth 100000 in
theorem scontains_any (r : List Int) (x : Int) (p : Option Addr) (n c : Nat) (hn : n = r.length) (q : Nat → Prop) (w : World) (hR : Rd w q (.slice p n c) (r.map iv)) (hm : r.length ≤ 9223372036854775807) :
    Calls Tryd.prog 73 #[.slice p n c, .int .i64 x] w fun e w' => e = .returned (.bool (r.contains x)) ∧ w' = w := by
  subst hn
  go_enter Tryd.func73, Tryd.ntmps73
  go_wp2_with (go_at_call 90; refine (sidx_any r x p c q _ hR hm).mono ?_; rintro e w' ⟨i, rfl, hi, rfl⟩; have HI := Lib.hid hi; clear hi)
  go_ret
  rw [← HI.out]
  exact ⟨rfl, rfl⟩
set_option maxRecDepth 100000 in
theorem svr_any (z : Int) (w : World) :
    Calls Tryd.prog 54 #[.int .i64 z] w fun e w' => e = .returned (.bool (okR z)) ∧ w' = w := by
  go_enter Tryd.func54, Tryd.ntmps54
  go_wp2_with (go_at_call 65; refine (swithin_any _ _ _ _).mono ?_; rintro e w' ⟨rfl, rfl⟩)
  go_ret
  refine ⟨?_, rfl⟩
  unfold okR
  rw [Bool.decide_and]; rfl
set_option maxHeartbeats 1600000 in
set_option maxRecDepth 100000 in
theorem sallv_any (r : List Int) (p : Option Addr) (c : Nat) (q : Nat → Prop) (w : World) (hR : Rd w q (.slice p r.length c) (r.map iv)) (hm : r.length ≤ 9223372036854775807) :
    Calls Tryd.prog 39 #[.slice p r.length c] w fun e w' => e = .returned (.bool (allR r)) ∧ w' = w := by
  have HR := Lib.hid hR
  clear hR
  go_enter Tryd.func39, Tryd.ntmps39
  go_wp2_with fail
  go_loopw [7] (fun a wr => ∃ k : Nat, k ≤ r.length ∧ a = .int .i64 (k : Int) ∧ wr = w ∧ ∀ j, j < k → okR (r.getD j 0) = true) (fun a _ => r.length - (intOf a).toNat)
  case atStart => exact ⟨0, Nat.zero_le _, rfl, rfl, fun j hj => absurd hj (Nat.not_lt_zero _)⟩
  case round =>
    obtain ⟨k, hk, rfl, rfl, hne⟩ := hrel
    by_cases hlt : k < r.length
    · obtain ⟨b, off, rfl, hq, hc⟩ := rdi_cells HR.out (by omega)
      have c0 := hc k hlt
      clear hc
      obtain ⟨y, hy⟩ : ∃ y, r.getD k 0 = y := ⟨_, rfl⟩
      rw [hy] at c0
      have HY := Lib.hid hy
      clear hy
      go_wp2_with fail
      refine (svr_any y _).mono ?_
      rintro e w' ⟨rfl, rfl⟩
      cases hz : okR y
      · go_wp2_with fail
        go_ret
        refine ⟨?_, rfl⟩
        have h3 := HY.out
        rw [List.getD_eq_getElem?_getD, List.getElem?_eq_getElem hlt] at h3
        have : allR r = false := by
          rw [Bool.eq_false_iff]
          intro h
          have := List.all_eq_true.1 h _ (List.getElem_mem hlt)
          rw [show r[k] = y from h3, hz] at this
          cases this
        rw [this]; rfl
      · go_wp2_with fail
        refine ⟨⟨k + 1, by omega, congrArg _ (by omega), trivial, fun j hj => ?_⟩, by simp only [intOf]; omega⟩
        by_cases h2 : j = k
        · subst h2
          rw [HY.out]
          exact hz
        · exact hne j (by omega)
    · obtain rfl : k = r.length := by omega
      go_wp2_with fail
      go_ret
      have : allR r = true := by
        refine List.all_eq_true.2 fun x hx => ?_
        obtain ⟨i, hi, he⟩ := List.getElem_of_mem hx
        have := hne i hi
        rw [List.getD_eq_getElem?_getD, List.getElem?_eq_getElem hi] at this
        rw [← he]; exact this
      rw [this]
      exact ⟨rfl, rfl⟩
set_option maxRecDepth 100000 in
theorem rep_hit {r : List Int} {k : Nat} {y : Int} (hk : k < r.length) (hy : r.getD k 0 = y) (h : (r.take k).contains y = true) : rep r = true := by
  refine List.any_eq_true.2 ⟨k, List.mem_range.2 hk, ?_⟩
  rw [hy]; exact h
set_option maxRecDepth 100000 in
theorem rep_miss {r : List Int} (h : ∀ j, j < r.length → (r.take j).contains (r.getD j 0) = false) : rep r = false := by
  rw [Bool.eq_false_iff]
  intro hr
  obtain ⟨k, hk, h2⟩ := List.any_eq_true.1 hr
  rw [h k (List.mem_range.1 hk)] at h2
  cases h2
set_option maxHeartbeats 1600000 in
set_option maxRecDepth 100000 in
theorem salld_any (r : List Int) (p : Option Addr) (c : Nat) (hc0 : r.length ≤ c) (hcm : c ≤ 9223372036854775807) (q : Nat → Prop) (w : World) (hR : Rd w q (.slice p r.length c) (r.map iv)) :
    Calls Tryd.prog 41 #[.slice p r.length c] w fun e w' => e = .returned (.bool (!rep r)) ∧ w' = w := by
  have HR := Lib.hid hR
  have hm := Nat.le_trans hc0 hcm
  clear hR
  go_enter Tryd.func41, Tryd.ntmps41
  go_wp2_with fail
  go_loopw [7] (fun a wr => ∃ k : Nat, k ≤ r.length ∧ a = .int .i64 (k : Int) ∧ wr = w ∧ ∀ j, j < k → (r.take j).contains (r.getD j 0) = false) (fun a _ => r.length - (intOf a).toNat)
  case atStart => exact ⟨0, Nat.zero_le _, rfl, rfl, fun j hj => absurd hj (Nat.not_lt_zero _)⟩
  case round =>
    obtain ⟨k, hk, rfl, rfl, hne⟩ := hrel
    by_cases hlt : k < r.length
    · obtain ⟨b, off, rfl, hq, hc⟩ := rdi_cells HR.out (by omega)
      have c0 := hc k hlt
      have hkc : k ≤ c := by omega
      clear hc
      obtain ⟨y, hy⟩ : ∃ y, r.getD k 0 = y := ⟨_, rfl⟩
      rw [hy] at c0
      have HY := Lib.hid hy
      clear hy
      go_wp2_with fail
      refine (scontains_any (r.take k) y _ _ _ (by rw [List.length_take]; omega) q _ (rdi_take HR.out k hk) (by rw [List.length_take]; omega)).mono ?_
      rintro e w' ⟨rfl, rfl⟩
      cases hz : (r.take k).contains y
      · go_wp2_with fail
        refine ⟨⟨k + 1, by omega, congrArg _ (by omega), trivial, fun j hj => ?_⟩, by simp only [intOf]; omega⟩
        by_cases h2 : j = k
        · subst h2
          rw [HY.out]
          exact hz
        · exact hne j (by omega)
      · go_wp2_with fail
        go_ret
        rw [rep_hit hlt HY.out hz]
        exact ⟨rfl, rfl⟩
    · obtain rfl : k = r.length := by omega
      have HN := Lib.hid hne
      clear hne
      go_wp2_with fail
      go_ret
      rw [rep_miss HN.out]
      exact ⟨rfl, rfl⟩
end Go.Proofs.YtpabfjhjehjebaaDoor

/- stack: ValidFrame. -/
namespace Go.Proofs.YtpabfjhjehjebaaDoor
open Go.RowKit Bs
/-- A frame's cells. -/
def frcells (v : Value) (P : Pk) : Array Value := #[v, .int .i64 P.mode, .int .i64 P.sub, .int .i64 P.set, .int .i64 P.len, .int .i64 P.ttl, .int .i64 P.ent, .int .i64 P.ing, .int .i64 P.pro, .int .u64 (P.bits : Int), .string P.pay]
set_option maxRecDepth 100000 in
theorem fr_facts {w : World} {b : Nat} {v : Value} {P : Pk} (h : w.heap[b]? = some (.cells (frcells v P) 33 (0, 0))) :
    w.cell? ⟨b, 0, none⟩ = some v ∧ w.cell? ⟨b, 1, none⟩ = some (.int .i64 P.mode) ∧ w.cell? ⟨b, 2, none⟩ = some (.int .i64 P.sub) ∧ w.cell? ⟨b, 3, none⟩ = some (.int .i64 P.set) ∧ w.cell? ⟨b, 4, none⟩ = some (.int .i64 P.len) ∧ w.cell? ⟨b, 5, none⟩ = some (.int .i64 P.ttl) ∧ w.cell? ⟨b, 6, none⟩ = some (.int .i64 P.ent) ∧ w.cell? ⟨b, 7, none⟩ = some (.int .i64 P.ing) ∧ w.cell? ⟨b, 8, none⟩ = some (.int .i64 P.pro) ∧ w.cell? ⟨b, 9, none⟩ = some (.int .u64 (P.bits : Int)) ∧ w.cell? ⟨b, 10, none⟩ = some (.string P.pay) :=
  ⟨cell_of_row _ _ _ _ _ _ h, cell_of_row _ _ _ _ _ _ h, cell_of_row _ _ _ _ _ _ h, cell_of_row _ _ _ _ _ _ h, cell_of_row _ _ _ _ _ _ h, cell_of_row _ _ _ _ _ _ h, cell_of_row _ _ _ _ _ _ h, cell_of_row _ _ _ _ _ _ h, cell_of_row _ _ _ _ _ _ h, cell_of_row _ _ _ _ _ _ h, cell_of_row _ _ _ _ _ _ h⟩
/-- A frame as a value. -/
def fval (v : Value) (P : Pk) : Value := .agg #[v, .int .i64 P.mode, .int .i64 P.sub, .int .i64 P.set, .int .i64 P.len, .int .i64 P.ttl, .int .i64 P.ent, .int .i64 P.ing, .int .i64 P.pro, .int .u64 (P.bits : Int), .string P.pay]
set_option maxHeartbeats 3200000 in
set_option maxRecDepth 100000 in
theorem svfr_any (r : List Int) (P : Pk) (hP : P.Wf) (p : Option Addr) (c : Nat) (hc0 : r.length ≤ c) (hcm : c ≤ 9223372036854775807) (q : Nat → Prop) (w : World) (hR : Rd w q (.slice p r.length c) (r.map iv)) :
    Calls Tryd.prog 38 #[fval (.slice p r.length c) P] w fun e w' => e = .returned (.bool (vfr r P)) ∧ w.grownBy w' none := by
  unfold fval
  obtain ⟨k1, k2⟩ := sone_box w (frcells (.slice p r.length c) P) 33
  obtain ⟨c0, c1, c2, c3, c4, c5, c6, c7, c8, c9, c10⟩ := fr_facts k1
  have HR := Lib.hid (hR.keep k2)
  have K := Lib.hid k2
  have hval : P.val = .agg #[.int .i64 P.mode, .int .i64 P.sub, .int .i64 P.set, .int .i64 P.len, .int .i64 P.ttl, .int .i64 P.ent, .int .i64 P.ing, .int .i64 P.pro, .int .u64 (P.bits : Int), .string P.pay] := rfl
  have HV := Lib.hid hval
  have HC := Lib.hid (And.intro hc0 hcm)
  clear k1 k2 hR hval hc0 hcm
  unfold frcells at *
  go_enter Tryd.func38, Tryd.ntmps38
  go_upto_region 1 with fail
  generalize w.alloc _ = wa at *
  by_cases h24 : r.length ≤ 24
  · cases ha : allR r
    · go_wp2_with (go_at_call 39; refine (sallv_any r p c q _ HR.out (by have := HC.out; omega)).mono ?_; rw [ha]; rintro e w' ⟨rfl, rfl⟩)
      go_ret
      exact ⟨by unfold vfr; rw [ha]; simp, K.out⟩
    · cases hr : rep r
      · go_wp2_with (first | (go_at_call 39; refine (sallv_any r p c q _ HR.out (by have := HC.out; omega)).mono ?_; rw [ha]; rintro e w' ⟨rfl, rfl⟩) | (go_at_call 41; go_loud (refine (salld_any r p c HC.out.1 HC.out.2 q _ HR.out).mono ?_; rw [hr]; rintro e w' ⟨rfl, rfl⟩)) | (go_at_call 71; go_loud (rw [← HV.out]; refine (pvalid_any P hP _).mono ?_; rintro e w' ⟨rfl, hg⟩; have G := Lib.hid hg; clear hg)))
        go_ret
        refine ⟨?_, grown_trans K.out G.out⟩
        have : vfr r P = vpk P := by unfold vfr; rw [ha, hr, decide_eq_true h24]; simp
        rw [this]; rfl
      · go_wp2_with (first | (go_at_call 39; refine (sallv_any r p c q _ HR.out (by have := HC.out; omega)).mono ?_; rw [ha]; rintro e w' ⟨rfl, rfl⟩) | (go_at_call 41; go_loud (refine (salld_any r p c HC.out.1 HC.out.2 q _ HR.out).mono ?_; rw [hr]; rintro e w' ⟨rfl, rfl⟩)))
        go_ret
        exact ⟨by unfold vfr; rw [ha, hr]; simp, K.out⟩
  · go_wp2_with fail
    go_ret
    exact ⟨by unfold vfr; rw [decide_eq_false h24]; rfl, K.out⟩
end Go.Proofs.YtpabfjhjehjebaaDoor

/- Labels and frames that come in as arguments. -/
namespace Go.Proofs.YtpabfjhjehjebaaDoor
open Go.ChangeShapes Go.WideShapes Go.ChangeAt Go.RowKit Go.Joins Bs
set_option maxRecDepth 100000 in
theorem list3 {A : Type} {xs : List A} (h : xs.length = 3) : ∃ x0 x1 x2, xs = [x0, x1, x2] := by
  match xs, h with
  | [x0, x1, x2], _ => exact ⟨x0, x1, x2, rfl⟩
set_option maxRecDepth 100000 in
theorem kit_cellsLab : Tryd.prog.cellsOf 55 = 3 := by kernel_rfl
set_option maxRecDepth 100000 in
theorem kit_cellsPk : Tryd.prog.cellsOf 31 = 10 := by kernel_rfl
set_option maxRecDepth 100000 in
theorem kit_cellsInts : Tryd.prog.cellsOf 22 = 1 := by kernel_rfl
section
variable {H : Type} {enc : TypeId × Value → H} {W : World} {base : Nat} {v : Value} {d : DataW H} {ps : List MemPlace}
set_option maxRecDepth 100000 in
theorem lab_trod {fuel : Nat} {cs : List Value} {y : DataW H × List MemPlace} (h : DataW.trod enc Tryd.prog W 0 (fun _ => true) true fuel 55 cs = some y) : ∃ l : Lab, cs = labC l ∧ l.Wf := by
  have hs := Tryd.underlying55
  obtain ⟨xs, n, _, _, hl, hlen, hf⟩ := DataW.trod_struct hs h
  rw [kit_cellsLab] at hl
  obtain ⟨c0, c1, c2, rfl⟩ := list3 hl
  obtain ⟨x0, x1, x2, rfl⟩ := list3 hlen
  have h0 : DataW.trod enc Tryd.prog W 0 (fun _ => true) true n 3 [c0] = some x0 := by simpa [Value.cells, kit_cellsInt] using hf 0 _ rfl
  have h1 : DataW.trod enc Tryd.prog W 0 (fun _ => true) true n 3 [c1] = some x1 := by simpa [Value.cells, kit_cellsInt] using hf 1 _ rfl
  have h2 : DataW.trod enc Tryd.prog W 0 (fun _ => true) true n 3 [c2] = some x2 := by simpa [Value.cells, kit_cellsInt] using hf 2 _ rfl
  obtain ⟨m0, e0, _, w0⟩ := DataW.trod_int Tryd.underlying3 h0
  obtain rfl : c0 = .int .i64 m0 := by simpa using e0
  obtain ⟨m1, e1, _, w1⟩ := DataW.trod_int Tryd.underlying3 h1
  obtain rfl : c1 = .int .i64 m1 := by simpa using e1
  obtain ⟨m2, e2, _, w2⟩ := DataW.trod_int Tryd.underlying3 h2
  obtain rfl : c2 = .int .i64 m2 := by simpa using e2
  exact ⟨⟨m0, m1, m2⟩, rfl, i64_wf w0, i64_wf w1, i64_wf w2⟩
set_option maxRecDepth 100000 in
theorem opn_label (hval : Value.okWide Tryd.prog W .any base 55 v) (h : DataW.Trod enc Tryd.prog W 0 (fun _ => true) true 55 v d ps) : ∃ l : Lab, v = .agg #[.int .i64 l.v, .int .i64 l.c, .int .i64 l.h] ∧ l.Wf := by
  obtain ⟨cs, rfl, hsz⟩ := okWide_struct Tryd.underlying55 hval
  obtain ⟨fuel, hf⟩ := h
  obtain ⟨l, hl, hw⟩ := lab_trod hf
  refine ⟨l, congrArg Value.agg (Array.ext' ?_), hw⟩
  exact hl
set_option maxRecDepth 100000 in
theorem opn_labels (hval : Value.okWide Tryd.prog W .any base 53 v) (h : DataW.Trod enc Tryd.prog W 0 (fun _ => true) true 53 v d ps) :
    ∃ (ls : List Lab) (p : Option Addr) (c : Nat), v = .slice p ls.length c ∧ RdL W (· < W.heap.size) (.slice p ls.length c) ls ∧ ls.length ≤ c ∧ c ≤ 9223372036854775807 := by
  obtain ⟨p0, n0, c0, rfl⟩ := okWide_slice Tryd.underlying53 hval
  obtain ⟨fuel, hf⟩ := h
  rcases DataW.trod_slice Tryd.underlying53 hf with ⟨hcs, _⟩ | ⟨a, len, cap, elems, rest, n, _, hcs, _, _, hl, hm, hlen, hel, _, _⟩
  · simp [Value.cells] at hcs
    obtain ⟨rfl, rfl, rfl⟩ := hcs
    exact ⟨[], none, 0, rfl, rdk_nil _ _ _ _, Nat.le_refl _, by omega⟩
  · simp [Value.cells] at hcs
    obtain ⟨rfl, rfl, rfl⟩ := hcs
    rw [kit_cellsLab] at hel
    have each : ∀ i, ∃ l : Lab, i < n0 → ∀ k, k < 3 → W.cell? ((a.add (i * 3)).add k) = (labC l)[k]? := by
      intro i
      by_cases hi : i < n0
      · have h1 := hel i hi
        rw [List.getElem?_eq_getElem (by omega)] at h1
        obtain ⟨cs, hc1, hc2⟩ := Option.bind_eq_some_iff.1 h1
        obtain ⟨l, rfl, _⟩ := lab_trod hc2
        obtain ⟨_, _, hc3⟩ := World.cells?_some hc1
        exact ⟨l, fun _ k hk => hc3 k hk⟩
      · exact ⟨⟨0, 0, 0⟩, fun h => absurd h hi⟩
    obtain ⟨f, hfn⟩ := Classical.axiomOfChoice each
    have hll : ((List.range n0).map f).length = n0 := by simp
    refine ⟨(List.range n0).map f, some a, c0, by rw [hll], ⟨some a, c0, by rw [hll], fun hne => ?_⟩, by rw [hll]; exact hl, hm⟩
    have hpos : 0 < n0 := by
      rcases Nat.eq_zero_or_pos n0 with h0 | h0
      · subst h0
        exact absurd rfl hne
      · exact h0
    obtain ⟨b, off, spot⟩ := a
    have hspot : spot = none := by
      have := hfn 0 hpos 0 (by decide)
      simpa [Addr.add] using World.cell?_spot this
    subst hspot
    have hcell : ∀ i k, i < n0 → k < 3 → W.cell? ⟨b, off + (3 * i + k), none⟩ = (labC (f i))[k]? := by
      intro i k hi hk
      have := hfn i hi k hk
      rw [Go.WideShapes.add_plain, Go.WideShapes.add_plain] at this
      rw [← this]
      congr 2
      omega
    refine ⟨b, off, rfl, World.block_lt_of_cell? W ⟨b, off + 0, none⟩ (hcell 0 0 hpos (by decide)), fun j x hj => ?_⟩
    have hj2 : j < 3 * n0 := by
      have := (List.getElem?_eq_some_iff.1 hj).1
      rw [labsC_len, hll] at this
      exact this
    have hd : j = 3 * (j / 3) + j % 3 := by omega
    have hat : ((List.range n0).map f)[j / 3]? = some (f (j / 3)) := by
      rw [List.getElem?_map, List.getElem?_range (by omega)]; rfl
    rw [hd] at hj ⊢
    rw [labsC_at _ _ _ _ hat (by omega)] at hj
    rw [hcell _ _ (by omega) (by omega)]
    exact hj
end
end Go.Proofs.YtpabfjhjehjebaaDoor

/- A frame that comes in as an argument. -/
namespace Go.Proofs.YtpabfjhjehjebaaDoor
open Go.ChangeShapes Go.WideShapes Go.ChangeAt Go.RowKit Go.Joins Bs
set_option maxRecDepth 100000 in
theorem list11 {A : Type} {xs : List A} (h : xs.length = 11) : ∃ x xs', xs = x :: xs' ∧ xs'.length = 10 := by
  match xs, h with
  | x :: xs', h => exact ⟨x, xs', rfl, by simpa using h⟩
set_option maxRecDepth 100000 in
theorem list2 {A : Type} {xs : List A} (h : xs.length = 2) : ∃ x0 x1, xs = [x0, x1] := by
  match xs, h with
  | [x0, x1], _ => exact ⟨x0, x1, rfl⟩
section
variable {H : Type} {enc : TypeId × Value → H} {W : World} {base : Nat} {v : Value} {d : DataW H} {ps : List MemPlace}
set_option maxRecDepth 100000 in
theorem pk_trod {fuel : Nat} {cs : List Value} {y : DataW H × List MemPlace} (h : DataW.trod enc Tryd.prog W 0 (fun _ => true) true fuel 31 cs = some y) : ∃ P : Pk, cs = [.int .i64 P.mode, .int .i64 P.sub, .int .i64 P.set, .int .i64 P.len, .int .i64 P.ttl, .int .i64 P.ent, .int .i64 P.ing, .int .i64 P.pro, .int .u64 (P.bits : Int), .string P.pay] ∧ P.Wf := by
  have hs := Tryd.underlying31
  obtain ⟨xs, n, _, _, hl, hlen, hf⟩ := DataW.trod_struct hs h
  rw [kit_cellsPk] at hl
  obtain ⟨c0, c1, c2, c3, c4, c5, c6, c7, c8, c9, rfl⟩ := list10 hl
  obtain ⟨x0, x1, x2, x3, x4, x5, x6, x7, x8, x9, rfl⟩ := list10 hlen
  have h0 : DataW.trod enc Tryd.prog W 0 (fun _ => true) true n 3 [c0] = some x0 := by simpa [Value.cells, kit_cellsInt] using hf 0 _ rfl
  have h1 : DataW.trod enc Tryd.prog W 0 (fun _ => true) true n 3 [c1] = some x1 := by simpa [Value.cells, kit_cellsInt] using hf 1 _ rfl
  have h2 : DataW.trod enc Tryd.prog W 0 (fun _ => true) true n 3 [c2] = some x2 := by simpa [Value.cells, kit_cellsInt] using hf 2 _ rfl
  have h3 : DataW.trod enc Tryd.prog W 0 (fun _ => true) true n 3 [c3] = some x3 := by simpa [Value.cells, kit_cellsInt] using hf 3 _ rfl
  have h4 : DataW.trod enc Tryd.prog W 0 (fun _ => true) true n 3 [c4] = some x4 := by simpa [Value.cells, kit_cellsInt] using hf 4 _ rfl
  have h5 : DataW.trod enc Tryd.prog W 0 (fun _ => true) true n 3 [c5] = some x5 := by simpa [Value.cells, kit_cellsInt] using hf 5 _ rfl
  have h6 : DataW.trod enc Tryd.prog W 0 (fun _ => true) true n 3 [c6] = some x6 := by simpa [Value.cells, kit_cellsInt] using hf 6 _ rfl
  have h7 : DataW.trod enc Tryd.prog W 0 (fun _ => true) true n 3 [c7] = some x7 := by simpa [Value.cells, kit_cellsInt] using hf 7 _ rfl
  have h8 : DataW.trod enc Tryd.prog W 0 (fun _ => true) true n 29 [c8] = some x8 := by simpa [Value.cells, kit_cellsU64] using hf 8 _ rfl
  have h9 : DataW.trod enc Tryd.prog W 0 (fun _ => true) true n 9 [c9] = some x9 := by simpa [Value.cells, kit_cellsStr] using hf 9 _ rfl
  obtain ⟨m0, e0, _, w0⟩ := DataW.trod_int Tryd.underlying3 h0
  obtain rfl : c0 = .int .i64 m0 := by simpa using e0
  obtain ⟨m1, e1, _, w1⟩ := DataW.trod_int Tryd.underlying3 h1
  obtain rfl : c1 = .int .i64 m1 := by simpa using e1
  obtain ⟨m2, e2, _, w2⟩ := DataW.trod_int Tryd.underlying3 h2
  obtain rfl : c2 = .int .i64 m2 := by simpa using e2
  obtain ⟨m3, e3, _, w3⟩ := DataW.trod_int Tryd.underlying3 h3
  obtain rfl : c3 = .int .i64 m3 := by simpa using e3
  obtain ⟨m4, e4, _, w4⟩ := DataW.trod_int Tryd.underlying3 h4
  obtain rfl : c4 = .int .i64 m4 := by simpa using e4
  obtain ⟨m5, e5, _, w5⟩ := DataW.trod_int Tryd.underlying3 h5
  obtain rfl : c5 = .int .i64 m5 := by simpa using e5
  obtain ⟨m6, e6, _, w6⟩ := DataW.trod_int Tryd.underlying3 h6
  obtain rfl : c6 = .int .i64 m6 := by simpa using e6
  obtain ⟨m7, e7, _, w7⟩ := DataW.trod_int Tryd.underlying3 h7
  obtain rfl : c7 = .int .i64 m7 := by simpa using e7
  obtain ⟨m8, e8, _, w8⟩ := DataW.trod_int Tryd.underlying29 h8
  obtain rfl : c8 = .int .u64 m8 := by simpa using e8
  obtain ⟨s9, e9, _, w9⟩ := DataW.trod_string Tryd.underlying9 h9
  obtain rfl : c9 = .string s9 := by simpa using e9
  have hb : 0 ≤ m8 ∧ m8 < 18446744073709551616 := by
    simp [Lit.wf, IntKind.min, IntKind.max, IntKind.bits, IntKind.signed] at w8
    omega
  obtain ⟨b, rfl⟩ := Int.eq_ofNat_of_zero_le hb.1
  exact ⟨⟨m0, m1, m2, m3, m4, m5, m6, m7, b, s9⟩, rfl, ⟨i64_wf w0, i64_wf w1, i64_wf w2, i64_wf w3, i64_wf w4, i64_wf w5, i64_wf w6, i64_wf w7, (show U64 b by unfold U64; omega), w9⟩⟩
set_option maxRecDepth 100000 in
theorem ints_trod {fuel : Nat} {c0 : Value} {y : DataW H × List MemPlace} (h : DataW.trod enc Tryd.prog W 0 (fun _ => true) true fuel 22 [c0] = some y) :
    ∃ (zs : List Int) (p : Option Addr) (c : Nat), c0 = .slice p zs.length c ∧ (∀ z ∈ zs, I64 z) ∧ Rd W (· < W.heap.size) (.slice p zs.length c) (zs.map iv) ∧ zs.length ≤ c ∧ c ≤ 9223372036854775807 ∧ (p = none → c = 0) := by
  rcases open_ints Tryd.underlying22 Tryd.underlying3 kit_cellsInt h with ⟨hcs, _⟩ | ⟨a, n0, c1, zs, hcs, _, hl, hm, hz, _, hcell, hw⟩
  · obtain rfl : c0 = .slice none 0 0 := by simpa using hcs
    exact ⟨[], none, 0, rfl, fun _ h => by simp at h, Rd.nil_ _ _ _ _, Nat.le_refl _, Nat.zero_le _, fun _ => rfl⟩
  · obtain rfl : c0 = .slice (some a) n0 c1 := by simpa using hcs
    rw [if_pos rfl] at hz
    have hlen : (zs.take n0).length = n0 := by rw [List.length_take]; omega
    refine ⟨zs.take n0, some a, c1, by rw [hlen], fun z hzm => i64_wf (hw z (List.mem_of_mem_take hzm)), ?_, by omega, hm, by intro e; cases e⟩
    refine ⟨some a, c1, by rw [List.length_map], fun hne => ?_⟩
    have hpos : 0 < zs.length := by
      rcases Nat.eq_zero_or_pos zs.length with h0 | h0
      · rw [List.eq_nil_of_length_eq_zero h0] at hne
        simp at hne
      · exact h0
    obtain ⟨b, off, rfl, hcc⟩ := ints_at hcell hpos
    refine ⟨b, off, rfl, World.block_lt_of_cell? W ⟨b, off + 0, none⟩ (hcc 0 hpos), fun i x hi => ?_⟩
    obtain ⟨hi1, hi2⟩ := List.getElem?_eq_some_iff.1 hi
    rw [List.length_map, hlen] at hi1
    have hil : i < zs.length := by omega
    rw [hcc i hil]
    rw [List.getElem_map, List.getElem_take] at hi2
    rw [← hi2, List.getD_eq_getElem?_getD, List.getElem?_eq_getElem hil]
    rfl
set_option maxRecDepth 100000 in
theorem opn_frame (hval : Value.okWide Tryd.prog W .any base 33 v) (h : DataW.Trod enc Tryd.prog W 0 (fun _ => true) true 33 v d ps) :
    ∃ (R : List Int) (P : Pk) (p : Option Addr) (c : Nat), v = fval (.slice p R.length c) P ∧ P.Wf ∧ Rd W (· < W.heap.size) (.slice p R.length c) (R.map iv) ∧ (∀ z ∈ R, I64 z) ∧ R.length ≤ c ∧ c ≤ 9223372036854775807 ∧ (p = none → c = 0) := by
  have hs := Tryd.underlying33
  obtain ⟨cs, rfl, hsz⟩ := okWide_struct hs hval
  obtain ⟨fuel, hf⟩ := h
  obtain ⟨xs, n, _, _, hl, hlen, hf⟩ := DataW.trod_struct hs hf
  have h11 : cs.toList.length = 11 := hsz.trans (by kernel_rfl)
  obtain ⟨c0, ct, hct, hct10⟩ := list11 h11
  obtain ⟨x0, x1, rfl⟩ := list2 hlen
  have h0 : DataW.trod enc Tryd.prog W 0 (fun _ => true) true n 22 [c0] = some x0 := by simpa [Value.cells, kit_cellsInts, hct] using hf 0 _ rfl
  have h1 : DataW.trod enc Tryd.prog W 0 (fun _ => true) true n 31 ct = some x1 := by
    have := hf 1 _ rfl
    simpa [Value.cells, kit_cellsPk, hct, List.take_of_length_le (Nat.le_of_eq hct10)] using this
  obtain ⟨R, p, c, rfl, hz, hr, h2, h3, h4⟩ := ints_trod h0
  obtain ⟨P, rfl, hP⟩ := pk_trod h1
  refine ⟨R, P, p, c, congrArg Value.agg (Array.ext' ?_), hP, hr, hz, h2, h3, h4⟩
  exact hct
end
end Go.Proofs.YtpabfjhjehjebaaDoor

/- A slice of numbers that comes in as an argument: its numbers as a list. -/
namespace Go.Proofs.YtpabfjhjehjebaaDoor
open Go.ChangeShapes Go.WideShapes Go.ChangeAt Go.RowKit Bs
section
variable {H : Type} {enc : TypeId × Value → H} {W : World} {base : Nat} {v : Value} {d : DataW H} {ps : List MemPlace}
set_option maxRecDepth 100000 in
theorem opn_intsW (hval : Value.okWide Tryd.prog W .any base 22 v) (h : DataW.Trod enc Tryd.prog W 0 (fun _ => true) true 22 v d ps) :
    ∃ (l : List Int) (p : Option Addr) (c : Nat), v = .slice p l.length c ∧ Rd W (· < W.heap.size) (.slice p l.length c) (l.map iv) ∧ (p = none → c = 0) ∧ l.length ≤ c ∧ c ≤ 9223372036854775807 := by
  obtain ⟨p0, n0, c0, rfl⟩ := okWide_slice Tryd.underlying22 hval
  obtain ⟨fuel, hf⟩ := h
  rcases open_ints Tryd.underlying22 Tryd.underlying3 kit_cellsInt hf with ⟨hcs, _⟩ | ⟨a, len, cap, zs, hcs, _, hl, hm, hz, hx, hcell, hw⟩
  · simp [Value.cells] at hcs
    obtain ⟨rfl, rfl, rfl⟩ := hcs
    exact ⟨[], none, 0, rfl, Rd.nil_ _ _ _ _, fun _ => rfl, Nat.le_refl _, by omega⟩
  · simp [Value.cells] at hcs
    obtain ⟨rfl, rfl, rfl⟩ := hcs
    rw [if_pos rfl] at hz
    have hlen : (zs.take n0).length = n0 := by rw [List.length_take]; omega
    refine ⟨zs.take n0, some a, c0, by rw [hlen], ?_, (by intro e; cases e), by rw [hlen]; exact hl, hm⟩
    refine ⟨some a, c0, by simp, fun hne => ?_⟩
    have hpos : 0 < zs.length := by
      rcases Nat.eq_zero_or_pos zs.length with h0 | h0
      · rw [List.eq_nil_of_length_eq_zero h0] at hne
        simp at hne
      · exact h0
    obtain ⟨b, off, rfl, hcc⟩ := ints_at hcell hpos
    refine ⟨b, off, rfl, World.block_lt_of_cell? W ⟨b, off + 0, none⟩ (hcc 0 hpos), fun i x hi => ?_⟩
    obtain ⟨hi1, hi2⟩ := List.getElem?_eq_some_iff.1 hi
    rw [List.length_map, hlen] at hi1
    have hil : i < zs.length := by omega
    rw [hcc i hil]
    rw [List.getElem_map, List.getElem_take] at hi2
    rw [← hi2, List.getD_eq_getElem?_getD, List.getElem?_eq_getElem hil]
    rfl
end
end Go.Proofs.YtpabfjhjehjebaaDoor

/- Rows of the call's own that grow apart. -/
namespace Go.Proofs.YtpabfjhjehjebaaDoor
open Go.RowKit Bs
def zv (x : Nat) : Value := .int .i64 (x : Int)
set_option maxRecDepth 100000 in
theorem zv_one {l : List Nat} : ∀ u ∈ l.map zv, u.oneCell' = true := by
  intro u hu
  obtain ⟨x, _, rfl⟩ := List.mem_map.1 hu
  rfl
set_option maxRecDepth 100000 in
/-- append of ints that are read, onto a row of the call's own. -/
theorem wpList_append_ints {w : World} {ops : Array Oper} {rest : List Oper} {o : Oper} {a : Act} {Q : Exit → Act → World → Prop} (hgd : o.guard = none) (s x : Operand)
    (ho : o.op = .call { callee := .builtin .append, args := #[s, x], argTypes := #[22, 22] }) (base : Nat) (v : Value) (n : Nat) (l : List Nat) (hs : a.eval s = v) (hown : w.ownsRow base 3 1 v n (l.map zv))
    (p : Option Addr) (k c : Nat) (r : List Nat) (hx : a.eval x = .slice p k c) (hk : k = r.length) (hn0 : p = none → c = 0 ∧ k = 0) (hnews : ∀ ad, p = some ad → ∀ j u, (r.map zv)[j]? = some u → w.cell? (ad.add j) = some u) (h63 : n + r.length ≤ 100000) (hbase : base ≤ w.heap.size)
    (h : ∀ v' w', w'.ownsRow base 3 1 v' (n + r.length) ((l ++ r).map zv) → w.grownBy w' v.ownBlock → wpList Tryd.prog ops Q rest (a.put o.dst v') w') : wpList Tryd.prog ops Q (o :: rest) a w := by
  obtain ⟨i0, hi, hz0, hz1, hz2⟩ := info_parts info_int
  subst hk
  cases p with
  | none =>
    obtain ⟨rfl, hr⟩ := hn0 rfl
    obtain rfl := List.eq_nil_of_length_eq_zero hr
    refine wpList_append_own_none hgd s x 22 ho base 3 i0 1 Tryd.underlying22 hi v n (l.map zv) hs hown hx ?_
    refine h v w ?_ (grown_refl _ _)
    rw [List.append_nil]; exact hown
  | some ad =>
    refine wpList_append_own w hgd s x 22 ho base 3 i0 (.int .i64 0) 1 8 Tryd.underlying22 hi hz0 hz1 hz2 rfl (by decide) v n (l.map zv) hs hown ad r.length c (r.map zv) hx (by simp) (hnews ad rfl) zv_one (by unfold maxLen; omega) (by omega) hbase ?_
    intro v' w' h1 h2 _
    refine h v' w' ?_ h2
    rw [List.map_append]; exact h1
set_option maxRecDepth 100000 in
theorem tp_new2 {w1 w2 : World} {a b : Nat} (h : Tp w1 a) (k : w1.grownBy w2 (some b)) (hb : a < b) : Tp w2 a := by
  have hlt := h.lt
  obtain ⟨v, n, i, T⟩ := h
  have hb' : w2.heap[a]? = w1.heap[a]? := k.block a hlt (by intro e; have := Option.some.inj e; omega)
  refine ⟨v, n, i, (World.cell?_of_block (a := ⟨a, 0, none⟩) hb').trans T.l, (World.cell?_of_block (a := ⟨a, 1, none⟩) hb').trans T.p, (World.frozen?_of_block (a := ⟨a, 1, none⟩) hb').trans T.fr, ?_, T.le, T.len⟩
  obtain ⟨p, c, hv, hc⟩ := T.ints
  refine ⟨p, c, hv, fun hn => ?_⟩
  obtain ⟨g, off, hp, hg, hx⟩ := hc hn
  exact ⟨g, off, hp, hg, fun i hi => by obtain ⟨x, hx, hcell⟩ := hx i hi; exact ⟨x, hx, k.cell hcell (by intro e; have e2 : g = b := Option.some.inj e; omega)⟩⟩
set_option maxRecDepth 100000 in
theorem own_cap {w : World} {base n g cap : Nat} {e : TypeId} {xs : List Value} (h : w.ownsRow base e 1 (.slice (some ⟨g, 0, none⟩) n cap) n xs) : n ≤ cap ∧ cap ≤ maxLen := by
  rcases h.2 with ⟨h0, _⟩ | ⟨g', cap', cur, hv, _, _, hn, hc, _⟩
  · cases h0
  · injection hv with _ _ h3
    subst h3
    exact ⟨hn, hc⟩
set_option maxRecDepth 100000 in
theorem grown_own_row {w w1 : World} {k : Nat} {b : Option Nat} (h : w.grownBy w1 b) (hk : k < w.heap.size) (hb : some k ≠ b) : w1.heap[k]? = w.heap[k]? := h.block k hk hb
set_option maxRecDepth 100000 in
/-- An order is made: the old row g is read, the new one lies behind. -/
theorem own_apart {w w1 : World} {base base2 g n cap : Nat} {e : TypeId} {v : Value} {m : Nat} {e2 : TypeId} {xs ys : List Value} (h : w.ownsRow base e 1 (.slice (some ⟨g, 0, none⟩) n cap) n xs) (hv : w.ownsRow base2 e2 1 v m ys) (hg : g < base2) (k : w.grownBy w1 v.ownBlock) : w1.ownsRow base e 1 (.slice (some ⟨g, 0, none⟩) n cap) n xs :=
  h.kept k (.inr (own_ne hv hg))
set_option maxRecDepth 100000 in
theorem St.own_grow {a base n : Nat} {W w w1 : World} {e : TypeId} {v : Value} {xs : List Value} (h : St a W w) (ho : w.ownsRow base e 1 v n xs) (hb : W.heap.size ≤ base) (ha : a < W.heap.size) (k : w.grownBy w1 v.ownBlock) : St a W w1 := by
  have g : W.grownBy w1 (some a) := ⟨k.os.trans h.1.os, k.tape.trans h.1.tape, k.output.trans h.1.output, Nat.le_trans h.1.size k.size, fun i hi hia => (k.block i (Nat.lt_of_lt_of_le hi h.1.size) (own_ne ho (by omega))).trans (h.1.block i hi hia)⟩
  refine ⟨g, ?_⟩
  cases hv : v.ownBlock with
  | none => rw [hv] at k; exact h.2.keep k
  | some b =>
    rw [hv] at k
    exact tp_new2 h.2 k (by have := (ho.lt b hv).1; omega)
set_option maxRecDepth 100000 in
theorem St.none_ {a : Nat} {W w w1 : World} (h : St a W w) (g : w.grownBy w1 none) : St a W w1 := ⟨grown_trans h.1 (grown_none g _), h.2.keep g⟩
end Go.Proofs.YtpabfjhjehjebaaDoor

/- slices.Grow, Concat and Clone of numbers; append of numbers. -/
namespace Go.Proofs.YtpabfjhjehjebaaDoor
open Go.RowKit Bs
set_option maxRecDepth 100000 in
theorem iv_one {l : List Int} : ∀ u ∈ l.map iv, u.oneCell' = true := by
  intro u hu
  obtain ⟨x, _, rfl⟩ := List.mem_map.1 hu
  rfl
set_option maxRecDepth 100000 in
theorem rdi_news {w : World} {q : Nat → Prop} {ad : Addr} {n c : Nat} {r : List Int} (hR : Rd w q (.slice (some ad) n c) (r.map iv)) : ∀ j u, (r.map iv)[j]? = some u → w.cell? (ad.add j) = some u := by
  intro j u hj
  obtain ⟨p1, c1, e1, hx⟩ := hR
  injection e1 with a1 a2 a3
  subst a1
  obtain ⟨b, off, hp, hq, hc⟩ := hx (by intro e; rw [e] at hj; simp at hj)
  injection hp with hp
  subst hp
  rw [add_plain]
  exact hc j u hj
set_option maxRecDepth 100000 in
theorem wpList_append_iv {w : World} {ops : Array Oper} {rest : List Oper} {o : Oper} {a : Act} {Q : Exit → Act → World → Prop} (hgd : o.guard = none) (s x : Operand)
    (ho : o.op = .call { callee := .builtin .append, args := #[s, x], argTypes := #[22, 22] }) (base : Nat) (v : Value) (n : Nat) (l : List Int) (hs : a.eval s = v) (hown : w.ownsRow base 3 1 v n (l.map iv))
    (p : Option Addr) (k c : Nat) (r : List Int) (hx : a.eval x = .slice p k c) (hk : k = r.length) (hn0 : p = none → c = 0) (q : Nat → Prop) (hR : Rd w q (.slice p k c) (r.map iv)) (hkc : k ≤ c) (h63 : n + r.length ≤ 100000) (hbase : base ≤ w.heap.size)
    (h : ∀ v' w', w'.ownsRow base 3 1 v' (n + r.length) ((l ++ r).map iv) → w.grownBy w' v.ownBlock → wpList Tryd.prog ops Q rest (a.put o.dst v') w') : wpList Tryd.prog ops Q (o :: rest) a w := by
  obtain ⟨i0, hi, hz0, hz1, hz2⟩ := info_parts info_int
  subst hk
  cases p with
  | none =>
    obtain rfl := hn0 rfl
    have hr : r.length = 0 := by omega
    obtain rfl := List.eq_nil_of_length_eq_zero hr
    refine wpList_append_own_none hgd s x 22 ho base 3 i0 1 Tryd.underlying22 hi v n (l.map iv) hs hown hx ?_
    refine h v w ?_ (grown_refl _ _)
    rw [List.append_nil]; exact hown
  | some ad =>
    refine wpList_append_own w hgd s x 22 ho base 3 i0 (.int .i64 0) 1 8 Tryd.underlying22 hi hz0 hz1 hz2 rfl (by decide) v n (l.map iv) hs hown ad r.length c (r.map iv) hx (by simp) (rdi_news hR) iv_one (by unfold maxLen; omega) (by omega) hbase ?_
    intro v' w' h1 h2 _
    refine h v' w' ?_ h2
    rw [List.map_append]; exact h1
/-- What returns a list in a row of the call's own. -/
def OwnRet (l : List Int) (w : World) (e : Ending) (w' : World) : Prop := ∃ v, e = .returned v ∧ w'.ownsRow w.heap.size 3 1 v l.length (l.map iv) ∧ w.grownBy w' none
set_option maxRecDepth 100000 in
theorem zeroCells_size (z : Array Value) (n : Nat) : (Builtin.zeroCells z n).size = z.size * n := by
  unfold Builtin.zeroCells
  simp [Nat.mul_comm]
set_option maxHeartbeats 3200000 in
set_option maxRecDepth 100000 in
theorem sgrow_any (n : Nat) (hn : n ≤ 1000) (w : World) :
    Calls Tryd.prog 72 #[.slice none 0 0, .int .i64 (n : Int)] w fun e w' => OwnRet [] w e w' := by
  have h1 : ¬ ((n : Int) < 0) := by omega
  have h2 : wrap64 ((n : Int) - 0) = (n : Int) := by unfold wrap64; omega
  have h3 : wrap64 (n : Int) = (n : Int) := by unfold wrap64; omega
  by_cases h0 : n = 0
  · subst h0
    go_enter Tryd.func72, Tryd.ntmps72
    go_wp2_with fail
    go_ret
    exact ⟨_, rfl, World.ownsRow_nil _ _ _ _, grown_refl _ _⟩
  · obtain ⟨i0, hi, hz0, hz1, hz2⟩ := info_parts info_int
    have hn1 : 0 < (n : Int) := by omega
    have hold : (Builtin.firstCells i0.size 0 (.slice none 0 0)).run Tryd.prog w.drew = .ok #[] w.drew := run_firstCells_none w.drew i0.size 0 0 0
    have hrz : ∀ ty, (Builtin.append_ #[22, 3] ty #[.slice none 0 0, .int .i64 (n : Int)]).run Tryd.prog w =
        .ok (.slice (some ⟨w.heap.size, 0, none⟩) n (grownCap w n 0 3)) (w.drew.alloc (.cells (#[] ++ Builtin.zeroCells (Value.int .i64 0).cells n ++ Builtin.zeroCells (Value.int .i64 0).cells (grownCap w n 0 3 - n)) 3)) := fun ty => by
      have h := Lib.run_append_grow_zeros (P := Tryd.prog) w 22 3 ty 3 i0 (.int .i64 0) .i64 .i64 Tryd.underlying22 Tryd.underlying3 hi hz0 none 0 0 [] hold n (by omega) (by rw [hz1]; decide) (by omega) (by omega) (by rw [hz2]; omega) (by rw [Nat.zero_add]; exact growslice_fits (by omega) (by rw [hz2]; omega))
      rw [Nat.zero_add] at h
      exact h
    have hGn : n ≤ grownCap w n 0 3 := grownCap_ge w _ _ _
    have hGm : grownCap w n 0 3 ≤ maxLen := grownCap_le_maxLen w n 0 3 (by unfold maxLen; omega)
    obtain ⟨G, hG⟩ : ∃ G, G = grownCap w n 0 3 := ⟨_, rfl⟩
    rw [← hG] at hrz hGn hGm
    have hG63 : G ≤ 9223372036854775807 := by unfold maxLen at hGm; omega
    clear hG hold
    have HM := Lib.hid hGm
    clear hGm
    go_enter Tryd.func72, Tryd.ntmps72
    go_wp2_with (at_builtin; refine Lib.wpList_append_run _ rfl _ _ _ _ rfl _ _ rfl rfl _ _ (hrz _) ?_)
    all_goals
      go_ret
      refine ⟨_, rfl, ?_, ?_⟩
      · refine ⟨rfl, Or.inr ⟨w.heap.size, G, _, rfl, Nat.le_refl _, heap_alloc_new w.drew _, Nat.zero_le _, HM.out, ?_, rfl⟩⟩
        simp only [Array.size_append, zeroCells_size]
        show 1 * n + 1 * (G - n) = G * 1
        omega
      · exact grown_trans (grown_drew (grown_refl w none)) (World.grownBy_alloc _ _ _)
def szN (a b : Nat) : Nat → Nat | 0 => 0 | 1 => a | _ => a + b
def ctN (r1 r2 : List Int) : Nat → List Int | 0 => [] | 1 => r1 | _ => r1 ++ r2
/-- While lists are put together. -/
def CatRel (w : World) (l : List Int) (v : Value) (wr : World) : Prop := wr.ownsRow w.heap.size 3 1 v l.length (l.map iv) ∧ w.grownBy wr none
set_option maxHeartbeats 6400000 in
set_option maxRecDepth 100000 in
theorem sconcat_any (r1 r2 : List Int) (p1 p2 : Option Addr) (c1 c2 : Nat) (q1 q2 : Nat → Prop) (b : Nat) (w : World) (h1 : Rd w q1 (.slice p1 r1.length c1) (r1.map iv)) (h2 : Rd w q2 (.slice p2 r2.length c2) (r2.map iv)) (n1 : p1 = none → c1 = 0) (n2 : p2 = none → c2 = 0) (l1 : r1.length ≤ c1) (l2 : r2.length ≤ c2) (hl : r1.length + r2.length ≤ 1000)
    (e0 : w.cell? ⟨b, 0, none⟩ = some (.slice p1 r1.length c1)) (e1 : w.cell? ⟨b, 1, none⟩ = some (.slice p2 r2.length c2)) :
    Calls Tryd.prog 40 #[.slice (some ⟨b, 0, none⟩) 2 2] w fun e w' => OwnRet (r1 ++ r2) w e w' := by
  have HR := Lib.hid (And.intro h1 h2)
  have HN := Lib.hid (And.intro n1 n2)
  have HE := Lib.hid (And.intro e0 e1)
  clear h1 h2 n1 n2
  go_enter Tryd.func40, Tryd.ntmps40
  go_wp2_with fail
  go_loopw [3, 11] (fun s i wr => ∃ j : Nat, j ≤ 2 ∧ i = .int .i64 (j : Int) ∧ s = .int .i64 ((szN r1.length r2.length j : Nat) : Int) ∧ wr = w) (fun _ i _ => (2 - (intOf i).toNat))
  case atStart => exact ⟨0, by omega, rfl, rfl, rfl⟩
  case round =>
    obtain ⟨j, hj, rfl, rfl, rfl⟩ := hrel
    rcases (show j = 0 ∨ j = 1 ∨ j = 2 by omega) with rfl | rfl | rfl
    · have s0 : ((szN r1.length r2.length 0 : Nat) : Int) = 0 := rfl
      rw [s0]
      have z1 : ¬ (r1.length : Int) < 0 := by omega
      go_wp2_with fail
      exact ⟨⟨1, by omega, rfl, rfl, trivial⟩, by simp [intOf]⟩
    · have s0 : ((szN r1.length r2.length 1 : Nat) : Int) = (r1.length : Int) := rfl
      rw [s0]
      have z1 : ¬ (r1.length : Int) + (r2.length : Int) < 0 := by omega
      go_wp2_with fail
      exact ⟨⟨2, by omega, rfl, by congr 1, trivial⟩, by simp [intOf]⟩
    · have s0 : ((szN r1.length r2.length 2 : Nat) : Int) = ((r1.length + r2.length : Nat) : Int) := rfl
      rw [s0]
      obtain ⟨M, hM⟩ : ∃ M, M = r1.length + r2.length := ⟨_, rfl⟩
      rw [← hM]
      have hM1 : M ≤ 1000 := by omega
      clear hM s0
      go_wp2_with fail
      refine (sgrow_any M hM1 _).mono ?_
      rintro e w1 ⟨v1, rfl, ho, hg⟩
      have H0 : Hid (CatRel wr (ctN r1 r2 0) v1 w1) := Lib.hid ⟨ho, hg⟩
      clear ho hg e0 e1
      go_wp2_with fail
      obtain ⟨wo, rfl⟩ : ∃ wo : World, wo = wr := ⟨_, rfl⟩
      go_loopw [6, 27] (fun v i wr => ∃ j : Nat, j ≤ 2 ∧ i = .int .i64 (j : Int) ∧ Hid (CatRel wo (ctN r1 r2 j) v wr)) (fun _ i _ => (2 - (intOf i).toNat))
      case atStart => exact ⟨0, by omega, rfl, H0⟩
      case round =>
        obtain ⟨j, hj, rfl, HC⟩ := hrel
        clear H0
        have e0 := HC.out.2.cell HE.out.1 (by simp)
        have e1 := HC.out.2.cell HE.out.2 (by simp)
        have hsz := HC.out.2.size
        rcases (show j = 0 ∨ j = 1 ∨ j = 2 by omega) with rfl | rfl | rfl
        · go_wp2_with (at_builtin; refine wpList_append_iv rfl _ _ rfl wo.heap.size _ _ _ rfl HC.out.1 p1 r1.length c1 r1 rfl rfl HN.out.1 q1 (HR.out.1.keep HC.out.2) l1 (by show 0 + _ ≤ _; omega) hsz ?_)
          intro v' w2 h1 h2
          have H2 : Hid (CatRel wo (ctN r1 r2 1) v' w2) := Lib.hid ⟨by have h3 := h1; rw [show (ctN r1 r2 0).length + r1.length = r1.length by show 0 + _ = _; omega] at h3; exact h3, grown_own HC.out.2 HC.out.1 (Nat.le_refl _) h2⟩
          clear h1 h2 e0 e1
          go_wp2_with fail
          exact ⟨⟨1, by omega, rfl, H2⟩, by simp [intOf]⟩
        · go_wp2_with (at_builtin; refine wpList_append_iv rfl _ _ rfl wo.heap.size _ _ _ rfl HC.out.1 p2 r2.length c2 r2 rfl rfl HN.out.2 q2 (HR.out.2.keep HC.out.2) l2 (by show r1.length + _ ≤ _; omega) hsz ?_)
          intro v' w2 h1 h2
          have H2 : Hid (CatRel wo (ctN r1 r2 2) v' w2) := Lib.hid ⟨by have h3 := h1; rw [show (ctN r1 r2 1).length + r2.length = (r1 ++ r2).length by rw [List.length_append]; rfl] at h3; first | exact h3 | (rw [← List.map_append] at h3; exact h3), grown_own HC.out.2 HC.out.1 (Nat.le_refl _) h2⟩
          clear h1 h2 e0 e1
          go_wp2_with fail
          exact ⟨⟨2, by omega, rfl, H2⟩, by simp [intOf]⟩
        · go_wp2_with fail
          go_ret
          exact ⟨_, rfl, HC.out⟩
set_option maxHeartbeats 3200000 in
set_option maxRecDepth 100000 in
theorem sclone_any (r : List Int) (p : Option Addr) (c : Nat) (q : Nat → Prop) (w : World) (h : Rd w q (.slice p r.length c) (r.map iv)) (hn : p = none → c = 0) (hc : r.length ≤ c) (hl : r.length ≤ 1000) :
    Calls Tryd.prog 42 #[.slice p r.length c] w fun e w' => OwnRet r w e w' := by
  have HR := Lib.hid h
  have HN := Lib.hid hn
  clear h hn
  have heq := fun (w : World) (a : Option Addr) (n c : Nat) => Lib.run_eql_slice_nil (P := Tryd.prog) w 22 3 a n c 0 0 Tryd.underlying22
  cases p with
  | none =>
    have h0 : r.length = 0 := by have := HN.out rfl; omega
    obtain rfl := List.eq_nil_of_length_eq_zero h0
    obtain rfl := HN.out rfl
    have heq2 := fun (w : World) => heq w none 0 0
    go_enter Tryd.func42, Tryd.ntmps42
    go_wp2_with fail
    go_ret
    exact ⟨_, rfl, World.ownsRow_nil _ _ _ _, grown_refl _ _⟩
  | some ad =>
    have heq2 := fun (w : World) => heq w (some ad) r.length c
    have O2 := Lib.hid (World.ownsRow_lit (e := 3) (size := 1) (base := w.heap.size) w #[] 0 (Nat.le_refl _) (by decide) rfl)
    have HR2 := Lib.hid (HR.out.keep (World.grownBy_alloc w (.cells #[] 3) none))
    go_enter Tryd.func42, Tryd.ntmps42
    go_wp2_with (at_builtin; refine wpList_append_iv rfl _ _ rfl w.heap.size _ 0 [] rfl O2.out (some ad) r.length c r rfl rfl (by intro e; cases e) q HR2.out hc (by omega) (by simp) ?_)
    intro v' w2 h1 h2
    have H2 := Lib.hid (And.intro h1 (grown_own (World.grownBy_alloc w (.cells #[] 3) none) O2.out (Nat.le_refl _) h2))
    clear h1 h2
    go_wp2_with fail
    go_ret
    exact ⟨_, rfl, H2.out.1, H2.out.2⟩
end Go.Proofs.YtpabfjhjehjebaaDoor

/- stack: joined. -/
namespace Go.Proofs.YtpabfjhjehjebaaDoor
open Go.RowKit Bs
/-- A slice of slices of bytes. -/
def RdB (w : World) (q : Nat → Prop) (p : Option Addr) (Ls : List (List Nat)) : Prop :=
  Ls ≠ [] → ∃ b off, p = some ⟨b, off, none⟩ ∧ ∀ i L, Ls[i]? = some L → ∃ p' c', w.cell? ⟨b, off + i, none⟩ = some (.slice p' L.length c') ∧ Rd w q (.slice p' L.length c') (L.map nv) ∧ (p' = none → c' = 0)
set_option maxRecDepth 100000 in
theorem RdB.keep {w w' : World} {q : Nat → Prop} {p : Option Addr} {Ls : List (List Nat)} (h : RdB w q p Ls) (g : w.grownBy w' none) : RdB w' q p Ls := by
  intro hne
  obtain ⟨b, off, hp, hx⟩ := h hne
  refine ⟨b, off, hp, fun i L hi => ?_⟩
  obtain ⟨p', c', h1, h2, h3⟩ := hx i L hi
  exact ⟨p', c', g.cell h1 (by simp), h2.keep g, h3⟩
/-- What joined returns. -/
def JPost (L : List Nat) (w : World) (e : Ending) (w' : World) : Prop := ∃ p c, e = .returned (.slice p L.length c) ∧ Own w' w.heap.size p c L ∧ w.grownBy w' none
set_option maxRecDepth 100000 in
theorem flat_next {Ls : List (List Nat)} {k : Nat} {L : List Nat} (h : Ls[k]? = some L) : (Ls.take (k + 1)).flatten = (Ls.take k).flatten ++ L := by
  rw [List.take_add_one, h]; simp
set_option maxRecDepth 100000 in
theorem flat_le {Ls : List (List Nat)} {k : Nat} : ((Ls.take k).flatten).length ≤ Ls.flatten.length := by
  have e : Ls.flatten = (Ls.take k).flatten ++ (Ls.drop k).flatten := by rw [← List.flatten_append, List.take_append_drop]
  rw [e, List.length_append]; omega
set_option maxHeartbeats 1600000 in
set_option maxRecDepth 100000 in
theorem sjoin_any (Ls : List (List Nat)) (hB : ∀ L ∈ Ls, By L) (hsm : Ls.flatten.length ≤ 90000) (p : Option Addr) (n c : Nat) (hn : n = Ls.length) (hn2 : Ls.length ≤ 100) (q : Nat → Prop) (w : World) (hR : RdB w q p Ls) :
    Calls Tryd.prog 68 #[.slice p n c] w fun e w' => JPost Ls.flatten w e w' := by
  subst hn
  have HR := Lib.hid hR
  have HS := Lib.hid hsm
  clear hR hsm
  go_enter Tryd.func68, Tryd.ntmps68
  go_wp2_with fail
  go_loopw [3, 8] (fun v a wr => ∃ k : Nat, k ≤ Ls.length ∧ a = .int .i64 (k : Int) ∧ wr.ownsRow w.heap.size 5 1 v ((Ls.take k).flatten).length (((Ls.take k).flatten).map nv) ∧ w.grownBy wr none) (fun _ a _ => Ls.length - (intOf a).toNat)
  case atStart => exact ⟨0, Nat.zero_le _, rfl, World.ownsRow_nil _ _ _ _, grown_refl _ _⟩
  case round =>
    obtain ⟨k, hk, rfl, hO, hG⟩ := hrel
    have HG := Lib.hid hG
    by_cases hlt : k < Ls.length
    · obtain ⟨F, hF⟩ : ∃ F, (Ls.take k).flatten = F := ⟨_, rfl⟩
      rw [hF] at hO
      have HO := Lib.hid hO
      have HFF := Lib.hid hF
      clear hO hG hF
      obtain ⟨b, off, rfl, hx⟩ := HR.out.keep HG.out (by intro e; rw [e] at hlt; simp at hlt)
      obtain ⟨L, hL⟩ : ∃ L, Ls[k]? = some L := ⟨_, List.getElem?_eq_getElem hlt⟩
      obtain ⟨p', c', h1, h2, h3⟩ := hx k L hL
      have HF : Hid ((Ls.take (k + 1)).flatten = F ++ L) := Lib.hid (by rw [flat_next hL, HFF.out])
      have HLE := Lib.hid (flat_le (Ls := Ls) (k := k + 1))
      have HRD := Lib.hid (And.intro h2 h3)
      clear hx hL h2 h3
      go_wp2_with (at_builtin; refine wpList_append_rd rfl _ _ rfl w.heap.size u3 F.length F rfl HO.out p' L.length c' L rfl rfl q HRD.out.1 HRD.out.2 ?c1 ?c2 ?_)
      case c1 => have h1 := HLE.out; have h2 := HS.out; rw [HF.out, List.length_append] at h1; omega
      case c2 => exact HG.out.size
      intro v' w' hown hg
      have HO2 : Hid (w'.ownsRow w.heap.size 5 1 v' ((Ls.take (k + 1)).flatten).length (((Ls.take (k + 1)).flatten).map nv)) := Lib.hid (by rw [HF.out, List.length_append, List.map_append]; exact hown)
      have HG2 := Lib.hid (grown_own HG.out HO.out (Nat.le_refl _) hg)
      clear hown hg
      go_wp2_with fail
      exact ⟨⟨k + 1, by omega, congrArg _ (by omega), HO2.out, HG2.out⟩, by simp only [intOf]; omega⟩
    · obtain rfl : k = Ls.length := by omega
      have e : Ls.take Ls.length = Ls := List.take_length
      rw [e] at hO
      obtain ⟨p2, c2, rfl, hpc⟩ := own_parts hO
      have HO3 := Lib.hid hO
      clear hO hG e
      go_wp2_with fail
      go_ret
      refine ⟨p2, c2, rfl, ⟨HO3.out, hpc, fun x hx => ?_⟩, HG.out⟩
      obtain ⟨L, hL, hx2⟩ := List.mem_flatten.1 hx
      exact hB L hL x hx2
end Go.Proofs.YtpabfjhjehjebaaDoor

/- Blocks that a call fills: rows; make of several cells. -/
namespace Go.Proofs.YtpabfjhjehjebaaDoor
open Go.RowKit Bs
/-- Block g has the cells xs. -/
def Row (w : World) (g : Nat) (t : TypeId) (xs : List Value) : Prop := w.heap[g]? = some (.cells xs.toArray t (0, 0))
set_option maxRecDepth 100000 in
theorem Row.set {w : World} {g : Nat} {t : TypeId} {xs : List Value} (h : Row w g t xs) (j : Nat) (v : Value) : Row (w.setCell ⟨g, j, none⟩ v) g t (xs.set j v) := by
  have := heap_setCell_same w g j _ _ v h
  rw [List.setIfInBounds_toArray] at this
  exact this
set_option maxRecDepth 100000 in
theorem Row.cell {w : World} {g : Nat} {t : TypeId} {xs : List Value} (h : Row w g t xs) {j : Nat} {x : Value} (hj : xs[j]? = some x) : w.cell? ⟨g, j, none⟩ = some x := by
  rw [cell_of_row _ _ _ _ _ _ h]
  simpa using hj
set_option maxRecDepth 100000 in
theorem Row.frozen {w : World} {g : Nat} {t : TypeId} {xs : List Value} (h : Row w g t xs) (j : Nat) : w.frozen? ⟨g, j, none⟩ = false := frozen_of_row _ _ _ _ _ h
set_option maxRecDepth 100000 in
theorem Row.kept {w w' : World} {g : Nat} {t : TypeId} {xs : List Value} {r : Option Nat} (h : Row w g t xs) (k : w.grownBy w' r) (hr : some g ≠ r) : Row w' g t xs := kept_row h k hr
set_option maxRecDepth 100000 in
theorem Row.lt {w : World} {g : Nat} {t : TypeId} {xs : List Value} (h : Row w g t xs) : g < w.heap.size := by
  unfold Row at h
  rcases Nat.lt_or_ge g w.heap.size with h1 | h1
  · exact h1
  · rw [Array.getElem?_eq_none h1] at h; cases h
set_option maxRecDepth 100000 in
theorem Row.rd {w : World} {g : Nat} {t : TypeId} {xs : List Value} (h : Row w g t xs) (n c : Nat) : RdK w (· = g) (.slice (some ⟨g, 0, none⟩) n c) n xs :=
  ⟨_, c, rfl, fun _ => ⟨g, 0, rfl, rfl, fun i x hi => by rw [Nat.zero_add]; exact h.cell hi⟩⟩
set_option maxRecDepth 100000 in
/-- make, as a law for the walk. -/
theorem wpList_make_k (w : World) {ops : Array Oper} {rest : List Oper} {o : Oper} {a : Act} {Q : Exit → Act → World → Prop} (hg : o.guard = none) (l c : Operand) (t : TypeId) (hop : o.op = Op.makeSlice t l c)
    (e : TypeId) (i : TypeInfo) (z : Value) (ht : Tryd.prog.underlying t = some (.slice e)) (hi : Tryd.prog.info? e = some i) (hz : i.zero = some z) (n : Nat) (hl : a.eval l = .int .i64 (n : Int)) (hc : a.eval c = .int .i64 (n : Int)) (hn : n ≤ 1000000) (hb : i.bytes ≤ 1000)
    (hK : wpList Tryd.prog ops Q rest (a.put o.dst (.slice (some ⟨w.heap.size, 0, none⟩) n n)) (w.alloc (.cells (madeCells z.cells (n * i.size)) e))) : wpList Tryd.prog ops Q (o :: rest) a w := by
  refine wpList_plain hg fun K hK' => ?_
  have hb2 : i.bytes * n ≤ 1000 * 1000000 := Nat.mul_le_mul hb hn
  have hb3 : (i.bytes : Int) * (n : Int) ≤ 281474976710656 := by
    have : ((i.bytes * n : Nat) : Int) ≤ 281474976710656 := by omega
    rwa [Int.natCast_mul] at this
  have hrun := run_make (P := Tryd.prog) w t e i z ht hi hz .i64 .i64 (n : Int) (n : Int) (by omega) (Int.le_refl _) hb3 (by omega)
  rw [Int.toNat_natCast] at hrun
  unfold Oper.wp
  simp [execOp, hop, hl, hc, hrun, Result.andThen]
  exact hK' _ _ hK
set_option maxRecDepth 100000 in
theorem made_same (z : Array Value) (x : Value) (hz : ∀ i, i < z.size → z[i]! = x) (hs : 0 < z.size) (N : Nat) : madeCells z N = (List.replicate N x).toArray := by
  unfold madeCells
  apply Array.ext'
  rw [Array.toList_map, Array.toList_range]
  apply List.ext_getElem?
  intro i
  rw [List.getElem?_map]
  show _ = (List.replicate N x)[i]?
  rw [List.getElem?_replicate]
  by_cases h : i < N
  · rw [List.getElem?_range h, if_pos h]
    show some (z[i % z.size]!) = _
    rw [hz _ (Nat.mod_lt _ hs)]
  · rw [List.getElem?_eq_none (by simpa using h), if_neg h]; rfl
end Go.Proofs.YtpabfjhjehjebaaDoor
