/- Parts of the proof, packed: StRoute, StVFrame, StOpn, StJoin, StRow, StLabs, StEncL, PkSize. -/
import Derived.Test.YtpombmpkccnefaaDoorSl6
import Derived.Test.YtpombmpkccnefaaDoorSl8
import Derived.Test.YtpombmpkccnefaaDoorSl5
import Derived.Test.YtpombmpkccnefaaDoorSl3
import Derived.Test.YtpombmpkccnefaaDoorSl7
/- stack: allValid, allDifferent; slices.Index and Contains of numbers. -/
namespace Go.Proofs.YtpombmpkccnefaaDoor
open Go.RowKit Bs
def iv (z : Int) : Value := .int .i64 z
set_option maxRecDepth 100000 in
theorem rdi_cells {w : World} {q : Nat → Prop} {p : Option Addr} {n c : Nat} {r : List Int} (h : Rd w q (.slice p n c) (r.map iv)) (hn : 0 < r.length) :
    ∃ b off, p = some ⟨b, off, none⟩ ∧ q b ∧ ∀ i, i < r.length → w.cell? ⟨b, off + i, none⟩ = some (.int .i64 (r.getD i 0)) := by
  obtain ⟨p1, c1, e1, hx⟩ := h
  injection e1 with a1 a2 a3
  subst a1
  obtain ⟨b, off, hp, hq, hc⟩ := hx (by intro e; have := congrArg List.length e; simp only [List.length_map, List.length_nil] at this; omega)
  refine ⟨b, off, hp, hq, fun i hi => hc i _ ?_⟩
  rw [List.getElem?_map, List.getElem?_eq_getElem hi, List.getD_eq_getElem?_getD, List.getElem?_eq_getElem hi]; rfl
set_option maxRecDepth 100000 in
theorem rdi_take {w : World} {q : Nat → Prop} {p : Option Addr} {n c : Nat} {r : List Int} (h : Rd w q (.slice p n c) (r.map iv)) (k : Nat) (hk : k ≤ r.length) : Rd w q (.slice p k c) ((r.take k).map iv) := by
  obtain ⟨p1, c1, e1, hx⟩ := h
  injection e1 with a1 a2 a3
  subst a1
  refine ⟨p, c, by rw [List.length_map, List.length_take, Nat.min_eq_left hk], fun hne => ?_⟩
  obtain ⟨b, off, hp, hq, hc⟩ := hx (by intro e; apply hne; rw [List.map_take, e]; simp)
  refine ⟨b, off, hp, hq, fun i x hi => hc i x ?_⟩
  rw [List.map_take] at hi
  rw [List.getElem?_take] at hi
  split at hi
  · exact hi
  · cases hi
set_option maxHeartbeats 1600000 in
set_option maxRecDepth 100000 in
theorem sidx_any (r : List Int) (x : Int) (p : Option Addr) (c : Nat) (q : Nat → Prop) (w : World) (hR : Rd w q (.slice p r.length c) (r.map iv)) (hm : r.length ≤ 9223372036854775807) :
    Calls Tryd.prog 112 #[.slice p r.length c, .int .i64 x] w fun e w' => ∃ i : Int, e = .returned (.int .i64 i) ∧ (decide (0 ≤ i) = r.contains x) ∧ w' = w := by
  have HR := Lib.hid hR
  clear hR
  go_enter Tryd.func112, Tryd.ntmps112
  go_wp2_with fail
  go_loopw [8] (fun a wr => ∃ k : Nat, k ≤ r.length ∧ a = .int .i64 (k : Int) ∧ wr = w ∧ ∀ j, j < k → r.getD j 0 ≠ x) (fun a _ => r.length - (intOf a).toNat)
  case atStart => exact ⟨0, Nat.zero_le _, rfl, rfl, fun j hj => absurd hj (Nat.not_lt_zero _)⟩
  case round =>
    obtain ⟨k, hk, rfl, rfl, hne⟩ := hrel
    by_cases hlt : k < r.length
    · obtain ⟨b, off, rfl, hq, hc⟩ := rdi_cells HR.out (by omega)
      have c0 := hc k hlt
      clear hc
      obtain ⟨y, hy⟩ : ∃ y, r.getD k 0 = y := ⟨_, rfl⟩
      rw [hy] at c0
      by_cases e : x = y
      · subst e
        have HY := Lib.hid hy
        clear hy
        go_wp2_with fail
        go_ret
        refine ⟨k, rfl, ?_, rfl⟩
        rw [Bool.eq_iff_iff, decide_eq_true_eq, List.contains_iff_mem]
        refine ⟨fun _ => ?_, fun _ => by omega⟩
        have h3 := HY.out
        rw [List.getD_eq_getElem?_getD, List.getElem?_eq_getElem hlt] at h3
        rw [← h3]; exact List.getElem_mem hlt
      · have HY := Lib.hid hy
        clear hy
        go_wp2_with fail
        refine ⟨⟨k + 1, by omega, congrArg _ (by omega), trivial, fun j hj => ?_⟩, by simp only [intOf]; omega⟩
        by_cases h2 : j = k
        · subst h2
          rw [HY.out]
          exact fun h => e h.symm
        · exact hne j (by omega)
    · obtain rfl : k = r.length := by omega
      go_wp2_with fail
      go_ret
      refine ⟨-1, rfl, ?_, rfl⟩
      rw [Bool.eq_iff_iff, decide_eq_true_eq, List.contains_iff_mem]
      refine ⟨fun h => by omega, fun h => ?_⟩
      obtain ⟨i, hi, he⟩ := List.getElem_of_mem h
      refine absurd ?_ (hne i hi)
      rw [List.getD_eq_getElem?_getD, List.getElem?_eq_getElem hi]
      exact he
set_option maxRecDepth 100000 in
theorem scontains_any (r : List Int) (x : Int) (p : Option Addr) (n c : Nat) (hn : n = r.length) (q : Nat → Prop) (w : World) (hR : Rd w q (.slice p n c) (r.map iv)) (hm : r.length ≤ 9223372036854775807) :
    Calls Tryd.prog 104 #[.slice p n c, .int .i64 x] w fun e w' => e = .returned (.bool (r.contains x)) ∧ w' = w := by
  subst hn
  go_enter Tryd.func104, Tryd.ntmps104
  go_wp2_with (go_at_call 112; refine (sidx_any r x p c q _ hR hm).mono ?_; rintro e w' ⟨i, rfl, hi, rfl⟩; have HI := Lib.hid hi; clear hi)
  go_ret
  rw [← HI.out]
  exact ⟨rfl, rfl⟩
set_option maxRecDepth 100000 in
theorem svr_any (z : Int) (w : World) :
    Calls Tryd.prog 103 #[.int .i64 z] w fun e w' => e = .returned (.bool (okR z)) ∧ w' = w := by
  go_enter Tryd.func103, Tryd.ntmps103
  go_wp2_with (go_at_call 73; refine (swithin_any _ _ _ _).mono ?_; rintro e w' ⟨rfl, rfl⟩)
  go_ret
  refine ⟨?_, rfl⟩
  unfold okR
  rw [Bool.decide_and]; rfl
set_option maxHeartbeats 1600000 in
set_option maxRecDepth 100000 in
theorem sallv_any (r : List Int) (p : Option Addr) (c : Nat) (q : Nat → Prop) (w : World) (hR : Rd w q (.slice p r.length c) (r.map iv)) (hm : r.length ≤ 9223372036854775807) :
    Calls Tryd.prog 74 #[.slice p r.length c] w fun e w' => e = .returned (.bool (allR r)) ∧ w' = w := by
  have HR := Lib.hid hR
  clear hR
  go_enter Tryd.func74, Tryd.ntmps74
  go_wp2_with fail
  go_loopw [7] (fun a wr => ∃ k : Nat, k ≤ r.length ∧ a = .int .i64 (k : Int) ∧ wr = w ∧ ∀ j, j < k → okR (r.getD j 0) = true) (fun a _ => r.length - (intOf a).toNat)
  case atStart => exact ⟨0, Nat.zero_le _, rfl, rfl, fun j hj => absurd hj (Nat.not_lt_zero _)⟩
  case round =>
    obtain ⟨k, hk, rfl, rfl, hne⟩ := hrel
    by_cases hlt : k < r.length
    · obtain ⟨b, off, rfl, hq, hc⟩ := rdi_cells HR.out (by omega)
      have c0 := hc k hlt
      clear hc
      obtain ⟨y, hy⟩ : ∃ y, r.getD k 0 = y := ⟨_, rfl⟩
      rw [hy] at c0
      have HY := Lib.hid hy
      clear hy
      go_wp2_with fail
      refine (svr_any y _).mono ?_
      rintro e w' ⟨rfl, rfl⟩
      cases hz : okR y
      · go_wp2_with fail
        go_ret
        refine ⟨?_, rfl⟩
        have h3 := HY.out
        rw [List.getD_eq_getElem?_getD, List.getElem?_eq_getElem hlt] at h3
        have : allR r = false := by
          rw [Bool.eq_false_iff]
          intro h
          have := List.all_eq_true.1 h _ (List.getElem_mem hlt)
          rw [show r[k] = y from h3, hz] at this
          cases this
        rw [this]; rfl
      · go_wp2_with fail
        refine ⟨⟨k + 1, by omega, congrArg _ (by omega), trivial, fun j hj => ?_⟩, by simp only [intOf]; omega⟩
        by_cases h2 : j = k
        · subst h2
          rw [HY.out]
          exact hz
        · exact hne j (by omega)
    · obtain rfl : k = r.length := by omega
      go_wp2_with fail
      go_ret
      have : allR r = true := by
        refine List.all_eq_true.2 fun x hx => ?_
        obtain ⟨i, hi, he⟩ := List.getElem_of_mem hx
        have := hne i hi
        rw [List.getD_eq_getElem?_getD, List.getElem?_eq_getElem hi] at this
        rw [← he]; exact this
      rw [this]
      exact ⟨rfl, rfl⟩
set_option maxRecDepth 100000 in
theorem rep_hit {r : List Int} {k : Nat} {y : Int} (hk : k < r.length) (hy : r.getD k 0 = y) (h : (r.take k).contains y = true) : rep r = true := by
  refine List.any_eq_true.2 ⟨k, List.mem_range.2 hk, ?_⟩
  rw [hy]; exact h
set_option maxRecDepth 100000 in
theorem rep_miss {r : List Int} (h : ∀ j, j < r.length → (r.take j).contains (r.getD j 0) = false) : rep r = false := by
  rw [Bool.eq_false_iff]
  intro hr
  obtain ⟨k, hk, h2⟩ := List.any_eq_true.1 hr
  rw [h k (List.mem_range.1 hk)] at h2
  cases h2
set_option maxHeartbeats 1600000 in
set_option maxRecDepth 100000 in
theorem salld_any (r : List Int) (p : Option Addr) (c : Nat) (hc0 : r.length ≤ c) (hcm : c ≤ 9223372036854775807) (q : Nat → Prop) (w : World) (hR : Rd w q (.slice p r.length c) (r.map iv)) :
    Calls Tryd.prog 75 #[.slice p r.length c] w fun e w' => e = .returned (.bool (!rep r)) ∧ w' = w := by
  have HR := Lib.hid hR
  have hm := Nat.le_trans hc0 hcm
  clear hR
  go_enter Tryd.func75, Tryd.ntmps75
  go_wp2_with fail
  go_loopw [7] (fun a wr => ∃ k : Nat, k ≤ r.length ∧ a = .int .i64 (k : Int) ∧ wr = w ∧ ∀ j, j < k → (r.take j).contains (r.getD j 0) = false) (fun a _ => r.length - (intOf a).toNat)
  case atStart => exact ⟨0, Nat.zero_le _, rfl, rfl, fun j hj => absurd hj (Nat.not_lt_zero _)⟩
  case round =>
    obtain ⟨k, hk, rfl, rfl, hne⟩ := hrel
    by_cases hlt : k < r.length
    · obtain ⟨b, off, rfl, hq, hc⟩ := rdi_cells HR.out (by omega)
      have c0 := hc k hlt
      have hkc : k ≤ c := by omega
      clear hc
      obtain ⟨y, hy⟩ : ∃ y, r.getD k 0 = y := ⟨_, rfl⟩
      rw [hy] at c0
      have HY := Lib.hid hy
      clear hy
      go_wp2_with fail
      refine (scontains_any (r.take k) y _ _ _ (by rw [List.length_take]; omega) q _ (rdi_take HR.out k hk) (by rw [List.length_take]; omega)).mono ?_
      rintro e w' ⟨rfl, rfl⟩
      cases hz : (r.take k).contains y
      · go_wp2_with fail
        refine ⟨⟨k + 1, by omega, congrArg _ (by omega), trivial, fun j hj => ?_⟩, by simp only [intOf]; omega⟩
        by_cases h2 : j = k
        · subst h2
          rw [HY.out]
          exact hz
        · exact hne j (by omega)
      · go_wp2_with fail
        go_ret
        rw [rep_hit hlt HY.out hz]
        exact ⟨rfl, rfl⟩
    · obtain rfl : k = r.length := by omega
      have HN := Lib.hid hne
      clear hne
      go_wp2_with fail
      go_ret
      rw [rep_miss HN.out]
      exact ⟨rfl, rfl⟩
end Go.Proofs.YtpombmpkccnefaaDoor

/- stack: ValidFrame. -/
namespace Go.Proofs.YtpombmpkccnefaaDoor
open Go.RowKit Bs
/-- A frame's cells. -/
def frcells (v : Value) (P : Pk) : Array Value := #[v, .int .i64 P.mode, .int .i64 P.sub, .int .i64 P.set, .int .i64 P.len, .int .i64 P.ttl, .int .i64 P.ent, .int .i64 P.ing, .int .i64 P.pro, .int .u64 (P.bits : Int), .string P.pay]
set_option maxRecDepth 100000 in
theorem fr_facts {w : World} {b : Nat} {v : Value} {P : Pk} (h : w.heap[b]? = some (.cells (frcells v P) 43 (0, 0))) :
    w.cell? ⟨b, 0, none⟩ = some v ∧ w.cell? ⟨b, 1, none⟩ = some (.int .i64 P.mode) ∧ w.cell? ⟨b, 2, none⟩ = some (.int .i64 P.sub) ∧ w.cell? ⟨b, 3, none⟩ = some (.int .i64 P.set) ∧ w.cell? ⟨b, 4, none⟩ = some (.int .i64 P.len) ∧ w.cell? ⟨b, 5, none⟩ = some (.int .i64 P.ttl) ∧ w.cell? ⟨b, 6, none⟩ = some (.int .i64 P.ent) ∧ w.cell? ⟨b, 7, none⟩ = some (.int .i64 P.ing) ∧ w.cell? ⟨b, 8, none⟩ = some (.int .i64 P.pro) ∧ w.cell? ⟨b, 9, none⟩ = some (.int .u64 (P.bits : Int)) ∧ w.cell? ⟨b, 10, none⟩ = some (.string P.pay) :=
  ⟨cell_of_row _ _ _ _ _ _ h, cell_of_row _ _ _ _ _ _ h, cell_of_row _ _ _ _ _ _ h, cell_of_row _ _ _ _ _ _ h, cell_of_row _ _ _ _ _ _ h, cell_of_row _ _ _ _ _ _ h, cell_of_row _ _ _ _ _ _ h, cell_of_row _ _ _ _ _ _ h, cell_of_row _ _ _ _ _ _ h, cell_of_row _ _ _ _ _ _ h, cell_of_row _ _ _ _ _ _ h⟩
/-- A frame as a value. -/
def fval (v : Value) (P : Pk) : Value := .agg #[v, .int .i64 P.mode, .int .i64 P.sub, .int .i64 P.set, .int .i64 P.len, .int .i64 P.ttl, .int .i64 P.ent, .int .i64 P.ing, .int .i64 P.pro, .int .u64 (P.bits : Int), .string P.pay]
set_option maxHeartbeats 3200000 in
set_option maxRecDepth 100000 in
theorem svfr_any (r : List Int) (P : Pk) (hP : P.Wf) (p : Option Addr) (c : Nat) (hc0 : r.length ≤ c) (hcm : c ≤ 9223372036854775807) (q : Nat → Prop) (w : World) (hR : Rd w q (.slice p r.length c) (r.map iv)) :
    Calls Tryd.prog 22 #[fval (.slice p r.length c) P] w fun e w' => e = .returned (.bool (vfr r P)) ∧ w.grownBy w' none := by
  unfold fval
  obtain ⟨k1, k2⟩ := sone_box w (frcells (.slice p r.length c) P) 43
  obtain ⟨c0, c1, c2, c3, c4, c5, c6, c7, c8, c9, c10⟩ := fr_facts k1
  have HR := Lib.hid (hR.keep k2)
  have K := Lib.hid k2
  have hval : P.val = .agg #[.int .i64 P.mode, .int .i64 P.sub, .int .i64 P.set, .int .i64 P.len, .int .i64 P.ttl, .int .i64 P.ent, .int .i64 P.ing, .int .i64 P.pro, .int .u64 (P.bits : Int), .string P.pay] := rfl
  have HV := Lib.hid hval
  have HC := Lib.hid (And.intro hc0 hcm)
  clear k1 k2 hR hval hc0 hcm
  unfold frcells at *
  go_enter Tryd.func22, Tryd.ntmps22
  go_upto_region 1 with fail
  generalize w.alloc _ = wa at *
  by_cases h24 : r.length ≤ 24
  · cases ha : allR r
    · go_wp2_with (go_at_call 74; refine (sallv_any r p c q _ HR.out (by have := HC.out; omega)).mono ?_; rw [ha]; rintro e w' ⟨rfl, rfl⟩)
      go_ret
      exact ⟨by unfold vfr; rw [ha]; simp, K.out⟩
    · cases hr : rep r
      · go_wp2_with (first | (go_at_call 74; refine (sallv_any r p c q _ HR.out (by have := HC.out; omega)).mono ?_; rw [ha]; rintro e w' ⟨rfl, rfl⟩) | (go_at_call 75; go_loud (refine (salld_any r p c HC.out.1 HC.out.2 q _ HR.out).mono ?_; rw [hr]; rintro e w' ⟨rfl, rfl⟩)) | (go_at_call 64; go_loud (rw [← HV.out]; refine (pvalid_any P hP _).mono ?_; rintro e w' ⟨rfl, hg⟩; have G := Lib.hid hg; clear hg)))
        go_ret
        refine ⟨?_, grown_trans K.out G.out⟩
        have : vfr r P = vpk P := by unfold vfr; rw [ha, hr, decide_eq_true h24]; simp
        rw [this]; rfl
      · go_wp2_with (first | (go_at_call 74; refine (sallv_any r p c q _ HR.out (by have := HC.out; omega)).mono ?_; rw [ha]; rintro e w' ⟨rfl, rfl⟩) | (go_at_call 75; go_loud (refine (salld_any r p c HC.out.1 HC.out.2 q _ HR.out).mono ?_; rw [hr]; rintro e w' ⟨rfl, rfl⟩)))
        go_ret
        exact ⟨by unfold vfr; rw [ha, hr]; simp, K.out⟩
  · go_wp2_with fail
    go_ret
    exact ⟨by unfold vfr; rw [decide_eq_false h24]; rfl, K.out⟩
end Go.Proofs.YtpombmpkccnefaaDoor

/- Labels and frames that come in as arguments. -/
namespace Go.Proofs.YtpombmpkccnefaaDoor
open Go.ChangeShapes Go.WideShapes Go.ChangeAt Go.RowKit Go.Joins Bs
set_option maxRecDepth 100000 in
theorem list3 {A : Type} {xs : List A} (h : xs.length = 3) : ∃ x0 x1 x2, xs = [x0, x1, x2] := by
  match xs, h with
  | [x0, x1, x2], _ => exact ⟨x0, x1, x2, rfl⟩
set_option maxRecDepth 100000 in
theorem kit_cellsLab : Tryd.prog.cellsOf 41 = 3 := by kernel_rfl
set_option maxRecDepth 100000 in
theorem kit_cellsPk : Tryd.prog.cellsOf 31 = 10 := by kernel_rfl
set_option maxRecDepth 100000 in
theorem kit_cellsInts : Tryd.prog.cellsOf 22 = 1 := by kernel_rfl
section
variable {H : Type} {enc : TypeId × Value → H} {W : World} {base : Nat} {v : Value} {d : DataW H} {ps : List MemPlace}
set_option maxRecDepth 100000 in
theorem lab_trod {fuel : Nat} {cs : List Value} {y : DataW H × List MemPlace} (h : DataW.trod enc Tryd.prog W 0 (fun _ => true) true fuel 41 cs = some y) : ∃ l : Lab, cs = labC l ∧ l.Wf := by
  have hs := Tryd.underlying41
  obtain ⟨xs, n, _, _, hl, hlen, hf⟩ := DataW.trod_struct hs h
  rw [kit_cellsLab] at hl
  obtain ⟨c0, c1, c2, rfl⟩ := list3 hl
  obtain ⟨x0, x1, x2, rfl⟩ := list3 hlen
  have h0 : DataW.trod enc Tryd.prog W 0 (fun _ => true) true n 3 [c0] = some x0 := by simpa [Value.cells, kit_cellsInt] using hf 0 _ rfl
  have h1 : DataW.trod enc Tryd.prog W 0 (fun _ => true) true n 3 [c1] = some x1 := by simpa [Value.cells, kit_cellsInt] using hf 1 _ rfl
  have h2 : DataW.trod enc Tryd.prog W 0 (fun _ => true) true n 3 [c2] = some x2 := by simpa [Value.cells, kit_cellsInt] using hf 2 _ rfl
  obtain ⟨m0, e0, _, w0⟩ := DataW.trod_int Tryd.underlying3 h0
  obtain rfl : c0 = .int .i64 m0 := by simpa using e0
  obtain ⟨m1, e1, _, w1⟩ := DataW.trod_int Tryd.underlying3 h1
  obtain rfl : c1 = .int .i64 m1 := by simpa using e1
  obtain ⟨m2, e2, _, w2⟩ := DataW.trod_int Tryd.underlying3 h2
  obtain rfl : c2 = .int .i64 m2 := by simpa using e2
  exact ⟨⟨m0, m1, m2⟩, rfl, i64_wf w0, i64_wf w1, i64_wf w2⟩
set_option maxRecDepth 100000 in
theorem opn_label (hval : Value.okWide Tryd.prog W .any base 41 v) (h : DataW.Trod enc Tryd.prog W 0 (fun _ => true) true 41 v d ps) : ∃ l : Lab, v = .agg #[.int .i64 l.v, .int .i64 l.c, .int .i64 l.h] ∧ l.Wf := by
  obtain ⟨cs, rfl, hsz⟩ := okWide_struct Tryd.underlying41 hval
  obtain ⟨fuel, hf⟩ := h
  obtain ⟨l, hl, hw⟩ := lab_trod hf
  refine ⟨l, congrArg Value.agg (Array.ext' ?_), hw⟩
  exact hl
set_option maxRecDepth 100000 in
theorem opn_labels (hval : Value.okWide Tryd.prog W .any base 49 v) (h : DataW.Trod enc Tryd.prog W 0 (fun _ => true) true 49 v d ps) :
    ∃ (ls : List Lab) (p : Option Addr) (c : Nat), v = .slice p ls.length c ∧ RdL W (· < W.heap.size) (.slice p ls.length c) ls ∧ ls.length ≤ c ∧ c ≤ 9223372036854775807 := by
  obtain ⟨p0, n0, c0, rfl⟩ := okWide_slice Tryd.underlying49 hval
  obtain ⟨fuel, hf⟩ := h
  rcases DataW.trod_slice Tryd.underlying49 hf with ⟨hcs, _⟩ | ⟨a, len, cap, elems, rest, n, _, hcs, _, _, hl, hm, hlen, hel, _, _⟩
  · simp [Value.cells] at hcs
    obtain ⟨rfl, rfl, rfl⟩ := hcs
    exact ⟨[], none, 0, rfl, rdk_nil _ _ _ _, Nat.le_refl _, by omega⟩
  · simp [Value.cells] at hcs
    obtain ⟨rfl, rfl, rfl⟩ := hcs
    rw [kit_cellsLab] at hel
    have each : ∀ i, ∃ l : Lab, i < n0 → ∀ k, k < 3 → W.cell? ((a.add (i * 3)).add k) = (labC l)[k]? := by
      intro i
      by_cases hi : i < n0
      · have h1 := hel i hi
        rw [List.getElem?_eq_getElem (by omega)] at h1
        obtain ⟨cs, hc1, hc2⟩ := Option.bind_eq_some_iff.1 h1
        obtain ⟨l, rfl, _⟩ := lab_trod hc2
        obtain ⟨_, _, hc3⟩ := World.cells?_some hc1
        exact ⟨l, fun _ k hk => hc3 k hk⟩
      · exact ⟨⟨0, 0, 0⟩, fun h => absurd h hi⟩
    obtain ⟨f, hfn⟩ := Classical.axiomOfChoice each
    have hll : ((List.range n0).map f).length = n0 := by simp
    refine ⟨(List.range n0).map f, some a, c0, by rw [hll], ⟨some a, c0, by rw [hll], fun hne => ?_⟩, by rw [hll]; exact hl, hm⟩
    have hpos : 0 < n0 := by
      rcases Nat.eq_zero_or_pos n0 with h0 | h0
      · subst h0
        exact absurd rfl hne
      · exact h0
    obtain ⟨b, off, spot⟩ := a
    have hspot : spot = none := by
      have := hfn 0 hpos 0 (by decide)
      simpa [Addr.add] using World.cell?_spot this
    subst hspot
    have hcell : ∀ i k, i < n0 → k < 3 → W.cell? ⟨b, off + (3 * i + k), none⟩ = (labC (f i))[k]? := by
      intro i k hi hk
      have := hfn i hi k hk
      rw [Go.WideShapes.add_plain, Go.WideShapes.add_plain] at this
      rw [← this]
      congr 2
      omega
    refine ⟨b, off, rfl, World.block_lt_of_cell? W ⟨b, off + 0, none⟩ (hcell 0 0 hpos (by decide)), fun j x hj => ?_⟩
    have hj2 : j < 3 * n0 := by
      have := (List.getElem?_eq_some_iff.1 hj).1
      rw [labsC_len, hll] at this
      exact this
    have hd : j = 3 * (j / 3) + j % 3 := by omega
    have hat : ((List.range n0).map f)[j / 3]? = some (f (j / 3)) := by
      rw [List.getElem?_map, List.getElem?_range (by omega)]; rfl
    rw [hd] at hj ⊢
    rw [labsC_at _ _ _ _ hat (by omega)] at hj
    rw [hcell _ _ (by omega) (by omega)]
    exact hj
end
end Go.Proofs.YtpombmpkccnefaaDoor

/- stack: joined. -/
namespace Go.Proofs.YtpombmpkccnefaaDoor
open Go.RowKit Bs
/-- A slice of slices of bytes. -/
def RdB (w : World) (q : Nat → Prop) (p : Option Addr) (Ls : List (List Nat)) : Prop :=
  Ls ≠ [] → ∃ b off, p = some ⟨b, off, none⟩ ∧ ∀ i L, Ls[i]? = some L → ∃ p' c', w.cell? ⟨b, off + i, none⟩ = some (.slice p' L.length c') ∧ Rd w q (.slice p' L.length c') (L.map nv) ∧ (p' = none → c' = 0)
set_option maxRecDepth 100000 in
theorem RdB.keep {w w' : World} {q : Nat → Prop} {p : Option Addr} {Ls : List (List Nat)} (h : RdB w q p Ls) (g : w.grownBy w' none) : RdB w' q p Ls := by
  intro hne
  obtain ⟨b, off, hp, hx⟩ := h hne
  refine ⟨b, off, hp, fun i L hi => ?_⟩
  obtain ⟨p', c', h1, h2, h3⟩ := hx i L hi
  exact ⟨p', c', g.cell h1 (by simp), h2.keep g, h3⟩
/-- What joined returns. -/
def JPost (L : List Nat) (w : World) (e : Ending) (w' : World) : Prop := ∃ p c, e = .returned (.slice p L.length c) ∧ Own w' w.heap.size p c L ∧ w.grownBy w' none
set_option maxRecDepth 100000 in
theorem flat_next {Ls : List (List Nat)} {k : Nat} {L : List Nat} (h : Ls[k]? = some L) : (Ls.take (k + 1)).flatten = (Ls.take k).flatten ++ L := by
  rw [List.take_add_one, h]; simp
set_option maxRecDepth 100000 in
theorem flat_le {Ls : List (List Nat)} {k : Nat} : ((Ls.take k).flatten).length ≤ Ls.flatten.length := by
  have e : Ls.flatten = (Ls.take k).flatten ++ (Ls.drop k).flatten := by rw [← List.flatten_append, List.take_append_drop]
  rw [e, List.length_append]; omega
set_option maxHeartbeats 1600000 in
set_option maxRecDepth 100000 in
theorem sjoin_any (Ls : List (List Nat)) (hB : ∀ L ∈ Ls, By L) (hsm : Ls.flatten.length ≤ 90000) (p : Option Addr) (n c : Nat) (hn : n = Ls.length) (hn2 : Ls.length ≤ 100) (q : Nat → Prop) (w : World) (hR : RdB w q p Ls) :
    Calls Tryd.prog 78 #[.slice p n c] w fun e w' => JPost Ls.flatten w e w' := by
  subst hn
  have HR := Lib.hid hR
  have HS := Lib.hid hsm
  clear hR hsm
  go_enter Tryd.func78, Tryd.ntmps78
  go_wp2_with fail
  go_loopw [3, 8] (fun v a wr => ∃ k : Nat, k ≤ Ls.length ∧ a = .int .i64 (k : Int) ∧ wr.ownsRow w.heap.size 5 1 v ((Ls.take k).flatten).length (((Ls.take k).flatten).map nv) ∧ w.grownBy wr none) (fun _ a _ => Ls.length - (intOf a).toNat)
  case atStart => exact ⟨0, Nat.zero_le _, rfl, World.ownsRow_nil _ _ _ _, grown_refl _ _⟩
  case round =>
    obtain ⟨k, hk, rfl, hO, hG⟩ := hrel
    have HG := Lib.hid hG
    by_cases hlt : k < Ls.length
    · obtain ⟨F, hF⟩ : ∃ F, (Ls.take k).flatten = F := ⟨_, rfl⟩
      rw [hF] at hO
      have HO := Lib.hid hO
      have HFF := Lib.hid hF
      clear hO hG hF
      obtain ⟨b, off, rfl, hx⟩ := HR.out.keep HG.out (by intro e; rw [e] at hlt; simp at hlt)
      obtain ⟨L, hL⟩ : ∃ L, Ls[k]? = some L := ⟨_, List.getElem?_eq_getElem hlt⟩
      obtain ⟨p', c', h1, h2, h3⟩ := hx k L hL
      have HF : Hid ((Ls.take (k + 1)).flatten = F ++ L) := Lib.hid (by rw [flat_next hL, HFF.out])
      have HLE := Lib.hid (flat_le (Ls := Ls) (k := k + 1))
      have HRD := Lib.hid (And.intro h2 h3)
      clear hx hL h2 h3
      go_wp2_with (at_builtin; refine wpList_append_rd rfl _ _ rfl w.heap.size u3 F.length F rfl HO.out p' L.length c' L rfl rfl q HRD.out.1 HRD.out.2 ?c1 ?c2 ?_)
      case c1 => have h1 := HLE.out; have h2 := HS.out; rw [HF.out, List.length_append] at h1; omega
      case c2 => exact HG.out.size
      intro v' w' hown hg
      have HO2 : Hid (w'.ownsRow w.heap.size 5 1 v' ((Ls.take (k + 1)).flatten).length (((Ls.take (k + 1)).flatten).map nv)) := Lib.hid (by rw [HF.out, List.length_append, List.map_append]; exact hown)
      have HG2 := Lib.hid (grown_own HG.out HO.out (Nat.le_refl _) hg)
      clear hown hg
      go_wp2_with fail
      exact ⟨⟨k + 1, by omega, congrArg _ (by omega), HO2.out, HG2.out⟩, by simp only [intOf]; omega⟩
    · obtain rfl : k = Ls.length := by omega
      have e : Ls.take Ls.length = Ls := List.take_length
      rw [e] at hO
      obtain ⟨p2, c2, rfl, hpc⟩ := own_parts hO
      have HO3 := Lib.hid hO
      clear hO hG e
      go_wp2_with fail
      go_ret
      refine ⟨p2, c2, rfl, ⟨HO3.out, hpc, fun x hx => ?_⟩, HG.out⟩
      obtain ⟨L, hL, hx2⟩ := List.mem_flatten.1 hx
      exact hB L hL x hx2
end Go.Proofs.YtpombmpkccnefaaDoor

/- Blocks that a call fills: rows; make of several cells. -/
namespace Go.Proofs.YtpombmpkccnefaaDoor
open Go.RowKit Bs
/-- Block g has the cells xs. -/
def Row (w : World) (g : Nat) (t : TypeId) (xs : List Value) : Prop := w.heap[g]? = some (.cells xs.toArray t (0, 0))
set_option maxRecDepth 100000 in
theorem Row.set {w : World} {g : Nat} {t : TypeId} {xs : List Value} (h : Row w g t xs) (j : Nat) (v : Value) : Row (w.setCell ⟨g, j, none⟩ v) g t (xs.set j v) := by
  have := heap_setCell_same w g j _ _ v h
  rw [List.setIfInBounds_toArray] at this
  exact this
set_option maxRecDepth 100000 in
theorem Row.cell {w : World} {g : Nat} {t : TypeId} {xs : List Value} (h : Row w g t xs) {j : Nat} {x : Value} (hj : xs[j]? = some x) : w.cell? ⟨g, j, none⟩ = some x := by
  rw [cell_of_row _ _ _ _ _ _ h]
  simpa using hj
set_option maxRecDepth 100000 in
theorem Row.frozen {w : World} {g : Nat} {t : TypeId} {xs : List Value} (h : Row w g t xs) (j : Nat) : w.frozen? ⟨g, j, none⟩ = false := frozen_of_row _ _ _ _ _ h
set_option maxRecDepth 100000 in
theorem Row.kept {w w' : World} {g : Nat} {t : TypeId} {xs : List Value} {r : Option Nat} (h : Row w g t xs) (k : w.grownBy w' r) (hr : some g ≠ r) : Row w' g t xs := kept_row h k hr
set_option maxRecDepth 100000 in
theorem Row.lt {w : World} {g : Nat} {t : TypeId} {xs : List Value} (h : Row w g t xs) : g < w.heap.size := by
  unfold Row at h
  rcases Nat.lt_or_ge g w.heap.size with h1 | h1
  · exact h1
  · rw [Array.getElem?_eq_none h1] at h; cases h
set_option maxRecDepth 100000 in
theorem Row.rd {w : World} {g : Nat} {t : TypeId} {xs : List Value} (h : Row w g t xs) (n c : Nat) : RdK w (· = g) (.slice (some ⟨g, 0, none⟩) n c) n xs :=
  ⟨_, c, rfl, fun _ => ⟨g, 0, rfl, rfl, fun i x hi => by rw [Nat.zero_add]; exact h.cell hi⟩⟩
set_option maxRecDepth 100000 in
/-- make, as a law for the walk. -/
theorem wpList_make_k (w : World) {ops : Array Oper} {rest : List Oper} {o : Oper} {a : Act} {Q : Exit → Act → World → Prop} (hg : o.guard = none) (l c : Operand) (t : TypeId) (hop : o.op = Op.makeSlice t l c)
    (e : TypeId) (i : TypeInfo) (z : Value) (ht : Tryd.prog.underlying t = some (.slice e)) (hi : Tryd.prog.info? e = some i) (hz : i.zero = some z) (n : Nat) (hl : a.eval l = .int .i64 (n : Int)) (hc : a.eval c = .int .i64 (n : Int)) (hn : n ≤ 1000000) (hb : i.bytes ≤ 1000)
    (hK : wpList Tryd.prog ops Q rest (a.put o.dst (.slice (some ⟨w.heap.size, 0, none⟩) n n)) (w.alloc (.cells (madeCells z.cells (n * i.size)) e))) : wpList Tryd.prog ops Q (o :: rest) a w := by
  refine wpList_plain hg fun K hK' => ?_
  have hb2 : i.bytes * n ≤ 1000 * 1000000 := Nat.mul_le_mul hb hn
  have hb3 : (i.bytes : Int) * (n : Int) ≤ 281474976710656 := by
    have : ((i.bytes * n : Nat) : Int) ≤ 281474976710656 := by omega
    rwa [Int.natCast_mul] at this
  have hrun := run_make (P := Tryd.prog) w t e i z ht hi hz .i64 .i64 (n : Int) (n : Int) (by omega) (Int.le_refl _) hb3 (by omega)
  rw [Int.toNat_natCast] at hrun
  unfold Oper.wp
  simp [execOp, hop, hl, hc, hrun, Result.andThen]
  exact hK' _ _ hK
set_option maxRecDepth 100000 in
theorem made_same (z : Array Value) (x : Value) (hz : ∀ i, i < z.size → z[i]! = x) (hs : 0 < z.size) (N : Nat) : madeCells z N = (List.replicate N x).toArray := by
  unfold madeCells
  apply Array.ext'
  rw [Array.toList_map, Array.toList_range]
  apply List.ext_getElem?
  intro i
  rw [List.getElem?_map]
  show _ = (List.replicate N x)[i]?
  rw [List.getElem?_replicate]
  by_cases h : i < N
  · rw [List.getElem?_range h, if_pos h]
    show some (z[i % z.size]!) = _
    rw [hz _ (Nat.mod_lt _ hs)]
  · rw [List.getElem?_eq_none (by simpa using h), if_neg h]; rfl
end Go.Proofs.YtpombmpkccnefaaDoor

/- stack: labelOf, labelsOf. -/
namespace Go.Proofs.YtpombmpkccnefaaDoor
open Go.RowKit Bs
set_option maxRecDepth 100000 in
theorem res_lab {fn : Func} {p : Tmp} (h : fn.results = #[.cell p 41]) (tmps : Array Value) (w : World) (g : Nat) (xs : Array Value) (hp : tmps.getD p undef = .pointer (some ⟨g, 0, none⟩)) (hn : xs.size = 3) (hg : w.heap[g]? = some (.cells xs 41 (0, 0))) :
    (results fn tmps).run Tryd.prog w = .ok (.agg xs) w := by
  exact results_cell_row h tmps w g _ _ _ _ hp hg Tryd.underlying41 rfl (by rw [hn]; exact lab_size)
set_option maxRecDepth 100000 in
theorem slabof_any (z : Int) (hz : 1 ≤ z ∧ z ≤ 99) (w : World) :
    Calls Tryd.prog 105 #[.int .i64 z] w fun e w' => e = .returned (.agg #[.int .i64 (16 + z), .int .i64 0, .int .i64 255]) ∧ w.grownBy w' none := by
  obtain ⟨k1, k2⟩ := sone_box w #[.int .i64 0, .int .i64 0, .int .i64 0] 41
  have HB := Lib.hid (And.intro k1 k2)
  have f0 := frozen_of_row _ _ 0 _ _ k1
  have f1 := frozen_of_row _ _ 1 _ _ k1
  have f2 := frozen_of_row _ _ 2 _ _ k1
  obtain ⟨e0, e1, e2⟩ := lab_facts (l := ⟨0, 0, 0⟩) k1
  simp only at e0 e1 e2
  clear k1 k2
  obtain ⟨h1, h2⟩ := hz
  go_enter Tryd.func105, Tryd.ntmps105
  go_upto_region 1 with fail
  generalize w.alloc _ = wa at *
  go_wp2_with fail
  refine bodyPost_ret (res_lab rfl _ _ w.heap.size _ rfl rfl (store3 HB.out.1)) rfl ?_
  exact ⟨rfl, grown_new HB.out.2 (grown_store3 _ _ _ _ _) (Nat.le_refl _)⟩
set_option maxRecDepth 100000 in
theorem set3 {α : Type} (x y z a b c : α) (B : List α) : ∀ (A : List α) (i : Nat), A.length = i → (((A ++ x :: y :: z :: B).set i a).set (i + 1) b).set (i + 2) c = A ++ a :: b :: c :: B
  | [], i, h => by
    obtain rfl : i = 0 := h.symm
    rfl
  | d :: A, i, h => by
    rcases i with _ | i
    · simp at h
    · have := set3 x y z a b c B A i (by simpa using h)
      simp only [List.cons_append, List.set_cons_succ]
      rw [this]
def LOPost (r : List Int) (w : World) (e : Ending) (w' : World) : Prop := ∃ g, e = .returned (.slice (some ⟨g, 0, none⟩) r.length r.length) ∧ Row w' g 41 (labsC (r.map lbR)) ∧ w.heap.size ≤ g ∧ w.grownBy w' none
/-- While labels are written. -/
def labZ (r : List Int) (k : Nat) : List Value := labsC ((r.take k).map lbR) ++ List.replicate (3 * (r.length - k)) (iv 0)
set_option maxRecDepth 100000 in
theorem labZ_form {r : List Int} {k : Nat} (h : k < r.length) : labZ r k = labsC ((r.take k).map lbR) ++ iv 0 :: iv 0 :: iv 0 :: List.replicate (3 * (r.length - (k + 1))) (iv 0) := by
  unfold labZ
  rw [show 3 * (r.length - k) = 3 * (r.length - (k + 1)) + 3 by omega, List.replicate_succ, List.replicate_succ, List.replicate_succ]
set_option maxRecDepth 100000 in
theorem labZ_pre {r : List Int} {k : Nat} (h : k ≤ r.length) : (labsC ((r.take k).map lbR)).length = k * 3 := by
  rw [labsC_len, List.length_map, List.length_take, Nat.min_eq_left h, Nat.mul_comm]
set_option maxRecDepth 100000 in
theorem labZ_at {r : List Int} {k : Nat} (h : k < r.length) : (labZ r k)[k * 3]? = some (iv 0) ∧ (labZ r k)[k * 3 + 1]? = some (iv 0) ∧ (labZ r k)[k * 3 + 2]? = some (iv 0) := by
  have hl := labZ_pre (Nat.le_of_lt h)
  rw [labZ_form h]
  refine ⟨?_, ?_, ?_⟩ <;> rw [List.getElem?_append_right (by omega), hl]
  · simp
  · rw [show k * 3 + 1 - k * 3 = 1 by omega]; rfl
  · rw [show k * 3 + 2 - k * 3 = 2 by omega]; rfl
set_option maxRecDepth 100000 in
theorem labZ_set {r : List Int} {k : Nat} {z : Int} (h : k < r.length) (hz : r[k]? = some z) : (((labZ r k).set (k * 3) (iv (16 + z))).set (k * 3 + 1) (iv 0)).set (k * 3 + 2) (iv 255) = labZ r (k + 1) := by
  rw [labZ_form h, set3 _ _ _ _ _ _ _ _ _ (labZ_pre (Nat.le_of_lt h))]
  unfold labZ
  rw [List.take_add_one, hz]
  show _ = labsC (List.map lbR (r.take k ++ [z])) ++ _
  rw [List.map_append, List.map_singleton, labsC_snoc]
  simp [labC, lbR, iv]
set_option maxRecDepth 100000 in
set_option maxHeartbeats 3200000 in
theorem slabs_any (r : List Int) (hr : allR r = true) (p : Option Addr) (c : Nat) (h24 : r.length ≤ 24) (q : Nat → Prop) (w : World) (hR : Rd w q (.slice p r.length c) (r.map iv)) :
    Calls Tryd.prog 80 #[.slice p r.length c] w fun e w' => LOPost r w e w' := by
  have HR := Lib.hid hR
  have HA := Lib.hid hr
  clear hR hr
  obtain ⟨i0, hi, hz0, hz1, hz2⟩ := info_parts info_lab
  go_enter Tryd.func80, Tryd.ntmps80
  go_wp2_with (at_make; refine wpList_make_k _ rfl _ _ 49 rfl 41 i0 _ Tryd.underlying49 hi hz0 r.length rfl rfl (by omega) (by omega) ?_; rw [hz1, made_same _ (iv 0) (by intro i hi; have : i = 0 ∨ i = 1 ∨ i = 2 := by { simp [Value.cells] at hi; omega }; rcases this with rfl | rfl | rfl <;> rfl) (by simp [Value.cells]) _])
  obtain ⟨k1, k2⟩ := sone_box w (Array.replicate (r.length * 3) (iv 0)) 41
  have P0 : Hid (Row (w.alloc (.cells (Array.replicate (r.length * 3) (iv 0)) 41)) w.heap.size 41 (labZ r 0) ∧ w.grownBy (w.alloc (.cells (Array.replicate (r.length * 3) (iv 0)) 41)) none) := by
    refine Lib.hid ⟨?_, k2⟩
    unfold Row labZ
    rw [k1, List.take_zero, show 3 * (r.length - 0) = r.length * 3 by omega]
    show _ = some (Obj.cells (List.replicate (r.length * 3) (iv 0)).toArray _ _)
    rw [List.toArray_replicate]
  clear k1 k2
  generalize w.alloc _ = wa at *
  go_loopw [11] (fun a wr => ∃ k : Nat, k ≤ r.length ∧ a = .int .i64 (k : Int) ∧ Row wr w.heap.size 41 (labZ r k) ∧ w.grownBy wr none) (fun a _ => r.length - (intOf a).toNat)
  case atStart => exact ⟨0, Nat.zero_le _, rfl, P0.out.1, P0.out.2⟩
  case round =>
    obtain ⟨k, hk, rfl, hX, hG⟩ := hrel
    have HX := Lib.hid (And.intro hX hG)
    clear hX hG P0
    by_cases hlt : k < r.length
    · obtain ⟨b, off, rfl, hq, hc⟩ := rdi_cells (HR.out.keep HX.out.2) (by omega)
      have c0 := hc k hlt
      obtain ⟨z, hz⟩ : ∃ z, r.getD k 0 = z := ⟨_, rfl⟩
      rw [hz] at c0
      have hk2 : r[k]? = some z := by rw [← hz, List.getD_eq_getElem?_getD, List.getElem?_eq_getElem hlt]; rfl
      have hz9 : 1 ≤ z ∧ z ≤ 99 := by
        have := List.all_eq_true.1 HA.out z (List.mem_of_getElem? hk2)
        simpa [okR] using this
      have HK := Lib.hid hk2
      have HZ := Lib.hid hz9
      clear hc hz hk2 hz9
      go_wp2_with fail
      refine (slabof_any z HZ.out _).mono ?_
      rintro e w1 ⟨rfl, hg⟩
      have HX1 := Lib.hid (And.intro (HX.out.1.kept hg (by simp)) (grown_trans HX.out.2 hg))
      clear hg HX c0
      obtain ⟨l0, l1, l2⟩ := labZ_at hlt
      have e0 : w1.cell? ⟨w.heap.size, k * 3, none⟩ = some (.int .i64 0) := HX1.out.1.cell l0
      have e1 : w1.cell? ⟨w.heap.size, k * 3 + 1, none⟩ = some (.int .i64 0) := HX1.out.1.cell l1
      have e2 : w1.cell? ⟨w.heap.size, k * 3 + 2, none⟩ = some (.int .i64 0) := HX1.out.1.cell l2
      have f0 := HX1.out.1.frozen (k * 3)
      have f1 := HX1.out.1.frozen (k * 3 + 1)
      have f2 := HX1.out.1.frozen (k * 3 + 2)
      have HS : Hid (Row (((w1.setCell ⟨w.heap.size, k * 3, none⟩ (.int .i64 (16 + z))).setCell ⟨w.heap.size, k * 3 + 1, none⟩ (.int .i64 0)).setCell ⟨w.heap.size, k * 3 + 2, none⟩ (.int .i64 255)) w.heap.size 41 (labZ r (k + 1)) ∧
          w.grownBy (((w1.setCell ⟨w.heap.size, k * 3, none⟩ (.int .i64 (16 + z))).setCell ⟨w.heap.size, k * 3 + 1, none⟩ (.int .i64 0)).setCell ⟨w.heap.size, k * 3 + 2, none⟩ (.int .i64 255)) none) := by
        refine Lib.hid ⟨?_, grown_new HX1.out.2 (grown_trans (grown_trans (grown_setCell w1 ⟨w.heap.size, k * 3, none⟩ _) (grown_setCell _ ⟨w.heap.size, k * 3 + 1, none⟩ _)) (grown_setCell _ ⟨w.heap.size, k * 3 + 2, none⟩ _)) (Nat.le_refl _)⟩
        rw [← labZ_set hlt HK.out]
        exact ((HX1.out.1.set _ _).set _ _).set _ _
      clear l0 l1 l2
      go_wp2_with fail
      exact ⟨⟨k + 1, by omega, congrArg _ (by omega), HS.out.1, HS.out.2⟩, by simp only [intOf]; omega⟩
    · obtain rfl : k = r.length := by omega
      go_wp2_with fail
      go_ret
      refine ⟨w.heap.size, rfl, ?_, Nat.le_refl _, HX.out.2⟩
      have := HX.out.1
      unfold labZ at this
      rw [List.take_length, Nat.sub_self] at this
      simpa using this
end Go.Proofs.YtpombmpkccnefaaDoor

/- stack: EncodeLabels. -/
namespace Go.Proofs.YtpombmpkccnefaaDoor
open Go.RowKit Bs
def lenL (n : Nat) : Bool := decide (1 ≤ (n : Int) ∧ (n : Int) ≤ 24)
/-- The error of EncodeLabels, and its bytes. -/
def encE (ls : List Lab) : Int := if lenL ls.length then (if ls.all vlab then 0 else 2) else 3
def encB (ls : List Lab) : List Nat := if encE ls = 0 then encL ls else []
def ELPost (ls : List Lab) (w : World) (e : Ending) (w' : World) : Prop := ∃ p c, e = .returned (.tuple #[.slice p (encB ls).length c, .int .i64 (encE ls)]) ∧ Own w' w.heap.size p c (encB ls) ∧ w.grownBy w' none
set_option maxRecDepth 100000 in
theorem el_err {ls : List Lab} {w w' : World} {x : Int} (h : encE ls = x) (hx : x ≠ 0) (g : w.grownBy w' none) : ELPost ls w (.returned (.tuple #[.slice none 0 0, .int .i64 x])) w' := by
  have hb : encB ls = [] := by unfold encB; rw [if_neg (by rw [h]; exact hx)]
  refine ⟨none, 0, by rw [hb, h]; rfl, ?_, g⟩
  rw [hb]
  exact ⟨World.ownsRow_nil _ _ _ _, fun _ => rfl, fun x hx => by cases hx⟩
/-- The words of a stack. -/
def partsL (ls : List Lab) : List (List Nat) := (List.range ls.length).map fun i => by4 (wordL (ls.getD i ⟨0, 0, 0⟩) (decide (i + 1 = ls.length)))
set_option maxRecDepth 100000 in
theorem partsL_at {ls : List Lab} {i : Nat} (h : i < ls.length) : (partsL ls)[i]? = some (by4 (wordL (ls.getD i ⟨0, 0, 0⟩) (decide (i + 1 = ls.length)))) := by
  unfold partsL
  rw [List.getElem?_map, List.getElem?_range h]; rfl
set_option maxRecDepth 100000 in
theorem partsL_len (ls : List Lab) : (partsL ls).length = ls.length := by unfold partsL; simp
set_option maxRecDepth 100000 in
theorem partsL_cons (l m : Lab) (r : List Lab) : partsL (l :: m :: r) = by4 (wordL l false) :: partsL (m :: r) := by
  apply List.ext_getElem?
  intro i
  rcases i with _ | i
  · rw [partsL_at (by simp)]; simp
  · by_cases h : i < (m :: r).length
    · rw [partsL_at (by simpa using h), List.getElem?_cons_succ, partsL_at h]; simp
    · rw [List.getElem?_eq_none (by rw [partsL_len]; simp at h ⊢; omega), List.getElem?_cons_succ, List.getElem?_eq_none (by rw [partsL_len]; simp at h ⊢; omega)]
set_option maxRecDepth 100000 in
theorem partsL_flat : ∀ ls : List Lab, (partsL ls).flatten = encL ls
  | [] => rfl
  | [l] => by
    show ([by4 (wordL l true)] : List (List Nat)).flatten = _
    simp [encL]
  | l :: m :: r => by
    rw [partsL_cons, List.flatten_cons, partsL_flat (m :: r)]
    rfl
set_option maxRecDepth 100000 in
theorem partsL_by (ls : List Lab) : ∀ L ∈ partsL ls, By L := by
  intro L hL
  unfold partsL at hL
  obtain ⟨i, _, rfl⟩ := List.mem_map.1 hL
  exact by4_by _
set_option maxRecDepth 100000 in
theorem info_sl : (Tryd.prog.info? 23).map (fun i => (i.zero, i.size, i.bytes)) = some (some (.slice none 0 0), 1, 24) := by kernel_rfl
/-- While the words are written: block g holds the slices of the first k. -/
structure PW (ls : List Lab) (W : World) (g k : Nat) (xs : List Value) (w : World) : Prop where
  row : Row w g 23 xs
  len : xs.length = ls.length
  done : ∀ i, i < k → ∃ h, xs[i]? = some (.slice (some ⟨h, 0, none⟩) 4 4) ∧ Row w h 5 ((by4 (wordL (ls.getD i ⟨0, 0, 0⟩) (decide (i + 1 = ls.length)))).map nv) ∧ h ≠ g
  rest : ∀ i, k ≤ i → i < ls.length → xs[i]? = some (.slice none 0 0)
  gr : W.grownBy w none
  gW : W.heap.size ≤ g
set_option maxRecDepth 100000 in
theorem PW.keep {ls : List Lab} {W w w' : World} {g k : Nat} {xs : List Value} (h : PW ls W g k xs w) (k1 : w.grownBy w' none) : PW ls W g k xs w' :=
  ⟨h.row.kept k1 (by simp), h.len, fun i hi => (by obtain ⟨b, h1, h2, h3⟩ := h.done i hi; exact ⟨b, h1, h2.kept k1 (by simp), h3⟩), h.rest, grown_trans h.gr k1, h.gW⟩
set_option maxRecDepth 100000 in
theorem PW.put {ls : List Lab} {W w : World} {g k b : Nat} {xs : List Value} (h : PW ls W g k xs w) (hk : k < ls.length) (hb : Row w b 5 ((by4 (wordL (ls.getD k ⟨0, 0, 0⟩) (decide (k + 1 = ls.length)))).map nv)) (hne : b ≠ g) :
    PW ls W g (k + 1) (xs.set k (.slice (some ⟨b, 0, none⟩) 4 4)) (w.setCell ⟨g, k, none⟩ (.slice (some ⟨b, 0, none⟩) 4 4)) := by
  have k1 : w.grownBy (w.setCell ⟨g, k, none⟩ (.slice (some ⟨b, 0, none⟩) 4 4)) (some g) := grown_setCell w ⟨g, k, none⟩ _
  have hl := h.len
  refine ⟨h.row.set k _, by rw [List.length_set, hl], fun i hi => ?_, fun i h1 h2 => ?_, grown_new h.gr k1 h.gW, h.gW⟩
  · by_cases e : i = k
    · subst e
      exact ⟨b, by rw [List.getElem?_set_self (by omega)], hb.kept k1 (by simpa using hne), hne⟩
    · obtain ⟨b2, h1, h2, h3⟩ := h.done i (by omega)
      exact ⟨b2, by rw [List.getElem?_set_ne (by omega)]; exact h1, h2.kept k1 (by simpa using h3), h3⟩
  · rw [List.getElem?_set_ne (by omega)]
    exact h.rest i (by omega) h2
set_option maxRecDepth 100000 in
theorem PW.rdb {ls : List Lab} {W w : World} {g : Nat} {xs : List Value} (h : PW ls W g ls.length xs w) : RdB w (fun _ => True) (some ⟨g, 0, none⟩) (partsL ls) := by
  intro _
  refine ⟨g, 0, rfl, fun i L hL => ?_⟩
  have hi : i < ls.length := by
    rw [← partsL_len]
    exact (List.getElem?_eq_some_iff.1 hL).1
  rw [partsL_at hi] at hL
  obtain rfl := Option.some.inj hL
  obtain ⟨b, h1, h2, h3⟩ := h.done i hi
  refine ⟨some ⟨b, 0, none⟩, 4, by rw [Nat.zero_add]; exact h.row.cell h1, ⟨some ⟨b, 0, none⟩, 4, rfl, fun _ => ⟨b, 0, rfl, trivial, fun j x hj => by rw [Nat.zero_add]; exact h2.cell hj⟩⟩, by exact nofun⟩
set_option maxRecDepth 100000 in
theorem all_not {ls : List Lab} {k : Nat} {l : Lab} (h : ls[k]? = some l) (hv : vlab l = false) : ls.all vlab = false := by
  rw [Bool.eq_false_iff]
  intro ha
  have := List.all_eq_true.1 ha l (List.mem_of_getElem? h)
  rw [hv] at this
  cases this
set_option maxRecDepth 100000 in
set_option maxHeartbeats 3200000 in
theorem sencl_any (ls : List Lab) (p : Option Addr) (c : Nat) (q : Nat → Prop) (w : World) (hR : RdL w q (.slice p ls.length c) ls) :
    Calls Tryd.prog 27 #[.slice p ls.length c] w fun e w' => ELPost ls w e w' := by
  have HR := Lib.hid hR
  clear hR
  obtain ⟨i0, hi, hz0, hz1, hz2⟩ := info_parts info_sl
  go_enter Tryd.func27, Tryd.ntmps27
  cases hn : lenL ls.length
  · have HN := Lib.hid hn
    have hd : decide (1 ≤ (ls.length : Int) ∧ (ls.length : Int) ≤ 24) = false := hn
    clear hn
    go_wp2_with (go_at_call 73; refine (swithin_any _ _ _ _).mono ?_; rw [hd]; rintro e w' ⟨rfl, rfl⟩)
    go_ret2
    exact el_err (by unfold encE; rw [HN.out]; rfl) (by decide) (grown_refl _ _)
  · have HN := Lib.hid hn
    have hd : decide (1 ≤ (ls.length : Int) ∧ (ls.length : Int) ≤ 24) = true := hn
    have hd2 := of_decide_eq_true hd
    have h24 : ls.length ≤ 24 := by omega
    have h1 : 1 ≤ ls.length := by omega
    clear hn hd2
    go_wp2_with (first
      | (go_at_call 73; refine (swithin_any _ _ _ _).mono ?_; rw [hd]; rintro e w' ⟨rfl, rfl⟩)
      | (at_make; refine wpList_make_k _ rfl _ _ 35 rfl 23 i0 _ Tryd.underlying35 hi hz0 ls.length rfl rfl (by omega) (by omega) ?_; rw [hz1, made_same _ (.slice none 0 0) (by intro i hi; have : i = 0 := by { simp [Value.cells] at hi; omega }; subst this; rfl) (by simp [Value.cells]) _, Nat.mul_one]))
    obtain ⟨k1, k2⟩ := sone_box w' (Array.replicate ls.length (.slice none 0 0)) 23
    have P0 : Hid (PW ls w' w'.heap.size 0 (List.replicate ls.length (.slice none 0 0)) (w'.alloc (.cells (Array.replicate ls.length (.slice none 0 0)) 23))) :=
      Lib.hid ⟨by unfold Row; rw [List.toArray_replicate]; exact k1, by simp, fun i hi => absurd hi (Nat.not_lt_zero _), fun i _ hi => by rw [List.getElem?_replicate, if_pos hi], k2, Nat.le_refl _⟩
    clear k1 k2 hd
    generalize w'.alloc _ = wa at *
    go_loopw [16] (fun a wr => ∃ k xs, k ≤ ls.length ∧ a = .int .i64 ((k : Nat) : Int) ∧ PW ls w' w'.heap.size k xs wr ∧ ∀ x ∈ ls.take k, vlab x = true) (fun a _ => ls.length - (intOf a).toNat)
    case atStart => exact ⟨0, _, Nat.zero_le _, rfl, P0.out, fun x hx => by simp at hx⟩
    case round =>
      obtain ⟨k, xs, hk, rfl, hP, hV⟩ := hrel
      have HP := Lib.hid hP
      have HV := Lib.hid hV
      clear hP hV P0
      by_cases hlt : k < ls.length
      · obtain ⟨-, b, off, rfl, hq, hc⟩ := (HR.out.keep HP.out.gr).cells (by omega)
        obtain ⟨c0, c1, c2⟩ := hc k hlt
        obtain ⟨l, hl⟩ : ∃ l, ls[k] = l := ⟨_, rfl⟩
        rw [hl] at c0 c1 c2
        have HL : Hid (ls[k]? = some l) := Lib.hid (by rw [← hl]; exact List.getElem?_eq_getElem hlt)
        clear hc hl
        go_wp2_with fail
        obtain ⟨k1, k2⟩ := sone_box wr #[.int .i64 l.v, .int .i64 l.c, .int .i64 l.h] 41
        refine (slab_any l _).mono ?_
        rintro e w1 ⟨rfl, hg⟩
        have HP1 := Lib.hid (HP.out.keep (grown_trans k2 hg))
        obtain ⟨d0, d1, d2⟩ := lab_facts (kept_row k1 hg (by simp))
        clear k1 k2 hg HP c0 c1 c2
        cases hv : vlab l
        · go_wp2_with fail
          go_ret2
          exact el_err (by unfold encE; rw [HN.out, all_not HL.out hv]; rfl) (by decide) HP1.out.gr
        · obtain ⟨z, hz⟩ : ∃ z, decide (k + 1 = ls.length) = z := ⟨_, rfl⟩
          have hz1 : ((k : Int) == (ls.length : Int) - 1) = z := by
            rw [← hz, Bool.eq_iff_iff, beq_iff_eq, decide_eq_true_eq]
            omega
          have HZ := Lib.hid hz
          have HVL := Lib.hid hv
          clear hz hv
          go_wp2_with fail
          refine (wlab_any l z HVL.out _).mono ?_
          rintro e w2 ⟨h, rfl, hrow, hge, hg⟩
          have hl3 : ls.getD k ⟨0, 0, 0⟩ = l := by rw [List.getD_eq_getElem?_getD, HL.out]; rfl
          have hP2 := HP1.out.keep hg
          have hne : h ≠ w'.heap.size := by have := HP1.out.row.lt; omega
          have HP3 := Lib.hid (hP2.put (b := h) hlt (by rw [hl3, HZ.out]; exact hrow) hne)
          have e0 := hP2.row.cell (hP2.rest k (Nat.le_refl _) hlt)
          have f0 := hP2.row.frozen k
          clear hrow hge hg hP2 hne hl3 HP1 d0 d1 d2
          go_wp2_with fail
          refine ⟨⟨k + 1, _, by omega, congrArg _ (by omega), HP3.out, fun x hx => ?_⟩, by simp only [intOf]; omega⟩
          rw [List.take_add_one, HL.out] at hx
          rcases List.mem_append.1 hx with hx | hx
          · exact HV.out x hx
          · obtain rfl : x = l := by simpa using hx
            exact HVL.out
      · obtain rfl : k = ls.length := by omega
        have RB := Lib.hid HP.out.rdb
        go_wp2_with fail
        refine (sjoin_any (partsL ls) (partsL_by ls) (by rw [partsL_flat, encL_len]; omega) _ _ _ (partsL_len ls).symm (by rw [partsL_len]; omega) _ _ RB.out).mono ?_
        rw [partsL_flat]
        rintro e w2 ⟨p2, c2, rfl, hO, hg⟩
        have HF := Lib.hid (And.intro hO hg)
        clear hO hg
        go_wp2_with fail
        go_ret2
        have he : encE ls = 0 := by
          unfold encE
          have := HV.out
          rw [List.take_length] at this
          rw [HN.out, List.all_eq_true.2 this]; rfl
        have hb : encB ls = encL ls := by unfold encB; rw [if_pos he]
        refine ⟨p2, c2, by rw [hb, he]; rfl, by rw [hb]; exact HF.out.1.mono HP.out.gr.size, grown_trans HP.out.gr HF.out.2⟩
end Go.Proofs.YtpombmpkccnefaaDoor

/- packet: Size and Plane. -/
namespace Go.Proofs.YtpombmpkccnefaaDoor
open Go.RowKit Bs
def sizeV (P : Pk) : Nat := if vpk P = true then (49 + P.len.toNat + 8 * P.pay.size + 16 + 7) / 8 else 0
def planeV (P : Pk) : Int := if vpk P = true then P.ent % 8 else 0
set_option maxRecDepth 100000 in
theorem vpk_len {P : Pk} (h : vpk P = true) : P.len = ((P.len.toNat : Nat) : Int) ∧ P.len.toNat ≤ 64 := by
  rcases vl_cases (vb_vl (vpk_parts h).2.2.2.2.2.2.2.2) with h | h | h | h <;> rw [h] <;> decide
set_option maxRecDepth 100000 in
set_option maxHeartbeats 3200000 in
theorem psize_any (P : Pk) (hP : P.Wf) (w : World) :
    Calls Tryd.prog 70 #[P.val] w fun e w' => e = .returned (.int .i64 ((sizeV P : Nat) : Int)) ∧ w.grownBy w' none := by
  have hval : P.val = .agg #[.int .i64 P.mode, .int .i64 P.sub, .int .i64 P.set, .int .i64 P.len, .int .i64 P.ttl, .int .i64 P.ent, .int .i64 P.ing, .int .i64 P.pro, .int .u64 (P.bits : Int), .string P.pay] := rfl
  rw [hval]
  go_enter Tryd.func70, Tryd.ntmps70
  go_wp2_with fail
  obtain ⟨k1, k2⟩ := one_box w (pcells P) 31
  have HP := Lib.hid (And.intro k1 k2)
  clear k1 k2
  unfold pcells at HP
  generalize w.alloc _ = wa at *
  change Hid (wa.heap[w.heap.size]? = some (.cells (pcells P) 31 (0, 0)) ∧ w.grownBy wa none) at HP
  rw [← hval]
  refine (pvalid_any P hP _).mono ?_
  rintro e w1 ⟨rfl, hg⟩
  have HQ := Lib.hid (And.intro (kept_row HP.out.1 hg (by simp)) (grown_trans HP.out.2 hg))
  clear hg HP
  by_cases hv : vpk P = true
  · have hE : Hid (sizeV P = (49 + P.len.toNat + 8 * P.pay.size + 16 + 7) / 8) := Lib.hid (by unfold sizeV; rw [if_pos hv])
    obtain ⟨hn, hn2⟩ := vpk_len hv
    have hp := (vpk_parts hv).2.2.2.2.2.2.2.1
    have HN := Lib.hid hn
    rw [hv]
    clear hv hn
    obtain ⟨_, _, _, a3, _, _, _, _, _, a9⟩ := p_facts HQ.out.1
    go_wp2_with fail
    rw [HN.out]
    refine (bytesForP_any P.len.toNat P.pay.size (by omega) (by omega) _).mono ?_
    rintro e w' ⟨rfl, rfl⟩
    rw [← hE.out]
    go_wp2_with fail
    go_ret
    exact ⟨rfl, HQ.out.2⟩
  · have hf : vpk P = false := by simpa using hv
    have hE : Hid (sizeV P = 0) := Lib.hid (by unfold sizeV; rw [if_neg hv])
    rw [hf]
    clear hf hv
    go_wp2_with fail
    go_ret
    exact ⟨by rw [hE.out]; rfl, HQ.out.2⟩
end Go.Proofs.YtpombmpkccnefaaDoor
