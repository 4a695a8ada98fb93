/- Parts of the proof, packed: IdRep. -/
import Derived.Test.YtgofadmncgmhoaaGreatAl14
/- The reference's Repeats. -/
namespace Go.Proofs.YtgofadmncgmhoaaGreat
open Go.RowKit Bs
set_option maxRecDepth 100000 in
theorem rdi_cellsI {w : World} {q : Nat → Prop} {p : Option Addr} {n c : Nat} {r : List Int} (h : Rd w q (.slice p n c) (r.map fun z => Value.int .i64 z)) (hn : 0 < r.length) :
    ∃ b off, p = some ⟨b, off, none⟩ ∧ q b ∧ ∀ i, i < r.length → w.cell? ⟨b, off + i, none⟩ = some (.int .i64 (r.getD i 0)) := by
  obtain ⟨p1, c1, e1, hx⟩ := h
  injection e1 with a1 a2 a3
  subst a1
  obtain ⟨b, off, hp, hq, hc⟩ := hx (by intro e; have := congrArg List.length e; simp only [List.length_map, List.length_nil] at this; omega)
  refine ⟨b, off, hp, hq, fun i hi => hc i _ ?_⟩
  rw [List.getElem?_map, List.getElem?_eq_getElem hi, List.getD_eq_getElem?_getD, List.getElem?_eq_getElem hi]; rfl
set_option maxRecDepth 100000 in
theorem rep_hitI {r : List Int} {k : Nat} {y : Int} (hk : k < r.length) (hy : r.getD k 0 = y) (h : (r.take k).contains y = true) : repI r = true := by
  refine List.any_eq_true.2 ⟨k, List.mem_range.2 hk, ?_⟩
  rw [hy]; exact h
set_option maxRecDepth 100000 in
theorem rep_missI {r : List Int} (h : ∀ j, j < r.length → (r.take j).contains (r.getD j 0) = false) : repI r = false := by
  rw [Bool.eq_false_iff]
  intro hr
  obtain ⟨k, hk, h2⟩ := List.any_eq_true.1 hr
  rw [h k (List.mem_range.1 hk)] at h2
  cases h2
set_option maxRecDepth 100000 in
set_option maxHeartbeats 3200000 in
theorem irep_any (r : List Int) (p : Option Addr) (c : Nat) (q : Nat → Prop) (w : World) (hR : Rd w q (.slice p r.length c) (r.map fun z => Value.int .i64 z)) (hm : r.length ≤ 9223372036854775807) :
    Calls Tryz.prog 138 #[.slice p r.length c] w fun e w' => e = .returned (.bool (repI r)) ∧ w.grownBy w' none := by
  have HR := Lib.hid hR
  clear hR
  go_enter Tryz.func138, Tryz.ntmps138
  go_wp2_with fail
  go_loopw [3] (fun a wr => ∃ k : Nat, k ≤ r.length ∧ a = .int .i64 (k : Int) ∧ Hid (w.grownBy wr none) ∧ Hid (∀ j, j < k → (r.take j).contains (r.getD j 0) = false)) (fun a _ => r.length - (RowKit.intOf a).toNat)
  case atStart => exact ⟨0, Nat.zero_le _, rfl, Lib.hid (grown_refl _ _), Lib.hid fun j hj => absurd hj (Nat.not_lt_zero _)⟩
  case round =>
    obtain ⟨k, hk, rfl, hG, hN⟩ := hrel
    by_cases hlt : k < r.length
    · obtain ⟨y, hy⟩ : ∃ y, r.getD k 0 = y := ⟨_, rfl⟩
      have HY := Lib.hid hy
      clear hy
      go_wp2_with fail
      go_loopw [4] (fun a wi => ∃ m : Nat, m ≤ k ∧ a = .int .i64 (m : Int) ∧ Hid (w.grownBy wi none) ∧ Hid (∀ j, j < m → r.getD j 0 ≠ y)) (fun a _ => k - (RowKit.intOf a).toNat)
      case atStart => exact ⟨0, Nat.zero_le _, rfl, hG, Lib.hid fun j hj => absurd hj (Nat.not_lt_zero _)⟩
      case round =>
        obtain ⟨m, hmk, rfl, hG2, hN2⟩ := hrel
        by_cases hm2 : m < k
        · obtain ⟨b, off, rfl, _, hc⟩ := rdi_cellsI (HR.out.keep hG2.out) (by omega)
          have c0 := hc k hlt
          have c1 := hc m (by omega)
          rw [HY.out] at c0
          obtain ⟨z, hz⟩ : ∃ z, r.getD m 0 = z := ⟨_, rfl⟩
          rw [hz] at c1
          have HZ := Lib.hid hz
          have hml : m < r.length := by omega
          clear hc hz
          by_cases e : y = z
          · subst e
            go_wp2_with fail
            go_region
            change Exit.then _ _ _ _ wr.drew
            have HG3 := Lib.hid (grown_drew hG2.out)
            clear c0 c1 hG2 hG
            generalize wr.drew = w2 at *
            go_wp2_with fail
            go_ret
            rw [rep_hitI hlt HY.out (by
              rw [List.contains_iff_mem]
              have h3 := HZ.out
              rw [List.getD_eq_getElem?_getD, List.getElem?_eq_getElem hml] at h3
              rw [← show r[m] = y from h3]
              exact List.mem_of_getElem? (i := m) (by rw [List.getElem?_take, if_pos hm2, List.getElem?_eq_getElem hml]))]
            exact ⟨rfl, HG3.out⟩
          · have eb : (y == z) = false := by simpa using e
            go_wp2_with fail
            go_region
            change Exit.then _ _ _ _ wr.drew
            have HG3 := Lib.hid (grown_drew hG2.out)
            clear c0 c1 hG2 hG
            generalize wr.drew = w2 at *
            go_wp2_with fail
            refine ⟨⟨m + 1, by omega, by go_num, HG3, Lib.hid fun j hj => ?_⟩, by simp [RowKit.intOf]; omega⟩
            by_cases h2 : j = m
            · subst h2
              rw [HZ.out]
              exact fun h => e h.symm
            · exact hN2.out j (by omega)
        · obtain rfl : m = k := by omega
          go_wp2_with fail
          refine ⟨⟨m + 1, by omega, by go_num, hG2, Lib.hid fun j hj => ?_⟩, by simp [RowKit.intOf]; omega⟩
          by_cases h2 : j = m
          · subst h2
            rw [HY.out, Bool.eq_false_iff]
            intro hcn
            rw [List.contains_iff_mem] at hcn
            obtain ⟨i, hi, he⟩ := List.getElem_of_mem hcn
            rw [List.length_take] at hi
            refine hN2.out i (by omega) ?_
            rw [List.getD_eq_getElem?_getD, List.getElem?_eq_getElem (by omega)]
            rw [List.getElem_take] at he
            exact he
          · exact hN.out j (by omega)
    · obtain rfl : k = r.length := by omega
      go_wp2_with fail
      go_ret
      rw [rep_missI hN.out]
      exact ⟨rfl, hG.out⟩
end Go.Proofs.YtgofadmncgmhoaaGreat
