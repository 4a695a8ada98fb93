/- packet: Valid. -/
import Derived.Test.YtnfgkakhdgiepaaDoorPkHead
namespace Go.Proofs.YtnfgkakhdgiepaaDoor
open Go.RowKit Bs
def vrows (P : Pk) : List (Int × Int × Int) := [(P.mode, 1, 3), (P.sub, 0, 7), (P.set, 0, 31), (P.ttl, 0, 63), (P.ent, 0, 1023), (P.ing, 0, 256), (P.pro, 0, 7), ((P.pay.size : Int), 0, 64)]
def vcells (P : Pk) : Array Value := #[.int .i64 P.mode, .int .i64 1, .int .i64 3, .int .i64 P.sub, .int .i64 0, .int .i64 7, .int .i64 P.set, .int .i64 0, .int .i64 31, .int .i64 P.ttl, .int .i64 0, .int .i64 63,
  .int .i64 P.ent, .int .i64 0, .int .i64 1023, .int .i64 P.ing, .int .i64 0, .int .i64 256, .int .i64 P.pro, .int .i64 0, .int .i64 7, .int .i64 (P.pay.size : Int), .int .i64 0, .int .i64 64]
set_option maxRecDepth 100000 in
theorem vrow_at (P : Pk) (k : Nat) (hk : k < 8) : ∃ x lo hi : Int, (vcells P)[k * 3]? = some (.int .i64 x) ∧ (vcells P)[k * 3 + 1]? = some (.int .i64 lo) ∧ (vcells P)[k * 3 + 2]? = some (.int .i64 hi) ∧ (vrows P)[k]? = some (x, lo, hi) := by
  rcases (show k = 0 ∨ k = 1 ∨ k = 2 ∨ k = 3 ∨ k = 4 ∨ k = 5 ∨ k = 6 ∨ k = 7 by omega) with rfl | rfl | rfl | rfl | rfl | rfl | rfl | rfl <;> exact ⟨_, _, _, rfl, rfl, rfl, rfl⟩
/-- The first k rows are kept. -/
def Kept (P : Pk) (k : Nat) : Prop := ∀ j x lo hi, j < k → (vrows P)[j]? = some (x, lo, hi) → lo ≤ x ∧ x ≤ hi
set_option maxRecDepth 100000 in
theorem vpk_kept {P : Pk} (h : Kept P 8) : vpk P = vb P.bits P.len := by
  have h0 := h 0 _ _ _ (by decide) rfl
  have h1 := h 1 _ _ _ (by decide) rfl
  have h2 := h 2 _ _ _ (by decide) rfl
  have h3 := h 3 _ _ _ (by decide) rfl
  have h4 := h 4 _ _ _ (by decide) rfl
  have h5 := h 5 _ _ _ (by decide) rfl
  have h6 := h 6 _ _ _ (by decide) rfl
  have h7 := h 7 _ _ _ (by decide) rfl
  unfold vpk
  by_cases hb : vb P.bits P.len = true
  · rw [hb]; exact decide_eq_true ⟨h0, h1, h2, h3, h4, h5, h6, by omega, rfl⟩
  · rw [Bool.not_eq_true] at hb
    rw [hb]; exact decide_eq_false fun h => by cases h.2.2.2.2.2.2.2.2
set_option maxRecDepth 100000 in
theorem vpk_row {P : Pk} (h : vpk P = true) {k : Nat} {x lo hi : Int} (hk : k < 8) (hr : (vrows P)[k]? = some (x, lo, hi)) : lo ≤ x ∧ x ≤ hi := by
  obtain ⟨h0, h1, h2, h3, h4, h5, h6, h7, _⟩ := vpk_parts h
  rcases (show k = 0 ∨ k = 1 ∨ k = 2 ∨ k = 3 ∨ k = 4 ∨ k = 5 ∨ k = 6 ∨ k = 7 by omega) with rfl | rfl | rfl | rfl | rfl | rfl | rfl | rfl <;> cases hr
  · exact h0
  · exact h1
  · exact h2
  · exact h3
  · exact h4
  · exact h5
  · exact h6
  · exact ⟨by omega, by omega⟩
set_option maxRecDepth 100000 in
theorem vpk_not {P : Pk} {k : Nat} {x lo hi : Int} (hk : k < 8) (hr : (vrows P)[k]? = some (x, lo, hi)) (hn : ¬ (lo ≤ x ∧ x ≤ hi)) : vpk P = false := by
  cases h : vpk P with
  | false => rfl
  | true => exact absurd (vpk_row h hk hr) hn
set_option maxRecDepth 100000 in
set_option maxHeartbeats 3200000 in
theorem pvalid_any (P : Pk) (hP : P.Wf) (w : World) :
    Calls Tryd.prog 16 #[P.val] w fun e w' => e = .returned (.bool (vpk P)) ∧ w.grownBy w' none := by
  unfold Pk.val
  go_enter Tryd.func16, Tryd.ntmps16
  go_wp2_with fail
  obtain ⟨k1, k2, k3, k4⟩ := two_boxes w (pcells P) (vcells P) 25 86
  have HA := Lib.hid (And.intro k1 (And.intro k2 k3))
  clear k1 k2 k3 k4
  unfold pcells vcells at HA
  generalize ((w.alloc (.cells #[.int .i64 P.mode, .int .i64 P.sub, .int .i64 P.set, .int .i64 P.len, .int .i64 P.ttl, .int .i64 P.ent, .int .i64 P.ing, .int .i64 P.pro, .int .u64 (P.bits : Int), .string P.pay] 25)).alloc _) = wa at *
  change Hid (wa.heap[w.heap.size]? = some (.cells (pcells P) 25 (0, 0)) ∧ wa.heap[w.heap.size + 1]? = some (.cells (vcells P) 86 (0, 0)) ∧ w.grownBy wa none) at HA
  have hK0 : Hid (Kept P 0) := Lib.hid fun j x lo hi hj => absurd hj (Nat.not_lt_zero j)
  go_loopw [32] (fun i wr => ∃ k : Nat, k ≤ 8 ∧ i = .int .i64 (k : Int) ∧ Hid (Kept P k) ∧ Hid (wa.grownBy wr none)) (fun i _ => (8 - (intOf i).toNat))
  case atStart => exact ⟨0, Nat.zero_le _, rfl, hK0, Lib.hid (grown_refl _ _)⟩
  case round =>
    obtain ⟨k, hk, rfl, hK, hG⟩ := hrel
    clear hK0
    have GE := Lib.hid (grown_trans HA.out.2.2 hG.out)
    by_cases hk2 : k < 8
    · obtain ⟨x, lo, hi, c0, c1, c2, hr⟩ := vrow_at P k hk2
      have hrow := kept_row HA.out.2.1 hG.out (by simp)
      have d0 := (cell_of_row _ _ _ _ _ _ hrow).trans c0
      have d1 := (cell_of_row _ _ _ _ _ _ hrow).trans c1
      have d2 := (cell_of_row _ _ _ _ _ _ hrow).trans c2
      have HR := Lib.hid hr
      clear c0 c1 c2 hr hrow
      by_cases h1 : x < lo
      · have hn := Lib.hid (vpk_not hk2 HR.out (by omega))
        go_wp2_with fail
        go_ret
        exact ⟨by rw [hn.out]; rfl, grown_trans GE.out (World.grownBy_alloc _ _ none)⟩
      · by_cases h2 : hi < x
        · have hn := Lib.hid (vpk_not hk2 HR.out (by omega))
          go_wp2_with fail
          go_ret
          exact ⟨by rw [hn.out]; rfl, grown_trans GE.out (World.grownBy_alloc _ _ none)⟩
        · go_wp2_with fail
          go_roundw
          case rel =>
            refine ⟨k + 1, by omega, by go_num, Lib.hid fun j y lo' hi' hj hr => ?_, Lib.hid (grown_trans hG.out (World.grownBy_alloc _ _ none))⟩
            by_cases hjk : j < k
            · exact hK.out j y lo' hi' hjk hr
            · obtain rfl : j = k := by omega
              rw [HR.out] at hr
              cases hr
              exact ⟨by omega, by omega⟩
          case measure => simp [intOf]; omega
    · obtain rfl : k = 8 := by omega
      obtain ⟨a0, a1, a2, a3, a4, a5, a6, a7, a8, a9⟩ := p_facts (kept_row HA.out.1 hG.out (by simp))
      have hv := Lib.hid (vpk_kept hK.out)
      go_wp2_with fail
      refine (bvalidp_any P.bits P.len hP.bits _).mono ?_
      rintro e w9 ⟨rfl, rfl⟩
      go_wp2_with fail
      go_ret
      exact ⟨by rw [hv.out]; rfl, GE.out⟩
end Go.Proofs.YtnfgkakhdgiepaaDoor
