/- BitsetSpreads: the walk. -/
import Derived.Test.YtmbgcmhcpgdanaaDoorLengths
namespace Go.Proofs.YtmbgcmhcpgdanaaDoor
open Go.RowKit Bs
theorem words4 (w : World) {b x y : Nat} (hb : U64 b) (hx : U64 x) (hy : U64 y) :
    ∀ j, j < 4 → ∃ z : Nat, U64 z ∧ (w.alloc (.cells #[.int .u64 (b : Int), .int .u64 (x : Int), .int .u64 (y : Int), .int .u64 0] 23)).cell? ⟨w.heap.size, j, none⟩ = some (.int .u64 (z : Int)) := by
  intro j hj
  have hh : (w.alloc (.cells #[.int .u64 (b : Int), .int .u64 (x : Int), .int .u64 (y : Int), .int .u64 0] 23)).heap[w.heap.size]? = _ := heap_alloc_new w _
  rw [cell_of_row _ _ _ _ _ _ hh]
  match j, hj with
  | 0, _ => exact ⟨b, hb, rfl⟩
  | 1, _ => exact ⟨x, hx, rfl⟩
  | 2, _ => exact ⟨y, hy, rfl⟩
  | 3, _ => exact ⟨0, by unfold U64; decide, rfl⟩
theorem low_word (x n : Nat) (hx : U64 x) (hn : n < 64) : ((x % 2 ^ n : Nat) : Int) = bits .and .u64 (x : Int) (IntKind.u64.wrap (((b2 n : Nat) : Int) - 1)) := by
  have h := (b2_u64 hn).lt
  have h0 : 0 < 2 ^ n := Nat.pow_pos (by decide)
  have e : IntKind.u64.wrap (((b2 n : Nat) : Int) - 1) = ((lo n : Nat) : Int) := by
    unfold b2 at h ⊢
    unfold lo
    rw [IntKind.wrap_u64]; omega
  rw [e, andU x _ hx (lo_u64 (by omega))]
  unfold lo
  rw [Nat.and_two_pow_sub_one_eq_mod]
theorem low_all (x n : Nat) (hx : U64 x) (hn : ¬ n < 64) (hle : n ≤ 64) : x % 2 ^ n = x := by
  obtain rfl : n = 64 := by omega
  exact Nat.mod_eq_of_lt hx.pow
set_option maxHeartbeats 1000000 in
theorem spreads_round (x m j B : Nat) (hx : U64 x) (hm : U64 m) (w : World) (hT : Tb w) :
    (Calls Tryd.prog 42 #[.int .u64 ((gather x m : Nat) : Int), .int .u64 (m : Int)] w fun e w' => e = .returned (.int .u64 (bits .and .u64 (x : Int) (m : Int))) ∧ w = w') ∧
    (cnt m < 64 → Calls Tryd.prog 43 #[.int .u64 ((spread x m : Nat) : Int), .int .u64 (m : Int)] w fun e w' => e = .returned (.int .u64 (bits .and .u64 (x : Int) (IntKind.u64.wrap (((b2 (cnt m) : Nat) : Int) - 1)))) ∧ w = w') ∧
    (¬ cnt m < 64 → Calls Tryd.prog 43 #[.int .u64 ((spread x m : Nat) : Int), .int .u64 (m : Int)] w fun e w' => e = .returned (.int .u64 (x : Int)) ∧ w = w') := by
  refine ⟨?_, fun h => ?_, fun h => ?_⟩
  · have := spreadp_any (gather x m) m (gather_u64 x m) hm w hT
    rw [spread_gather x m hx, ← andU x m hx hm] at this
    exact this
  · have := gatherp_any (spread x m) m (spread_u64 x m) hm w hT
    rw [gather_spread, low_word x _ hx h] at this
    exact this
  · have := gatherp_any (spread x m) m (spread_u64 x m) hm w hT
    rw [gather_spread, low_all x _ hx h (cnt_le m)] at this
    exact this
set_option maxHeartbeats 2000000 in
theorem spreads_walk (v : Value) (x b : Nat) (hx : U64 x) (hb : U64 b) (w : World) (hv : IntsIn w v) (hT : Tb w) :
    Calls Tryd.prog 7 #[v, .int .u64 (x : Int), .int .u64 (b : Int)] w fun e w' => Nw (.bool true) w e w' := by
  have vl64 : vl 64 = true := by decide
  have vl8 : vl 8 = true := by decide
  go_enter Tryd.func7, Tryd.ntmps7
  go_wp2_with fail
  refine (new_any v w hv).mono ?_
  rintro e w1 ⟨rfl, hg1, hT1⟩
  go_wp2_with fail
  refine (bits_any _ 64 vl64 _ hT1).mono ?_
  rintro e w4 ⟨x1, rfl, hx1, hv1, hs4⟩
  go_wp2_with fail
  refine (bits_any _ 8 vl8 _ hs4.2).mono ?_
  rintro e w5 ⟨x2, rfl, hx2, hv2, hs5⟩
  have HX := words4 w5 hb hx1 hx2
  have g5 : w.grownBy (w5.alloc (.cells #[.int .u64 (b : Int), .int .u64 (x1 : Int), .int .u64 (x2 : Int), .int .u64 0] 23)) none :=
    grown_tape hg1 (grown_trans hs4.1 (hs5.grown_alloc _))
  have T5 := hT.keep g5
  clear hv1 hv2 hs4 hs5 hg1 hT1 vl64 vl8 hv hT
  go_wp2_with fail
  generalize (w5.alloc (.cells #[.int .u64 (b : Int), .int .u64 (x1 : Int), .int .u64 (x2 : Int), .int .u64 0] 23)) = W at *
  generalize w5.heap.size = B at *
  have G := Lib.hid g5
  clear g5
  go_loopw [9] (fun i wr => ∃ j : Nat, j ≤ 4 ∧ i = .int .i64 (j : Int) ∧ W.grownBy wr none) (fun i _ => 4 - (intOf i).toNat)
  case atStart => exact ⟨0, by omega, rfl, grown_refl _ _⟩
  case round =>
    obtain ⟨j, hj, rfl, hgr⟩ := hrel
    have Tr := T5.keep hgr
    by_cases hlt : j < 4
    · obtain ⟨m, hm, hmc0⟩ := HX j hlt
      have hmc := hgr.cell hmc0 (by simp)
      have GR := Lib.hid hgr
      clear hgr hmc0
      go_wp2_with fail
      refine (spreadp_any x m hx hm _ Tr).mono ?_
      rintro e w' ⟨rfl, rfl⟩
      go_wp2_with fail
      refine (gatherp_any x m hx hm _ Tr).mono ?_
      rintro e w' ⟨rfl, rfl⟩
      go_wp2_with fail
      refine (spreadr_any x m hx hm _).mono ?_
      rintro e wa ⟨rfl, hga⟩
      go_wp2_with fail
      refine (gatherr_any x m hx hm _).mono ?_
      rintro e wb ⟨rfl, hgb⟩
      have Tb2 := Tr.keep (grown_trans hga hgb)
      go_wp2_with fail
      refine (spreads_round x m j B hx hm wb Tb2).1.mono ?_
      rintro e w' ⟨rfl, rfl⟩
      go_wp2_with fail
      refine (countr_any m hm _).mono ?_
      rintro e wc ⟨rfl, hgc⟩
      have Tc2 := Tb2.keep hgc
      have GC := Lib.hid (grown_trans GR.out (grown_trans hga (grown_trans hgb hgc)))
      have hc64 := cnt_le m
      clear hga hgb hgc Tr Tb2
      by_cases hcm : cnt m < 64
      · have HG := Lib.hid ((spreads_round x m j B hx hm wc Tc2).2.1 hcm)
        go_wp2_with (go_at_call 46; refine (bit_any _ hcm _).mono ?_; rintro e w' ⟨rfl, rfl⟩)
        refine HG.out.mono ?_
        rintro e w' ⟨rfl, rfl⟩
        go_wp2_with fail
        go_roundw
        case rel => exact ⟨j + 1, by omega, by go_num, GC.out⟩
        case measure => simp [intOf]; omega
      · have HG := Lib.hid ((spreads_round x m j B hx hm wc Tc2).2.2 hcm)
        go_wp2_with fail
        refine HG.out.mono ?_
        rintro e w' ⟨rfl, rfl⟩
        go_wp2_with fail
        go_roundw
        case rel => exact ⟨j + 1, by omega, by go_num, GC.out⟩
        case measure => simp [intOf]; omega
    · have GR := Lib.hid hgr
      clear hgr
      go_wp2_with fail
      refine (awake_any _ Tr).mono ?_
      rintro e w' ⟨rfl, hg⟩
      go_wp2_with fail
      go_ret
      exact ⟨rfl, grown_trans (grown_trans G.out GR.out) hg⟩
end Go.Proofs.YtmbgcmhcpgdanaaDoor
