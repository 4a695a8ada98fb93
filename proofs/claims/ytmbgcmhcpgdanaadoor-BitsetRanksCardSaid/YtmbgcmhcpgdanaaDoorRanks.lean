/- BitsetRanks: the walk. -/
import Derived.Test.YtmbgcmhcpgdanaaDoorAwake
namespace Go.Proofs.YtmbgcmhcpgdanaaDoor
open Go.RowKit Bs
set_option maxHeartbeats 800000 in
theorem ranks_walk (b : Nat) (hb : U64 b) (w : World) (hT : Tb w) :
    Calls Tryd.prog 10 #[.int .u64 (b : Int)] w fun e w' => Nw (.bool true) w e w' := by
  have hc64 := cnt_le b
  have n1 : decide (((cnt b : Nat) : Int) < 0) = false := by simp
  have n2 : decide ((64 : Int) < ((cnt b : Nat) : Int)) = false := by simp; omega
  go_enter Tryd.func10, Tryd.ntmps10
  go_wp2_with (go_at_call 23; refine (countp_any _ hb _).mono ?_; rintro e w' ⟨rfl, rfl⟩)
  go_loop [4, 5] (fun l i => ∃ j : Nat, j ≤ cnt b ∧ i = .int .i64 (j : Int) ∧ l = .int .i64 (prev b j)) (fun _ i => cnt b - (intOf i).toNat)
  case atStart => exact ⟨0, Nat.zero_le _, rfl, rfl⟩
  case round =>
    obtain ⟨j, hj, rfl, rfl⟩ := hrel
    by_cases hlt : j < cnt b
    · obtain ⟨k, hk, h64⟩ := bl_at hlt
      have hp := prev_lt hk
      have hpg := prev_ge b j
      have N1 := nthp_any b (j : Int) hb (by unfold I64; omega) w hT
      rw [nth_at hk] at N1
      have HN := Lib.hid N1
      have H1 := has_any b k h64 hb w
      rw [nth_mem hk] at H1
      have HH := Lib.hid H1
      have R1 := rankp_any b (k : Int) hb w
      rw [rk_nth hk] at R1
      have HR := Lib.hid R1
      have P := Lib.hid (prev_succ hk)
      clear N1 H1 R1 hk
      have d1 : decide (((k : Nat) : Int) ≤ prev b j) = false := by simp; omega
      have d2 : decide ((63 : Int) < ((k : Nat) : Int)) = false := by simp; omega
      go_wp2_with fail
      refine HN.out.mono ?_
      rintro e w' ⟨rfl, rfl⟩
      go_wp2_with fail
      refine HH.out.mono ?_
      rintro e w' ⟨rfl, rfl⟩
      go_wp2_with fail
      refine HR.out.mono ?_
      rintro e w' ⟨rfl, rfl⟩
      go_wp2_with fail
      go_round
      case rel => exact ⟨j + 1, by omega, by go_num, by rw [P.out]⟩
      case measure => simp [intOf]; omega
    · obtain rfl : j = cnt b := by omega
      have N1 := nthp_any b ((cnt b : Nat) : Int) hb (by unfold I64; omega) w hT
      rw [nth_far (Int.le_refl _)] at N1
      have HN := Lib.hid N1
      have R1 := rankp_any b 64 hb w
      rw [rk_far (by omega)] at R1
      have HR := Lib.hid R1
      clear N1 R1
      go_wp2_with fail
      refine HN.out.mono ?_
      rintro e w' ⟨rfl, rfl⟩
      go_wp2_with fail
      refine HR.out.mono ?_
      rintro e w' ⟨rfl, rfl⟩
      go_wp2_with fail
      refine (awake_any w hT).mono ?_
      rintro e w' ⟨rfl, hg⟩
      go_wp2_with fail
      go_ret
      exact ⟨rfl, hg⟩
end Go.Proofs.YtmbgcmhcpgdanaaDoor
