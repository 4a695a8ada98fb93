/- Full, Valid, Count, First, Rank of the program; Full, Valid of the reference. -/
import Derived.Test.YtnfgkakhdgiepaaDoorIoLeaf
import Derived.Test.YtnfgkakhdgiepaaDoorSpread
import Derived.Deep.LoopGhost
namespace Go.Proofs.YtnfgkakhdgiepaaDoor
open Go.RowKit Bs

/-- All bits below a valid length. -/
def full (n : Int) : Nat := if vl n then lo n.toNat else 0
set_option maxRecDepth 100000 in
theorem full_val : full 8 = 255 ∧ full 16 = 65535 ∧ full 32 = 4294967295 ∧ full 64 = 18446744073709551615 := by decide +kernel
set_option maxRecDepth 100000 in
theorem full_false {n : Int} (h : vl n = false) : full n = 0 := by unfold full; rw [h]; rfl
set_option maxRecDepth 100000 in
theorem full_true {n : Int} (h : vl n = true) : full n = lo n.toNat := by unfold full; rw [h]; rfl
set_option maxRecDepth 100000 in
theorem full_u64 (n : Int) : U64 (full n) := by
  by_cases h : vl n = true
  · rcases vl_cases h with rfl | rfl | rfl | rfl <;> (unfold U64; decide +kernel)
  · rw [full_false (by simpa using h)]; unfold U64; decide
set_option maxRecDepth 100000 in
set_option maxHeartbeats 400000 in
theorem fullp_any (n : Int) (w : World) :
    Calls Tryd.prog 106 #[.int .i64 n] w fun e w' => e = .returned (.int .u64 ((full n : Nat) : Int)) ∧ w = w' := by
  by_cases h : vl n = true
  · obtain ⟨v1, v2, v3, v4⟩ := full_val
    rcases vl_cases h with rfl | rfl | rfl | rfl
    all_goals clear h
    · have V := Lib.hid v1; clear v1 v2 v3 v4
      go_enter Tryd.func106, Tryd.ntmps106
      go_wp2
      go_ret
      exact ⟨ret_int (by rw [V.out]; rfl), rfl⟩
    · have V := Lib.hid v2; clear v1 v2 v3 v4
      go_enter Tryd.func106, Tryd.ntmps106
      go_wp2
      go_ret
      exact ⟨ret_int (by rw [V.out]; rfl), rfl⟩
    · have V := Lib.hid v3; clear v1 v2 v3 v4
      go_enter Tryd.func106, Tryd.ntmps106
      go_wp2
      go_ret
      exact ⟨ret_int (by rw [V.out]; rfl), rfl⟩
    · have V := Lib.hid v4; clear v1 v2 v3 v4
      go_enter Tryd.func106, Tryd.ntmps106
      go_wp2
      go_ret
      exact ⟨ret_int (by rw [V.out]; rfl), rfl⟩
  · have hv : vl n = false := by simpa using h
    have V := Lib.hid (full_false hv)
    clear h
    go_enter Tryd.func106, Tryd.ntmps106
    go_wp2_with (go_at_call 105; refine (vlp_any _ _).mono ?_; rintro e w' ⟨rfl, rfl⟩)
    go_ret
    exact ⟨ret_int (by rw [V.out]; rfl), rfl⟩

set_option maxRecDepth 100000 in
set_option maxHeartbeats 400000 in
theorem fullr_any (n : Int) (w : World) :
    Calls Tryd.prog 104 #[.int .i64 n] w fun e w' => e = .returned (.int .u64 ((full n : Nat) : Int)) ∧ w = w' := by
  by_cases h : vl n = true
  · have hv := h
    obtain ⟨N, rfl⟩ : ∃ N : Nat, n = (N : Int) := ⟨n.toNat, by rcases vl_cases h with rfl | rfl | rfl | rfl <;> rfl⟩
    have hN : N ≤ 64 := by rcases vl_cases h with h | h | h | h <;> omega
    have V := Lib.hid (full_true h)
    clear h
    go_enter Tryd.func104, Tryd.ntmps104
    go_wp2_with (go_at_call 107; refine (vlr_any _ _).mono ?_; rintro e w' ⟨rfl, rfl⟩)
    go_loop [3, 4] (fun b k => ∃ j : Nat, j ≤ N ∧ k = .int .i64 (j : Int) ∧ b = .int .u64 ((lo j : Nat) : Int)) (fun _ k => N - (intOf k).toNat)
    case atStart => exact ⟨0, Nat.zero_le _, rfl, rfl⟩
    case round =>
      obtain ⟨j, hj, rfl, rfl⟩ := hrel
      by_cases hlt : j < N
      · have hj64 : j < 64 := by omega
        have O := Lib.hid (or_lo j hj64)
        go_wp2_with (go_at_call 90; refine (bit_any _ hj64 _).mono ?_; rintro e w' ⟨rfl, rfl⟩)
        go_round
        case rel => exact ⟨j + 1, by omega, by go_num, by rw [O.out]⟩
        case measure => simp [intOf]; omega
      · go_wp2_with fail
        go_ret
        have hjN : j = N := by omega
        exact ⟨ret_int (by rw [V.out, hjN]; rfl), rfl⟩
  · have hv : vl n = false := by simpa using h
    have V := Lib.hid (full_false hv)
    clear h
    go_enter Tryd.func104, Tryd.ntmps104
    go_wp2_with (go_at_call 107; refine (vlr_any _ _).mono ?_; rintro e w' ⟨rfl, rfl⟩)
    go_ret
    exact ⟨ret_int (by rw [V.out]; rfl), rfl⟩

/-- Is the bit string valid for the length? -/
def vb (b : Nat) (n : Int) : Bool := vl n && b &&& (18446744073709551615 - full n) == 0
set_option maxRecDepth 100000 in
set_option maxHeartbeats 400000 in
theorem bvalidp_any (b : Nat) (n : Int) (hb : U64 b) (w : World) :
    Calls Tryd.prog 63 #[.int .u64 (b : Int), .int .i64 n] w fun e w' => e = .returned (.bool (vb b n)) ∧ w = w' := by
  by_cases h : vl n = true
  · have hv := h
    clear h
    go_enter Tryd.func63, Tryd.ntmps63
    go_wp2_with (first | (go_at_call 105; refine (vlp_any _ _).mono ?_; rintro e w' ⟨rfl, rfl⟩) | (go_at_call 106; refine (fullp_any _ _).mono ?_; rintro e w' ⟨rfl, rfl⟩))
    go_ret
    exact ⟨ret_bool (by unfold vb; rw [hv]; exact andNot_zero b _ hb (full_u64 n)), rfl⟩
  · have hv : vl n = false := by simpa using h
    clear h
    go_enter Tryd.func63, Tryd.ntmps63
    go_wp2_with (go_at_call 105; refine (vlp_any _ _).mono ?_; rintro e w' ⟨rfl, rfl⟩)
    go_ret
    exact ⟨ret_bool (by unfold vb; rw [hv]; rfl), rfl⟩
set_option maxRecDepth 100000 in
set_option maxHeartbeats 400000 in
theorem bvalidr_any (b : Nat) (n : Int) (hb : U64 b) (w : World) :
    Calls Tryd.prog 65 #[.int .u64 (b : Int), .int .i64 n] w fun e w' => e = .returned (.bool (vb b n)) ∧ w = w' := by
  by_cases h : vl n = true
  · have hv := h
    clear h
    go_enter Tryd.func65, Tryd.ntmps65
    go_wp2_with (first | (go_at_call 107; refine (vlr_any _ _).mono ?_; rintro e w' ⟨rfl, rfl⟩) | (go_at_call 104; refine (fullr_any _ _).mono ?_; rintro e w' ⟨rfl, rfl⟩))
    go_ret
    exact ⟨ret_bool (by unfold vb; rw [hv]; exact andNot_zero b _ hb (full_u64 n)), rfl⟩
  · have hv : vl n = false := by simpa using h
    clear h
    go_enter Tryd.func65, Tryd.ntmps65
    go_wp2_with (go_at_call 107; refine (vlr_any _ _).mono ?_; rintro e w' ⟨rfl, rfl⟩)
    go_ret
    exact ⟨ret_bool (by unfold vb; rw [hv]; rfl), rfl⟩

/-- The lowest bit, -1 if there is none. -/
def fst (b : Nat) : Int := if b = 0 then -1 else ((Lib.ctz 64 b : Nat) : Int)
set_option maxRecDepth 100000 in
set_option maxHeartbeats 400000 in
theorem firstp_any (b : Nat) (hb : U64 b) (w : World) (hT : Tb w) :
    Calls Tryd.prog 108 #[.int .u64 (b : Int)] w fun e w' => e = .returned (.int .i64 (fst b)) ∧ w = w' := by
  by_cases h0 : b = 0
  · subst h0
    go_enter Tryd.func108, Tryd.ntmps108
    go_wp2
    go_ret
    exact ⟨rfl, rfl⟩
  · have hz : ((b : Int) == 0) = false := by simp; omega
    have F : Hid (fst b = ((Lib.ctz 64 b : Nat) : Int)) := by show fst b = _; unfold fst; rw [if_neg h0]
    clear h0
    go_enter Tryd.func108, Tryd.ntmps108
    go_wp2_with (go_at_call 126; refine (tz_any _ hb _ hT).mono ?_; rintro e w' ⟨rfl, rfl⟩)
    go_ret
    exact ⟨ret_int (by rw [F.out]), rfl⟩
end Go.Proofs.YtnfgkakhdgiepaaDoor
