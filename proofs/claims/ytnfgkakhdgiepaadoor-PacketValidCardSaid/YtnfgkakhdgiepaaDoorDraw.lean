/- The tape's bit strings. -/
import Derived.Test.YtnfgkakhdgiepaaDoorFull
import Derived.Test.YtnfgkakhdgiepaaDoorIoTape
import Derived.Test.YtnfgkakhdgiepaaDoorRef
namespace Go.Proofs.YtnfgkakhdgiepaaDoor
open Go.RowKit Bs

set_option maxRecDepth 100000 in
theorem vb_full {n : Int} (h : vl n = true) (z : Nat) : vb (z &&& full n) n = true := by
  unfold vb
  rw [h, and_compl z (full_u64 n)]; rfl
/-- A bit string drawn for a length. -/
def BitsPost (n : Int) (a : Nat) (w : World) (e : Ending) (w' : World) : Prop := ∃ x : Nat, e = .returned (.int .u64 (x : Int)) ∧ U64 x ∧ vb x n = true ∧ St a w w'
set_option maxRecDepth 100000 in
theorem bits_end {n : Int} (h : vl n = true) (z : Nat) (hz : U64 z) : ∃ x : Nat, bits .and .u64 (z : Int) ((full n : Nat) : Int) = (x : Int) ∧ U64 x ∧ vb x n = true :=
  ⟨z &&& full n, andU z _ hz (full_u64 n), u64_and_le z _ hz, vb_full h z⟩
set_option maxRecDepth 100000 in
theorem all_ones : (18446744073709551615 : Int) = ((lo 64 : Nat) : Int) := by decide +kernel
set_option maxRecDepth 100000 in
set_option maxHeartbeats 800000 in
theorem bits_any (a : Nat) (n : Int) (hn : vl n = true) (w : World) (hT : Tp w a) :
    Calls Tryd.prog 61 #[.pointer (some ⟨a, 0, none⟩), .int .i64 n] w fun e w' => BitsPost n a w e w' := by
  have hn1 : 1 ≤ n := by rcases vl_cases hn with h | h | h | h <;> omega
  have hn2 : n ≤ 64 := by rcases vl_cases hn with h | h | h | h <;> omega
  have HV := Lib.hid hn
  clear hn
  go_enter Tryd.func61, Tryd.ntmps61
  go_wp2_with fail
  refine (raw_any a _ hT).mono ?_
  rintro e w1 ⟨x1, rfl, hx1, hs1⟩
  go_wp2_with fail
  refine (raw_any a _ hs1.2).mono ?_
  rintro e w2 ⟨x2, rfl, hx2, hs2⟩
  have h12 := hs1.trans hs2
  clear hx1 hx2 hs1 hs2
  go_wp2_with fail
  generalize hB : bits BinOp.xor IntKind.u64 _ _ = B
  obtain ⟨z, hz, hzB⟩ : ∃ z : Nat, U64 z ∧ B = (z : Int) := by rw [← hB]; exact bitsU _ _ _
  subst hzB
  clear hB
  refine (next_any a 6 (by unfold I64; omega) _ h12.2).mono ?_
  rintro e w3 ⟨r, rfl, hr, hs3⟩
  have h13 := h12.trans hs3
  have hr0 : 0 ≤ r := hr.1
  have hr1 : r < 6 := hr.2.1 (by omega)
  clear hr h12 hs3
  by_cases c0 : r = 0
  · subst c0
    obtain ⟨y, hy, hyu, hyv⟩ := bits_end HV.out 0 (by unfold U64; decide)
    have HY := Lib.hid hy
    clear hy
    go_wp2_with (go_at_call 104; refine (fullr_any _ _).mono ?_; rintro e w' ⟨rfl, rfl⟩)
    go_ret
    exact ⟨y, ret_int HY.out, hyu, hyv, h13⟩
  · by_cases c1 : r = 1
    · subst c1
      clear c0
      go_wp2_with fail
      refine (next_any a n (by unfold I64; omega) _ h13.2).mono ?_
      rintro e w4 ⟨k, rfl, hk, hs4⟩
      have h14 := h13.trans hs4
      obtain ⟨K, rfl⟩ := Int.eq_ofNat_of_zero_le hk.1
      have hK : K < 64 := by have := hk.2.1 hn1; omega
      clear hk hs4
      obtain ⟨y, hy, hyu, hyv⟩ := bits_end HV.out (b2 K) (b2_u64 hK)
      have HY := Lib.hid hy
      clear hy
      go_wp2_with (first
        | (go_at_call 90; refine (bit_any K hK _).mono ?_; rintro e w' ⟨rfl, rfl⟩)
        | (go_at_call 104; refine (fullr_any _ _).mono ?_; rintro e w' ⟨rfl, rfl⟩))
      go_ret
      exact ⟨y, ret_int HY.out, hyu, hyv, h14⟩
    · by_cases c2 : r = 2
      · subst c2
        clear c0 c1
        obtain ⟨y, hy, hyu, hyv⟩ := bits_end HV.out (lo 64) (lo_u64 (by omega))
        rw [← all_ones] at hy
        have HY := Lib.hid hy
        clear hy
        go_wp2_with (go_at_call 104; refine (fullr_any _ _).mono ?_; rintro e w' ⟨rfl, rfl⟩)
        go_ret
        exact ⟨y, ret_int HY.out, hyu, hyv, h13⟩
      · have b0 : (r == 0) = false := by simpa using c0
        have b1 : (r == 1) = false := by simpa using c1
        have b2' : (r == 2) = false := by simpa using c2
        clear c0 c1 c2
        obtain ⟨y, hy, hyu, hyv⟩ := bits_end HV.out z hz
        have HY := Lib.hid hy
        clear hy
        go_wp2_with (go_at_call 104; refine (fullr_any _ _).mono ?_; rintro e w' ⟨rfl, rfl⟩)
        go_ret
        exact ⟨y, ret_int HY.out, hyu, hyv, h13⟩
end Go.Proofs.YtnfgkakhdgiepaaDoor
