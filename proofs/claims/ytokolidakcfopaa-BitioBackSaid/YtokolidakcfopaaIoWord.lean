/- Words of 64 bits: what the model's operators give at numbers below 2^64. No program is named here. -/
import Derived.Test.YtokolidakcfopaaIoMath
import Derived.Laws.BitsAllLaws
import Derived.IntWalk
import Derived.RowKit3
namespace Go.Proofs.Ytokolidakcfopaa
open Go.RowKit
namespace Bs
/-- A number of 64 bits. -/
def U64 (b : Nat) : Prop := b < 18446744073709551616
/-- An int of Go's. -/
def I64 (x : Int) : Prop := -9223372036854775808 ≤ x ∧ x ≤ 9223372036854775807
theorem U64.lt {b : Nat} (h : U64 b) : b < 18446744073709551616 := h
theorem U64.pow {b : Nat} (h : U64 b) : b < 2 ^ 64 := h
theorem u64_mk {b : Nat} (h : b < 18446744073709551616) : U64 b := h
theorem u64_le {a b : Nat} (h : a ≤ b) (hb : U64 b) : U64 a := Nat.lt_of_le_of_lt h hb
theorem u64_and_le (a b : Nat) (h : U64 a) : U64 (a &&& b) := u64_le Nat.and_le_left h
theorem u64_or (a b : Nat) (h : U64 a) (k : U64 b) : U64 (a ||| b) := Nat.or_lt_two_pow h.pow k.pow
theorem u64_div (a b : Nat) (h : U64 a) : U64 (a / b) := u64_le (Nat.div_le_self _ _) h
theorem wrapU (x : Nat) (h : U64 x) : IntKind.u64.wrap (x : Int) = (x : Int) := by
  have := h.lt
  rw [IntKind.wrap_u64]; omega
theorem andU (a b : Nat) (ha : U64 a) (hb : U64 b) : bits .and .u64 (a : Int) (b : Int) = ((a &&& b : Nat) : Int) := u64_and_nat a b ha hb
theorem orU (a b : Nat) (ha : U64 a) (hb : U64 b) : bits .or .u64 (a : Int) (b : Int) = ((a ||| b : Nat) : Int) := u64_or_nat a b ha hb
theorem andNotU (a b : Nat) (ha : U64 a) (hb : U64 b) : bits .andNot .u64 (a : Int) (b : Int) = ((a &&& (18446744073709551615 - b) : Nat) : Int) := u64_andNot_nat a b ha hb
theorem divU (a k : Nat) : (a : Int) / ((k : Nat) : Int) = ((a / k : Nat) : Int) := (Int.natCast_ediv a k).symm
theorem powI (k : Nat) : ((2 : Int) ^ k) = ((2 ^ k : Nat) : Int) := by simp
theorem shrW (b k : Nat) : (b : Int) / 2 ^ k = ((b / 2 ^ k : Nat) : Int) := by rw [powI, divU]
theorem bitW (b k : Nat) (hb : U64 b) : bits .and .u64 ((b : Int) / 2 ^ k) 1 = ((b / 2 ^ k % 2 : Nat) : Int) := by
  rw [shrW, show (1 : Int) = ((1 : Nat) : Int) from rfl, andU _ 1 (u64_div _ _ hb) (by unfold U64; decide), nat_mask1]
theorem testW (b k : Nat) (hb : U64 b) : (bits .and .u64 ((b : Int) / 2 ^ k) 1 == 1) = b.testBit k := by
  rw [bitW b k hb, Nat.testBit_eq_decide_div_mod_eq]
  by_cases h : b / 2 ^ k % 2 = 1
  · simp [h]
  · have : b / 2 ^ k % 2 = 0 := by omega
    simp [this]
theorem nat_or_join (j : Nat) : (2 ^ j - 1) ||| 2 ^ j = 2 ^ j + (2 ^ j - 1) := by
  have h0 : 0 < 2 ^ j := Nat.pow_pos (by decide)
  rw [Nat.or_comm]
  exact nat_join j (2 ^ j) (2 ^ j - 1) (Nat.mod_self _) (by omega)
theorem bitsU (op : BinOp) (x y : Int) : ∃ z : Nat, U64 z ∧ bits op .u64 x y = (z : Int) := by
  unfold bits
  simp only []
  generalize (BitVec.toNat _ : Nat) = t
  refine ⟨t % 18446744073709551616, u64_mk (Nat.mod_lt _ (by decide)), ?_⟩
  rw [IntKind.wrap_u64]; omega
/-- One bit; all bits below. Plain names, so that the walk doesn't open them. -/
def b2 (k : Nat) : Nat := 2 ^ k
def lo (k : Nat) : Nat := 2 ^ k - 1
theorem b2_u64 {k : Nat} (h : k < 64) : U64 (b2 k) := Nat.pow_lt_pow_right (n := 64) (by decide) h
theorem lo_u64 {k : Nat} (h : k ≤ 64) : U64 (lo k) := by
  have : 2 ^ k ≤ 2 ^ 64 := Nat.pow_le_pow_right (by decide) h
  have h0 : 0 < 2 ^ k := Nat.pow_pos (by decide)
  unfold lo U64; omega
theorem or_lo (j : Nat) (hj : j < 64) : bits .or .u64 ((lo j : Nat) : Int) ((b2 j : Nat) : Int) = ((lo (j + 1) : Nat) : Int) := by
  have h0 : 0 < 2 ^ j := Nat.pow_pos (by decide)
  rw [orU _ _ (lo_u64 (by omega)) (b2_u64 hj)]
  unfold lo b2
  rw [nat_or_join j, Nat.pow_succ]; congr 1; omega
theorem andNot_zero (b c : Nat) (hb : U64 b) (hc : U64 c) : (bits .andNot .u64 (b : Int) (c : Int) == 0) = (b &&& (18446744073709551615 - c) == 0) := by
  rw [andNotU b c hb hc]
  generalize b &&& (18446744073709551615 - c) = z
  rw [Bool.eq_iff_iff]; simp
theorem p2_le {k : Nat} (h : k ≤ 8) : 2 ^ k ≤ 256 := Nat.pow_le_pow_right (n := 2) (by decide) h
theorem mask_word (k : Nat) (hk : k ≤ 8) : IntKind.u64.wrap (IntKind.u64.wrap (2 ^ k) - 1) = ((2 ^ k - 1 : Nat) : Int) := by
  have h1 := p2_le hk
  have h0 : 0 < 2 ^ k := Nat.pow_pos (by decide)
  rw [powI]
  generalize 2 ^ k = y at *
  rw [IntKind.wrap_u64, IntKind.wrap_u64]; omega
/-- k bits of a byte, behind those that were read. -/
theorem rd_word (v x s k : Nat) (hk : k ≤ 8) (hx : x < 256) (hv : v * 2 ^ k + 2 ^ k ≤ 18446744073709551616) :
    bits .or .u64 (IntKind.u64.wrap ((v : Int) * 2 ^ k)) (bits .and .u64 ((x : Int) / 2 ^ s) (IntKind.u64.wrap (IntKind.u64.wrap (2 ^ k) - 1))) = ((v * 2 ^ k + x / 2 ^ s % 2 ^ k : Nat) : Int) := by
  have h1 := p2_le hk
  have h0 : 0 < 2 ^ k := Nat.pow_pos (by decide)
  rw [mask_word k hk, shrW, andU _ _ (u64_div _ _ (u64_mk (by omega))) (u64_mk (by omega)), Nat.and_two_pow_sub_one_eq_mod]
  have hm := Nat.mod_lt (x / 2 ^ s) h0
  generalize x / 2 ^ s % 2 ^ k = z at *
  rw [powI, show ((v : Int) * ((2 ^ k : Nat) : Int)) = ((v * 2 ^ k : Nat) : Int) by simp, wrapU _ (u64_mk (by omega)), orU _ _ (u64_mk (by omega)) (u64_mk (by omega))]
  rw [nat_join k (v * 2 ^ k) z (Nat.mul_mod_left _ _) hm]
end Bs
end Go.Proofs.Ytokolidakcfopaa
