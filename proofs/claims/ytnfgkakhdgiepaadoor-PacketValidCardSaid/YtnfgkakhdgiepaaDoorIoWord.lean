/- Both. -/
import Derived.Test.YtnfgkakhdgiepaaDoorIoMath
import Derived.Laws.BitsAllLaws
import Derived.IntWalk
import Derived.RowKit3
namespace Go.Proofs.YtnfgkakhdgiepaaDoor
open Go.RowKit
namespace Bs
/-- A number of 64 bits. -/
def U64 (b : Nat) : Prop := b < 18446744073709551616
/-- An int of Go's. -/
def I64 (x : Int) : Prop := -9223372036854775808 ≤ x ∧ x ≤ 9223372036854775807
set_option maxRecDepth 100000 in
theorem U64.lt {b : Nat} (h : U64 b) : b < 18446744073709551616 := h
set_option maxRecDepth 100000 in
theorem U64.pow {b : Nat} (h : U64 b) : b < 2 ^ 64 := h
set_option maxRecDepth 100000 in
theorem u64_mk {b : Nat} (h : b < 18446744073709551616) : U64 b := h
set_option maxRecDepth 100000 in
theorem u64_le {a b : Nat} (h : a ≤ b) (hb : U64 b) : U64 a := Nat.lt_of_le_of_lt h hb
set_option maxRecDepth 100000 in
theorem u64_and_le (a b : Nat) (h : U64 a) : U64 (a &&& b) := u64_le Nat.and_le_left h
set_option maxRecDepth 100000 in
theorem u64_or (a b : Nat) (h : U64 a) (k : U64 b) : U64 (a ||| b) := Nat.or_lt_two_pow h.pow k.pow
set_option maxRecDepth 100000 in
theorem u64_div (a b : Nat) (h : U64 a) : U64 (a / b) := u64_le (Nat.div_le_self _ _) h
set_option maxRecDepth 100000 in
theorem u64_wo (b : Nat) (h : U64 b) : U64 (wo b) := u64_le (wo_le b) h
set_option maxRecDepth 100000 in
theorem wrapU (x : Nat) (h : U64 x) : IntKind.u64.wrap (x : Int) = (x : Int) := by
  have := h.lt
  rw [IntKind.wrap_u64]; omega
set_option maxRecDepth 100000 in
theorem andU (a b : Nat) (ha : U64 a) (hb : U64 b) : bits .and .u64 (a : Int) (b : Int) = ((a &&& b : Nat) : Int) := u64_and_nat a b ha hb
set_option maxRecDepth 100000 in
theorem orU (a b : Nat) (ha : U64 a) (hb : U64 b) : bits .or .u64 (a : Int) (b : Int) = ((a ||| b : Nat) : Int) := u64_or_nat a b ha hb
set_option maxRecDepth 100000 in
theorem andNotU (a b : Nat) (ha : U64 a) (hb : U64 b) : bits .andNot .u64 (a : Int) (b : Int) = ((a &&& (18446744073709551615 - b) : Nat) : Int) := u64_andNot_nat a b ha hb
set_option maxRecDepth 100000 in
theorem divU (a k : Nat) : (a : Int) / ((k : Nat) : Int) = ((a / k : Nat) : Int) := (Int.natCast_ediv a k).symm
set_option maxRecDepth 100000 in
theorem wo_word (b : Nat) (h : U64 b) : bits .and .u64 (b : Int) (IntKind.u64.wrap ((b : Int) - 1)) = ((wo b : Nat) : Int) := by
  have := h.lt
  by_cases h0 : b = 0
  · subst h0; rfl
  · rw [show IntKind.u64.wrap ((b : Int) - 1) = ((b - 1 : Nat) : Int) by rw [IntKind.wrap_u64]; omega, andU b (b - 1) h (u64_le (Nat.sub_le _ _) h)]
    rfl
set_option maxRecDepth 100000 in
theorem ones1 (x : Nat) (hx : U64 x) : IntKind.u64.wrap (bits .and .u64 ((x : Int) / 2) 6148914691236517205 + bits .and .u64 (x : Int) 6148914691236517205) = ((t1 8 x : Nat) : Int) := by
  have h1 := t1_le 8 x
  rw [k0_8] at h1
  have e1 : bits .and .u64 ((x : Int) / 2) 6148914691236517205 = ((x / 2 &&& k0 8 : Nat) : Int) := by
    rw [k0_8]; exact (congrArg (fun t => bits .and .u64 t 6148914691236517205) (divU x 2)).trans (andU (x / 2) 6148914691236517205 (u64_div _ _ hx) (by unfold U64; decide))
  have e2 : bits .and .u64 (x : Int) 6148914691236517205 = ((x &&& k0 8 : Nat) : Int) := by
    rw [k0_8]; exact andU x 6148914691236517205 hx (by unfold U64; decide)
  rw [e1, e2, ← Int.natCast_add]
  exact wrapU (t1 8 x) (u64_mk (by omega))
set_option maxRecDepth 100000 in
theorem ones2 (x : Nat) (hx : U64 x) : IntKind.u64.wrap (bits .and .u64 ((x : Int) / 4) 3689348814741910323 + bits .and .u64 (x : Int) 3689348814741910323) = ((t2 8 x : Nat) : Int) := by
  have h1 := t2_le 8 x
  rw [k1_8] at h1
  have e1 : bits .and .u64 ((x : Int) / 4) 3689348814741910323 = ((x / 4 &&& k1 8 : Nat) : Int) := by
    rw [k1_8]; exact (congrArg (fun t => bits .and .u64 t 3689348814741910323) (divU x 4)).trans (andU (x / 4) 3689348814741910323 (u64_div _ _ hx) (by unfold U64; decide))
  have e2 : bits .and .u64 (x : Int) 3689348814741910323 = ((x &&& k1 8 : Nat) : Int) := by
    rw [k1_8]; exact andU x 3689348814741910323 hx (by unfold U64; decide)
  rw [e1, e2, ← Int.natCast_add]
  exact wrapU (t2 8 x) (u64_mk (by omega))
set_option maxRecDepth 100000 in
theorem ones3 (x : Nat) (h : x ≤ 7378697629483820646) : bits .and .u64 (IntKind.u64.wrap ((x : Int) / 16 + (x : Int))) 1085102592571150095 = ((t3 8 x : Nat) : Int) := by
  have e : IntKind.u64.wrap ((x : Int) / 16 + (x : Int)) = ((x / 16 + x : Nat) : Int) := by rw [IntKind.wrap_u64]; omega
  unfold t3
  rw [e, k2_8]
  exact andU (x / 16 + x) 1085102592571150095 (u64_mk (by omega)) (by unfold U64; decide)
set_option maxRecDepth 100000 in
theorem ones4 (x k : Nat) (h : U64 (x + x / k)) : IntKind.u64.wrap ((x : Int) + (x : Int) / ((k : Nat) : Int)) = ((x + x / k : Nat) : Int) := by
  rw [divU, ← Int.natCast_add]
  exact wrapU _ h
set_option maxRecDepth 100000 in
theorem ones7 (q : Nat) : bits .and .i64 (wrap64 (q : Int)) 127 = ((q % 128 : Nat) : Int) := by
  have e : (BitVec.ofInt 64 (wrap64 (q : Int))) = BitVec.ofNat 64 q := by
    apply BitVec.eq_of_toNat_eq
    rw [BitVec.toNat_ofInt, BitVec.toNat_ofNat]
    unfold wrap64
    omega
  show IntKind.i64.wrap ((BitVec.ofInt 64 (wrap64 (q : Int)) &&& BitVec.ofInt 64 127).toNat : Int) = _
  rw [e, BitVec.toNat_and, BitVec.toNat_ofNat, show (BitVec.ofInt 64 127).toNat = 2 ^ 7 - 1 from rfl, Nat.and_two_pow_sub_one_eq_mod, IntKind.wrap_i64]
  omega
def onesW (x : Int) : Int :=
  let a := IntKind.u64.wrap (bits .and .u64 (x / 2) 6148914691236517205 + bits .and .u64 x 6148914691236517205)
  let b := IntKind.u64.wrap (bits .and .u64 (a / 4) 3689348814741910323 + bits .and .u64 a 3689348814741910323)
  let c := bits .and .u64 (IntKind.u64.wrap (b / 16 + b)) 1085102592571150095
  let d := IntKind.u64.wrap (c + c / 256)
  let e := IntKind.u64.wrap (d + d / 65536)
  let f := IntKind.u64.wrap (e + e / 4294967296)
  bits .and .i64 (wrap64 f) 127
set_option maxRecDepth 100000 in
theorem onesW_eq (x : Nat) (hx : U64 x) : onesW (x : Int) = (((bl x).length : Nat) : Int) := by
  have h1 := t1_le 8 x
  have h2 := t2_le 8 (t1 8 x)
  rw [k0_8] at h1
  rw [k1_8] at h2
  obtain ⟨s1, s2, s3, s4, s5⟩ := ones_sum x _ _ _ rfl rfl rfl
  unfold onesW
  simp only []
  rw [ones1 x hx, ones2 _ (u64_mk (by omega)), ones3 _ (by omega)]
  generalize t3 8 (t2 8 (t1 8 x)) = v at *
  rw [show ((256 : Int)) = ((256 : Nat) : Int) from rfl, ones4 v 256 s3]
  generalize v + v / 256 = y at *
  rw [show ((65536 : Int)) = ((65536 : Nat) : Int) from rfl, ones4 y 65536 s4]
  generalize y + y / 65536 = z at *
  rw [show ((4294967296 : Int)) = ((4294967296 : Nat) : Int) from rfl, ones4 z 4294967296 s5, ones7, s1]
set_option maxRecDepth 100000 in
theorem powI (k : Nat) : ((2 : Int) ^ k) = ((2 ^ k : Nat) : Int) := by simp
set_option maxRecDepth 100000 in
theorem shrW (b k : Nat) : (b : Int) / 2 ^ k = ((b / 2 ^ k : Nat) : Int) := by rw [powI, divU]
set_option maxRecDepth 100000 in
theorem bitW (b k : Nat) (hb : U64 b) : bits .and .u64 ((b : Int) / 2 ^ k) 1 = ((b / 2 ^ k % 2 : Nat) : Int) := by
  rw [shrW, show (1 : Int) = ((1 : Nat) : Int) from rfl, andU _ 1 (u64_div _ _ hb) (by unfold U64; decide), nat_mask1]
set_option maxRecDepth 100000 in
theorem testW (b k : Nat) (hb : U64 b) : (bits .and .u64 ((b : Int) / 2 ^ k) 1 == 1) = b.testBit k := by
  rw [bitW b k hb, Nat.testBit_eq_decide_div_mod_eq]
  by_cases h : b / 2 ^ k % 2 = 1
  · simp [h]
  · have : b / 2 ^ k % 2 = 0 := by omega
    simp [this]
set_option maxRecDepth 100000 in
theorem nat_or_join (j : Nat) : (2 ^ j - 1) ||| 2 ^ j = 2 ^ j + (2 ^ j - 1) := by
  have h0 : 0 < 2 ^ j := Nat.pow_pos (by decide)
  rw [Nat.or_comm]
  exact nat_join j (2 ^ j) (2 ^ j - 1) (Nat.mod_self _) (by omega)
set_option maxRecDepth 100000 in
theorem bitsU (op : BinOp) (x y : Int) : ∃ z : Nat, U64 z ∧ bits op .u64 x y = (z : Int) := by
  unfold bits
  simp only []
  generalize (BitVec.toNat _ : Nat) = t
  refine ⟨t % 18446744073709551616, u64_mk (Nat.mod_lt _ (by decide)), ?_⟩
  rw [IntKind.wrap_u64]; omega
/-- One bit; all bits below. Plain names, so that the walk doesn't open them. -/
def b2 (k : Nat) : Nat := 2 ^ k
def lo (k : Nat) : Nat := 2 ^ k - 1
set_option maxRecDepth 100000 in
theorem b2_u64 {k : Nat} (h : k < 64) : U64 (b2 k) := Nat.pow_lt_pow_right (n := 64) (by decide) h
set_option maxRecDepth 100000 in
theorem lo_u64 {k : Nat} (h : k ≤ 64) : U64 (lo k) := by
  have : 2 ^ k ≤ 2 ^ 64 := Nat.pow_le_pow_right (by decide) h
  have h0 : 0 < 2 ^ k := Nat.pow_pos (by decide)
  unfold lo U64; omega
set_option maxRecDepth 100000 in
theorem or_lo (j : Nat) (hj : j < 64) : bits .or .u64 ((lo j : Nat) : Int) ((b2 j : Nat) : Int) = ((lo (j + 1) : Nat) : Int) := by
  have h0 : 0 < 2 ^ j := Nat.pow_pos (by decide)
  rw [orU _ _ (lo_u64 (by omega)) (b2_u64 hj)]
  unfold lo b2
  rw [nat_or_join j, Nat.pow_succ]; congr 1; omega
set_option maxRecDepth 100000 in
theorem andNot_zero (b c : Nat) (hb : U64 b) (hc : U64 c) : (bits .andNot .u64 (b : Int) (c : Int) == 0) = (b &&& (18446744073709551615 - c) == 0) := by
  rw [andNotU b c hb hc]
  generalize b &&& (18446744073709551615 - c) = z
  rw [Bool.eq_iff_iff]; simp
set_option maxRecDepth 100000 in
theorem p2_le {k : Nat} (h : k ≤ 8) : 2 ^ k ≤ 256 := Nat.pow_le_pow_right (n := 2) (by decide) h
set_option maxRecDepth 100000 in
theorem mask_word (k : Nat) (hk : k ≤ 8) : IntKind.u64.wrap (IntKind.u64.wrap (2 ^ k) - 1) = ((2 ^ k - 1 : Nat) : Int) := by
  have h1 := p2_le hk
  have h0 : 0 < 2 ^ k := Nat.pow_pos (by decide)
  rw [powI]
  generalize 2 ^ k = y at *
  rw [IntKind.wrap_u64, IntKind.wrap_u64]; omega
set_option maxRecDepth 100000 in
/-- k bits of a byte, behind those that were read. -/
theorem rd_word (v x s k : Nat) (hk : k ≤ 8) (hx : x < 256) (hv : v * 2 ^ k + 2 ^ k ≤ 18446744073709551616) :
    bits .or .u64 (IntKind.u64.wrap ((v : Int) * 2 ^ k)) (bits .and .u64 ((x : Int) / 2 ^ s) (IntKind.u64.wrap (IntKind.u64.wrap (2 ^ k) - 1))) = ((v * 2 ^ k + x / 2 ^ s % 2 ^ k : Nat) : Int) := by
  have h1 := p2_le hk
  have h0 : 0 < 2 ^ k := Nat.pow_pos (by decide)
  rw [mask_word k hk, shrW, andU _ _ (u64_div _ _ (u64_mk (by omega))) (u64_mk (by omega)), Nat.and_two_pow_sub_one_eq_mod]
  have hm := Nat.mod_lt (x / 2 ^ s) h0
  generalize x / 2 ^ s % 2 ^ k = z at *
  rw [powI, show ((v : Int) * ((2 ^ k : Nat) : Int)) = ((v * 2 ^ k : Nat) : Int) by simp, wrapU _ (u64_mk (by omega)), orU _ _ (u64_mk (by omega)) (u64_mk (by omega))]
  rw [nat_join k (v * 2 ^ k) z (Nat.mul_mod_left _ _) hm]
end Bs
end Go.Proofs.YtnfgkakhdgiepaaDoor
