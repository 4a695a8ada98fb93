/- Parts of the proof, packed: IoMath, IoWord, IoLeaf, IoTape, IoMem, IoRead, IoWild. -/
import Derived.Lib.TrailingZeros
import Derived.IntWalk
import Derived.Laws.BitsAllLaws
import Derived.RowKit3
import Derived.Test.YtpogblengagpaaaGreatDoorRows
import Derived.WalkKit
import Derived.WalkSpells
import Derived.WalkLawsBesides
import Derived.Lib.Hide
import Derived.Deep.QuietTactic
import Derived.BigQuiet
import Derived.Shelf.Spec.TrailingZeros
import Derived.Deep.RegionHeld
/- Both. -/
namespace Go.Proofs.YtpogblengagpaaaGreatDoor
set_option maxRecDepth 100000
namespace Bs
def blN (n b : Nat) : List Nat := (List.range n).filter fun k => b.testBit k
def bl (b : Nat) : List Nat := blN 64 b
theorem blN_zero (b : Nat) : blN 0 b = [] := rfl
theorem blN_snoc (n b : Nat) : blN (n + 1) b = blN n b ++ (if b.testBit n then [n] else []) := by
 unfold blN
 rw [List.range_succ, List.filter_append]
 congr 1
 cases h : b.testBit n <;> simp [h]
theorem blN_cons (n b : Nat) : blN (n + 1) b = (if b % 2 = 1 then [0] else []) ++ (blN n (b / 2)).map (· + 1) := by
 unfold blN
 rw [List.range_succ_eq_map, List.filter_cons, List.filter_map]
 have h0 : b.testBit 0 = decide (b % 2 = 1) := Nat.testBit_zero b
 have hf : ((fun k => b.testBit k) ∘ Nat.succ) = fun k => (b / 2).testBit k := by
  funext k; exact Nat.testBit_succ b k
 rw [hf, h0]
 by_cases h : b % 2 = 1
 ·simp only [h, decide_true, if_true, List.cons_append, List.nil_append]
 ·simp only [h, decide_false, if_false, List.nil_append, Bool.false_eq_true]
theorem blN_of_zero (n : Nat) : blN n 0 = [] := by
 unfold blN; simp
theorem blN_length_le (n b : Nat) : (blN n b).length ≤ n := by
 unfold blN; have := List.length_filter_le (fun k => b.testBit k) (List.range n); simpa using this
theorem blN_length_succ (n b : Nat) : (blN (n + 1) b).length = b % 2 + (blN n (b / 2)).length := by
 rw [blN_cons]
 by_cases h : b % 2 = 1
 ·simp [h]; omega
 ·have : b % 2 = 0 := by omega
  simp [this]
def wo (b : Nat) : Nat := b &&& (b - 1)
theorem wo_odd {b : Nat} (h : b % 2 = 1) : wo b = b - 1 := by
 unfold wo
 apply Nat.eq_of_testBit_eq
 intro i
 rw [Nat.testBit_and]
 cases i with
 | zero => simp [Nat.testBit_zero]; omega
 | succ i => rw [Nat.testBit_succ, Nat.testBit_succ, show (b - 1) / 2 = b / 2 by omega, Bool.and_self]
theorem wo_even {b : Nat} (h : b % 2 = 0) : wo b = 2 * wo (b / 2) := by
 unfold wo
 apply Nat.eq_of_testBit_eq
 intro i
 rw [Nat.testBit_and]
 cases i with
 | zero => simp [Nat.testBit_zero]; omega
 | succ i => rw [Nat.testBit_succ, Nat.testBit_succ, Nat.testBit_succ, show (b - 1) / 2 = b / 2 - 1 by omega, show 2 * (b / 2 &&& b / 2 - 1) / 2 = (b / 2 &&& b / 2 - 1) by omega, Nat.testBit_and]
theorem wo_le (b : Nat) : wo b ≤ b := Nat.and_le_left
theorem wo_lt {b : Nat} (h : b ≠ 0) : wo b < b := by
 have : wo b ≤ b - 1 := Nat.and_le_right
 omega
theorem blN_wo (n : Nat) : ∀ b, b ≠ 0 → b < 2 ^ n → blN n b = Lib.ctzFrom n b :: blN n (wo b) := by
 induction n with
 | zero => intro b h0 h; simp at h; omega
 | succ n ih =>
  intro b h0 h
  by_cases hb : b % 2 = 1
  ·rw [wo_odd hb, blN_cons, blN_cons, if_pos hb, if_neg (by omega), show (b - 1) / 2 = b / 2 by omega]
   simp [Lib.ctzFrom, hb]
  ·have hb0 : b % 2 = 0 := by omega
   rw [wo_even hb0, blN_cons, blN_cons, if_neg hb, if_neg (by omega), show 2 * wo (b / 2) / 2 = wo (b / 2) by omega,
    ih (b / 2) (by omega) (by rw [Nat.pow_succ] at h; omega)]
   simp [Lib.ctzFrom, hb0]; omega
theorem bl_wo {b : Nat} (h0 : b ≠ 0) (h : b < 18446744073709551616) : bl b = Lib.ctz 64 b :: bl (wo b) := by
 unfold bl Lib.ctz
 rw [if_neg h0]
 exact blN_wo 64 b h0 (by simpa using h)
theorem bl_zero : bl 0 = [] := blN_of_zero 64
theorem bl_length_le (b : Nat) : (bl b).length ≤ 64 := blN_length_le 64 b
/- THE COUNT OF BITS, AS math/bits HAS IT: in halves, quarters, bytes; each step a byte at a time. -/
def k0 : Nat → Nat | 0 => 0 | k + 1 => 85 + 256 * k0 k
theorem k0_succ (k : Nat) : k0 (k + 1) = 85 + 256 * k0 k := rfl
def k1 : Nat → Nat | 0 => 0 | k + 1 => 51 + 256 * k1 k
theorem k1_succ (k : Nat) : k1 (k + 1) = 51 + 256 * k1 k := rfl
def k2 : Nat → Nat | 0 => 0 | k + 1 => 15 + 256 * k2 k
theorem k2_succ (k : Nat) : k2 (k + 1) = 15 + 256 * k2 k := rfl
def t1 (k x : Nat) : Nat := (x / 2 &&& k0 k) + (x &&& k0 k)
def t2 (k x : Nat) : Nat := (x / 4 &&& k1 k) + (x &&& k1 k)
def t3 (k x : Nat) : Nat := (x / 16 + x) &&& k2 k
theorem and_byte (x m r : Nat) (hm : m < 256) : x &&& (m + 256 * r) = (x % 256 &&& m) + 256 * (x / 256 &&& r) := by
 have h := Nat.div_add_mod (x &&& (m + 256 * r)) 256
 have h1 : (x &&& (m + 256 * r)) / 256 = x / 256 &&& r := by
  have := Nat.and_div_two_pow (a := x) (b := m + 256 * r) (n := 8)
  rw [show (2 : Nat) ^ 8 = 256 from rfl] at this
  rw [this, show (m + 256 * r) / 256 = r by omega]
 have h2 : (x &&& (m + 256 * r)) % 256 = x % 256 &&& m := by
  have := Nat.and_mod_two_pow (a := x) (b := m + 256 * r) (n := 8)
  rw [show (2 : Nat) ^ 8 = 256 from rfl] at this
  rw [this, show (m + 256 * r) % 256 = m by omega]
 rw [h1, h2] at h
 omega
theorem byte1 : ∀ d, d < 512 → (d / 2 % 256 &&& 85) + (d % 256 &&& 85) = (d % 256 / 2 &&& 85) + (d % 256 &&& 85) := by decide +kernel
theorem byte2 : ∀ d, d < 1024 → (d / 4 % 256 &&& 51) + (d % 256 &&& 51) = (d % 256 / 4 &&& 51) + (d % 256 &&& 51) := by decide +kernel
def p1 (d : Nat) : Nat := (d / 2 &&& 85) + (d &&& 85)
def p2 (d : Nat) : Nat := (d / 4 &&& 51) + (d &&& 51)
theorem t1_succ (k x : Nat) : t1 (k + 1) x = p1 (x % 256) + 256 * t1 k (x / 256) := by
 unfold t1 p1
 rw [k0_succ, and_byte _ _ _ (by decide), and_byte x _ _ (by decide)]
 have h := byte1 (x % 512) (by omega)
 rw [show x % 512 / 2 % 256 = x / 2 % 256 by omega, show x % 512 % 256 = x % 256 by omega] at h
 rw [show x / 2 / 256 = x / 256 / 2 by omega]
 omega
theorem t2_succ (k x : Nat) : t2 (k + 1) x = p2 (x % 256) + 256 * t2 k (x / 256) := by
 unfold t2 p2
 rw [k1_succ, and_byte _ _ _ (by decide), and_byte x _ _ (by decide)]
 have h := byte2 (x % 1024) (by omega)
 rw [show x % 1024 / 4 % 256 = x / 4 % 256 by omega, show x % 1024 % 256 = x % 256 by omega] at h
 rw [show x / 4 / 256 = x / 256 / 4 by omega]
 omega
theorem p1_lt : ∀ d, d < 256 → p1 d < 256 := by decide +kernel
theorem p2_small : ∀ d, d < 256 → p2 (p1 d) < 256 ∧ p2 (p1 d) % 16 ≤ 4 ∧ p2 (p1 d) / 16 ≤ 4 := by decide +kernel
def p3 (d : Nat) : Nat := p2 (p1 d) % 16 + p2 (p1 d) / 16
theorem p3_bits : ∀ d, d < 256 → p3 d = (blN 8 d).length := by decide +kernel
theorem t12_succ (k x : Nat) : t2 (k + 1) (t1 (k + 1) x) = p2 (p1 (x % 256)) + 256 * t2 k (t1 k (x / 256)) := by
 have hp := p1_lt (x % 256) (by omega)
 rw [t1_succ, t2_succ, show (p1 (x % 256) + 256 * t1 k (x / 256)) % 256 = p1 (x % 256) by omega, show (p1 (x % 256) + 256 * t1 k (x / 256)) / 256 = t1 k (x / 256) by omega]
theorem t12_low (k x : Nat) : t2 k (t1 k x) % 16 ≤ 4 := by
 cases k with
 | zero => simp [t2, k1]
 | succ k =>
  have hp := p2_small (x % 256) (by omega)
  rw [t12_succ]; omega
theorem and15 (n : Nat) : n &&& 15 = n % 16 := Nat.and_two_pow_sub_one_eq_mod n 4
theorem t123_succ (k x : Nat) : t3 (k + 1) (t2 (k + 1) (t1 (k + 1) x)) = p3 (x % 256) + 256 * t3 k (t2 k (t1 k (x / 256))) := by
 have hp := p2_small (x % 256) (by omega)
 have hl := t12_low k (x / 256)
 rw [t12_succ]
 unfold t3 p3
 rw [k2_succ]
 generalize p2 (p1 (x % 256)) = d at hp
 generalize t2 k (t1 k (x / 256)) = y at hl
 rw [and_byte _ _ _ (by decide), and15, show ((d + 256 * y) / 16 + (d + 256 * y)) / 256 = y / 16 + y by omega]
 omega
theorem blN_length_add (n : Nat) : ∀ m b, (blN (m + n) b).length = (blN m (b % 2 ^ m)).length + (blN n (b / 2 ^ m)).length
 | 0, b => by simp [blN_zero]
 | m + 1, b => by
  rw [show m + 1 + n = (m + n) + 1 by omega, blN_length_succ, blN_length_add n m, blN_length_succ m, Nat.pow_succ, Nat.mul_comm (2 ^ m) 2,
   Nat.mod_mul_right_div_self, Nat.div_div_eq_div_mul, Nat.mod_mul_right_mod]
  omega
theorem blN_length_byte (n b : Nat) : (blN (n + 8) b).length = (blN 8 (b % 256)).length + (blN n (b / 256)).length := by
 rw [Nat.add_comm n 8, blN_length_add n 8 b]
def pb : Nat → Nat → Nat | 0, _ => 0 | k + 1, x => p3 (x % 256) + 256 * pb k (x / 256)
def pw : Nat → Nat → Nat | 0, _ => 0 | k + 1, x => p3 (x % 256) + pw k (x / 256)
theorem t123_pb : ∀ k x, t3 k (t2 k (t1 k x)) = pb k x
 | 0, x => by simp [t3, k2, pb]
 | k + 1, x => by rw [t123_succ, t123_pb k, pb]
theorem pw_bits : ∀ k x, pw k x = (blN (8 * k) x).length
 | 0, x => rfl
 | k + 1, x => by rw [pw, show 8 * (k + 1) = 8 * k + 8 by omega, blN_length_byte, p3_bits _ (by omega), pw_bits k]
theorem p3_le (d : Nat) (h : d < 256) : p3 d ≤ 8 := by rw [p3_bits d h]; exact blN_length_le 8 d
theorem t1_le (k x : Nat) : t1 k x ≤ 2 * k0 k := by
 unfold t1
 have h1 := Nat.and_le_right (n := x / 2) (m := k0 k)
 have h2 := Nat.and_le_right (n := x) (m := k0 k)
 omega
theorem t2_le (k x : Nat) : t2 k x ≤ 2 * k1 k := by
 unfold t2
 have h1 := Nat.and_le_right (n := x / 4) (m := k1 k)
 have h2 := Nat.and_le_right (n := x) (m := k1 k)
 omega
theorem k0_8 : k0 8 = 6148914691236517205 := by decide +kernel
theorem k1_8 : k1 8 = 3689348814741910323 := by decide +kernel
theorem k2_8 : k2 8 = 1085102592571150095 := by decide +kernel
theorem dv (x a r B : Nat) (hB : 0 < B) (ha : a < B) (h : x = a + B * r) : x / B = r := by
 subst h; rw [Nat.add_mul_div_left _ _ hB, Nat.div_eq_of_lt ha, Nat.zero_add]
theorem sum8 (a0 a1 a2 a3 a4 a5 a6 a7 r1 r2 r3 r4 r5 r6 r7 x y z : Nat) (h0 : a0 ≤ 8) (h1 : a1 ≤ 8) (h2 : a2 ≤ 8) (h3 : a3 ≤ 8) (h4 : a4 ≤ 8) (h5 : a5 ≤ 8) (h6 : a6 ≤ 8) (h7 : a7 ≤ 8)
  (hx : x = a0 + 256 * r1) (e1 : r1 = a1 + 256 * r2) (e2 : r2 = a2 + 256 * r3) (e3 : r3 = a3 + 256 * r4) (e4 : r4 = a4 + 256 * r5) (e5 : r5 = a5 + 256 * r6) (e6 : r6 = a6 + 256 * r7) (e7 : r7 = a7 + 256 * 0)
  (hy : y = x + x / 256) (hz : z = y + y / 65536) : ∃ t, z + z / 4294967296 = (a0 + (a1 + (a2 + (a3 + (a4 + (a5 + (a6 + (a7 + 0)))))))) + 256 * t ∧ z + z / 4294967296 < 18446744073709551616 := by
 rw [dv x a0 r1 256 (by decide) (by omega) hx] at hy
 have f1 : y = ((a0 + a1) + 256 * (a1 + a2)) + 65536 * (r2 + r3) := by rw [hy, hx, e1, e2]; clear hy hz hx; omega
 rw [dv y _ _ 65536 (by decide) (by omega) f1] at hz
 have f2 : z = ((a0 + a1 + a2 + a3) + 256 * (a1 + a2 + a3 + a4) + 65536 * (a2 + a3 + a4 + a5) + 16777216 * (a3 + a4 + a5 + a6)) + 4294967296 * (r4 + r5 + r6 + r7) := by
  rw [hz, f1]; clear hy hz hx f1 e1 e7; omega
 rw [dv z _ _ 4294967296 (by decide) (by omega) f2, f2]
 clear hy hz hx f1 f2 e1 e2 e3
 refine ⟨(a1 + a2 + a3 + a4) + 256 * (a2 + a3 + a4 + a5) + 65536 * (a3 + a4 + a5 + a6) + 16777216 * (r4 + r5 + r6 + r7) + r5 + r6 + r7, ?_, ?_⟩ <;> omega
theorem ones_sum (x v y z : Nat) (hv : v = t3 8 (t2 8 (t1 8 x))) (hy : y = v + v / 256) (hz : z = y + y / 65536) :
  (z + z / 4294967296) % 128 = (bl x).length ∧ v < 18446744073709551616 ∧ y < 18446744073709551616 ∧ z < 18446744073709551616 ∧ z + z / 4294967296 < 18446744073709551616 := by
 rw [t123_pb 8 x] at hv
 have hl : pw 8 x = (bl x).length := pw_bits 8 x
 simp only [pb] at hv
 simp only [pw] at hl
 have b0 := p3_le (x % 256) (by omega)
 have b1 := p3_le (x / 256 % 256) (Nat.mod_lt _ (by decide))
 have b2 := p3_le (x / 256 / 256 % 256) (Nat.mod_lt _ (by decide))
 have b3 := p3_le (x / 256 / 256 / 256 % 256) (Nat.mod_lt _ (by decide))
 have b4 := p3_le (x / 256 / 256 / 256 / 256 % 256) (Nat.mod_lt _ (by decide))
 have b5 := p3_le (x / 256 / 256 / 256 / 256 / 256 % 256) (Nat.mod_lt _ (by decide))
 have b6 := p3_le (x / 256 / 256 / 256 / 256 / 256 / 256 % 256) (Nat.mod_lt _ (by decide))
 have b7 := p3_le (x / 256 / 256 / 256 / 256 / 256 / 256 / 256 % 256) (Nat.mod_lt _ (by decide))
 obtain ⟨t, ht, hlt⟩ := sum8 _ _ _ _ _ _ _ _ _ _ _ _ _ _ _ v y z b0 b1 b2 b3 b4 b5 b6 b7 hv rfl rfl rfl rfl rfl rfl rfl hy hz
 rw [hl] at ht
 have hle := bl_length_le x
 have v1 : v ≤ y := by rw [hy]; exact Nat.le_add_right _ _
 have y1 : y ≤ z := by rw [hz]; exact Nat.le_add_right _ _
 have z1 : z ≤ z + z / 4294967296 := Nat.le_add_right _ _
 generalize z + z / 4294967296 = q at ht hlt z1
 clear hv hy hz hl b0 b1 b2 b3 b4 b5 b6 b7
 omega
def num (f : Nat → Bool) (a : Nat) : Nat → Nat
 | 0 => 0
 | k + 1 => 2 * num f a k + (f (a + k)).toNat
def bt (l : List Nat) (i : Nat) : Bool := (l.getD (i / 8) 0).testBit (7 - i % 8)
def py (f : Nat → Bool) (m j : Nat) : Nat := num (fun i => decide (i < m) && f i) (8 * j) 8
def pz (f : Nat → Bool) (m N : Nat) : List Nat := (List.range N).map (py f m)
end Bs
end Go.Proofs.YtpogblengagpaaaGreatDoor

/- Both. -/
namespace Go.Proofs.YtpogblengagpaaaGreatDoor
set_option maxRecDepth 100000
open Go.RowKit
namespace Bs
def U64 (b : Nat) : Prop := b < 18446744073709551616
def I64 (x : Int) : Prop := -9223372036854775808 ≤ x ∧ x ≤ 9223372036854775807
theorem U64.lt {b : Nat} (h : U64 b) : b < 18446744073709551616 := h
theorem U64.pow {b : Nat} (h : U64 b) : b < 2 ^ 64 := h
theorem u64_mk {b : Nat} (h : b < 18446744073709551616) : U64 b := h
theorem u64_le {a b : Nat} (h : a ≤ b) (hb : U64 b) : U64 a := Nat.lt_of_le_of_lt h hb
theorem u64_and_le (a b : Nat) (h : U64 a) : U64 (a &&& b) := u64_le Nat.and_le_left h
theorem u64_or (a b : Nat) (h : U64 a) (k : U64 b) : U64 (a ||| b) := Nat.or_lt_two_pow h.pow k.pow
theorem u64_div (a b : Nat) (h : U64 a) : U64 (a / b) := u64_le (Nat.div_le_self _ _) h
theorem u64_wo (b : Nat) (h : U64 b) : U64 (wo b) := u64_le (wo_le b) h
theorem wrapU (x : Nat) (h : U64 x) : IntKind.u64.wrap (x : Int) = (x : Int) := by
 have := h.lt
 rw [IntKind.wrap_u64]; omega
theorem andU (a b : Nat) (ha : U64 a) (hb : U64 b) : bits .and .u64 (a : Int) (b : Int) = ((a &&& b : Nat) : Int) := u64_and_nat a b ha hb
theorem orU (a b : Nat) (ha : U64 a) (hb : U64 b) : bits .or .u64 (a : Int) (b : Int) = ((a ||| b : Nat) : Int) := u64_or_nat a b ha hb
theorem andNotU (a b : Nat) (ha : U64 a) (hb : U64 b) : bits .andNot .u64 (a : Int) (b : Int) = ((a &&& (18446744073709551615 - b) : Nat) : Int) := u64_andNot_nat a b ha hb
theorem divU (a k : Nat) : (a : Int) / ((k : Nat) : Int) = ((a / k : Nat) : Int) := (Int.natCast_ediv a k).symm
theorem wo_word (b : Nat) (h : U64 b) : bits .and .u64 (b : Int) (IntKind.u64.wrap ((b : Int) - 1)) = ((wo b : Nat) : Int) := by
 have := h.lt
 by_cases h0 : b = 0
 ·subst h0; rfl
 ·rw [show IntKind.u64.wrap ((b : Int) - 1) = ((b - 1 : Nat) : Int) by rw [IntKind.wrap_u64]; omega, andU b (b - 1) h (u64_le (Nat.sub_le _ _) h)]
  rfl
theorem ones1 (x : Nat) (hx : U64 x) : IntKind.u64.wrap (bits .and .u64 ((x : Int) / 2) 6148914691236517205 + bits .and .u64 (x : Int) 6148914691236517205) = ((t1 8 x : Nat) : Int) := by
 have h1 := t1_le 8 x
 rw [k0_8] at h1
 have e1 : bits .and .u64 ((x : Int) / 2) 6148914691236517205 = ((x / 2 &&& k0 8 : Nat) : Int) := by
  rw [k0_8]; exact (congrArg (fun t => bits .and .u64 t 6148914691236517205) (divU x 2)).trans (andU (x / 2) 6148914691236517205 (u64_div _ _ hx) (by unfold U64; decide))
 have e2 : bits .and .u64 (x : Int) 6148914691236517205 = ((x &&& k0 8 : Nat) : Int) := by
  rw [k0_8]; exact andU x 6148914691236517205 hx (by unfold U64; decide)
 rw [e1, e2, ← Int.natCast_add]
 exact wrapU (t1 8 x) (u64_mk (by omega))
theorem ones2 (x : Nat) (hx : U64 x) : IntKind.u64.wrap (bits .and .u64 ((x : Int) / 4) 3689348814741910323 + bits .and .u64 (x : Int) 3689348814741910323) = ((t2 8 x : Nat) : Int) := by
 have h1 := t2_le 8 x
 rw [k1_8] at h1
 have e1 : bits .and .u64 ((x : Int) / 4) 3689348814741910323 = ((x / 4 &&& k1 8 : Nat) : Int) := by
  rw [k1_8]; exact (congrArg (fun t => bits .and .u64 t 3689348814741910323) (divU x 4)).trans (andU (x / 4) 3689348814741910323 (u64_div _ _ hx) (by unfold U64; decide))
 have e2 : bits .and .u64 (x : Int) 3689348814741910323 = ((x &&& k1 8 : Nat) : Int) := by
  rw [k1_8]; exact andU x 3689348814741910323 hx (by unfold U64; decide)
 rw [e1, e2, ← Int.natCast_add]
 exact wrapU (t2 8 x) (u64_mk (by omega))
theorem ones3 (x : Nat) (h : x ≤ 7378697629483820646) : bits .and .u64 (IntKind.u64.wrap ((x : Int) / 16 + (x : Int))) 1085102592571150095 = ((t3 8 x : Nat) : Int) := by
 have e : IntKind.u64.wrap ((x : Int) / 16 + (x : Int)) = ((x / 16 + x : Nat) : Int) := by rw [IntKind.wrap_u64]; omega
 unfold t3
 rw [e, k2_8]
 exact andU (x / 16 + x) 1085102592571150095 (u64_mk (by omega)) (by unfold U64; decide)
theorem ones4 (x k : Nat) (h : U64 (x + x / k)) : IntKind.u64.wrap ((x : Int) + (x : Int) / ((k : Nat) : Int)) = ((x + x / k : Nat) : Int) := by
 rw [divU, ← Int.natCast_add]
 exact wrapU _ h
theorem ones7 (q : Nat) : bits .and .i64 (wrap64 (q : Int)) 127 = ((q % 128 : Nat) : Int) := by
 have e : (BitVec.ofInt 64 (wrap64 (q : Int))) = BitVec.ofNat 64 q := by
  apply BitVec.eq_of_toNat_eq
  rw [BitVec.toNat_ofInt, BitVec.toNat_ofNat]
  unfold wrap64
  omega
 show IntKind.i64.wrap ((BitVec.ofInt 64 (wrap64 (q : Int)) &&& BitVec.ofInt 64 127).toNat : Int) = _
 rw [e, BitVec.toNat_and, BitVec.toNat_ofNat, show (BitVec.ofInt 64 127).toNat = 2 ^ 7 - 1 from rfl, Nat.and_two_pow_sub_one_eq_mod, IntKind.wrap_i64]
 omega
def onesW (x : Int) : Int :=
 let a := IntKind.u64.wrap (bits .and .u64 (x / 2) 6148914691236517205 + bits .and .u64 x 6148914691236517205)
 let b := IntKind.u64.wrap (bits .and .u64 (a / 4) 3689348814741910323 + bits .and .u64 a 3689348814741910323)
 let c := bits .and .u64 (IntKind.u64.wrap (b / 16 + b)) 1085102592571150095
 let d := IntKind.u64.wrap (c + c / 256)
 let e := IntKind.u64.wrap (d + d / 65536)
 let f := IntKind.u64.wrap (e + e / 4294967296)
 bits .and .i64 (wrap64 f) 127
theorem onesW_eq (x : Nat) (hx : U64 x) : onesW (x : Int) = (((bl x).length : Nat) : Int) := by
 have h1 := t1_le 8 x
 have h2 := t2_le 8 (t1 8 x)
 rw [k0_8] at h1
 rw [k1_8] at h2
 obtain ⟨s1, s2, s3, s4, s5⟩ := ones_sum x _ _ _ rfl rfl rfl
 unfold onesW
 simp only []
 rw [ones1 x hx, ones2 _ (u64_mk (by omega)), ones3 _ (by omega)]
 generalize t3 8 (t2 8 (t1 8 x)) = v at *
 rw [show ((256 : Int)) = ((256 : Nat) : Int) from rfl, ones4 v 256 s3]
 generalize v + v / 256 = y at *
 rw [show ((65536 : Int)) = ((65536 : Nat) : Int) from rfl, ones4 y 65536 s4]
 generalize y + y / 65536 = z at *
 rw [show ((4294967296 : Int)) = ((4294967296 : Nat) : Int) from rfl, ones4 z 4294967296 s5, ones7, s1]
theorem powI (k : Nat) : ((2 : Int) ^ k) = ((2 ^ k : Nat) : Int) := by simp
theorem shrW (b k : Nat) : (b : Int) / 2 ^ k = ((b / 2 ^ k : Nat) : Int) := by rw [powI, divU]
theorem bitW (b k : Nat) (hb : U64 b) : bits .and .u64 ((b : Int) / 2 ^ k) 1 = ((b / 2 ^ k % 2 : Nat) : Int) := by
 rw [shrW, show (1 : Int) = ((1 : Nat) : Int) from rfl, andU _ 1 (u64_div _ _ hb) (by unfold U64; decide), nat_mask1]
theorem testW (b k : Nat) (hb : U64 b) : (bits .and .u64 ((b : Int) / 2 ^ k) 1 == 1) = b.testBit k := by
 rw [bitW b k hb, Nat.testBit_eq_decide_div_mod_eq]
 by_cases h : b / 2 ^ k % 2 = 1
 ·simp [h]
 ·have : b / 2 ^ k % 2 = 0 := by omega
  simp [this]
theorem nat_or_join (j : Nat) : (2 ^ j - 1) ||| 2 ^ j = 2 ^ j + (2 ^ j - 1) := by
 have h0 : 0 < 2 ^ j := Nat.pow_pos (by decide)
 rw [Nat.or_comm]
 exact nat_join j (2 ^ j) (2 ^ j - 1) (Nat.mod_self _) (by omega)
theorem bitsU (op : BinOp) (x y : Int) : ∃ z : Nat, U64 z ∧ bits op .u64 x y = (z : Int) := by
 unfold bits
 simp only []
 generalize (BitVec.toNat _ : Nat) = t
 refine ⟨t % 18446744073709551616, u64_mk (Nat.mod_lt _ (by decide)), ?_⟩
 rw [IntKind.wrap_u64]; omega
def b2 (k : Nat) : Nat := 2 ^ k
def lo (k : Nat) : Nat := 2 ^ k - 1
theorem b2_u64 {k : Nat} (h : k < 64) : U64 (b2 k) := Nat.pow_lt_pow_right (n := 64) (by decide) h
theorem lo_u64 {k : Nat} (h : k ≤ 64) : U64 (lo k) := by
 have : 2 ^ k ≤ 2 ^ 64 := Nat.pow_le_pow_right (by decide) h
 have h0 : 0 < 2 ^ k := Nat.pow_pos (by decide)
 unfold lo U64; omega
theorem or_lo (j : Nat) (hj : j < 64) : bits .or .u64 ((lo j : Nat) : Int) ((b2 j : Nat) : Int) = ((lo (j + 1) : Nat) : Int) := by
 have h0 : 0 < 2 ^ j := Nat.pow_pos (by decide)
 rw [orU _ _ (lo_u64 (by omega)) (b2_u64 hj)]
 unfold lo b2
 rw [nat_or_join j, Nat.pow_succ]; congr 1; omega
theorem andNot_zero (b c : Nat) (hb : U64 b) (hc : U64 c) : (bits .andNot .u64 (b : Int) (c : Int) == 0) = (b &&& (18446744073709551615 - c) == 0) := by
 rw [andNotU b c hb hc]
 generalize b &&& (18446744073709551615 - c) = z
 rw [Bool.eq_iff_iff]; simp
end Bs
end Go.Proofs.YtpogblengagpaaaGreatDoor

/- Both. -/
namespace Go.Proofs.YtpogblengagpaaaGreatDoor
set_option maxRecDepth 100000
open Go.RowKit Bs

theorem ret_int {k : IntKind} {a b : Int} (h : a = b) : Ending.returned (.int k a) = .returned (.int k b) := by rw [h]
theorem ret_bool {a b : Bool} (h : a = b) : Ending.returned (.bool a) = .returned (.bool b) := by rw [h]

def Tb (w : World) : Prop := TabAt 0 Lib.deBruijn64tab w

set_option maxHeartbeats 400000 in
theorem wo_any (b : Nat) (hb : U64 b) (w : World) :
  Calls Tryz.prog 82 #[.int .u64 (b : Int)] w fun e w' => e = .returned (.int .u64 ((wo b : Nat) : Int)) ∧ w = w' := by
 go_enter Tryz.func82, Tryz.ntmps82
 go_wp2
 go_ret
 exact ⟨ret_int (wo_word b hb), rfl⟩

set_option maxHeartbeats 400000 in
theorem ones_any (b : Nat) (hb : U64 b) (w : World) :
  Calls Tryz.prog 110 #[.int .u64 (b : Int)] w fun e w' => e = .returned (.int .i64 (((bl b).length : Nat) : Int)) ∧ w = w' := by
 go_enter Tryz.func110, Tryz.ntmps110
 go_wp2
 go_ret
 exact ⟨ret_int (onesW_eq b hb), rfl⟩

set_option maxHeartbeats 400000 in
theorem tz_core (x k idx : Nat) (w : World) (hx0 : ((x : Int) == 0) = false)
  (key : IntKind.u64.wrap (bits BinOp.and IntKind.u64 (x : Int) (IntKind.u64.wrap (-(x : Int))) * 285870213051353865) / 288230376151711744 = (idx : Int))
  (hi : idx < 64) (hk : k < 64) (hcell : w.cell? ⟨0, idx, none⟩ = some (.int .u8 k)) :
  Calls Tryz.prog 69 #[.int .u64 (x : Int)] w fun e w' => e = .returned (.int .i64 k) ∧ w = w' := by
 go_enter Tryz.func69, Tryz.ntmps69
 go_wp2_with (simp only [key])
 go_ret
 exact ⟨rfl, rfl⟩

set_option maxHeartbeats 400000 in
theorem tz_zero (w : World) :
  Calls Tryz.prog 69 #[.int .u64 0] w fun e w' => e = .returned (.int .i64 64) ∧ w = w' := by
 go_enter Tryz.func69, Tryz.ntmps69
 go_wp2
 go_ret
 exact ⟨rfl, rfl⟩

theorem tz_any (x : Nat) (hx : U64 x) (w : World) (hT : Tb w) :
  Calls Tryz.prog 69 #[.int .u64 (x : Int)] w fun e w' => e = .returned (.int .i64 ((Lib.ctz 64 x : Nat) : Int)) ∧ w = w' := by
 by_cases hx0 : x = 0
 ·subst hx0
  exact tz_zero w
 ·obtain ⟨hlow, hk⟩ := Lib.lowest_bit 64 x hx0 hx
  obtain ⟨hi, htab⟩ := Lib.deBruijn64_at _ hk
  have hcell := hT _ hi
  rw [htab] at hcell
  exact tz_core x _ _ w (by simp; omega) (tz64_key x _ hx hx0 hlow) hi hk hcell

def CutOf (n r : Int) : Prop := 0 ≤ r ∧ (1 ≤ n → r < n) ∧ (n < 1 → r = 0)

theorem cut_neg (x n : Int) (hn : I64 n) (h1 : 1 ≤ n) (h : x.tmod n < 0) : CutOf n (wrap64 (x.tmod n + n)) := by
 have h2 := Int.lt_tmod_of_pos x (show 0 < n by omega)
 unfold I64 at hn
 rw [IntWalk.wrap64_in _ (by omega)]
 unfold CutOf; omega
theorem cut_pos (x n : Int) (h1 : 1 ≤ n) (h : ¬ x.tmod n < 0) : CutOf n (x.tmod n) := by
 have h2 := Int.tmod_lt_of_pos x (show 0 < n by omega)
 unfold CutOf; omega
set_option maxHeartbeats 400000 in
theorem cut_any (x n : Int) (hn : I64 n) (w : World) :
  Calls Tryz.prog 60 #[.int .i64 x, .int .i64 n] w fun e w' => (∃ r, e = .returned (.int .i64 r) ∧ CutOf n r) ∧ w = w' := by
 by_cases h1 : n < 1
 ·go_enter Tryz.func60, Tryz.ntmps60
  go_wp2
  go_ret
  exact ⟨⟨0, rfl, by unfold CutOf; omega⟩, rfl⟩
 ·have h1' : 1 ≤ n := by omega
  by_cases h2 : x.tmod n < 0
  ·have hf := Lib.hid (cut_neg x n hn h1' h2)
   go_enter Tryz.func60, Tryz.ntmps60
   go_wp2
   go_ret
   exact ⟨⟨_, rfl, hf.out⟩, rfl⟩
  ·have hf := Lib.hid (cut_pos x n h1' h2)
   go_enter Tryz.func60, Tryz.ntmps60
   go_wp2
   go_ret
   exact ⟨⟨_, rfl, hf.out⟩, rfl⟩

def vl (n : Int) : Bool := n == 8 || n == 16 || n == 32 || n == 64
theorem vl_cases {n : Int} (h : vl n = true) : n = 8 ∨ n = 16 ∨ n = 32 ∨ n = 64 := by
 unfold vl at h; simp at h; omega
set_option maxHeartbeats 400000 in
theorem vlp_any (n : Int) (w : World) :
  Calls Tryz.prog 111 #[.int .i64 n] w fun e w' => e = .returned (.bool (vl n)) ∧ w = w' := by
 go_enter Tryz.func111, Tryz.ntmps111
 go_wp2
 all_goals go_ret
 all_goals exact ⟨ret_bool (by first | rfl | (unfold vl; simp [*])), rfl⟩
set_option maxHeartbeats 400000 in
theorem vlr_any (n : Int) (w : World) :
  Calls Tryz.prog 72 #[.int .i64 n] w fun e w' => e = .returned (.bool (vl n)) ∧ w = w' := by
 go_enter Tryz.func72, Tryz.ntmps72
 go_wp2
 all_goals go_ret
 all_goals exact ⟨ret_bool (by first | rfl | (unfold vl; simp [*])), rfl⟩
theorem pow_word (k : Nat) (hk : k < 64) : IntKind.u64.wrap (2 ^ k) = ((b2 k : Nat) : Int) := by
 unfold b2
 have e : ((2 : Int) ^ k) = ((2 ^ k : Nat) : Int) := by simp
 rw [e]
 exact wrapU _ (Nat.pow_lt_pow_right (by decide) hk)
set_option maxHeartbeats 400000 in
theorem bit_any (k : Nat) (hk : k < 64) (w : World) :
  Calls Tryz.prog 48 #[.int .i64 (k : Int)] w fun e w' => e = .returned (.int .u64 ((b2 k : Nat) : Int)) ∧ w = w' := by
 go_enter Tryz.func48, Tryz.ntmps48
 go_wp2
 all_goals go_ret
 exact ⟨ret_int (pow_word k hk), rfl⟩
set_option maxHeartbeats 400000 in
theorem has_any (b k : Nat) (hk : k < 64) (hb : U64 b) (w : World) :
  Calls Tryz.prog 84 #[.int .u64 (b : Int), .int .i64 (k : Int)] w fun e w' => e = .returned (.bool (b.testBit k)) ∧ w = w' := by
 go_enter Tryz.func84, Tryz.ntmps84
 go_wp2
 go_ret
 exact ⟨ret_bool (testW b k hb), rfl⟩

end Go.Proofs.YtpogblengagpaaaGreatDoor

/- Both. -/
namespace Go.Proofs.YtpogblengagpaaaGreatDoor
set_option maxRecDepth 100000
open Go.RowKit Bs

def IntsV (w : World) (a : Nat) (v : Value) (n : Nat) : Prop :=
 ∃ p c, v = .slice p n c ∧ (0 < n → ∃ b off, p = some ⟨b, off, none⟩ ∧ b < a ∧ ∀ i, i < n → ∃ x, I64 x ∧ w.cell? ⟨b, off + i, none⟩ = some (.int .i64 x))
structure TapeOf (w : World) (a : Nat) (v : Value) (n i : Nat) : Prop where
 l : w.cell? ⟨a, 0, none⟩ = some v
 p : w.cell? ⟨a, 1, none⟩ = some (.int .i64 (i : Int))
 fr : w.frozen? ⟨a, 1, none⟩ = false
 ints : IntsV w a v n
 le : i ≤ n
 len : n ≤ 600
def Tp (w : World) (a : Nat) : Prop := ∃ v n i, TapeOf w a v n i
def St (a : Nat) (w w' : World) : Prop := w.grownBy w' (some a) ∧ Tp w' a
def IntPost (P : Int → Prop) (a : Nat) (w : World) (e : Ending) (w' : World) : Prop := ∃ r, e = .returned (.int .i64 r) ∧ P r ∧ St a w w'

theorem grown_refl (w : World) (r : Option Nat) : w.grownBy w r := ⟨rfl, rfl, rfl, Nat.le_refl _, fun _ _ _ => rfl⟩
theorem grown_trans {w0 w1 w2 : World} {r : Option Nat} (h : w0.grownBy w1 r) (k : w1.grownBy w2 r) : w0.grownBy w2 r :=
 ⟨k.os.trans h.os, k.tape.trans h.tape, k.output.trans h.output, Nat.le_trans h.size k.size, fun b hb hr => (k.block b (Nat.lt_of_lt_of_le hb h.size) hr).trans (h.block b hb hr)⟩
theorem grown_none {w0 w1 : World} (h : w0.grownBy w1 none) (r : Option Nat) : w0.grownBy w1 r :=
 ⟨h.os, h.tape, h.output, h.size, fun b hb _ => h.block b hb (by simp)⟩
theorem grown_drewN (w : World) (n : Nat) (r : Option Nat) : w.grownBy (w.drewN n) r := ⟨rfl, rfl, rfl, Nat.le_refl _, fun _ _ _ => rfl⟩
theorem grown_setCell (w : World) (p : Addr) (u : Value) : w.grownBy (w.setCell p u) (some p.block) :=
 ⟨rfl, rfl, rfl, by simp [World.setCell], fun k _ hk => Below.heap_setCell _ _ _ _ (by simpa using hk)⟩
theorem St.trans {a : Nat} {w0 w1 w2 : World} (h : St a w0 w1) (k : St a w1 w2) : St a w0 w2 := ⟨grown_trans h.1 k.1, k.2⟩
theorem IntsV.grown {w w' : World} {a n : Nat} {v : Value} (h : IntsV w a v n) (g : w.grownBy w' (some a)) : IntsV w' a v n := by
 obtain ⟨p, c, hv, hc⟩ := h
 refine ⟨p, c, hv, fun hn => ?_⟩
 obtain ⟨b, off, hp, hb, hx⟩ := hc hn
 refine ⟨b, off, hp, hb, fun i hi => ?_⟩
 obtain ⟨x, hx, hcell⟩ := hx i hi
 exact ⟨x, hx, g.cell hcell (by simp; omega)⟩

set_option maxHeartbeats 400000 in
theorem raw_end (a : Nat) (p : Option Addr) (n c i : Nat) (w : World) (h1 : w.cell? ⟨a, 0, none⟩ = some (.slice p n c)) (h2 : w.cell? ⟨a, 1, none⟩ = some (.int .i64 (i : Int))) (h : n ≤ i) :
  Calls Tryz.prog 47 #[.pointer (some ⟨a, 0, none⟩)] w fun e w' => e = .returned (.int .i64 0) ∧ ∃ nq, w' = w.drewN nq := by
 go_enter Tryz.func47, Tryz.ntmps47
 go_wp2
 go_quiet (fail)
 go_wp2
 go_ret
 exact ⟨rfl, _, rfl⟩
set_option maxHeartbeats 400000 in
theorem raw_step (a b off n c i : Nat) (x : Int) (w : World) (h1 : w.cell? ⟨a, 0, none⟩ = some (.slice (some ⟨b, off, none⟩) n c)) (h2 : w.cell? ⟨a, 1, none⟩ = some (.int .i64 (i : Int)))
  (hf : w.frozen? ⟨a, 1, none⟩ = false) (hba : b ≠ a) (hx : w.cell? ⟨b, off + i, none⟩ = some (.int .i64 x)) (h : i < n) (hn : n ≤ 600) :
  Calls Tryz.prog 47 #[.pointer (some ⟨a, 0, none⟩)] w fun e w' => e = .returned (.int .i64 x) ∧ ∃ m q, w' = ((w.drewN m).setCell ⟨a, 1, none⟩ (.int .i64 ((i : Int) + 1))).drewN q := by
 go_enter Tryz.func47, Tryz.ntmps47
 go_wp2
 go_quiet (fail)
 go_wp2
 go_quiet (fail)
 go_wp2
 go_ret
 exact ⟨rfl, _, _, rfl⟩
theorem raw_any (a : Nat) (w : World) (hT : Tp w a) :
  Calls Tryz.prog 47 #[.pointer (some ⟨a, 0, none⟩)] w fun e w' => IntPost I64 a w e w' := by
 obtain ⟨v, n, i, T⟩ := hT
 have zero : I64 0 := by unfold I64; omega
 have keep : ∀ nq, St a w (w.drewN nq) := fun nq =>
  ⟨grown_drewN w nq _, v, n, i, T.l, T.p, T.fr, T.ints.grown (grown_drewN w nq _), T.le, T.len⟩
 obtain ⟨p, c, rfl, hc⟩ := T.ints
 by_cases hlt : i < n
 ·obtain ⟨b, off, rfl, hb, hx⟩ := hc (by omega)
  obtain ⟨x, hx, hcell⟩ := hx i hlt
  refine (raw_step a b off n c i x w T.l T.p T.fr (Nat.ne_of_lt hb) hcell hlt T.len).mono ?_
  rintro e w' ⟨rfl, m, q, rfl⟩
  have g : w.grownBy (((w.drewN m).setCell ⟨a, 1, none⟩ (.int .i64 ((i : Int) + 1))).drewN q) (some a) :=
   grown_trans (grown_trans (grown_drewN w m _) (grown_setCell _ ⟨a, 1, none⟩ _)) (grown_drewN _ q _)
  refine ⟨x, rfl, hx, g, .slice (some ⟨b, off, none⟩) n c, n, i + 1, ?_, ?_, ?_, T.ints.grown g, hlt, T.len⟩
  ·exact (World.cell?_setCell_other (w.drewN m) ⟨a, 1, none⟩ ⟨a, 0, none⟩ _ (by simp)).trans T.l
  ·exact World.cell?_setCell_same' (w.drewN m) ⟨a, 1, none⟩ _ (by rw [show (w.drewN m).cell? ⟨a, 1, none⟩ = _ from T.p]; rfl)
  ·exact (World.frozen?_setCell (w.drewN m) ⟨a, 1, none⟩ ⟨a, 1, none⟩ _).trans T.fr
 ·refine (raw_end a p n c i w T.l T.p (by omega)).mono ?_
  rintro e w' ⟨rfl, nq, rfl⟩
  exact ⟨0, rfl, zero, keep nq⟩

def NewPost (w : World) (e : Ending) (w' : World) : Prop := e = .returned (.pointer (some ⟨w.heap.size, 0, none⟩)) ∧ w.grownBy w' none ∧ Tp w' w.heap.size
set_option maxHeartbeats 400000 in
theorem new_some (p : Option Addr) (n c : Nat) (w : World) (hn : n ≤ 600) (hcm : c ≤ 9223372036854775807) :
  Calls Tryz.prog 6 #[.slice p n c] w fun e w' => e = .returned (.pointer (some ⟨w.heap.size, 0, none⟩)) ∧ w' = w.alloc (.cells #[.slice p n c, .int .i64 0] 64) := by
 go_enter Tryz.func6, Tryz.ntmps6
 go_wp2
 go_ret
 exact ⟨rfl, rfl⟩
set_option maxHeartbeats 400000 in
theorem new_cut (b off n c : Nat) (w : World) (hn : 600 < n) (hc : n ≤ c) (hcm : c ≤ 9223372036854775807) :
  Calls Tryz.prog 6 #[.slice (some ⟨b, off, none⟩) n c] w fun e w' => e = .returned (.pointer (some ⟨w.heap.size, 0, none⟩)) ∧ w' = w.alloc (.cells #[.slice (some ⟨b, off, none⟩) 600 c, .int .i64 0] 64) := by
 go_enter Tryz.func6, Tryz.ntmps6
 go_wp2
 go_ret
 exact ⟨rfl, rfl⟩
def IntsIn (w : World) (v : Value) : Prop :=
 ∃ p n c, v = .slice p n c ∧ n ≤ c ∧ c ≤ 9223372036854775807 ∧ (0 < n → ∃ b off, p = some ⟨b, off, none⟩ ∧ b < w.heap.size ∧ ∀ i, i < n → ∃ x, I64 x ∧ w.cell? ⟨b, off + i, none⟩ = some (.int .i64 x))
theorem tape_new (w : World) (v : Value) (n : Nat) (hv : IntsV w w.heap.size v n) (hn : n ≤ 600) : Tp (w.alloc (.cells #[v, .int .i64 0] 64)) w.heap.size := by
 have hb : (w.alloc (.cells #[v, .int .i64 0] 64)).heap[w.heap.size]? = some (.cells #[v, .int .i64 0] 64 (0, 0)) := heap_alloc_new w _
 refine ⟨v, n, 0, ?_, ?_, ?_, hv.grown (World.grownBy_alloc w _ _), Nat.zero_le _, hn⟩
 ·rw [cell_of_row _ _ _ _ _ _ hb]; rfl
 ·rw [cell_of_row _ _ _ _ _ _ hb]; rfl
 ·unfold World.frozen?; rw [show (Addr.mk w.heap.size 1 none).block = w.heap.size from rfl, hb]; rfl
theorem new_any (v : Value) (w : World) (hv : IntsIn w v) :
  Calls Tryz.prog 6 #[v] w fun e w' => NewPost w e w' := by
 obtain ⟨p, n, c, rfl, hnc, hcm, hc⟩ := hv
 by_cases hn : n ≤ 600
 ·refine (new_some p n c w hn hcm).mono ?_
  rintro e w' ⟨rfl, rfl⟩
  refine ⟨rfl, World.grownBy_alloc w _ _, tape_new w _ n ⟨p, c, rfl, fun h => ?_⟩ hn⟩
  obtain ⟨b, off, hp, hb, hx⟩ := hc h
  exact ⟨b, off, hp, by omega, hx⟩
 ·obtain ⟨b, off, rfl, hb, hx⟩ := hc (by omega)
  refine (new_cut b off n c w (by omega) hnc hcm).mono ?_
  rintro e w' ⟨rfl, rfl⟩
  exact ⟨rfl, World.grownBy_alloc w _ _, tape_new w _ 600 ⟨_, c, rfl, fun _ => ⟨b, off, rfl, by omega, fun i hi => hx i (by omega)⟩⟩ (by omega)⟩

set_option maxHeartbeats 400000 in
theorem next_any (a : Nat) (n : Int) (hn : I64 n) (w : World) (hT : Tp w a) :
  Calls Tryz.prog 29 #[.pointer (some ⟨a, 0, none⟩), .int .i64 n] w fun e w' => IntPost (CutOf n) a w e w' := by
 go_enter Tryz.func29, Tryz.ntmps29
 go_wp2_with fail
 refine (raw_any a _ hT).mono ?_
 rintro e w1 ⟨x, rfl, hx, hs⟩
 go_wp2_with fail
 refine (cut_any x n hn _).mono ?_
 rintro e w2 ⟨⟨r, rfl, hr⟩, rfl⟩
 go_wp2_with fail
 go_ret
 exact ⟨r, rfl, hr, hs⟩

def RangeOf (low high r : Int) : Prop := low ≤ r ∧ (low ≤ high → r ≤ high) ∧ (high < low → r = low)
set_option maxHeartbeats 400000 in
theorem range_any (a : Nat) (low high : Int) (h1 : -1099511627776 ≤ low) (h2 : low ≤ 1099511627776) (h3 : -1099511627776 ≤ high) (h4 : high ≤ 1099511627776) (w : World) (hT : Tp w a) :
  Calls Tryz.prog 31 #[.pointer (some ⟨a, 0, none⟩), .int .i64 low, .int .i64 high] w fun e w' => IntPost (RangeOf low high) a w e w' := by
 go_enter Tryz.func31, Tryz.ntmps31
 go_wp2_with fail
 refine (next_any a _ (by unfold I64; omega) _ hT).mono ?_
 rintro e w1 ⟨r, rfl, hr, hs⟩
 have hlo : 0 ≤ r := hr.1
 have hhi : r ≤ 2199023255553 := by unfold CutOf at hr; omega
 have hR : Hid (RangeOf low high (low + r)) := by show RangeOf _ _ _; unfold CutOf at hr; unfold RangeOf; omega
 go_wp2_with fail
 go_ret
 exact ⟨_, rfl, hR, hs⟩

def Among (P : Int → Prop) (w : World) (a b off n : Nat) : Prop := b ≠ a ∧ b < w.heap.size ∧ ∀ i, i < n → ∃ x, P x ∧ w.cell? ⟨b, off + i, none⟩ = some (.int .i64 x)
theorem Among.at_ {P : Int → Prop} {w w' : World} {a b off n : Nat} (h : Among P w a b off n) (g : w.grownBy w' (some a)) (i : Nat) (hi : i < n) :
  ∃ x, P x ∧ w'.cell? ⟨b, off + i, none⟩ = some (.int .i64 x) := by
 obtain ⟨x, hx, hc⟩ := h.2.2 i hi
 exact ⟨x, hx, g.cell hc (by simpa using h.1)⟩
set_option maxHeartbeats 400000 in
theorem pick_any (P : Int → Prop) (a b off n c : Nat) (h0 : 0 < n) (hn : n ≤ 1000) (w : World) (hT : Tp w a) (hA : Among P w a b off n) :
  Calls Tryz.prog 27 #[.pointer (some ⟨a, 0, none⟩), .slice (some ⟨b, off, none⟩) n c] w fun e w' => IntPost P a w e w' := by
 go_enter Tryz.func27, Tryz.ntmps27
 go_wp2_with fail
 refine (next_any a _ (by unfold I64; omega) _ hT).mono ?_
 rintro e w1 ⟨r, rfl, hr, hs⟩
 obtain ⟨k, rfl⟩ := Int.eq_ofNat_of_zero_le hr.1
 have hk : k < n := by unfold CutOf at hr; omega
 obtain ⟨x, hx, hc⟩ := hA.at_ hs.1 k hk
 have HX : Hid (P x) := hx
 clear hx
 go_wp2_with fail
 go_ret
 exact ⟨x, rfl, HX, hs⟩

set_option maxHeartbeats 400000 in
theorem one_any (a : Nat) (n : Int) (hn : I64 n) (w : World) (hT : Tp w a) :
  Calls Tryz.prog 8 #[.pointer (some ⟨a, 0, none⟩), .int .i64 n] w fun e w' => ∃ b, e = .returned (.bool b) ∧ St a w w' := by
 go_enter Tryz.func8, Tryz.ntmps8
 go_wp2_with fail
 refine (next_any a n hn _ hT).mono ?_
 rintro e w1 ⟨r, rfl, hr, hs⟩
 go_wp2_with fail
 go_ret
 exact ⟨_, rfl, hs⟩

theorem among_new (P : Int → Prop) (w : World) (a : Nat) (cs : Array Value) (t : TypeId) (ha : a < w.heap.size) (h : ∀ i, i < cs.size → ∃ x, P x ∧ cs[i]? = some (.int .i64 x)) :
  Among P (w.alloc (.cells cs t)) a w.heap.size 0 cs.size := by
 have hb : (w.alloc (.cells cs t)).heap[w.heap.size]? = some (.cells cs t (0, 0)) := heap_alloc_new w _
 refine ⟨by omega, by simp, fun i hi => ?_⟩
 obtain ⟨x, hx, hc⟩ := h i hi
 refine ⟨x, hx, ?_⟩
 rw [Nat.zero_add, cell_of_row _ _ _ _ _ _ hb]; exact hc
theorem among_list (P : Int → Prop) (w : World) (a : Nat) (l : List Int) (cs : Array Value) (t : TypeId) (ha : a < w.heap.size) (hl : cs = (l.map fun x => Value.int .i64 x).toArray) (h : ∀ x ∈ l, P x) :
  Among P (w.alloc (.cells cs t)) a w.heap.size 0 cs.size := by
 refine among_new P w a cs t ha fun i hi => ?_
 subst hl
 have hi' : i < l.length := by simpa using hi
 exact ⟨l[i], h _ (List.getElem_mem hi'), by simp [hi']⟩
theorem Tp.lt {w : World} {a : Nat} (h : Tp w a) : a < w.heap.size := by
 obtain ⟨v, n, i, T⟩ := h
 exact World.block_lt_of_cell? w ⟨a, 0, none⟩ T.l
theorem Tp.alloc {w : World} {a : Nat} (h : Tp w a) (o : Obj) : Tp (w.alloc o) a := by
 have hlt := h.lt
 obtain ⟨v, n, i, T⟩ := h
 have hb : (w.alloc o).heap[a]? = w.heap[a]? := Below.heap_alloc w o a hlt
 exact ⟨v, n, i, (World.cell?_of_block (a := ⟨a, 0, none⟩) hb).trans T.l, (World.cell?_of_block (a := ⟨a, 1, none⟩) hb).trans T.p, (World.frozen?_of_block (a := ⟨a, 1, none⟩) hb).trans T.fr, T.ints.grown (World.grownBy_alloc w o _), T.le, T.len⟩
theorem St.alloc_left {w w' : World} {a : Nat} {o : Obj} (h : St a (w.alloc o) w') : St a w w' := ⟨grown_trans (World.grownBy_alloc w o _) h.1, h.2⟩
set_option maxHeartbeats 400000 in
theorem length_any (a : Nat) (w : World) (hT : Tp w a) :
  Calls Tryz.prog 30 #[.pointer (some ⟨a, 0, none⟩)] w fun e w' => IntPost (fun r => vl r = true) a w e w' := by
 go_enter Tryz.func30, Tryz.ntmps30
 go_wp2_with fail
 refine (pick_any (fun r => vl r = true) a _ 0 5 5 (by omega) (by omega) _ (hT.alloc _) (among_list _ w a [8, 8, 16, 32, 64] _ _ hT.lt rfl (by decide))).mono ?_
 rintro e w1 ⟨r, rfl, hr, hs⟩
 go_wp2_with fail
 go_ret
 exact ⟨_, rfl, hr, hs.alloc_left⟩
theorem Tp.drew {w : World} {a : Nat} (h : Tp w a) : Tp w.drew a := by
 obtain ⟨v, n, i, T⟩ := h
 exact ⟨v, n, i, T.l, T.p, T.fr, T.ints, T.le, T.len⟩
theorem Tp.keep {w w' : World} {a : Nat} (h : Tp w a) (g : w.grownBy w' none) : Tp w' a := by
 have hlt := h.lt
 obtain ⟨v, n, i, T⟩ := h
 have hb : w'.heap[a]? = w.heap[a]? := g.block a hlt (by simp)
 exact ⟨v, n, i, (World.cell?_of_block (a := ⟨a, 0, none⟩) hb).trans T.l, (World.cell?_of_block (a := ⟨a, 1, none⟩) hb).trans T.p, (World.frozen?_of_block (a := ⟨a, 1, none⟩) hb).trans T.fr, T.ints.grown (grown_none g _), T.le, T.len⟩

end Go.Proofs.YtpogblengagpaaaGreatDoor

/- Both. -/
namespace Go.Proofs.YtpogblengagpaaaGreatDoor
set_option maxRecDepth 100000
open Go.RowKit Bs

theorem info_int : (Tryz.prog.info? 3).map (fun i => (i.zero, i.size, i.bytes)) = some (some (.int .i64 0), 1, 8) := by kernel_rfl
theorem info_u8 : (Tryz.prog.info? 5).map (fun i => (i.zero, i.size, i.bytes)) = some (some (.int .u8 0), 1, 1) := by kernel_rfl

def Rd (w : World) (q : Nat → Prop) (v : Value) (vs : List Value) : Prop :=
 ∃ p c, v = .slice p vs.length c ∧ (vs ≠ [] → ∃ b off, p = some ⟨b, off, none⟩ ∧ q b ∧ ∀ i x, vs[i]? = some x → w.cell? ⟨b, off + i, none⟩ = some x)
theorem Rd.grown {w w' : World} {q : Nat → Prop} {v : Value} {vs : List Value} {r : Option Nat} (h : Rd w q v vs) (g : w.grownBy w' r) (hq : ∀ b, q b → some b ≠ r) : Rd w' q v vs := by
 obtain ⟨p, c, hv, hc⟩ := h
 refine ⟨p, c, hv, fun hne => ?_⟩
 obtain ⟨b, off, hp, hb, hx⟩ := hc hne
 exact ⟨b, off, hp, hb, fun i x hi => g.cell (hx i x hi) (hq b hb)⟩
theorem Rd.mono {w : World} {q q' : Nat → Prop} {v : Value} {vs : List Value} (h : Rd w q v vs) (hq : ∀ b, q b → q' b) : Rd w q' v vs := by
 obtain ⟨p, c, hv, hc⟩ := h
 refine ⟨p, c, hv, fun hne => ?_⟩
 obtain ⟨b, off, hp, hb, hx⟩ := hc hne
 exact ⟨b, off, hp, hq b hb, hx⟩
theorem Rd.keep {w w' : World} {q : Nat → Prop} {v : Value} {vs : List Value} (h : Rd w q v vs) (g : w.grownBy w' none) : Rd w' q v vs := h.grown g (fun _ _ => by simp)
theorem Rd.nil_ (w : World) (q : Nat → Prop) (p : Option Addr) (c : Nat) : Rd w q (.slice p 0 c) [] := ⟨p, c, rfl, fun h => absurd rfl h⟩
theorem rd_of_own {w : World} {base : Nat} {e : TypeId} {v : Value} {n : Nat} {xs : List Value} (h : w.ownsRow base e 1 v n xs) : Rd w (base ≤ ·) v xs := by
 have hl : xs.length = n := by have := h.1; omega
 rcases h.2 with ⟨rfl, h0⟩ | ⟨g, cap, cur, rfl, hb, hg, _⟩
 ·subst h0
  exact ⟨none, 0, by rw [hl], fun hne => absurd (List.eq_nil_of_length_eq_zero hl) hne⟩
 ·refine ⟨some ⟨g, 0, none⟩, cap, by rw [hl], fun _ => ⟨g, 0, rfl, hb, fun i x hi => ?_⟩⟩
  have := h.cells (g := g) rfl i x hi
  have hadd : (⟨g, 0, none⟩ : Addr).add i = ⟨g, 0 + i, none⟩ := by unfold Addr.add; split <;> simp_all
  rw [hadd] at this
  exact this
theorem own_step {w wr w1 : World} {o : Obj} {e : TypeId} {size n : Nat} {v : Value} {xs : List Value} (h : w.grownBy wr none) (hown : wr.ownsRow w.heap.size e size v n xs) (hg : (wr.alloc o).grownBy w1 v.ownBlock) : w.grownBy w1 none := by
 refine ⟨hg.os.trans h.os, hg.tape.trans h.tape, hg.output.trans h.output, Nat.le_trans h.size (Nat.le_trans (by simp) hg.size), fun k hk _ => ?_⟩
 have hks : k < wr.heap.size := Nat.lt_of_lt_of_le hk h.size
 refine (hg.block k (by simp; omega) (fun e => ?_)).trans ((Below.heap_alloc wr o k hks).trans (h.block k hk (by simp)))
 have := (hown.lt k e.symm).1
 omega
theorem cell_one (w : World) (x : Value) (t : TypeId) : ∀ j u, [x][j]? = some u → (w.alloc (.cells #[x] t)).cell? ((⟨w.heap.size, 0, none⟩ : Addr).add j) = some u := by
 intro j u hj
 match j, hj with
 | 0, hj =>
  simp at hj; subst hj
  have hb : (w.alloc (.cells #[x] t)).heap[w.heap.size]? = some (.cells #[x] t (0, 0)) := heap_alloc_new w _
  have hadd : (⟨w.heap.size, 0, none⟩ : Addr).add 0 = ⟨w.heap.size, 0, none⟩ := by unfold Addr.add; split <;> simp_all
  rw [hadd, cell_of_row _ _ _ _ _ _ hb]; rfl
theorem Tb.drew {w : World} (h : Tb w) : Tb w.drew := h
theorem hid_drew {W w : World} {r : Option Nat} (h : Hid (W.grownBy w r)) : Hid (W.grownBy w.drew r) := Lib.hid ⟨h.out.os, h.out.tape, h.out.output, h.out.size, h.out.block⟩
theorem hid_more {W w w' : World} {r : Option Nat} (h : Hid (W.grownBy w r)) (k : w.grownBy w' r) : Hid (W.grownBy w' r) := Lib.hid (grown_trans h.out k)
def ival (k : Nat) : Value := .int .i64 (k : Int)
def ListPost (vs : List Value) (w : World) (e : Ending) (w' : World) : Prop := ∃ v, e = .returned v ∧ Rd w' (w.heap.size ≤ ·) v vs ∧ w.grownBy w' none
theorem bl_snoc_t {n b : Nat} (h : b.testBit n = true) : blN (n + 1) b = blN n b ++ [n] := by rw [blN_snoc, h]; rfl
theorem bl_snoc_f {n b : Nat} (h : b.testBit n = false) : blN (n + 1) b = blN n b := by rw [blN_snoc, h]; simp

def RefListRel (b : Nat) (w : World) (v : Value) (j : Nat) (wr : World) : Prop := wr.ownsRow w.heap.size 3 1 v (blN j b).length ((blN j b).map ival) ∧ w.grownBy wr none
theorem reflist_hit {b j : Nat} {w wr w1 : World} {v v' : Value} {o : Obj} (h : RefListRel b w v j wr) (ht : b.testBit j = true)
  (hown' : w1.ownsRow w.heap.size 3 1 v' ((blN j b).length + 1) ((blN j b).map ival ++ [.int .i64 (j : Int)])) (hg : (wr.alloc o).grownBy w1 v.ownBlock) : RefListRel b w v' (j + 1) w1 := by
 refine ⟨?_, own_step h.2 h.1 hg⟩
 rw [bl_snoc_t ht, List.length_append, List.map_append]
 exact hown'
theorem reflist_miss {b j : Nat} {w wr : World} {v : Value} (h : RefListRel b w v j wr) (ht : b.testBit j = false) : RefListRel b w v (j + 1) wr := by
 unfold RefListRel
 rw [bl_snoc_f ht]; exact h
set_option maxHeartbeats 800000 in
theorem listr_any (b : Nat) (hb : U64 b) (w : World) :
  Calls Tryz.prog 52 #[.int .u64 (b : Int)] w fun e w' => ListPost ((bl b).map ival) w e w' := by
 obtain ⟨i0, hi, hz0, hz1, hz2⟩ := info_parts info_int
 go_enter Tryz.func52, Tryz.ntmps52
 go_wp2_with fail
 go_loopw [3, 4] (fun v k wr => ∃ j : Nat, j ≤ 64 ∧ k = .int .i64 (j : Int) ∧ RefListRel b w v j wr) (fun _ k _ => 64 - (RowKit.intOf k).toNat)
 case atStart => exact ⟨0, by omega, rfl, World.ownsRow_nil _ _ _ _, grown_refl _ _⟩
 case round =>
  obtain ⟨j, hj, rfl, hR⟩ := hrel
  have hlen : (blN j b).length ≤ j := blN_length_le j b
  have hsz := hR.2.size
  by_cases hlt : j < 64
  ·by_cases ht : b.testBit j = true
   ·have hown := hR.1
    have hR' := Lib.hid hR
    have ht' := Lib.hid ht
    clear hR
    go_wp2_with (first
     | (go_at_call 84; refine (has_any b j hlt hb _).mono ?_; rintro e w' ⟨rfl, rfl⟩)
     | (at_builtin; refine wpList_append_own _ rfl _ _ 22 rfl w.heap.size 3 i0 (.int .i64 0) 1 8 Tryz.underlying22 hi hz0 hz1 hz2 rfl (by decide) _ _ _ rfl (hown.alloc _) ⟨wr.heap.size, 0, none⟩ 1 1 [.int .i64 (j : Int)] rfl rfl ?c1 ?c2 ?c3 ?c4 ?c5 ?_))
    case c1 => exact cell_one _ _ _
    case c2 => intro u hu; simp at hu; subst hu; rfl
    case c3 => unfold maxLen; omega
    case c4 => omega
    case c5 => simp; omega
    intro v' w1 hown' hg _
    have R := Lib.hid (reflist_hit hR'.out ht'.out hown' hg)
    clear hown' hg hown hR'
    go_wp2_with fail
    go_roundw
    case rel => exact ⟨j + 1, by omega, by go_num, R.out⟩
    case measure => simp [RowKit.intOf]; omega
   ·have ht0 : b.testBit j = false := by simpa using ht
    have R := Lib.hid (reflist_miss hR ht0)
    clear hR ht
    go_wp2_with (go_at_call 84; refine (has_any b j hlt hb _).mono ?_; rintro e w' ⟨rfl, rfl⟩)
    go_roundw
    case rel => exact ⟨j + 1, by omega, by go_num, R.out⟩
    case measure => simp [RowKit.intOf]; omega
  ·have hj64 : j = 64 := by omega
   subst hj64
   have R := Lib.hid hR
   clear hR
   go_wp2_with fail
   go_ret
   exact ⟨_, rfl, rd_of_own R.out.1, R.out.2⟩

theorem zA {α : Type} (xs : List α) (i : Nat) (a : α) : xs.toArray.setIfInBounds i a = (xs.set i a).toArray := List.setIfInBounds_toArray xs i a
theorem zB {α : Type} (x y : α) (xs : List α) : (x :: xs).set 0 y = y :: xs := rfl
theorem zC {α : Type} (x y : α) (xs : List α) (n : Nat) : (x :: xs).set (n + 1) y = x :: xs.set n y := rfl
theorem zT {P : Program} {ops : Array Oper} {Q : Exit → Act → World → Prop} {md : Region.Mode} {S : World → Prop} {i : Nat} {d o t p f g} {v : Value} {n : Nat} {l : Array Bool} {a : Act} {w : World} (hi : ops[i]? = some (⟨d, o, t, p, f, g⟩ : Oper)) (hy : ∀ w, S w → (execOp a.eval (⟨d, o, t, p, f, g⟩ : Oper)).run P w = .ok (.value v) w) (hS : S w) (h : wpAnyH P md ops Q S n (l.setIfInBounds i true) (a.put d v) w) (hs : Region.noSelect ops = true := by kernel_rfl) (hf : Region.free md ops l i = true := by kernel_rfl) (hr : (Region.ready md ops l).contains i = true := by kernel_rfl) (hQ : ∀ c a w, Q (.panic c) (a.put d v) w → Q (.panic c) a w := by exact fun _ _ _ h => h) (hw : Region.wanted (⟨d, o, t, p, f, g⟩ : Oper) (yielded ops a.tmps) = true := by rfl) : wpAnyH P md ops Q S (n + 1) l a w :=
 wpAnyH_take hi hs hf hr hQ (Or.inl ⟨hw, hy⟩) hS h
theorem zS {P : Program} {ops : Array Oper} {Q : Exit → Act → World → Prop} {md : Region.Mode} {S : World → Prop} {i : Nat} {d o t p f g} {n : Nat} {l : Array Bool} {a : Act} {w : World} (hi : ops[i]? = some (⟨d, o, t, p, f, g⟩ : Oper)) (hS : S w) (h : wpAnyH P md ops Q S n (l.setIfInBounds i true) (a.put d undef) w) (hs : Region.noSelect ops = true := by kernel_rfl) (hf : Region.free md ops l i = true := by kernel_rfl) (hr : (Region.ready md ops l).contains i = true := by kernel_rfl) (hQ : ∀ c a w, Q (.panic c) (a.put d undef) w → Q (.panic c) a w := by exact fun _ _ _ h => h) (hw : Region.wanted (⟨d, o, t, p, f, g⟩ : Oper) (yielded ops a.tmps) = false := by rfl) : wpAnyH P md ops Q S (n + 1) l a w :=
 wpAnyH_take hi hs hf hr hQ (Or.inr ⟨hw, rfl⟩) hS h
end Go.Proofs.YtpogblengagpaaaGreatDoor

/- The program's small functions, and its reading of bits. -/
namespace Go.Proofs.YtpogblengagpaaaGreatDoor
set_option maxRecDepth 100000
open Go.RowKit Bs

def nv (x : Nat) : Value := .int .u8 (x : Int)
def By (l : List Nat) : Prop := ∀ x ∈ l, x < 256
theorem By.at_ {l : List Nat} (h : By l) {j : Nat} (hj : j < l.length) : l.getD j 0 < 256 := by
 rw [List.getD_eq_getElem?_getD, List.getElem?_eq_getElem hj]
 exact h _ (List.getElem_mem hj)
theorem Rd.at_ {w : World} {q : Nat → Prop} {p : Option Addr} {n c i : Nat} {vs : List Value} {x : Value} (h : Rd w q (.slice p n c) vs) (hi : vs[i]? = some x) :
  ∃ b off, p = some ⟨b, off, none⟩ ∧ q b ∧ w.cell? ⟨b, off + i, none⟩ = some x := by
 obtain ⟨p1, c1, e1, hx⟩ := h
 injection e1 with a1 a2 a3
 subst a1
 obtain ⟨b, off, hp, hq, hc⟩ := hx (by intro e; rw [e] at hi; simp at hi)
 exact ⟨b, off, hp, hq, hc i x hi⟩
end Go.Proofs.YtpogblengagpaaaGreatDoor

/- The tape's wild numbers; rows of a call's own while the tape turns. -/
namespace Go.Proofs.YtpogblengagpaaaGreatDoor
set_option maxRecDepth 100000
open Go.RowKit Bs
def wilds : List Int := [-1, 0, 1, 7, 8, 23, 24, 31, 32, 63, 64, 99, 100, 255, 256, 257, 1000, 1001, 1023, 1024, 1000000, 1000001, 1099511627776, 9223372036854775807, -9223372036854775808]
theorem wilds_i64 : ∀ x ∈ wilds, I64 x := by unfold I64 wilds; decide +kernel
set_option maxHeartbeats 800000 in
theorem wild_any (a : Nat) (w : World) (hT : Tp w a) :
  Calls Tryz.prog 33 #[.pointer (some ⟨a, 0, none⟩)] w fun e w' => IntPost I64 a w e w' := by
 have HA := among_list I64 w a wilds (wilds.map fun x => Value.int .i64 x).toArray 3 hT.lt rfl wilds_i64
 have HA' := Lib.hid HA
 clear HA
 go_enter Tryz.func33, Tryz.ntmps33
 go_wp2_with fail
 refine (pick_any I64 a _ 0 25 25 (by omega) (by omega) _ (hT.alloc _) HA'.out).mono ?_
 rintro e w1 ⟨r, rfl, hr, hs⟩
 go_wp2_with fail
 go_ret
 exact ⟨_, rfl, hr, hs.alloc_left⟩
theorem own_block_ne {w wr : World} {e : TypeId} {v : Value} {n a : Nat} {xs : List Value} (h : wr.ownsRow w.heap.size e 1 v n xs) (ha : a < w.heap.size) : v.ownBlock = none ∨ v.ownBlock ≠ some a := by
 cases hv : v.ownBlock with
 | none => exact .inl rfl
 | some g =>
  right
  intro e2
  have e3 := Option.some.inj e2
  have := (h.lt g hv).1
  omega
theorem st_append {a : Nat} {w wr w1 : World} {o : Obj} {v : Value} {n : Nat} {e : TypeId} {xs : List Value} (hs : St a w wr) (ha : a < w.heap.size) (hown : wr.ownsRow w.heap.size e 1 v n xs) (hg : (wr.alloc o).grownBy w1 v.ownBlock) : St a w w1 := by
 have hT := hs.2.alloc o
 have hlt := hT.lt
 have hne : some a ≠ v.ownBlock := by
  rcases own_block_ne hown ha with h | h
  ·rw [h]; simp
  ·exact fun e => h e.symm
 refine ⟨⟨hg.os.trans hs.1.os, hg.tape.trans hs.1.tape, hg.output.trans hs.1.output, Nat.le_trans hs.1.size (Nat.le_trans (by simp) hg.size), fun k hk hka => ?_⟩, ?_⟩
 ·have hks : k < wr.heap.size := Nat.lt_of_lt_of_le hk hs.1.size
  refine (hg.block k (by simp; omega) (fun e => ?_)).trans ((Below.heap_alloc wr o k hks).trans (hs.1.block k hk hka))
  have := (hown.lt k e.symm).1
  omega
 ·have hb := hg.block a hlt hne
  have hal := hs.2.lt
  obtain ⟨lv, m, i, T⟩ := hT
  refine ⟨lv, m, i, (World.cell?_of_block (a := ⟨a, 0, none⟩) hb).trans T.l, (World.cell?_of_block (a := ⟨a, 1, none⟩) hb).trans T.p, (World.frozen?_of_block (a := ⟨a, 1, none⟩) hb).trans T.fr, ?_, T.le, T.len⟩
  obtain ⟨p, c, hv, hc⟩ := T.ints
  refine ⟨p, c, hv, fun hm => ?_⟩
  obtain ⟨b, off, hp, hba, hx⟩ := hc hm
  refine ⟨b, off, hp, hba, fun i hi => ?_⟩
  obtain ⟨x, hx, hcell⟩ := hx i hi
  refine ⟨x, hx, hg.cell hcell (fun e => ?_)⟩
  have := (hown.lt b e.symm).1
  omega
theorem own_kept {a : Nat} {w wr w1 : World} {v : Value} {n : Nat} {e : TypeId} {xs : List Value} (ha : a < w.heap.size) (hown : wr.ownsRow w.heap.size e 1 v n xs) (g : wr.grownBy w1 (some a)) : w1.ownsRow w.heap.size e 1 v n xs :=
 hown.kept g (own_block_ne hown ha)
end Go.Proofs.YtpogblengagpaaaGreatDoor
