/- Parts of the proof, packed: IoMath, IoWord, IoLeaf, IoTape, IoMem. -/
import Derived.Lib.TrailingZeros
import Derived.IntWalk
import Derived.Laws.BitsAllLaws
import Derived.RowKit3
import Derived.Test.YtnpkihioklpnmaaRows
import Derived.WalkKit
import Derived.WalkSpells
import Derived.WalkLawsBesides
import Derived.Lib.Hide
import Derived.Deep.QuietTactic
import Derived.BigQuiet
import Derived.Shelf.Spec.TrailingZeros
/- Both. -/
namespace Go.Proofs.Ytnpkihioklpnmaa
namespace Bs
/-- The bits of b that lie below n, ascending. -/
def blN (n b : Nat) : List Nat := (List.range n).filter fun k => b.testBit k
def bl (b : Nat) : List Nat := blN 64 b
set_option maxRecDepth 100000 in
theorem blN_zero (b : Nat) : blN 0 b = [] := rfl
set_option maxRecDepth 100000 in
theorem blN_snoc (n b : Nat) : blN (n + 1) b = blN n b ++ (if b.testBit n then [n] else []) := by
  unfold blN
  rw [List.range_succ, List.filter_append]
  congr 1
  cases h : b.testBit n <;> simp [h]
set_option maxRecDepth 100000 in
theorem blN_cons (n b : Nat) : blN (n + 1) b = (if b % 2 = 1 then [0] else []) ++ (blN n (b / 2)).map (· + 1) := by
  unfold blN
  rw [List.range_succ_eq_map, List.filter_cons, List.filter_map]
  have h0 : b.testBit 0 = decide (b % 2 = 1) := Nat.testBit_zero b
  have hf : ((fun k => b.testBit k) ∘ Nat.succ) = fun k => (b / 2).testBit k := by
    funext k; exact Nat.testBit_succ b k
  rw [hf, h0]
  by_cases h : b % 2 = 1
  · simp only [h, decide_true, if_true, List.cons_append, List.nil_append]
  · simp only [h, decide_false, if_false, List.nil_append, Bool.false_eq_true]
set_option maxRecDepth 100000 in
theorem blN_of_zero (n : Nat) : blN n 0 = [] := by
  unfold blN; simp
set_option maxRecDepth 100000 in
theorem mem_blN {n b k : Nat} : k ∈ blN n b ↔ k < n ∧ b.testBit k = true := by
  unfold blN; simp [List.mem_filter]
set_option maxRecDepth 100000 in
theorem blN_length_le (n b : Nat) : (blN n b).length ≤ n := by
  unfold blN; have := List.length_filter_le (fun k => b.testBit k) (List.range n); simpa using this
set_option maxRecDepth 100000 in
theorem blN_length_succ (n b : Nat) : (blN (n + 1) b).length = b % 2 + (blN n (b / 2)).length := by
  rw [blN_cons]
  by_cases h : b % 2 = 1
  · simp [h]; omega
  · have : b % 2 = 0 := by omega
    simp [this]
set_option maxRecDepth 100000 in
theorem blN_sorted (n b : Nat) : (blN n b).Pairwise (· < ·) := by
  unfold blN; exact List.Pairwise.filter _ List.pairwise_lt_range
/-- b without its lowest bit. -/
def wo (b : Nat) : Nat := b &&& (b - 1)
set_option maxRecDepth 100000 in
theorem wo_odd {b : Nat} (h : b % 2 = 1) : wo b = b - 1 := by
  unfold wo
  apply Nat.eq_of_testBit_eq
  intro i
  rw [Nat.testBit_and]
  cases i with
  | zero => simp [Nat.testBit_zero]; omega
  | succ i => rw [Nat.testBit_succ, Nat.testBit_succ, show (b - 1) / 2 = b / 2 by omega, Bool.and_self]
set_option maxRecDepth 100000 in
theorem wo_even {b : Nat} (h : b % 2 = 0) : wo b = 2 * wo (b / 2) := by
  unfold wo
  apply Nat.eq_of_testBit_eq
  intro i
  rw [Nat.testBit_and]
  cases i with
  | zero => simp [Nat.testBit_zero]; omega
  | succ i => rw [Nat.testBit_succ, Nat.testBit_succ, Nat.testBit_succ, show (b - 1) / 2 = b / 2 - 1 by omega, show 2 * (b / 2 &&& b / 2 - 1) / 2 = (b / 2 &&& b / 2 - 1) by omega, Nat.testBit_and]
set_option maxRecDepth 100000 in
theorem wo_le (b : Nat) : wo b ≤ b := Nat.and_le_left
set_option maxRecDepth 100000 in
theorem wo_lt {b : Nat} (h : b ≠ 0) : wo b < b := by
  have : wo b ≤ b - 1 := Nat.and_le_right
  omega
set_option maxRecDepth 100000 in
/-- The lowest bit, and the list of what is left. -/
theorem blN_wo (n : Nat) : ∀ b, b ≠ 0 → b < 2 ^ n → blN n b = Lib.ctzFrom n b :: blN n (wo b) := by
  induction n with
  | zero => intro b h0 h; simp at h; omega
  | succ n ih =>
    intro b h0 h
    by_cases hb : b % 2 = 1
    · rw [wo_odd hb, blN_cons, blN_cons, if_pos hb, if_neg (by omega), show (b - 1) / 2 = b / 2 by omega]
      simp [Lib.ctzFrom, hb]
    · have hb0 : b % 2 = 0 := by omega
      rw [wo_even hb0, blN_cons, blN_cons, if_neg hb, if_neg (by omega), show 2 * wo (b / 2) / 2 = wo (b / 2) by omega,
        ih (b / 2) (by omega) (by rw [Nat.pow_succ] at h; omega)]
      simp [Lib.ctzFrom, hb0]; omega
set_option maxRecDepth 100000 in
theorem bl_wo {b : Nat} (h0 : b ≠ 0) (h : b < 18446744073709551616) : bl b = Lib.ctz 64 b :: bl (wo b) := by
  unfold bl Lib.ctz
  rw [if_neg h0]
  exact blN_wo 64 b h0 (by simpa using h)
set_option maxRecDepth 100000 in
theorem bl_zero : bl 0 = [] := blN_of_zero 64
set_option maxRecDepth 100000 in
theorem bl_length_le (b : Nat) : (bl b).length ≤ 64 := blN_length_le 64 b
set_option maxRecDepth 100000 in
theorem bl_ne_nil {b : Nat} (h0 : b ≠ 0) (h : b < 18446744073709551616) : bl b ≠ [] := by rw [bl_wo h0 h]; simp
set_option maxRecDepth 100000 in
theorem bl_head {b : Nat} (h0 : b ≠ 0) (h : b < 18446744073709551616) : (bl b)[0]? = some (Lib.ctz 64 b) := by rw [bl_wo h0 h]; rfl
set_option maxRecDepth 100000 in
theorem bl_lt {b k : Nat} (h : k ∈ bl b) : k < 64 := (mem_blN.1 h).1
/- THE COUNT OF BITS, AS math/bits HAS IT: in halves, quarters, bytes; each step a byte at a time. -/
def k0 : Nat → Nat | 0 => 0 | k + 1 => 85 + 256 * k0 k
set_option maxRecDepth 100000 in
theorem k0_succ (k : Nat) : k0 (k + 1) = 85 + 256 * k0 k := rfl
def k1 : Nat → Nat | 0 => 0 | k + 1 => 51 + 256 * k1 k
set_option maxRecDepth 100000 in
theorem k1_succ (k : Nat) : k1 (k + 1) = 51 + 256 * k1 k := rfl
def k2 : Nat → Nat | 0 => 0 | k + 1 => 15 + 256 * k2 k
set_option maxRecDepth 100000 in
theorem k2_succ (k : Nat) : k2 (k + 1) = 15 + 256 * k2 k := rfl
def t1 (k x : Nat) : Nat := (x / 2 &&& k0 k) + (x &&& k0 k)
def t2 (k x : Nat) : Nat := (x / 4 &&& k1 k) + (x &&& k1 k)
def t3 (k x : Nat) : Nat := (x / 16 + x) &&& k2 k
set_option maxRecDepth 100000 in
theorem and_byte (x m r : Nat) (hm : m < 256) : x &&& (m + 256 * r) = (x % 256 &&& m) + 256 * (x / 256 &&& r) := by
  have h := Nat.div_add_mod (x &&& (m + 256 * r)) 256
  have h1 : (x &&& (m + 256 * r)) / 256 = x / 256 &&& r := by
    have := Nat.and_div_two_pow (a := x) (b := m + 256 * r) (n := 8)
    rw [show (2 : Nat) ^ 8 = 256 from rfl] at this
    rw [this, show (m + 256 * r) / 256 = r by omega]
  have h2 : (x &&& (m + 256 * r)) % 256 = x % 256 &&& m := by
    have := Nat.and_mod_two_pow (a := x) (b := m + 256 * r) (n := 8)
    rw [show (2 : Nat) ^ 8 = 256 from rfl] at this
    rw [this, show (m + 256 * r) % 256 = m by omega]
  rw [h1, h2] at h
  omega
set_option maxRecDepth 100000 in
theorem byte1 : ∀ d, d < 512 → (d / 2 % 256 &&& 85) + (d % 256 &&& 85) = (d % 256 / 2 &&& 85) + (d % 256 &&& 85) := by decide +kernel
set_option maxRecDepth 100000 in
theorem byte2 : ∀ d, d < 1024 → (d / 4 % 256 &&& 51) + (d % 256 &&& 51) = (d % 256 / 4 &&& 51) + (d % 256 &&& 51) := by decide +kernel
def p1 (d : Nat) : Nat := (d / 2 &&& 85) + (d &&& 85)
def p2 (d : Nat) : Nat := (d / 4 &&& 51) + (d &&& 51)
set_option maxRecDepth 100000 in
theorem t1_succ (k x : Nat) : t1 (k + 1) x = p1 (x % 256) + 256 * t1 k (x / 256) := by
  unfold t1 p1
  rw [k0_succ, and_byte _ _ _ (by decide), and_byte x _ _ (by decide)]
  have h := byte1 (x % 512) (by omega)
  rw [show x % 512 / 2 % 256 = x / 2 % 256 by omega, show x % 512 % 256 = x % 256 by omega] at h
  rw [show x / 2 / 256 = x / 256 / 2 by omega]
  omega
set_option maxRecDepth 100000 in
theorem t2_succ (k x : Nat) : t2 (k + 1) x = p2 (x % 256) + 256 * t2 k (x / 256) := by
  unfold t2 p2
  rw [k1_succ, and_byte _ _ _ (by decide), and_byte x _ _ (by decide)]
  have h := byte2 (x % 1024) (by omega)
  rw [show x % 1024 / 4 % 256 = x / 4 % 256 by omega, show x % 1024 % 256 = x % 256 by omega] at h
  rw [show x / 4 / 256 = x / 256 / 4 by omega]
  omega
set_option maxRecDepth 100000 in
theorem p1_lt : ∀ d, d < 256 → p1 d < 256 := by decide +kernel
set_option maxRecDepth 100000 in
theorem p2_small : ∀ d, d < 256 → p2 (p1 d) < 256 ∧ p2 (p1 d) % 16 ≤ 4 ∧ p2 (p1 d) / 16 ≤ 4 := by decide +kernel
def p3 (d : Nat) : Nat := p2 (p1 d) % 16 + p2 (p1 d) / 16
set_option maxRecDepth 100000 in
theorem p3_bits : ∀ d, d < 256 → p3 d = (blN 8 d).length := by decide +kernel
set_option maxRecDepth 100000 in
theorem t12_succ (k x : Nat) : t2 (k + 1) (t1 (k + 1) x) = p2 (p1 (x % 256)) + 256 * t2 k (t1 k (x / 256)) := by
  have hp := p1_lt (x % 256) (by omega)
  rw [t1_succ, t2_succ, show (p1 (x % 256) + 256 * t1 k (x / 256)) % 256 = p1 (x % 256) by omega, show (p1 (x % 256) + 256 * t1 k (x / 256)) / 256 = t1 k (x / 256) by omega]
set_option maxRecDepth 100000 in
theorem t12_low (k x : Nat) : t2 k (t1 k x) % 16 ≤ 4 := by
  cases k with
  | zero => simp [t2, k1]
  | succ k =>
    have hp := p2_small (x % 256) (by omega)
    rw [t12_succ]; omega
set_option maxRecDepth 100000 in
theorem and15 (n : Nat) : n &&& 15 = n % 16 := Nat.and_two_pow_sub_one_eq_mod n 4
set_option maxRecDepth 100000 in
theorem t123_succ (k x : Nat) : t3 (k + 1) (t2 (k + 1) (t1 (k + 1) x)) = p3 (x % 256) + 256 * t3 k (t2 k (t1 k (x / 256))) := by
  have hp := p2_small (x % 256) (by omega)
  have hl := t12_low k (x / 256)
  rw [t12_succ]
  unfold t3 p3
  rw [k2_succ]
  generalize p2 (p1 (x % 256)) = d at hp
  generalize t2 k (t1 k (x / 256)) = y at hl
  rw [and_byte _ _ _ (by decide), and15, show ((d + 256 * y) / 16 + (d + 256 * y)) / 256 = y / 16 + y by omega]
  omega
set_option maxRecDepth 100000 in
theorem blN_length_add (n : Nat) : ∀ m b, (blN (m + n) b).length = (blN m (b % 2 ^ m)).length + (blN n (b / 2 ^ m)).length
  | 0, b => by simp [blN_zero]
  | m + 1, b => by
    rw [show m + 1 + n = (m + n) + 1 by omega, blN_length_succ, blN_length_add n m, blN_length_succ m, Nat.pow_succ, Nat.mul_comm (2 ^ m) 2,
      Nat.mod_mul_right_div_self, Nat.div_div_eq_div_mul, Nat.mod_mul_right_mod]
    omega
set_option maxRecDepth 100000 in
theorem blN_length_byte (n b : Nat) : (blN (n + 8) b).length = (blN 8 (b % 256)).length + (blN n (b / 256)).length := by
  rw [Nat.add_comm n 8, blN_length_add n 8 b]
/-- The eight bytes' counts, side by side. -/
def pb : Nat → Nat → Nat | 0, _ => 0 | k + 1, x => p3 (x % 256) + 256 * pb k (x / 256)
def pw : Nat → Nat → Nat | 0, _ => 0 | k + 1, x => p3 (x % 256) + pw k (x / 256)
set_option maxRecDepth 100000 in
theorem t123_pb : ∀ k x, t3 k (t2 k (t1 k x)) = pb k x
  | 0, x => by simp [t3, k2, pb]
  | k + 1, x => by rw [t123_succ, t123_pb k, pb]
set_option maxRecDepth 100000 in
theorem pw_bits : ∀ k x, pw k x = (blN (8 * k) x).length
  | 0, x => rfl
  | k + 1, x => by rw [pw, show 8 * (k + 1) = 8 * k + 8 by omega, blN_length_byte, p3_bits _ (by omega), pw_bits k]
set_option maxRecDepth 100000 in
theorem p3_le (d : Nat) (h : d < 256) : p3 d ≤ 8 := by rw [p3_bits d h]; exact blN_length_le 8 d
set_option maxRecDepth 100000 in
theorem t1_le (k x : Nat) : t1 k x ≤ 2 * k0 k := by
  unfold t1
  have h1 := Nat.and_le_right (n := x / 2) (m := k0 k)
  have h2 := Nat.and_le_right (n := x) (m := k0 k)
  omega
set_option maxRecDepth 100000 in
theorem t2_le (k x : Nat) : t2 k x ≤ 2 * k1 k := by
  unfold t2
  have h1 := Nat.and_le_right (n := x / 4) (m := k1 k)
  have h2 := Nat.and_le_right (n := x) (m := k1 k)
  omega
set_option maxRecDepth 100000 in
theorem k0_8 : k0 8 = 6148914691236517205 := by decide +kernel
set_option maxRecDepth 100000 in
theorem k1_8 : k1 8 = 3689348814741910323 := by decide +kernel
set_option maxRecDepth 100000 in
theorem k2_8 : k2 8 = 1085102592571150095 := by decide +kernel
set_option maxRecDepth 100000 in
theorem dv (x a r B : Nat) (hB : 0 < B) (ha : a < B) (h : x = a + B * r) : x / B = r := by
  subst h; rw [Nat.add_mul_div_left _ _ hB, Nat.div_eq_of_lt ha, Nat.zero_add]
set_option maxRecDepth 100000 in
theorem sum8 (a0 a1 a2 a3 a4 a5 a6 a7 r1 r2 r3 r4 r5 r6 r7 x y z : Nat) (h0 : a0 ≤ 8) (h1 : a1 ≤ 8) (h2 : a2 ≤ 8) (h3 : a3 ≤ 8) (h4 : a4 ≤ 8) (h5 : a5 ≤ 8) (h6 : a6 ≤ 8) (h7 : a7 ≤ 8)
    (hx : x = a0 + 256 * r1) (e1 : r1 = a1 + 256 * r2) (e2 : r2 = a2 + 256 * r3) (e3 : r3 = a3 + 256 * r4) (e4 : r4 = a4 + 256 * r5) (e5 : r5 = a5 + 256 * r6) (e6 : r6 = a6 + 256 * r7) (e7 : r7 = a7 + 256 * 0)
    (hy : y = x + x / 256) (hz : z = y + y / 65536) : ∃ t, z + z / 4294967296 = (a0 + (a1 + (a2 + (a3 + (a4 + (a5 + (a6 + (a7 + 0)))))))) + 256 * t ∧ z + z / 4294967296 < 18446744073709551616 := by
  rw [dv x a0 r1 256 (by decide) (by omega) hx] at hy
  have f1 : y = ((a0 + a1) + 256 * (a1 + a2)) + 65536 * (r2 + r3) := by rw [hy, hx, e1, e2]; clear hy hz hx; omega
  rw [dv y _ _ 65536 (by decide) (by omega) f1] at hz
  have f2 : z = ((a0 + a1 + a2 + a3) + 256 * (a1 + a2 + a3 + a4) + 65536 * (a2 + a3 + a4 + a5) + 16777216 * (a3 + a4 + a5 + a6)) + 4294967296 * (r4 + r5 + r6 + r7) := by
    rw [hz, f1]; clear hy hz hx f1 e1 e7; omega
  rw [dv z _ _ 4294967296 (by decide) (by omega) f2, f2]
  clear hy hz hx f1 f2 e1 e2 e3
  refine ⟨(a1 + a2 + a3 + a4) + 256 * (a2 + a3 + a4 + a5) + 65536 * (a3 + a4 + a5 + a6) + 16777216 * (r4 + r5 + r6 + r7) + r5 + r6 + r7, ?_, ?_⟩ <;> omega
set_option maxRecDepth 100000 in
/-- math/bits.OnesCount64 of a number: how many bits it has. -/
theorem ones_sum (x v y z : Nat) (hv : v = t3 8 (t2 8 (t1 8 x))) (hy : y = v + v / 256) (hz : z = y + y / 65536) :
    (z + z / 4294967296) % 128 = (bl x).length ∧ v < 18446744073709551616 ∧ y < 18446744073709551616 ∧ z < 18446744073709551616 ∧ z + z / 4294967296 < 18446744073709551616 := by
  rw [t123_pb 8 x] at hv
  have hl : pw 8 x = (bl x).length := pw_bits 8 x
  simp only [pb] at hv
  simp only [pw] at hl
  have b0 := p3_le (x % 256) (by omega)
  have b1 := p3_le (x / 256 % 256) (Nat.mod_lt _ (by decide))
  have b2 := p3_le (x / 256 / 256 % 256) (Nat.mod_lt _ (by decide))
  have b3 := p3_le (x / 256 / 256 / 256 % 256) (Nat.mod_lt _ (by decide))
  have b4 := p3_le (x / 256 / 256 / 256 / 256 % 256) (Nat.mod_lt _ (by decide))
  have b5 := p3_le (x / 256 / 256 / 256 / 256 / 256 % 256) (Nat.mod_lt _ (by decide))
  have b6 := p3_le (x / 256 / 256 / 256 / 256 / 256 / 256 % 256) (Nat.mod_lt _ (by decide))
  have b7 := p3_le (x / 256 / 256 / 256 / 256 / 256 / 256 / 256 % 256) (Nat.mod_lt _ (by decide))
  obtain ⟨t, ht, hlt⟩ := sum8 _ _ _ _ _ _ _ _ _ _ _ _ _ _ _ v y z b0 b1 b2 b3 b4 b5 b6 b7 hv rfl rfl rfl rfl rfl rfl rfl hy hz
  rw [hl] at ht
  have hle := bl_length_le x
  have v1 : v ≤ y := by rw [hy]; exact Nat.le_add_right _ _
  have y1 : y ≤ z := by rw [hz]; exact Nat.le_add_right _ _
  have z1 : z ≤ z + z / 4294967296 := Nat.le_add_right _ _
  generalize z + z / 4294967296 = q at ht hlt z1
  clear hv hy hz hl b0 b1 b2 b3 b4 b5 b6 b7
  omega
/-- The number of the k bits of f from a on, the first one the most significant. -/
def num (f : Nat → Bool) (a : Nat) : Nat → Nat
  | 0 => 0
  | k + 1 => 2 * num f a k + (f (a + k)).toNat
set_option maxRecDepth 100000 in
theorem num_lt (f : Nat → Bool) (a : Nat) : ∀ k, num f a k < 2 ^ k
  | 0 => by simp [num]
  | k + 1 => by
    have h := num_lt f a k
    have h2 : (f (a + k)).toNat ≤ 1 := Bool.toNat_le _
    rw [num, Nat.pow_succ]; omega
set_option maxRecDepth 100000 in
theorem num_test (f : Nat → Bool) (a : Nat) : ∀ k i, (num f a k).testBit i = (decide (i < k) && f (a + (k - 1 - i)))
  | 0, i => by simp [num]
  | k + 1, 0 => by
    rw [num, Nat.testBit_zero]
    cases h : f (a + k) <;> simp [h] <;> omega
  | k + 1, i + 1 => by
    rw [num, Nat.testBit_succ]
    have e : (2 * num f a k + (f (a + k)).toNat) / 2 = num f a k := by
      have h2 : (f (a + k)).toNat ≤ 1 := Bool.toNat_le _
      omega
    rw [e, num_test f a k i, show k + 1 - 1 - (i + 1) = k - 1 - i by omega]
    congr 1
    rw [decide_eq_decide]; omega
set_option maxRecDepth 100000 in
theorem num_congr {f g : Nat → Bool} {a b : Nat} : ∀ k, (∀ t, t < k → f (a + t) = g (b + t)) → num f a k = num g b k
  | 0, _ => rfl
  | k + 1, h => by rw [num, num, num_congr k (fun t ht => h t (by omega)), h k (by omega)]
set_option maxRecDepth 100000 in
theorem num_eq {f : Nat → Bool} {a k x : Nat} (hx : x < 2 ^ k) (h : ∀ t, t < k → x.testBit (k - 1 - t) = f (a + t)) : x = num f a k := by
  apply Nat.eq_of_testBit_eq
  intro i
  rw [num_test]
  by_cases hi : i < k
  · have e := h (k - 1 - i) (by omega)
    rw [show k - 1 - (k - 1 - i) = i by omega] at e
    rw [e]; simp [hi]
  · rw [Nat.testBit_lt_two_pow (Nat.lt_of_lt_of_le hx (Nat.pow_le_pow_right (by decide) (by omega)))]
    simp [hi]
set_option maxRecDepth 100000 in
theorem num_add (f : Nat → Bool) (a j : Nat) : ∀ k, num f a (j + k) = num f a j * 2 ^ k + num f (a + j) k
  | 0 => by simp [num]
  | k + 1 => by
    have e := num_add f a j k
    rw [show j + (k + 1) = (j + k) + 1 by omega, num, e, num, Nat.pow_succ, Nat.add_assoc a j k]
    generalize num f a j = x
    generalize 2 ^ k = y
    rw [Nat.mul_add, ← Nat.mul_assoc, ← Nat.mul_assoc]
    have e2 : 2 * x * y = x * y * 2 := by rw [Nat.mul_comm 2 x, Nat.mul_assoc, Nat.mul_comm 2 y, Nat.mul_assoc]
    have e3 : x * (y * 2) = x * y * 2 := by rw [Nat.mul_assoc]
    omega
/-- Bit i of a list of bytes. -/
def bt (l : List Nat) (i : Nat) : Bool := (l.getD (i / 8) 0).testBit (7 - i % 8)
/-- Byte j of the bits f, cut at m. -/
def py (f : Nat → Bool) (m j : Nat) : Nat := num (fun i => decide (i < m) && f i) (8 * j) 8
/-- N bytes of the bits f, cut at m. -/
def pz (f : Nat → Bool) (m N : Nat) : List Nat := (List.range N).map (py f m)
set_option maxRecDepth 100000 in
theorem py_lt (f : Nat → Bool) (m j : Nat) : py f m j < 256 := num_lt _ _ 8
set_option maxRecDepth 100000 in
theorem py_test (f : Nat → Bool) (m j i : Nat) : (py f m j).testBit i = (decide (i < 8) && (decide (8 * j + (7 - i) < m) && f (8 * j + (7 - i)))) := by
  unfold py; rw [num_test]
set_option maxRecDepth 100000 in
theorem pz_len (f : Nat → Bool) (m N : Nat) : (pz f m N).length = N := by unfold pz; simp
set_option maxRecDepth 100000 in
theorem pz_at (f : Nat → Bool) (m N j : Nat) (h : j < N) : (pz f m N)[j]? = some (py f m j) := by
  unfold pz; rw [List.getElem?_map, List.getElem?_range h]; rfl
set_option maxRecDepth 100000 in
theorem pz_getD (f : Nat → Bool) (m N j : Nat) (h : j < N) : (pz f m N).getD j 0 = py f m j := by
  rw [List.getD_eq_getElem?_getD, pz_at f m N j h]; rfl
set_option maxRecDepth 100000 in
theorem pz_lt (f : Nat → Bool) (m N : Nat) : ∀ x ∈ pz f m N, x < 256 := by
  intro x hx
  unfold pz at hx
  obtain ⟨j, _, rfl⟩ := List.mem_map.1 hx
  exact py_lt _ _ _
set_option maxRecDepth 100000 in
theorem bt_pz (f : Nat → Bool) (m N i : Nat) (h : i < 8 * N) : bt (pz f m N) i = (decide (i < m) && f i) := by
  unfold bt
  rw [pz_getD f m N _ (by omega), py_test]
  rw [show 8 * (i / 8) + (7 - (7 - i % 8)) = i by omega]
  simp; omega
set_option maxRecDepth 100000 in
theorem py_congr {f g : Nat → Bool} {m n j : Nat} (h : ∀ i, 8 * j ≤ i → i < 8 * j + 8 → (decide (i < m) && f i) = (decide (i < n) && g i)) : py f m j = py g n j := by
  unfold py
  exact num_congr 8 fun t ht => h (8 * j + t) (by omega) (by omega)
set_option maxRecDepth 100000 in
theorem pz_congr {f g : Nat → Bool} {m n N : Nat} (h : ∀ i, i < 8 * N → (decide (i < m) && f i) = (decide (i < n) && g i)) : pz f m N = pz g n N := by
  unfold pz
  apply List.map_congr_left
  intro j hj
  have hj := List.mem_range.1 hj
  exact py_congr fun i h1 h2 => h i (by omega)
set_option maxRecDepth 100000 in
theorem pz_zero (f : Nat → Bool) (N : Nat) : pz f 0 N = List.replicate N 0 := by
  apply List.ext_getElem?
  intro i
  by_cases hi : i < N
  · rw [pz_at f 0 N i hi, List.getElem?_replicate, if_pos hi]
    congr 1
  · rw [List.getElem?_eq_none (by rw [pz_len]; omega), List.getElem?_eq_none (by simpa using hi)]
set_option maxRecDepth 100000 in
/-- A list of bytes is what its bits say. -/
theorem pz_bt (l : List Nat) (m : Nat) (hl : ∀ x ∈ l, x < 256) (hz : ∀ i, m ≤ i → i < 8 * l.length → bt l i = false) : l = pz (bt l) m l.length := by
  apply List.ext_getElem?
  intro j
  by_cases hj : j < l.length
  · rw [pz_at _ _ _ _ hj, List.getElem?_eq_getElem hj]
    congr 1
    have hlt := hl _ (List.getElem_mem hj)
    apply num_eq (k := 8) hlt
    intro t ht
    have e : bt l (8 * j + t) = (l[j]).testBit (8 - 1 - t) := by
      unfold bt
      rw [show (8 * j + t) / 8 = j by omega, show 7 - (8 * j + t) % 8 = 8 - 1 - t by omega, List.getD_eq_getElem?_getD, List.getElem?_eq_getElem hj]; rfl
    show _ = (decide (8 * j + t < m) && bt l (8 * j + t))
    by_cases hm : 8 * j + t < m
    · rw [e]; simp [hm]
    · rw [hz _ (by omega) (by omega)] at e
      rw [← e]; simp [hm]
  · rw [List.getElem?_eq_none (by omega), List.getElem?_eq_none (by rw [pz_len]; omega)]
set_option maxRecDepth 100000 in
/-- Bits behind m within the byte are 0 ahead of it. -/
theorem py_zero (f : Nat → Bool) {m j : Nat} (h : m ≤ 8 * j) : py f m j = 0 := by
  apply Nat.eq_of_testBit_eq
  intro t
  rw [py_test]
  have : ¬ 8 * j + (7 - t) < m := by omega
  simp [this]
set_option maxRecDepth 100000 in
/-- A byte gets k bits more. -/
theorem py_or (f : Nat → Bool) (m k : Nat) (hk : m % 8 + k ≤ 8) : py f m (m / 8) ||| (num f m k * 2 ^ (8 - m % 8 - k)) = py f (m + k) (m / 8) := by
  apply Nat.eq_of_testBit_eq
  intro i
  rw [Nat.testBit_or, ← Nat.shiftLeft_eq, Nat.testBit_shiftLeft, py_test, py_test, num_test]
  generalize hr : m % 8 = r at *
  have hm : m = 8 * (m / 8) + r := by omega
  generalize m / 8 = j at *
  subst hm
  by_cases h8 : i < 8
  · by_cases h1 : 8 * j + (7 - i) < 8 * j + r
    · have e1 : ¬ (i - (8 - r - k) < k ∧ i ≥ 8 - r - k) := by omega
      have e2 : 8 * j + (7 - i) < 8 * j + r + k := by omega
      by_cases e3 : i ≥ 8 - r - k
      · have e4 : ¬ i - (8 - r - k) < k := by omega
        simp [h8, h1, e2, e3, e4]
      · simp [h8, h1, e2, e3]
    · by_cases h2 : 8 * j + (7 - i) < 8 * j + r + k
      · have e1 : i - (8 - r - k) < k := by omega
        have e3 : i ≥ 8 - r - k := by omega
        have e5 : 8 * j + r + (k - 1 - (i - (8 - r - k))) = 8 * j + (7 - i) := by omega
        simp only [h8, h1, h2, e1, e3, e5, decide_true, decide_false, Bool.true_and, Bool.false_and, Bool.false_or]
      · have e3 : ¬ i ≥ 8 - r - k := by omega
        simp [h8, h1, h2, e3]
  · have e1 : ¬ i - (8 - r - k) < k := by omega
    simp [h8, e1]
set_option maxRecDepth 100000 in
/-- Other bytes are as they were. -/
theorem pz_set (f : Nat → Bool) (m k N : Nat) (hk : m % 8 + k ≤ 8) (hN : m / 8 < N) : (pz f m N).set (m / 8) (py f (m + k) (m / 8)) = pz f (m + k) N := by
  apply List.ext_getElem?
  intro j
  rw [List.getElem?_set, pz_len]
  by_cases hj : j < N
  · rw [pz_at _ _ _ _ hj]
    by_cases e : m / 8 = j
    · rw [if_pos e, if_pos hN, e, pz_at _ _ _ _ hj]
    · rw [if_neg e, pz_at _ _ _ _ hj]
      refine congrArg some (py_congr fun i h1 h2 => ?_)
      rw [show decide (i < m) = decide (i < m + k) by rw [decide_eq_decide]; omega]
  · rw [if_neg (by omega), List.getElem?_eq_none (by rw [pz_len]; omega), List.getElem?_eq_none (by rw [pz_len]; omega)]
set_option maxRecDepth 100000 in
/-- k bits out of a byte. -/
theorem num_byte (x s k a r : Nat) (f : Nat → Bool) (hs : s + k + r = 8) (h : ∀ t, t < k → f (a + t) = x.testBit (7 - (r + t))) : x / 2 ^ s % 2 ^ k = num f a k := by
  apply num_eq (Nat.mod_lt _ (Nat.pow_pos (by decide)))
  intro t ht
  rw [Nat.testBit_mod_two_pow, Nat.testBit_div_two_pow, h t ht]
  have e : k - 1 - t + s = 7 - (r + t) := by omega
  rw [e]
  have : k - 1 - t < k := by omega
  simp [this]
set_option maxRecDepth 100000 in
/-- k bits out of a number. -/
theorem num_word (x n k a : Nat) (f : Nat → Bool) (hk : k ≤ n) (h : ∀ t, t < k → f (a + t) = x.testBit (n - 1 - t)) : x / 2 ^ (n - k) % 2 ^ k = num f a k := by
  apply num_eq (Nat.mod_lt _ (Nat.pow_pos (by decide)))
  intro t ht
  rw [Nat.testBit_mod_two_pow, Nat.testBit_div_two_pow, h t ht]
  have e : k - 1 - t + (n - k) = n - 1 - t := by omega
  rw [e]
  have : k - 1 - t < k := by omega
  simp [this]
set_option maxRecDepth 100000 in
theorem num_self (x n : Nat) (hx : x < 2 ^ n) (a : Nat) (f : Nat → Bool) (h : ∀ t, t < n → f (a + t) = x.testBit (n - 1 - t)) : num f a n = x :=
  (num_eq hx fun t ht => (h t ht).symm).symm
end Bs
end Go.Proofs.Ytnpkihioklpnmaa

/- Both. -/
namespace Go.Proofs.Ytnpkihioklpnmaa
open Go.RowKit
namespace Bs
/-- A number of 64 bits. -/
def U64 (b : Nat) : Prop := b < 18446744073709551616
/-- An int of Go's. -/
def I64 (x : Int) : Prop := -9223372036854775808 ≤ x ∧ x ≤ 9223372036854775807
set_option maxRecDepth 100000 in
theorem U64.lt {b : Nat} (h : U64 b) : b < 18446744073709551616 := h
set_option maxRecDepth 100000 in
theorem U64.pow {b : Nat} (h : U64 b) : b < 2 ^ 64 := h
set_option maxRecDepth 100000 in
theorem u64_mk {b : Nat} (h : b < 18446744073709551616) : U64 b := h
set_option maxRecDepth 100000 in
theorem u64_le {a b : Nat} (h : a ≤ b) (hb : U64 b) : U64 a := Nat.lt_of_le_of_lt h hb
set_option maxRecDepth 100000 in
theorem u64_and_le (a b : Nat) (h : U64 a) : U64 (a &&& b) := u64_le Nat.and_le_left h
set_option maxRecDepth 100000 in
theorem u64_or (a b : Nat) (h : U64 a) (k : U64 b) : U64 (a ||| b) := Nat.or_lt_two_pow h.pow k.pow
set_option maxRecDepth 100000 in
theorem u64_div (a b : Nat) (h : U64 a) : U64 (a / b) := u64_le (Nat.div_le_self _ _) h
set_option maxRecDepth 100000 in
theorem u64_wo (b : Nat) (h : U64 b) : U64 (wo b) := u64_le (wo_le b) h
set_option maxRecDepth 100000 in
theorem wrapU (x : Nat) (h : U64 x) : IntKind.u64.wrap (x : Int) = (x : Int) := by
  have := h.lt
  rw [IntKind.wrap_u64]; omega
set_option maxRecDepth 100000 in
theorem andU (a b : Nat) (ha : U64 a) (hb : U64 b) : bits .and .u64 (a : Int) (b : Int) = ((a &&& b : Nat) : Int) := u64_and_nat a b ha hb
set_option maxRecDepth 100000 in
theorem orU (a b : Nat) (ha : U64 a) (hb : U64 b) : bits .or .u64 (a : Int) (b : Int) = ((a ||| b : Nat) : Int) := u64_or_nat a b ha hb
set_option maxRecDepth 100000 in
theorem andNotU (a b : Nat) (ha : U64 a) (hb : U64 b) : bits .andNot .u64 (a : Int) (b : Int) = ((a &&& (18446744073709551615 - b) : Nat) : Int) := u64_andNot_nat a b ha hb
set_option maxRecDepth 100000 in
theorem divU (a k : Nat) : (a : Int) / ((k : Nat) : Int) = ((a / k : Nat) : Int) := (Int.natCast_ediv a k).symm
set_option maxRecDepth 100000 in
theorem wo_word (b : Nat) (h : U64 b) : bits .and .u64 (b : Int) (IntKind.u64.wrap ((b : Int) - 1)) = ((wo b : Nat) : Int) := by
  have := h.lt
  by_cases h0 : b = 0
  · subst h0; rfl
  · rw [show IntKind.u64.wrap ((b : Int) - 1) = ((b - 1 : Nat) : Int) by rw [IntKind.wrap_u64]; omega, andU b (b - 1) h (u64_le (Nat.sub_le _ _) h)]
    rfl
set_option maxRecDepth 100000 in
theorem ones1 (x : Nat) (hx : U64 x) : IntKind.u64.wrap (bits .and .u64 ((x : Int) / 2) 6148914691236517205 + bits .and .u64 (x : Int) 6148914691236517205) = ((t1 8 x : Nat) : Int) := by
  have h1 := t1_le 8 x
  rw [k0_8] at h1
  have e1 : bits .and .u64 ((x : Int) / 2) 6148914691236517205 = ((x / 2 &&& k0 8 : Nat) : Int) := by
    rw [k0_8]; exact (congrArg (fun t => bits .and .u64 t 6148914691236517205) (divU x 2)).trans (andU (x / 2) 6148914691236517205 (u64_div _ _ hx) (by unfold U64; decide))
  have e2 : bits .and .u64 (x : Int) 6148914691236517205 = ((x &&& k0 8 : Nat) : Int) := by
    rw [k0_8]; exact andU x 6148914691236517205 hx (by unfold U64; decide)
  rw [e1, e2, ← Int.natCast_add]
  exact wrapU (t1 8 x) (u64_mk (by omega))
set_option maxRecDepth 100000 in
theorem ones2 (x : Nat) (hx : U64 x) : IntKind.u64.wrap (bits .and .u64 ((x : Int) / 4) 3689348814741910323 + bits .and .u64 (x : Int) 3689348814741910323) = ((t2 8 x : Nat) : Int) := by
  have h1 := t2_le 8 x
  rw [k1_8] at h1
  have e1 : bits .and .u64 ((x : Int) / 4) 3689348814741910323 = ((x / 4 &&& k1 8 : Nat) : Int) := by
    rw [k1_8]; exact (congrArg (fun t => bits .and .u64 t 3689348814741910323) (divU x 4)).trans (andU (x / 4) 3689348814741910323 (u64_div _ _ hx) (by unfold U64; decide))
  have e2 : bits .and .u64 (x : Int) 3689348814741910323 = ((x &&& k1 8 : Nat) : Int) := by
    rw [k1_8]; exact andU x 3689348814741910323 hx (by unfold U64; decide)
  rw [e1, e2, ← Int.natCast_add]
  exact wrapU (t2 8 x) (u64_mk (by omega))
set_option maxRecDepth 100000 in
theorem ones3 (x : Nat) (h : x ≤ 7378697629483820646) : bits .and .u64 (IntKind.u64.wrap ((x : Int) / 16 + (x : Int))) 1085102592571150095 = ((t3 8 x : Nat) : Int) := by
  have e : IntKind.u64.wrap ((x : Int) / 16 + (x : Int)) = ((x / 16 + x : Nat) : Int) := by rw [IntKind.wrap_u64]; omega
  unfold t3
  rw [e, k2_8]
  exact andU (x / 16 + x) 1085102592571150095 (u64_mk (by omega)) (by unfold U64; decide)
set_option maxRecDepth 100000 in
theorem ones4 (x k : Nat) (h : U64 (x + x / k)) : IntKind.u64.wrap ((x : Int) + (x : Int) / ((k : Nat) : Int)) = ((x + x / k : Nat) : Int) := by
  rw [divU, ← Int.natCast_add]
  exact wrapU _ h
set_option maxRecDepth 100000 in
theorem ones7 (q : Nat) : bits .and .i64 (wrap64 (q : Int)) 127 = ((q % 128 : Nat) : Int) := by
  have e : (BitVec.ofInt 64 (wrap64 (q : Int))) = BitVec.ofNat 64 q := by
    apply BitVec.eq_of_toNat_eq
    rw [BitVec.toNat_ofInt, BitVec.toNat_ofNat]
    unfold wrap64
    omega
  show IntKind.i64.wrap ((BitVec.ofInt 64 (wrap64 (q : Int)) &&& BitVec.ofInt 64 127).toNat : Int) = _
  rw [e, BitVec.toNat_and, BitVec.toNat_ofNat, show (BitVec.ofInt 64 127).toNat = 2 ^ 7 - 1 from rfl, Nat.and_two_pow_sub_one_eq_mod, IntKind.wrap_i64]
  omega
def onesW (x : Int) : Int :=
  let a := IntKind.u64.wrap (bits .and .u64 (x / 2) 6148914691236517205 + bits .and .u64 x 6148914691236517205)
  let b := IntKind.u64.wrap (bits .and .u64 (a / 4) 3689348814741910323 + bits .and .u64 a 3689348814741910323)
  let c := bits .and .u64 (IntKind.u64.wrap (b / 16 + b)) 1085102592571150095
  let d := IntKind.u64.wrap (c + c / 256)
  let e := IntKind.u64.wrap (d + d / 65536)
  let f := IntKind.u64.wrap (e + e / 4294967296)
  bits .and .i64 (wrap64 f) 127
set_option maxRecDepth 100000 in
theorem onesW_eq (x : Nat) (hx : U64 x) : onesW (x : Int) = (((bl x).length : Nat) : Int) := by
  have h1 := t1_le 8 x
  have h2 := t2_le 8 (t1 8 x)
  rw [k0_8] at h1
  rw [k1_8] at h2
  obtain ⟨s1, s2, s3, s4, s5⟩ := ones_sum x _ _ _ rfl rfl rfl
  unfold onesW
  simp only []
  rw [ones1 x hx, ones2 _ (u64_mk (by omega)), ones3 _ (by omega)]
  generalize t3 8 (t2 8 (t1 8 x)) = v at *
  rw [show ((256 : Int)) = ((256 : Nat) : Int) from rfl, ones4 v 256 s3]
  generalize v + v / 256 = y at *
  rw [show ((65536 : Int)) = ((65536 : Nat) : Int) from rfl, ones4 y 65536 s4]
  generalize y + y / 65536 = z at *
  rw [show ((4294967296 : Int)) = ((4294967296 : Nat) : Int) from rfl, ones4 z 4294967296 s5, ones7, s1]
set_option maxRecDepth 100000 in
theorem powI (k : Nat) : ((2 : Int) ^ k) = ((2 ^ k : Nat) : Int) := by simp
set_option maxRecDepth 100000 in
theorem shrW (b k : Nat) : (b : Int) / 2 ^ k = ((b / 2 ^ k : Nat) : Int) := by rw [powI, divU]
set_option maxRecDepth 100000 in
theorem bitW (b k : Nat) (hb : U64 b) : bits .and .u64 ((b : Int) / 2 ^ k) 1 = ((b / 2 ^ k % 2 : Nat) : Int) := by
  rw [shrW, show (1 : Int) = ((1 : Nat) : Int) from rfl, andU _ 1 (u64_div _ _ hb) (by unfold U64; decide), nat_mask1]
set_option maxRecDepth 100000 in
theorem testW (b k : Nat) (hb : U64 b) : (bits .and .u64 ((b : Int) / 2 ^ k) 1 == 1) = b.testBit k := by
  rw [bitW b k hb, Nat.testBit_eq_decide_div_mod_eq]
  by_cases h : b / 2 ^ k % 2 = 1
  · simp [h]
  · have : b / 2 ^ k % 2 = 0 := by omega
    simp [this]
set_option maxRecDepth 100000 in
theorem nat_or_join (j : Nat) : (2 ^ j - 1) ||| 2 ^ j = 2 ^ j + (2 ^ j - 1) := by
  have h0 : 0 < 2 ^ j := Nat.pow_pos (by decide)
  rw [Nat.or_comm]
  exact nat_join j (2 ^ j) (2 ^ j - 1) (Nat.mod_self _) (by omega)
set_option maxRecDepth 100000 in
theorem bitsU (op : BinOp) (x y : Int) : ∃ z : Nat, U64 z ∧ bits op .u64 x y = (z : Int) := by
  unfold bits
  simp only []
  generalize (BitVec.toNat _ : Nat) = t
  refine ⟨t % 18446744073709551616, u64_mk (Nat.mod_lt _ (by decide)), ?_⟩
  rw [IntKind.wrap_u64]; omega
/-- One bit; all bits below. Plain names, so that the walk doesn't open them. -/
def b2 (k : Nat) : Nat := 2 ^ k
def lo (k : Nat) : Nat := 2 ^ k - 1
set_option maxRecDepth 100000 in
theorem b2_u64 {k : Nat} (h : k < 64) : U64 (b2 k) := Nat.pow_lt_pow_right (n := 64) (by decide) h
set_option maxRecDepth 100000 in
theorem lo_u64 {k : Nat} (h : k ≤ 64) : U64 (lo k) := by
  have : 2 ^ k ≤ 2 ^ 64 := Nat.pow_le_pow_right (by decide) h
  have h0 : 0 < 2 ^ k := Nat.pow_pos (by decide)
  unfold lo U64; omega
set_option maxRecDepth 100000 in
theorem or_lo (j : Nat) (hj : j < 64) : bits .or .u64 ((lo j : Nat) : Int) ((b2 j : Nat) : Int) = ((lo (j + 1) : Nat) : Int) := by
  have h0 : 0 < 2 ^ j := Nat.pow_pos (by decide)
  rw [orU _ _ (lo_u64 (by omega)) (b2_u64 hj)]
  unfold lo b2
  rw [nat_or_join j, Nat.pow_succ]; congr 1; omega
set_option maxRecDepth 100000 in
theorem andNot_zero (b c : Nat) (hb : U64 b) (hc : U64 c) : (bits .andNot .u64 (b : Int) (c : Int) == 0) = (b &&& (18446744073709551615 - c) == 0) := by
  rw [andNotU b c hb hc]
  generalize b &&& (18446744073709551615 - c) = z
  rw [Bool.eq_iff_iff]; simp
set_option maxRecDepth 100000 in
theorem p2_le {k : Nat} (h : k ≤ 8) : 2 ^ k ≤ 256 := Nat.pow_le_pow_right (n := 2) (by decide) h
set_option maxRecDepth 100000 in
theorem mask_word (k : Nat) (hk : k ≤ 8) : IntKind.u64.wrap (IntKind.u64.wrap (2 ^ k) - 1) = ((2 ^ k - 1 : Nat) : Int) := by
  have h1 := p2_le hk
  have h0 : 0 < 2 ^ k := Nat.pow_pos (by decide)
  rw [powI]
  generalize 2 ^ k = y at *
  rw [IntKind.wrap_u64, IntKind.wrap_u64]; omega
set_option maxRecDepth 100000 in
/-- k bits of a byte, behind those that were read. -/
theorem rd_word (v x s k : Nat) (hk : k ≤ 8) (hx : x < 256) (hv : v * 2 ^ k + 2 ^ k ≤ 18446744073709551616) :
    bits .or .u64 (IntKind.u64.wrap ((v : Int) * 2 ^ k)) (bits .and .u64 ((x : Int) / 2 ^ s) (IntKind.u64.wrap (IntKind.u64.wrap (2 ^ k) - 1))) = ((v * 2 ^ k + x / 2 ^ s % 2 ^ k : Nat) : Int) := by
  have h1 := p2_le hk
  have h0 : 0 < 2 ^ k := Nat.pow_pos (by decide)
  rw [mask_word k hk, shrW, andU _ _ (u64_div _ _ (u64_mk (by omega))) (u64_mk (by omega)), Nat.and_two_pow_sub_one_eq_mod]
  have hm := Nat.mod_lt (x / 2 ^ s) h0
  generalize x / 2 ^ s % 2 ^ k = z at *
  rw [powI, show ((v : Int) * ((2 ^ k : Nat) : Int)) = ((v * 2 ^ k : Nat) : Int) by simp, wrapU _ (u64_mk (by omega)), orU _ _ (u64_mk (by omega)) (u64_mk (by omega))]
  rw [nat_join k (v * 2 ^ k) z (Nat.mul_mod_left _ _) hm]
end Bs
end Go.Proofs.Ytnpkihioklpnmaa

/- Both. -/
namespace Go.Proofs.Ytnpkihioklpnmaa
open Go.RowKit Bs

set_option maxRecDepth 100000 in
theorem ret_int {k : IntKind} {a b : Int} (h : a = b) : Ending.returned (.int k a) = .returned (.int k b) := by rw [h]
set_option maxRecDepth 100000 in
theorem ret_bool {a b : Bool} (h : a = b) : Ending.returned (.bool a) = .returned (.bool b) := by rw [h]

/-- Cut: a number from 0 on, below n. -/
def CutOf (n r : Int) : Prop := 0 ≤ r ∧ (1 ≤ n → r < n) ∧ (n < 1 → r = 0)

set_option maxRecDepth 100000 in
theorem cut_neg (x n : Int) (hn : I64 n) (h1 : 1 ≤ n) (h : x.tmod n < 0) : CutOf n (wrap64 (x.tmod n + n)) := by
  have h2 := Int.lt_tmod_of_pos x (show 0 < n by omega)
  unfold I64 at hn
  rw [IntWalk.wrap64_in _ (by omega)]
  unfold CutOf; omega
set_option maxRecDepth 100000 in
theorem cut_pos (x n : Int) (h1 : 1 ≤ n) (h : ¬ x.tmod n < 0) : CutOf n (x.tmod n) := by
  have h2 := Int.tmod_lt_of_pos x (show 0 < n by omega)
  unfold CutOf; omega
set_option maxRecDepth 100000 in
set_option maxHeartbeats 400000 in
theorem cut_any (x n : Int) (hn : I64 n) (w : World) :
    Calls Try.prog 57 #[.int .i64 x, .int .i64 n] w fun e w' => (∃ r, e = .returned (.int .i64 r) ∧ CutOf n r) ∧ w = w' := by
  by_cases h1 : n < 1
  · go_enter Try.func57, Try.ntmps57
    go_wp2
    go_ret
    exact ⟨⟨0, rfl, by unfold CutOf; omega⟩, rfl⟩
  · have h1' : 1 ≤ n := by omega
    by_cases h2 : x.tmod n < 0
    · have hf := Lib.hid (cut_neg x n hn h1' h2)
      go_enter Try.func57, Try.ntmps57
      go_wp2
      go_ret
      exact ⟨⟨_, rfl, hf.out⟩, rfl⟩
    · have hf := Lib.hid (cut_pos x n h1' h2)
      go_enter Try.func57, Try.ntmps57
      go_wp2
      go_ret
      exact ⟨⟨_, rfl, hf.out⟩, rfl⟩

def vl (n : Int) : Bool := n == 8 || n == 16 || n == 32 || n == 64
set_option maxRecDepth 100000 in
theorem vl_cases {n : Int} (h : vl n = true) : n = 8 ∨ n = 16 ∨ n = 32 ∨ n = 64 := by
  unfold vl at h; simp at h; omega
set_option maxRecDepth 100000 in
theorem vl_false {n : Int} (h : vl n = false) : n ≠ 8 ∧ n ≠ 16 ∧ n ≠ 32 ∧ n ≠ 64 := by
  unfold vl at h; simp at h; omega
set_option maxRecDepth 100000 in
set_option maxHeartbeats 400000 in
theorem vlp_any (n : Int) (w : World) :
    Calls Try.prog 109 #[.int .i64 n] w fun e w' => e = .returned (.bool (vl n)) ∧ w = w' := by
  go_enter Try.func109, Try.ntmps109
  go_wp2
  all_goals go_ret
  all_goals exact ⟨ret_bool (by first | rfl | (unfold vl; simp [*])), rfl⟩
set_option maxRecDepth 100000 in
set_option maxHeartbeats 400000 in
theorem vlr_any (n : Int) (w : World) :
    Calls Try.prog 110 #[.int .i64 n] w fun e w' => e = .returned (.bool (vl n)) ∧ w = w' := by
  go_enter Try.func110, Try.ntmps110
  go_wp2
  all_goals go_ret
  all_goals exact ⟨ret_bool (by first | rfl | (unfold vl; simp [*])), rfl⟩
set_option maxRecDepth 100000 in
theorem pow_word (k : Nat) (hk : k < 64) : IntKind.u64.wrap (2 ^ k) = ((b2 k : Nat) : Int) := by
  unfold b2
  have e : ((2 : Int) ^ k) = ((2 ^ k : Nat) : Int) := by simp
  rw [e]
  exact wrapU _ (Nat.pow_lt_pow_right (by decide) hk)
end Go.Proofs.Ytnpkihioklpnmaa

/- Both. -/
namespace Go.Proofs.Ytnpkihioklpnmaa
open Go.RowKit Bs

/-- A slice value of n ints, its cells in a block ahead of block a. -/
def IntsV (w : World) (a : Nat) (v : Value) (n : Nat) : Prop :=
  ∃ p c, v = .slice p n c ∧ (0 < n → ∃ b off, p = some ⟨b, off, none⟩ ∧ b < a ∧ ∀ i, i < n → ∃ x, I64 x ∧ w.cell? ⟨b, off + i, none⟩ = some (.int .i64 x))
/-- Block a is a tape. -/
structure TapeOf (w : World) (a : Nat) (v : Value) (n i : Nat) : Prop where
  l : w.cell? ⟨a, 0, none⟩ = some v
  p : w.cell? ⟨a, 1, none⟩ = some (.int .i64 (i : Int))
  fr : w.frozen? ⟨a, 1, none⟩ = false
  ints : IntsV w a v n
  le : i ≤ n
  len : n ≤ 600
def Tp (w : World) (a : Nat) : Prop := ∃ v n i, TapeOf w a v n i
/-- From w to w' the tape's block alone has changed, and blocks have come. -/
def St (a : Nat) (w w' : World) : Prop := w.grownBy w' (some a) ∧ Tp w' a
def IntPost (P : Int → Prop) (a : Nat) (w : World) (e : Ending) (w' : World) : Prop := ∃ r, e = .returned (.int .i64 r) ∧ P r ∧ St a w w'

set_option maxRecDepth 100000 in
theorem grown_refl (w : World) (r : Option Nat) : w.grownBy w r := ⟨rfl, rfl, rfl, Nat.le_refl _, fun _ _ _ => rfl⟩
set_option maxRecDepth 100000 in
theorem grown_trans {w0 w1 w2 : World} {r : Option Nat} (h : w0.grownBy w1 r) (k : w1.grownBy w2 r) : w0.grownBy w2 r :=
  ⟨k.os.trans h.os, k.tape.trans h.tape, k.output.trans h.output, Nat.le_trans h.size k.size, fun b hb hr => (k.block b (Nat.lt_of_lt_of_le hb h.size) hr).trans (h.block b hb hr)⟩
set_option maxRecDepth 100000 in
theorem grown_none {w0 w1 : World} (h : w0.grownBy w1 none) (r : Option Nat) : w0.grownBy w1 r :=
  ⟨h.os, h.tape, h.output, h.size, fun b hb _ => h.block b hb (by simp)⟩
set_option maxRecDepth 100000 in
theorem grown_drewN (w : World) (n : Nat) (r : Option Nat) : w.grownBy (w.drewN n) r := ⟨rfl, rfl, rfl, Nat.le_refl _, fun _ _ _ => rfl⟩
set_option maxRecDepth 100000 in
theorem grown_setCell (w : World) (p : Addr) (u : Value) : w.grownBy (w.setCell p u) (some p.block) :=
  ⟨rfl, rfl, rfl, by simp [World.setCell], fun k _ hk => Below.heap_setCell _ _ _ _ (by simpa using hk)⟩
set_option maxRecDepth 100000 in
theorem St.trans {a : Nat} {w0 w1 w2 : World} (h : St a w0 w1) (k : St a w1 w2) : St a w0 w2 := ⟨grown_trans h.1 k.1, k.2⟩
set_option maxRecDepth 100000 in
theorem IntsV.grown {w w' : World} {a n : Nat} {v : Value} (h : IntsV w a v n) (g : w.grownBy w' (some a)) : IntsV w' a v n := by
  obtain ⟨p, c, hv, hc⟩ := h
  refine ⟨p, c, hv, fun hn => ?_⟩
  obtain ⟨b, off, hp, hb, hx⟩ := hc hn
  refine ⟨b, off, hp, hb, fun i hi => ?_⟩
  obtain ⟨x, hx, hcell⟩ := hx i hi
  exact ⟨x, hx, g.cell hcell (by simp; omega)⟩

set_option maxRecDepth 100000 in
set_option maxHeartbeats 400000 in
theorem raw_end (a : Nat) (p : Option Addr) (n c i : Nat) (w : World) (h1 : w.cell? ⟨a, 0, none⟩ = some (.slice p n c)) (h2 : w.cell? ⟨a, 1, none⟩ = some (.int .i64 (i : Int))) (h : n ≤ i) :
    Calls Try.prog 58 #[.pointer (some ⟨a, 0, none⟩)] w fun e w' => e = .returned (.int .i64 0) ∧ ∃ nq, w' = w.drewN nq := by
  go_enter Try.func58, Try.ntmps58
  go_wp2
  go_quiet (fail)
  go_wp2
  go_ret
  exact ⟨rfl, _, rfl⟩
set_option maxRecDepth 100000 in
set_option maxHeartbeats 400000 in
theorem raw_step (a b off n c i : Nat) (x : Int) (w : World) (h1 : w.cell? ⟨a, 0, none⟩ = some (.slice (some ⟨b, off, none⟩) n c)) (h2 : w.cell? ⟨a, 1, none⟩ = some (.int .i64 (i : Int)))
    (hf : w.frozen? ⟨a, 1, none⟩ = false) (hba : b ≠ a) (hx : w.cell? ⟨b, off + i, none⟩ = some (.int .i64 x)) (h : i < n) (hn : n ≤ 600) :
    Calls Try.prog 58 #[.pointer (some ⟨a, 0, none⟩)] w fun e w' => e = .returned (.int .i64 x) ∧ ∃ m q, w' = ((w.drewN m).setCell ⟨a, 1, none⟩ (.int .i64 ((i : Int) + 1))).drewN q := by
  go_enter Try.func58, Try.ntmps58
  go_wp2
  go_quiet (fail)
  go_wp2
  go_quiet (fail)
  go_wp2
  go_ret
  exact ⟨rfl, _, _, rfl⟩
set_option maxRecDepth 100000 in
theorem raw_any (a : Nat) (w : World) (hT : Tp w a) :
    Calls Try.prog 58 #[.pointer (some ⟨a, 0, none⟩)] w fun e w' => IntPost I64 a w e w' := by
  obtain ⟨v, n, i, T⟩ := hT
  have zero : I64 0 := by unfold I64; omega
  have keep : ∀ nq, St a w (w.drewN nq) := fun nq =>
    ⟨grown_drewN w nq _, v, n, i, T.l, T.p, T.fr, T.ints.grown (grown_drewN w nq _), T.le, T.len⟩
  obtain ⟨p, c, rfl, hc⟩ := T.ints
  by_cases hlt : i < n
  · obtain ⟨b, off, rfl, hb, hx⟩ := hc (by omega)
    obtain ⟨x, hx, hcell⟩ := hx i hlt
    refine (raw_step a b off n c i x w T.l T.p T.fr (Nat.ne_of_lt hb) hcell hlt T.len).mono ?_
    rintro e w' ⟨rfl, m, q, rfl⟩
    have g : w.grownBy (((w.drewN m).setCell ⟨a, 1, none⟩ (.int .i64 ((i : Int) + 1))).drewN q) (some a) :=
      grown_trans (grown_trans (grown_drewN w m _) (grown_setCell _ ⟨a, 1, none⟩ _)) (grown_drewN _ q _)
    refine ⟨x, rfl, hx, g, .slice (some ⟨b, off, none⟩) n c, n, i + 1, ?_, ?_, ?_, T.ints.grown g, hlt, T.len⟩
    · exact (World.cell?_setCell_other (w.drewN m) ⟨a, 1, none⟩ ⟨a, 0, none⟩ _ (by simp)).trans T.l
    · exact World.cell?_setCell_same' (w.drewN m) ⟨a, 1, none⟩ _ (by rw [show (w.drewN m).cell? ⟨a, 1, none⟩ = _ from T.p]; rfl)
    · exact (World.frozen?_setCell (w.drewN m) ⟨a, 1, none⟩ ⟨a, 1, none⟩ _).trans T.fr
  · refine (raw_end a p n c i w T.l T.p (by omega)).mono ?_
    rintro e w' ⟨rfl, nq, rfl⟩
    exact ⟨0, rfl, zero, keep nq⟩

def NewPost (w : World) (e : Ending) (w' : World) : Prop := e = .returned (.pointer (some ⟨w.heap.size, 0, none⟩)) ∧ w.grownBy w' none ∧ Tp w' w.heap.size
set_option maxRecDepth 100000 in
set_option maxHeartbeats 400000 in
theorem new_some (p : Option Addr) (n c : Nat) (w : World) (hn : n ≤ 600) (hcm : c ≤ 9223372036854775807) :
    Calls Try.prog 11 #[.slice p n c] w fun e w' => e = .returned (.pointer (some ⟨w.heap.size, 0, none⟩)) ∧ w' = w.alloc (.cells #[.slice p n c, .int .i64 0] 87) := by
  go_enter Try.func11, Try.ntmps11
  go_wp2
  go_ret
  exact ⟨rfl, rfl⟩
set_option maxRecDepth 100000 in
set_option maxHeartbeats 400000 in
theorem new_cut (b off n c : Nat) (w : World) (hn : 600 < n) (hc : n ≤ c) (hcm : c ≤ 9223372036854775807) :
    Calls Try.prog 11 #[.slice (some ⟨b, off, none⟩) n c] w fun e w' => e = .returned (.pointer (some ⟨w.heap.size, 0, none⟩)) ∧ w' = w.alloc (.cells #[.slice (some ⟨b, off, none⟩) 600 c, .int .i64 0] 87) := by
  go_enter Try.func11, Try.ntmps11
  go_wp2
  go_ret
  exact ⟨rfl, rfl⟩
/-- A slice of ints that came in. -/
def IntsIn (w : World) (v : Value) : Prop :=
  ∃ p n c, v = .slice p n c ∧ n ≤ c ∧ c ≤ 9223372036854775807 ∧ (0 < n → ∃ b off, p = some ⟨b, off, none⟩ ∧ b < w.heap.size ∧ ∀ i, i < n → ∃ x, I64 x ∧ w.cell? ⟨b, off + i, none⟩ = some (.int .i64 x))
set_option maxRecDepth 100000 in
theorem tape_new (w : World) (v : Value) (n : Nat) (hv : IntsV w w.heap.size v n) (hn : n ≤ 600) : Tp (w.alloc (.cells #[v, .int .i64 0] 87)) w.heap.size := by
  have hb : (w.alloc (.cells #[v, .int .i64 0] 87)).heap[w.heap.size]? = some (.cells #[v, .int .i64 0] 87 (0, 0)) := heap_alloc_new w _
  refine ⟨v, n, 0, ?_, ?_, ?_, hv.grown (World.grownBy_alloc w _ _), Nat.zero_le _, hn⟩
  · rw [cell_of_row _ _ _ _ _ _ hb]; rfl
  · rw [cell_of_row _ _ _ _ _ _ hb]; rfl
  · unfold World.frozen?; rw [show (Addr.mk w.heap.size 1 none).block = w.heap.size from rfl, hb]; rfl
set_option maxRecDepth 100000 in
theorem new_any (v : Value) (w : World) (hv : IntsIn w v) :
    Calls Try.prog 11 #[v] w fun e w' => NewPost w e w' := by
  obtain ⟨p, n, c, rfl, hnc, hcm, hc⟩ := hv
  by_cases hn : n ≤ 600
  · refine (new_some p n c w hn hcm).mono ?_
    rintro e w' ⟨rfl, rfl⟩
    refine ⟨rfl, World.grownBy_alloc w _ _, tape_new w _ n ⟨p, c, rfl, fun h => ?_⟩ hn⟩
    obtain ⟨b, off, hp, hb, hx⟩ := hc h
    exact ⟨b, off, hp, by omega, hx⟩
  · obtain ⟨b, off, rfl, hb, hx⟩ := hc (by omega)
    refine (new_cut b off n c w (by omega) hnc hcm).mono ?_
    rintro e w' ⟨rfl, rfl⟩
    exact ⟨rfl, World.grownBy_alloc w _ _, tape_new w _ 600 ⟨_, c, rfl, fun _ => ⟨b, off, rfl, by omega, fun i hi => hx i (by omega)⟩⟩ (by omega)⟩

set_option maxRecDepth 100000 in
set_option maxHeartbeats 400000 in
theorem next_any (a : Nat) (n : Int) (hn : I64 n) (w : World) (hT : Tp w a) :
    Calls Try.prog 25 #[.pointer (some ⟨a, 0, none⟩), .int .i64 n] w fun e w' => IntPost (CutOf n) a w e w' := by
  go_enter Try.func25, Try.ntmps25
  go_wp2_with fail
  refine (raw_any a _ hT).mono ?_
  rintro e w1 ⟨x, rfl, hx, hs⟩
  go_wp2_with fail
  refine (cut_any x n hn _).mono ?_
  rintro e w2 ⟨⟨r, rfl, hr⟩, rfl⟩
  go_wp2_with fail
  go_ret
  exact ⟨r, rfl, hr, hs⟩

def RangeOf (low high r : Int) : Prop := low ≤ r ∧ (low ≤ high → r ≤ high) ∧ (high < low → r = low)
set_option maxRecDepth 100000 in
set_option maxHeartbeats 400000 in
theorem range_any (a : Nat) (low high : Int) (h1 : -1099511627776 ≤ low) (h2 : low ≤ 1099511627776) (h3 : -1099511627776 ≤ high) (h4 : high ≤ 1099511627776) (w : World) (hT : Tp w a) :
    Calls Try.prog 18 #[.pointer (some ⟨a, 0, none⟩), .int .i64 low, .int .i64 high] w fun e w' => IntPost (RangeOf low high) a w e w' := by
  go_enter Try.func18, Try.ntmps18
  go_wp2_with fail
  refine (next_any a _ (by unfold I64; omega) _ hT).mono ?_
  rintro e w1 ⟨r, rfl, hr, hs⟩
  have hlo : 0 ≤ r := hr.1
  have hhi : r ≤ 2199023255553 := by unfold CutOf at hr; omega
  have hR : Hid (RangeOf low high (low + r)) := by show RangeOf _ _ _; unfold CutOf at hr; unfold RangeOf; omega
  go_wp2_with fail
  go_ret
  exact ⟨_, rfl, hR, hs⟩

/-- Each of n ints of a slice, outside block a, meets P. -/
def Among (P : Int → Prop) (w : World) (a b off n : Nat) : Prop := b ≠ a ∧ b < w.heap.size ∧ ∀ i, i < n → ∃ x, P x ∧ w.cell? ⟨b, off + i, none⟩ = some (.int .i64 x)
set_option maxRecDepth 100000 in
theorem Among.at_ {P : Int → Prop} {w w' : World} {a b off n : Nat} (h : Among P w a b off n) (g : w.grownBy w' (some a)) (i : Nat) (hi : i < n) :
    ∃ x, P x ∧ w'.cell? ⟨b, off + i, none⟩ = some (.int .i64 x) := by
  obtain ⟨x, hx, hc⟩ := h.2.2 i hi
  exact ⟨x, hx, g.cell hc (by simpa using h.1)⟩
set_option maxRecDepth 100000 in
set_option maxHeartbeats 400000 in
theorem pick_any (P : Int → Prop) (a b off n c : Nat) (h0 : 0 < n) (hn : n ≤ 1000) (w : World) (hT : Tp w a) (hA : Among P w a b off n) :
    Calls Try.prog 46 #[.pointer (some ⟨a, 0, none⟩), .slice (some ⟨b, off, none⟩) n c] w fun e w' => IntPost P a w e w' := by
  go_enter Try.func46, Try.ntmps46
  go_wp2_with fail
  refine (next_any a _ (by unfold I64; omega) _ hT).mono ?_
  rintro e w1 ⟨r, rfl, hr, hs⟩
  obtain ⟨k, rfl⟩ := Int.eq_ofNat_of_zero_le hr.1
  have hk : k < n := by unfold CutOf at hr; omega
  obtain ⟨x, hx, hc⟩ := hA.at_ hs.1 k hk
  have HX : Hid (P x) := hx
  clear hx
  go_wp2_with fail
  go_ret
  exact ⟨x, rfl, HX, hs⟩

set_option maxRecDepth 100000 in
set_option maxHeartbeats 400000 in
theorem one_any (a : Nat) (n : Int) (hn : I64 n) (w : World) (hT : Tp w a) :
    Calls Try.prog 24 #[.pointer (some ⟨a, 0, none⟩), .int .i64 n] w fun e w' => ∃ b, e = .returned (.bool b) ∧ St a w w' := by
  go_enter Try.func24, Try.ntmps24
  go_wp2_with fail
  refine (next_any a n hn _ hT).mono ?_
  rintro e w1 ⟨r, rfl, hr, hs⟩
  go_wp2_with fail
  go_ret
  exact ⟨_, rfl, hs⟩

set_option maxRecDepth 100000 in
theorem among_new (P : Int → Prop) (w : World) (a : Nat) (cs : Array Value) (t : TypeId) (ha : a < w.heap.size) (h : ∀ i, i < cs.size → ∃ x, P x ∧ cs[i]? = some (.int .i64 x)) :
    Among P (w.alloc (.cells cs t)) a w.heap.size 0 cs.size := by
  have hb : (w.alloc (.cells cs t)).heap[w.heap.size]? = some (.cells cs t (0, 0)) := heap_alloc_new w _
  refine ⟨by omega, by simp, fun i hi => ?_⟩
  obtain ⟨x, hx, hc⟩ := h i hi
  refine ⟨x, hx, ?_⟩
  rw [Nat.zero_add, cell_of_row _ _ _ _ _ _ hb]; exact hc
set_option maxRecDepth 100000 in
theorem among_list (P : Int → Prop) (w : World) (a : Nat) (l : List Int) (cs : Array Value) (t : TypeId) (ha : a < w.heap.size) (hl : cs = (l.map fun x => Value.int .i64 x).toArray) (h : ∀ x ∈ l, P x) :
    Among P (w.alloc (.cells cs t)) a w.heap.size 0 cs.size := by
  refine among_new P w a cs t ha fun i hi => ?_
  subst hl
  have hi' : i < l.length := by simpa using hi
  exact ⟨l[i], h _ (List.getElem_mem hi'), by simp [hi']⟩
set_option maxRecDepth 100000 in
theorem Tp.lt {w : World} {a : Nat} (h : Tp w a) : a < w.heap.size := by
  obtain ⟨v, n, i, T⟩ := h
  exact World.block_lt_of_cell? w ⟨a, 0, none⟩ T.l
set_option maxRecDepth 100000 in
theorem Tp.alloc {w : World} {a : Nat} (h : Tp w a) (o : Obj) : Tp (w.alloc o) a := by
  have hlt := h.lt
  obtain ⟨v, n, i, T⟩ := h
  have hb : (w.alloc o).heap[a]? = w.heap[a]? := Below.heap_alloc w o a hlt
  exact ⟨v, n, i, (World.cell?_of_block (a := ⟨a, 0, none⟩) hb).trans T.l, (World.cell?_of_block (a := ⟨a, 1, none⟩) hb).trans T.p, (World.frozen?_of_block (a := ⟨a, 1, none⟩) hb).trans T.fr, T.ints.grown (World.grownBy_alloc w o _), T.le, T.len⟩
set_option maxRecDepth 100000 in
theorem St.alloc_left {w w' : World} {a : Nat} {o : Obj} (h : St a (w.alloc o) w') : St a w w' := ⟨grown_trans (World.grownBy_alloc w o _) h.1, h.2⟩
set_option maxRecDepth 100000 in
set_option maxHeartbeats 400000 in
theorem length_any (a : Nat) (w : World) (hT : Tp w a) :
    Calls Try.prog 55 #[.pointer (some ⟨a, 0, none⟩)] w fun e w' => IntPost (fun r => vl r = true) a w e w' := by
  go_enter Try.func55, Try.ntmps55
  go_wp2_with fail
  refine (pick_any (fun r => vl r = true) a _ 0 5 5 (by omega) (by omega) _ (hT.alloc _) (among_list _ w a [8, 8, 16, 32, 64] _ _ hT.lt rfl (by decide))).mono ?_
  rintro e w1 ⟨r, rfl, hr, hs⟩
  go_wp2_with fail
  go_ret
  exact ⟨_, rfl, hr, hs.alloc_left⟩
set_option maxRecDepth 100000 in
/-- Behind New the tape's block is new: what writes it alone has turned nothing old. -/
theorem grown_tape {w w1 w2 : World} (h : w.grownBy w1 none) (k : w1.grownBy w2 (some w.heap.size)) : w.grownBy w2 none :=
  ⟨k.os.trans h.os, k.tape.trans h.tape, k.output.trans h.output, Nat.le_trans h.size k.size, fun b hb _ => (k.block b (Nat.lt_of_lt_of_le hb h.size) (by simp; omega)).trans (h.block b hb (by simp))⟩
set_option maxRecDepth 100000 in
theorem St.grown_alloc {a : Nat} {w w' : World} (h : St a w w') (o : Obj) : w.grownBy (w'.alloc o) (some a) := grown_trans h.1 (World.grownBy_alloc w' o _)
set_option maxRecDepth 100000 in
theorem Tp.drew {w : World} {a : Nat} (h : Tp w a) : Tp w.drew a := by
  obtain ⟨v, n, i, T⟩ := h
  exact ⟨v, n, i, T.l, T.p, T.fr, T.ints, T.le, T.len⟩
set_option maxRecDepth 100000 in
theorem Tp.keep {w w' : World} {a : Nat} (h : Tp w a) (g : w.grownBy w' none) : Tp w' a := by
  have hlt := h.lt
  obtain ⟨v, n, i, T⟩ := h
  have hb : w'.heap[a]? = w.heap[a]? := g.block a hlt (by simp)
  exact ⟨v, n, i, (World.cell?_of_block (a := ⟨a, 0, none⟩) hb).trans T.l, (World.cell?_of_block (a := ⟨a, 1, none⟩) hb).trans T.p, (World.frozen?_of_block (a := ⟨a, 1, none⟩) hb).trans T.fr, T.ints.grown (grown_none g _), T.le, T.len⟩

end Go.Proofs.Ytnpkihioklpnmaa

/- Both. -/
namespace Go.Proofs.Ytnpkihioklpnmaa
open Go.RowKit Bs

set_option maxRecDepth 100000 in
theorem info_int : (Try.prog.info? 3).map (fun i => (i.zero, i.size, i.bytes)) = some (some (.int .i64 0), 1, 8) := by kernel_rfl
set_option maxRecDepth 100000 in
theorem info_u64 : (Try.prog.info? 125).map (fun i => (i.zero, i.size, i.bytes)) = some (some (.int .u64 0), 1, 8) := by kernel_rfl
set_option maxRecDepth 100000 in
theorem info_u8 : (Try.prog.info? 5).map (fun i => (i.zero, i.size, i.bytes)) = some (some (.int .u8 0), 1, 1) := by kernel_rfl

/-- The slice value v reads as vs; where it has elements, its block meets q. -/
def Rd (w : World) (q : Nat → Prop) (v : Value) (vs : List Value) : Prop :=
  ∃ p c, v = .slice p vs.length c ∧ (vs ≠ [] → ∃ b off, p = some ⟨b, off, none⟩ ∧ q b ∧ ∀ i x, vs[i]? = some x → w.cell? ⟨b, off + i, none⟩ = some x)
set_option maxRecDepth 100000 in
theorem Rd.grown {w w' : World} {q : Nat → Prop} {v : Value} {vs : List Value} {r : Option Nat} (h : Rd w q v vs) (g : w.grownBy w' r) (hq : ∀ b, q b → some b ≠ r) : Rd w' q v vs := by
  obtain ⟨p, c, hv, hc⟩ := h
  refine ⟨p, c, hv, fun hne => ?_⟩
  obtain ⟨b, off, hp, hb, hx⟩ := hc hne
  exact ⟨b, off, hp, hb, fun i x hi => g.cell (hx i x hi) (hq b hb)⟩
set_option maxRecDepth 100000 in
theorem Rd.mono {w : World} {q q' : Nat → Prop} {v : Value} {vs : List Value} (h : Rd w q v vs) (hq : ∀ b, q b → q' b) : Rd w q' v vs := by
  obtain ⟨p, c, hv, hc⟩ := h
  refine ⟨p, c, hv, fun hne => ?_⟩
  obtain ⟨b, off, hp, hb, hx⟩ := hc hne
  exact ⟨b, off, hp, hq b hb, hx⟩
set_option maxRecDepth 100000 in
theorem Rd.keep {w w' : World} {q : Nat → Prop} {v : Value} {vs : List Value} (h : Rd w q v vs) (g : w.grownBy w' none) : Rd w' q v vs := h.grown g (fun _ _ => by simp)
set_option maxRecDepth 100000 in
theorem Rd.nil_ (w : World) (q : Nat → Prop) (p : Option Addr) (c : Nat) : Rd w q (.slice p 0 c) [] := ⟨p, c, rfl, fun h => absurd rfl h⟩
set_option maxRecDepth 100000 in
theorem rd_of_own {w : World} {base : Nat} {e : TypeId} {v : Value} {n : Nat} {xs : List Value} (h : w.ownsRow base e 1 v n xs) : Rd w (base ≤ ·) v xs := by
  have hl : xs.length = n := by have := h.1; omega
  rcases h.2 with ⟨rfl, h0⟩ | ⟨g, cap, cur, rfl, hb, hg, _⟩
  · subst h0
    exact ⟨none, 0, by rw [hl], fun hne => absurd (List.eq_nil_of_length_eq_zero hl) hne⟩
  · refine ⟨some ⟨g, 0, none⟩, cap, by rw [hl], fun _ => ⟨g, 0, rfl, hb, fun i x hi => ?_⟩⟩
    have := h.cells (g := g) rfl i x hi
    have hadd : (⟨g, 0, none⟩ : Addr).add i = ⟨g, 0 + i, none⟩ := by unfold Addr.add; split <;> simp_all
    rw [hadd] at this
    exact this
set_option maxRecDepth 100000 in
theorem own_step {w wr w1 : World} {o : Obj} {e : TypeId} {size n : Nat} {v : Value} {xs : List Value} (h : w.grownBy wr none) (hown : wr.ownsRow w.heap.size e size v n xs) (hg : (wr.alloc o).grownBy w1 v.ownBlock) : w.grownBy w1 none := by
  refine ⟨hg.os.trans h.os, hg.tape.trans h.tape, hg.output.trans h.output, Nat.le_trans h.size (Nat.le_trans (by simp) hg.size), fun k hk _ => ?_⟩
  have hks : k < wr.heap.size := Nat.lt_of_lt_of_le hk h.size
  refine (hg.block k (by simp; omega) (fun e => ?_)).trans ((Below.heap_alloc wr o k hks).trans (h.block k hk (by simp)))
  have := (hown.lt k e.symm).1
  omega
set_option maxRecDepth 100000 in
theorem cell_one (w : World) (x : Value) (t : TypeId) : ∀ j u, [x][j]? = some u → (w.alloc (.cells #[x] t)).cell? ((⟨w.heap.size, 0, none⟩ : Addr).add j) = some u := by
  intro j u hj
  match j, hj with
  | 0, hj =>
    simp at hj; subst hj
    have hb : (w.alloc (.cells #[x] t)).heap[w.heap.size]? = some (.cells #[x] t (0, 0)) := heap_alloc_new w _
    have hadd : (⟨w.heap.size, 0, none⟩ : Addr).add 0 = ⟨w.heap.size, 0, none⟩ := by unfold Addr.add; split <;> simp_all
    rw [hadd, cell_of_row _ _ _ _ _ _ hb]; rfl
set_option maxRecDepth 100000 in
theorem hid_drew {W w : World} {r : Option Nat} (h : Hid (W.grownBy w r)) : Hid (W.grownBy w.drew r) := Lib.hid ⟨h.out.os, h.out.tape, h.out.output, h.out.size, h.out.block⟩
set_option maxRecDepth 100000 in
theorem hid_more {W w w' : World} {r : Option Nat} (h : Hid (W.grownBy w r)) (k : w.grownBy w' r) : Hid (W.grownBy w' r) := Lib.hid (grown_trans h.out k)
/-- An int of Go's out of a number. -/
def ival (k : Nat) : Value := .int .i64 (k : Int)
def ListPost (vs : List Value) (w : World) (e : Ending) (w' : World) : Prop := ∃ v, e = .returned v ∧ Rd w' (w.heap.size ≤ ·) v vs ∧ w.grownBy w' none
set_option maxRecDepth 100000 in
theorem bl_snoc_t {n b : Nat} (h : b.testBit n = true) : blN (n + 1) b = blN n b ++ [n] := by rw [blN_snoc, h]; rfl
set_option maxRecDepth 100000 in
theorem bl_snoc_f {n b : Nat} (h : b.testBit n = false) : blN (n + 1) b = blN n b := by rw [blN_snoc, h]; simp

def RefListRel (b : Nat) (w : World) (v : Value) (j : Nat) (wr : World) : Prop := wr.ownsRow w.heap.size 3 1 v (blN j b).length ((blN j b).map ival) ∧ w.grownBy wr none
set_option maxRecDepth 100000 in
theorem reflist_hit {b j : Nat} {w wr w1 : World} {v v' : Value} {o : Obj} (h : RefListRel b w v j wr) (ht : b.testBit j = true)
    (hown' : w1.ownsRow w.heap.size 3 1 v' ((blN j b).length + 1) ((blN j b).map ival ++ [.int .i64 (j : Int)])) (hg : (wr.alloc o).grownBy w1 v.ownBlock) : RefListRel b w v' (j + 1) w1 := by
  refine ⟨?_, own_step h.2 h.1 hg⟩
  rw [bl_snoc_t ht, List.length_append, List.map_append]
  exact hown'
set_option maxRecDepth 100000 in
theorem reflist_miss {b j : Nat} {w wr : World} {v : Value} (h : RefListRel b w v j wr) (ht : b.testBit j = false) : RefListRel b w v (j + 1) wr := by
  unfold RefListRel
  rw [bl_snoc_f ht]; exact h
end Go.Proofs.Ytnpkihioklpnmaa
