/- Both. -/
import Derived.Lib.TrailingZeros
import Derived.IntWalk
namespace Go.Proofs.YtnfgkakhdgiepaaDoor
namespace Bs
/-- The bits of b that lie below n, ascending. -/
def blN (n b : Nat) : List Nat := (List.range n).filter fun k => b.testBit k
def bl (b : Nat) : List Nat := blN 64 b
set_option maxRecDepth 100000 in
theorem blN_zero (b : Nat) : blN 0 b = [] := rfl
set_option maxRecDepth 100000 in
theorem blN_snoc (n b : Nat) : blN (n + 1) b = blN n b ++ (if b.testBit n then [n] else []) := by
  unfold blN
  rw [List.range_succ, List.filter_append]
  congr 1
  cases h : b.testBit n <;> simp [h]
set_option maxRecDepth 100000 in
theorem blN_cons (n b : Nat) : blN (n + 1) b = (if b % 2 = 1 then [0] else []) ++ (blN n (b / 2)).map (· + 1) := by
  unfold blN
  rw [List.range_succ_eq_map, List.filter_cons, List.filter_map]
  have h0 : b.testBit 0 = decide (b % 2 = 1) := Nat.testBit_zero b
  have hf : ((fun k => b.testBit k) ∘ Nat.succ) = fun k => (b / 2).testBit k := by
    funext k; exact Nat.testBit_succ b k
  rw [hf, h0]
  by_cases h : b % 2 = 1
  · simp only [h, decide_true, if_true, List.cons_append, List.nil_append]
  · simp only [h, decide_false, if_false, List.nil_append, Bool.false_eq_true]
set_option maxRecDepth 100000 in
theorem blN_of_zero (n : Nat) : blN n 0 = [] := by
  unfold blN; simp
set_option maxRecDepth 100000 in
theorem mem_blN {n b k : Nat} : k ∈ blN n b ↔ k < n ∧ b.testBit k = true := by
  unfold blN; simp [List.mem_filter]
set_option maxRecDepth 100000 in
theorem blN_length_le (n b : Nat) : (blN n b).length ≤ n := by
  unfold blN; have := List.length_filter_le (fun k => b.testBit k) (List.range n); simpa using this
set_option maxRecDepth 100000 in
theorem blN_length_succ (n b : Nat) : (blN (n + 1) b).length = b % 2 + (blN n (b / 2)).length := by
  rw [blN_cons]
  by_cases h : b % 2 = 1
  · simp [h]; omega
  · have : b % 2 = 0 := by omega
    simp [this]
set_option maxRecDepth 100000 in
theorem blN_sorted (n b : Nat) : (blN n b).Pairwise (· < ·) := by
  unfold blN; exact List.Pairwise.filter _ List.pairwise_lt_range
/-- b without its lowest bit. -/
def wo (b : Nat) : Nat := b &&& (b - 1)
set_option maxRecDepth 100000 in
theorem wo_odd {b : Nat} (h : b % 2 = 1) : wo b = b - 1 := by
  unfold wo
  apply Nat.eq_of_testBit_eq
  intro i
  rw [Nat.testBit_and]
  cases i with
  | zero => simp [Nat.testBit_zero]; omega
  | succ i => rw [Nat.testBit_succ, Nat.testBit_succ, show (b - 1) / 2 = b / 2 by omega, Bool.and_self]
set_option maxRecDepth 100000 in
theorem wo_even {b : Nat} (h : b % 2 = 0) : wo b = 2 * wo (b / 2) := by
  unfold wo
  apply Nat.eq_of_testBit_eq
  intro i
  rw [Nat.testBit_and]
  cases i with
  | zero => simp [Nat.testBit_zero]; omega
  | succ i => rw [Nat.testBit_succ, Nat.testBit_succ, Nat.testBit_succ, show (b - 1) / 2 = b / 2 - 1 by omega, show 2 * (b / 2 &&& b / 2 - 1) / 2 = (b / 2 &&& b / 2 - 1) by omega, Nat.testBit_and]
set_option maxRecDepth 100000 in
theorem wo_le (b : Nat) : wo b ≤ b := Nat.and_le_left
set_option maxRecDepth 100000 in
theorem wo_lt {b : Nat} (h : b ≠ 0) : wo b < b := by
  have : wo b ≤ b - 1 := Nat.and_le_right
  omega
set_option maxRecDepth 100000 in
/-- The lowest bit, and the list of what is left. -/
theorem blN_wo (n : Nat) : ∀ b, b ≠ 0 → b < 2 ^ n → blN n b = Lib.ctzFrom n b :: blN n (wo b) := by
  induction n with
  | zero => intro b h0 h; simp at h; omega
  | succ n ih =>
    intro b h0 h
    by_cases hb : b % 2 = 1
    · rw [wo_odd hb, blN_cons, blN_cons, if_pos hb, if_neg (by omega), show (b - 1) / 2 = b / 2 by omega]
      simp [Lib.ctzFrom, hb]
    · have hb0 : b % 2 = 0 := by omega
      rw [wo_even hb0, blN_cons, blN_cons, if_neg hb, if_neg (by omega), show 2 * wo (b / 2) / 2 = wo (b / 2) by omega,
        ih (b / 2) (by omega) (by rw [Nat.pow_succ] at h; omega)]
      simp [Lib.ctzFrom, hb0]; omega
set_option maxRecDepth 100000 in
theorem bl_wo {b : Nat} (h0 : b ≠ 0) (h : b < 18446744073709551616) : bl b = Lib.ctz 64 b :: bl (wo b) := by
  unfold bl Lib.ctz
  rw [if_neg h0]
  exact blN_wo 64 b h0 (by simpa using h)
set_option maxRecDepth 100000 in
theorem bl_zero : bl 0 = [] := blN_of_zero 64
set_option maxRecDepth 100000 in
theorem bl_length_le (b : Nat) : (bl b).length ≤ 64 := blN_length_le 64 b
set_option maxRecDepth 100000 in
theorem bl_ne_nil {b : Nat} (h0 : b ≠ 0) (h : b < 18446744073709551616) : bl b ≠ [] := by rw [bl_wo h0 h]; simp
set_option maxRecDepth 100000 in
theorem bl_head {b : Nat} (h0 : b ≠ 0) (h : b < 18446744073709551616) : (bl b)[0]? = some (Lib.ctz 64 b) := by rw [bl_wo h0 h]; rfl
set_option maxRecDepth 100000 in
theorem bl_lt {b k : Nat} (h : k ∈ bl b) : k < 64 := (mem_blN.1 h).1
/- THE COUNT OF BITS, AS math/bits HAS IT: in halves, quarters, bytes; each step a byte at a time. -/
def k0 : Nat → Nat | 0 => 0 | k + 1 => 85 + 256 * k0 k
set_option maxRecDepth 100000 in
theorem k0_succ (k : Nat) : k0 (k + 1) = 85 + 256 * k0 k := rfl
def k1 : Nat → Nat | 0 => 0 | k + 1 => 51 + 256 * k1 k
set_option maxRecDepth 100000 in
theorem k1_succ (k : Nat) : k1 (k + 1) = 51 + 256 * k1 k := rfl
def k2 : Nat → Nat | 0 => 0 | k + 1 => 15 + 256 * k2 k
set_option maxRecDepth 100000 in
theorem k2_succ (k : Nat) : k2 (k + 1) = 15 + 256 * k2 k := rfl
def t1 (k x : Nat) : Nat := (x / 2 &&& k0 k) + (x &&& k0 k)
def t2 (k x : Nat) : Nat := (x / 4 &&& k1 k) + (x &&& k1 k)
def t3 (k x : Nat) : Nat := (x / 16 + x) &&& k2 k
set_option maxRecDepth 100000 in
theorem and_byte (x m r : Nat) (hm : m < 256) : x &&& (m + 256 * r) = (x % 256 &&& m) + 256 * (x / 256 &&& r) := by
  have h := Nat.div_add_mod (x &&& (m + 256 * r)) 256
  have h1 : (x &&& (m + 256 * r)) / 256 = x / 256 &&& r := by
    have := Nat.and_div_two_pow (a := x) (b := m + 256 * r) (n := 8)
    rw [show (2 : Nat) ^ 8 = 256 from rfl] at this
    rw [this, show (m + 256 * r) / 256 = r by omega]
  have h2 : (x &&& (m + 256 * r)) % 256 = x % 256 &&& m := by
    have := Nat.and_mod_two_pow (a := x) (b := m + 256 * r) (n := 8)
    rw [show (2 : Nat) ^ 8 = 256 from rfl] at this
    rw [this, show (m + 256 * r) % 256 = m by omega]
  rw [h1, h2] at h
  omega
set_option maxRecDepth 100000 in
theorem byte1 : ∀ d, d < 512 → (d / 2 % 256 &&& 85) + (d % 256 &&& 85) = (d % 256 / 2 &&& 85) + (d % 256 &&& 85) := by decide +kernel
set_option maxRecDepth 100000 in
theorem byte2 : ∀ d, d < 1024 → (d / 4 % 256 &&& 51) + (d % 256 &&& 51) = (d % 256 / 4 &&& 51) + (d % 256 &&& 51) := by decide +kernel
def p1 (d : Nat) : Nat := (d / 2 &&& 85) + (d &&& 85)
def p2 (d : Nat) : Nat := (d / 4 &&& 51) + (d &&& 51)
set_option maxRecDepth 100000 in
theorem t1_succ (k x : Nat) : t1 (k + 1) x = p1 (x % 256) + 256 * t1 k (x / 256) := by
  unfold t1 p1
  rw [k0_succ, and_byte _ _ _ (by decide), and_byte x _ _ (by decide)]
  have h := byte1 (x % 512) (by omega)
  rw [show x % 512 / 2 % 256 = x / 2 % 256 by omega, show x % 512 % 256 = x % 256 by omega] at h
  rw [show x / 2 / 256 = x / 256 / 2 by omega]
  omega
set_option maxRecDepth 100000 in
theorem t2_succ (k x : Nat) : t2 (k + 1) x = p2 (x % 256) + 256 * t2 k (x / 256) := by
  unfold t2 p2
  rw [k1_succ, and_byte _ _ _ (by decide), and_byte x _ _ (by decide)]
  have h := byte2 (x % 1024) (by omega)
  rw [show x % 1024 / 4 % 256 = x / 4 % 256 by omega, show x % 1024 % 256 = x % 256 by omega] at h
  rw [show x / 4 / 256 = x / 256 / 4 by omega]
  omega
set_option maxRecDepth 100000 in
theorem p1_lt : ∀ d, d < 256 → p1 d < 256 := by decide +kernel
set_option maxRecDepth 100000 in
theorem p2_small : ∀ d, d < 256 → p2 (p1 d) < 256 ∧ p2 (p1 d) % 16 ≤ 4 ∧ p2 (p1 d) / 16 ≤ 4 := by decide +kernel
def p3 (d : Nat) : Nat := p2 (p1 d) % 16 + p2 (p1 d) / 16
set_option maxRecDepth 100000 in
theorem p3_bits : ∀ d, d < 256 → p3 d = (blN 8 d).length := by decide +kernel
set_option maxRecDepth 100000 in
theorem t12_succ (k x : Nat) : t2 (k + 1) (t1 (k + 1) x) = p2 (p1 (x % 256)) + 256 * t2 k (t1 k (x / 256)) := by
  have hp := p1_lt (x % 256) (by omega)
  rw [t1_succ, t2_succ, show (p1 (x % 256) + 256 * t1 k (x / 256)) % 256 = p1 (x % 256) by omega, show (p1 (x % 256) + 256 * t1 k (x / 256)) / 256 = t1 k (x / 256) by omega]
set_option maxRecDepth 100000 in
theorem t12_low (k x : Nat) : t2 k (t1 k x) % 16 ≤ 4 := by
  cases k with
  | zero => simp [t2, k1]
  | succ k =>
    have hp := p2_small (x % 256) (by omega)
    rw [t12_succ]; omega
set_option maxRecDepth 100000 in
theorem and15 (n : Nat) : n &&& 15 = n % 16 := Nat.and_two_pow_sub_one_eq_mod n 4
set_option maxRecDepth 100000 in
theorem t123_succ (k x : Nat) : t3 (k + 1) (t2 (k + 1) (t1 (k + 1) x)) = p3 (x % 256) + 256 * t3 k (t2 k (t1 k (x / 256))) := by
  have hp := p2_small (x % 256) (by omega)
  have hl := t12_low k (x / 256)
  rw [t12_succ]
  unfold t3 p3
  rw [k2_succ]
  generalize p2 (p1 (x % 256)) = d at hp
  generalize t2 k (t1 k (x / 256)) = y at hl
  rw [and_byte _ _ _ (by decide), and15, show ((d + 256 * y) / 16 + (d + 256 * y)) / 256 = y / 16 + y by omega]
  omega
set_option maxRecDepth 100000 in
theorem blN_length_add (n : Nat) : ∀ m b, (blN (m + n) b).length = (blN m (b % 2 ^ m)).length + (blN n (b / 2 ^ m)).length
  | 0, b => by simp [blN_zero]
  | m + 1, b => by
    rw [show m + 1 + n = (m + n) + 1 by omega, blN_length_succ, blN_length_add n m, blN_length_succ m, Nat.pow_succ, Nat.mul_comm (2 ^ m) 2,
      Nat.mod_mul_right_div_self, Nat.div_div_eq_div_mul, Nat.mod_mul_right_mod]
    omega
set_option maxRecDepth 100000 in
theorem blN_length_byte (n b : Nat) : (blN (n + 8) b).length = (blN 8 (b % 256)).length + (blN n (b / 256)).length := by
  rw [Nat.add_comm n 8, blN_length_add n 8 b]
/-- The eight bytes' counts, side by side. -/
def pb : Nat → Nat → Nat | 0, _ => 0 | k + 1, x => p3 (x % 256) + 256 * pb k (x / 256)
def pw : Nat → Nat → Nat | 0, _ => 0 | k + 1, x => p3 (x % 256) + pw k (x / 256)
set_option maxRecDepth 100000 in
theorem t123_pb : ∀ k x, t3 k (t2 k (t1 k x)) = pb k x
  | 0, x => by simp [t3, k2, pb]
  | k + 1, x => by rw [t123_succ, t123_pb k, pb]
set_option maxRecDepth 100000 in
theorem pw_bits : ∀ k x, pw k x = (blN (8 * k) x).length
  | 0, x => rfl
  | k + 1, x => by rw [pw, show 8 * (k + 1) = 8 * k + 8 by omega, blN_length_byte, p3_bits _ (by omega), pw_bits k]
set_option maxRecDepth 100000 in
theorem p3_le (d : Nat) (h : d < 256) : p3 d ≤ 8 := by rw [p3_bits d h]; exact blN_length_le 8 d
set_option maxRecDepth 100000 in
theorem t1_le (k x : Nat) : t1 k x ≤ 2 * k0 k := by
  unfold t1
  have h1 := Nat.and_le_right (n := x / 2) (m := k0 k)
  have h2 := Nat.and_le_right (n := x) (m := k0 k)
  omega
set_option maxRecDepth 100000 in
theorem t2_le (k x : Nat) : t2 k x ≤ 2 * k1 k := by
  unfold t2
  have h1 := Nat.and_le_right (n := x / 4) (m := k1 k)
  have h2 := Nat.and_le_right (n := x) (m := k1 k)
  omega
set_option maxRecDepth 100000 in
theorem k0_8 : k0 8 = 6148914691236517205 := by decide +kernel
set_option maxRecDepth 100000 in
theorem k1_8 : k1 8 = 3689348814741910323 := by decide +kernel
set_option maxRecDepth 100000 in
theorem k2_8 : k2 8 = 1085102592571150095 := by decide +kernel
set_option maxRecDepth 100000 in
theorem dv (x a r B : Nat) (hB : 0 < B) (ha : a < B) (h : x = a + B * r) : x / B = r := by
  subst h; rw [Nat.add_mul_div_left _ _ hB, Nat.div_eq_of_lt ha, Nat.zero_add]
set_option maxRecDepth 100000 in
theorem sum8 (a0 a1 a2 a3 a4 a5 a6 a7 r1 r2 r3 r4 r5 r6 r7 x y z : Nat) (h0 : a0 ≤ 8) (h1 : a1 ≤ 8) (h2 : a2 ≤ 8) (h3 : a3 ≤ 8) (h4 : a4 ≤ 8) (h5 : a5 ≤ 8) (h6 : a6 ≤ 8) (h7 : a7 ≤ 8)
    (hx : x = a0 + 256 * r1) (e1 : r1 = a1 + 256 * r2) (e2 : r2 = a2 + 256 * r3) (e3 : r3 = a3 + 256 * r4) (e4 : r4 = a4 + 256 * r5) (e5 : r5 = a5 + 256 * r6) (e6 : r6 = a6 + 256 * r7) (e7 : r7 = a7 + 256 * 0)
    (hy : y = x + x / 256) (hz : z = y + y / 65536) : ∃ t, z + z / 4294967296 = (a0 + (a1 + (a2 + (a3 + (a4 + (a5 + (a6 + (a7 + 0)))))))) + 256 * t ∧ z + z / 4294967296 < 18446744073709551616 := by
  rw [dv x a0 r1 256 (by decide) (by omega) hx] at hy
  have f1 : y = ((a0 + a1) + 256 * (a1 + a2)) + 65536 * (r2 + r3) := by rw [hy, hx, e1, e2]; clear hy hz hx; omega
  rw [dv y _ _ 65536 (by decide) (by omega) f1] at hz
  have f2 : z = ((a0 + a1 + a2 + a3) + 256 * (a1 + a2 + a3 + a4) + 65536 * (a2 + a3 + a4 + a5) + 16777216 * (a3 + a4 + a5 + a6)) + 4294967296 * (r4 + r5 + r6 + r7) := by
    rw [hz, f1]; clear hy hz hx f1 e1 e7; omega
  rw [dv z _ _ 4294967296 (by decide) (by omega) f2, f2]
  clear hy hz hx f1 f2 e1 e2 e3
  refine ⟨(a1 + a2 + a3 + a4) + 256 * (a2 + a3 + a4 + a5) + 65536 * (a3 + a4 + a5 + a6) + 16777216 * (r4 + r5 + r6 + r7) + r5 + r6 + r7, ?_, ?_⟩ <;> omega
set_option maxRecDepth 100000 in
/-- math/bits.OnesCount64 of a number: how many bits it has. -/
theorem ones_sum (x v y z : Nat) (hv : v = t3 8 (t2 8 (t1 8 x))) (hy : y = v + v / 256) (hz : z = y + y / 65536) :
    (z + z / 4294967296) % 128 = (bl x).length ∧ v < 18446744073709551616 ∧ y < 18446744073709551616 ∧ z < 18446744073709551616 ∧ z + z / 4294967296 < 18446744073709551616 := by
  rw [t123_pb 8 x] at hv
  have hl : pw 8 x = (bl x).length := pw_bits 8 x
  simp only [pb] at hv
  simp only [pw] at hl
  have b0 := p3_le (x % 256) (by omega)
  have b1 := p3_le (x / 256 % 256) (Nat.mod_lt _ (by decide))
  have b2 := p3_le (x / 256 / 256 % 256) (Nat.mod_lt _ (by decide))
  have b3 := p3_le (x / 256 / 256 / 256 % 256) (Nat.mod_lt _ (by decide))
  have b4 := p3_le (x / 256 / 256 / 256 / 256 % 256) (Nat.mod_lt _ (by decide))
  have b5 := p3_le (x / 256 / 256 / 256 / 256 / 256 % 256) (Nat.mod_lt _ (by decide))
  have b6 := p3_le (x / 256 / 256 / 256 / 256 / 256 / 256 % 256) (Nat.mod_lt _ (by decide))
  have b7 := p3_le (x / 256 / 256 / 256 / 256 / 256 / 256 / 256 % 256) (Nat.mod_lt _ (by decide))
  obtain ⟨t, ht, hlt⟩ := sum8 _ _ _ _ _ _ _ _ _ _ _ _ _ _ _ v y z b0 b1 b2 b3 b4 b5 b6 b7 hv rfl rfl rfl rfl rfl rfl rfl hy hz
  rw [hl] at ht
  have hle := bl_length_le x
  have v1 : v ≤ y := by rw [hy]; exact Nat.le_add_right _ _
  have y1 : y ≤ z := by rw [hz]; exact Nat.le_add_right _ _
  have z1 : z ≤ z + z / 4294967296 := Nat.le_add_right _ _
  generalize z + z / 4294967296 = q at ht hlt z1
  clear hv hy hz hl b0 b1 b2 b3 b4 b5 b6 b7
  omega
/-- The number of the k bits of f from a on, the first one the most significant. -/
def num (f : Nat → Bool) (a : Nat) : Nat → Nat
  | 0 => 0
  | k + 1 => 2 * num f a k + (f (a + k)).toNat
set_option maxRecDepth 100000 in
theorem num_lt (f : Nat → Bool) (a : Nat) : ∀ k, num f a k < 2 ^ k
  | 0 => by simp [num]
  | k + 1 => by
    have h := num_lt f a k
    have h2 : (f (a + k)).toNat ≤ 1 := Bool.toNat_le _
    rw [num, Nat.pow_succ]; omega
set_option maxRecDepth 100000 in
theorem num_test (f : Nat → Bool) (a : Nat) : ∀ k i, (num f a k).testBit i = (decide (i < k) && f (a + (k - 1 - i)))
  | 0, i => by simp [num]
  | k + 1, 0 => by
    rw [num, Nat.testBit_zero]
    cases h : f (a + k) <;> simp [h] <;> omega
  | k + 1, i + 1 => by
    rw [num, Nat.testBit_succ]
    have e : (2 * num f a k + (f (a + k)).toNat) / 2 = num f a k := by
      have h2 : (f (a + k)).toNat ≤ 1 := Bool.toNat_le _
      omega
    rw [e, num_test f a k i, show k + 1 - 1 - (i + 1) = k - 1 - i by omega]
    congr 1
    rw [decide_eq_decide]; omega
set_option maxRecDepth 100000 in
theorem num_congr {f g : Nat → Bool} {a b : Nat} : ∀ k, (∀ t, t < k → f (a + t) = g (b + t)) → num f a k = num g b k
  | 0, _ => rfl
  | k + 1, h => by rw [num, num, num_congr k (fun t ht => h t (by omega)), h k (by omega)]
set_option maxRecDepth 100000 in
theorem num_eq {f : Nat → Bool} {a k x : Nat} (hx : x < 2 ^ k) (h : ∀ t, t < k → x.testBit (k - 1 - t) = f (a + t)) : x = num f a k := by
  apply Nat.eq_of_testBit_eq
  intro i
  rw [num_test]
  by_cases hi : i < k
  · have e := h (k - 1 - i) (by omega)
    rw [show k - 1 - (k - 1 - i) = i by omega] at e
    rw [e]; simp [hi]
  · rw [Nat.testBit_lt_two_pow (Nat.lt_of_lt_of_le hx (Nat.pow_le_pow_right (by decide) (by omega)))]
    simp [hi]
set_option maxRecDepth 100000 in
theorem num_add (f : Nat → Bool) (a j : Nat) : ∀ k, num f a (j + k) = num f a j * 2 ^ k + num f (a + j) k
  | 0 => by simp [num]
  | k + 1 => by
    have e := num_add f a j k
    rw [show j + (k + 1) = (j + k) + 1 by omega, num, e, num, Nat.pow_succ, Nat.add_assoc a j k]
    generalize num f a j = x
    generalize 2 ^ k = y
    rw [Nat.mul_add, ← Nat.mul_assoc, ← Nat.mul_assoc]
    have e2 : 2 * x * y = x * y * 2 := by rw [Nat.mul_comm 2 x, Nat.mul_assoc, Nat.mul_comm 2 y, Nat.mul_assoc]
    have e3 : x * (y * 2) = x * y * 2 := by rw [Nat.mul_assoc]
    omega
/-- Bit i of a list of bytes. -/
def bt (l : List Nat) (i : Nat) : Bool := (l.getD (i / 8) 0).testBit (7 - i % 8)
/-- Byte j of the bits f, cut at m. -/
def py (f : Nat → Bool) (m j : Nat) : Nat := num (fun i => decide (i < m) && f i) (8 * j) 8
/-- N bytes of the bits f, cut at m. -/
def pz (f : Nat → Bool) (m N : Nat) : List Nat := (List.range N).map (py f m)
set_option maxRecDepth 100000 in
theorem py_lt (f : Nat → Bool) (m j : Nat) : py f m j < 256 := num_lt _ _ 8
set_option maxRecDepth 100000 in
theorem py_test (f : Nat → Bool) (m j i : Nat) : (py f m j).testBit i = (decide (i < 8) && (decide (8 * j + (7 - i) < m) && f (8 * j + (7 - i)))) := by
  unfold py; rw [num_test]
set_option maxRecDepth 100000 in
theorem pz_len (f : Nat → Bool) (m N : Nat) : (pz f m N).length = N := by unfold pz; simp
set_option maxRecDepth 100000 in
theorem pz_at (f : Nat → Bool) (m N j : Nat) (h : j < N) : (pz f m N)[j]? = some (py f m j) := by
  unfold pz; rw [List.getElem?_map, List.getElem?_range h]; rfl
set_option maxRecDepth 100000 in
theorem pz_getD (f : Nat → Bool) (m N j : Nat) (h : j < N) : (pz f m N).getD j 0 = py f m j := by
  rw [List.getD_eq_getElem?_getD, pz_at f m N j h]; rfl
set_option maxRecDepth 100000 in
theorem pz_lt (f : Nat → Bool) (m N : Nat) : ∀ x ∈ pz f m N, x < 256 := by
  intro x hx
  unfold pz at hx
  obtain ⟨j, _, rfl⟩ := List.mem_map.1 hx
  exact py_lt _ _ _
set_option maxRecDepth 100000 in
theorem bt_pz (f : Nat → Bool) (m N i : Nat) (h : i < 8 * N) : bt (pz f m N) i = (decide (i < m) && f i) := by
  unfold bt
  rw [pz_getD f m N _ (by omega), py_test]
  rw [show 8 * (i / 8) + (7 - (7 - i % 8)) = i by omega]
  simp; omega
set_option maxRecDepth 100000 in
theorem py_congr {f g : Nat → Bool} {m n j : Nat} (h : ∀ i, 8 * j ≤ i → i < 8 * j + 8 → (decide (i < m) && f i) = (decide (i < n) && g i)) : py f m j = py g n j := by
  unfold py
  exact num_congr 8 fun t ht => h (8 * j + t) (by omega) (by omega)
set_option maxRecDepth 100000 in
theorem pz_congr {f g : Nat → Bool} {m n N : Nat} (h : ∀ i, i < 8 * N → (decide (i < m) && f i) = (decide (i < n) && g i)) : pz f m N = pz g n N := by
  unfold pz
  apply List.map_congr_left
  intro j hj
  have hj := List.mem_range.1 hj
  exact py_congr fun i h1 h2 => h i (by omega)
set_option maxRecDepth 100000 in
theorem pz_zero (f : Nat → Bool) (N : Nat) : pz f 0 N = List.replicate N 0 := by
  apply List.ext_getElem?
  intro i
  by_cases hi : i < N
  · rw [pz_at f 0 N i hi, List.getElem?_replicate, if_pos hi]
    congr 1
  · rw [List.getElem?_eq_none (by rw [pz_len]; omega), List.getElem?_eq_none (by simpa using hi)]
set_option maxRecDepth 100000 in
/-- A list of bytes is what its bits say. -/
theorem pz_bt (l : List Nat) (m : Nat) (hl : ∀ x ∈ l, x < 256) (hz : ∀ i, m ≤ i → i < 8 * l.length → bt l i = false) : l = pz (bt l) m l.length := by
  apply List.ext_getElem?
  intro j
  by_cases hj : j < l.length
  · rw [pz_at _ _ _ _ hj, List.getElem?_eq_getElem hj]
    congr 1
    have hlt := hl _ (List.getElem_mem hj)
    apply num_eq (k := 8) hlt
    intro t ht
    have e : bt l (8 * j + t) = (l[j]).testBit (8 - 1 - t) := by
      unfold bt
      rw [show (8 * j + t) / 8 = j by omega, show 7 - (8 * j + t) % 8 = 8 - 1 - t by omega, List.getD_eq_getElem?_getD, List.getElem?_eq_getElem hj]; rfl
    show _ = (decide (8 * j + t < m) && bt l (8 * j + t))
    by_cases hm : 8 * j + t < m
    · rw [e]; simp [hm]
    · rw [hz _ (by omega) (by omega)] at e
      rw [← e]; simp [hm]
  · rw [List.getElem?_eq_none (by omega), List.getElem?_eq_none (by rw [pz_len]; omega)]
set_option maxRecDepth 100000 in
/-- Bits behind m within the byte are 0 ahead of it. -/
theorem py_zero (f : Nat → Bool) {m j : Nat} (h : m ≤ 8 * j) : py f m j = 0 := by
  apply Nat.eq_of_testBit_eq
  intro t
  rw [py_test]
  have : ¬ 8 * j + (7 - t) < m := by omega
  simp [this]
set_option maxRecDepth 100000 in
/-- A byte gets k bits more. -/
theorem py_or (f : Nat → Bool) (m k : Nat) (hk : m % 8 + k ≤ 8) : py f m (m / 8) ||| (num f m k * 2 ^ (8 - m % 8 - k)) = py f (m + k) (m / 8) := by
  apply Nat.eq_of_testBit_eq
  intro i
  rw [Nat.testBit_or, ← Nat.shiftLeft_eq, Nat.testBit_shiftLeft, py_test, py_test, num_test]
  generalize hr : m % 8 = r at *
  have hm : m = 8 * (m / 8) + r := by omega
  generalize m / 8 = j at *
  subst hm
  by_cases h8 : i < 8
  · by_cases h1 : 8 * j + (7 - i) < 8 * j + r
    · have e1 : ¬ (i - (8 - r - k) < k ∧ i ≥ 8 - r - k) := by omega
      have e2 : 8 * j + (7 - i) < 8 * j + r + k := by omega
      by_cases e3 : i ≥ 8 - r - k
      · have e4 : ¬ i - (8 - r - k) < k := by omega
        simp [h8, h1, e2, e3, e4]
      · simp [h8, h1, e2, e3]
    · by_cases h2 : 8 * j + (7 - i) < 8 * j + r + k
      · have e1 : i - (8 - r - k) < k := by omega
        have e3 : i ≥ 8 - r - k := by omega
        have e5 : 8 * j + r + (k - 1 - (i - (8 - r - k))) = 8 * j + (7 - i) := by omega
        simp only [h8, h1, h2, e1, e3, e5, decide_true, decide_false, Bool.true_and, Bool.false_and, Bool.false_or]
      · have e3 : ¬ i ≥ 8 - r - k := by omega
        simp [h8, h1, h2, e3]
  · have e1 : ¬ i - (8 - r - k) < k := by omega
    simp [h8, e1]
set_option maxRecDepth 100000 in
/-- Other bytes are as they were. -/
theorem pz_set (f : Nat → Bool) (m k N : Nat) (hk : m % 8 + k ≤ 8) (hN : m / 8 < N) : (pz f m N).set (m / 8) (py f (m + k) (m / 8)) = pz f (m + k) N := by
  apply List.ext_getElem?
  intro j
  rw [List.getElem?_set, pz_len]
  by_cases hj : j < N
  · rw [pz_at _ _ _ _ hj]
    by_cases e : m / 8 = j
    · rw [if_pos e, if_pos hN, e, pz_at _ _ _ _ hj]
    · rw [if_neg e, pz_at _ _ _ _ hj]
      refine congrArg some (py_congr fun i h1 h2 => ?_)
      rw [show decide (i < m) = decide (i < m + k) by rw [decide_eq_decide]; omega]
  · rw [if_neg (by omega), List.getElem?_eq_none (by rw [pz_len]; omega), List.getElem?_eq_none (by rw [pz_len]; omega)]
set_option maxRecDepth 100000 in
/-- k bits out of a byte. -/
theorem num_byte (x s k a r : Nat) (f : Nat → Bool) (hs : s + k + r = 8) (h : ∀ t, t < k → f (a + t) = x.testBit (7 - (r + t))) : x / 2 ^ s % 2 ^ k = num f a k := by
  apply num_eq (Nat.mod_lt _ (Nat.pow_pos (by decide)))
  intro t ht
  rw [Nat.testBit_mod_two_pow, Nat.testBit_div_two_pow, h t ht]
  have e : k - 1 - t + s = 7 - (r + t) := by omega
  rw [e]
  have : k - 1 - t < k := by omega
  simp [this]
set_option maxRecDepth 100000 in
/-- k bits out of a number. -/
theorem num_word (x n k a : Nat) (f : Nat → Bool) (hk : k ≤ n) (h : ∀ t, t < k → f (a + t) = x.testBit (n - 1 - t)) : x / 2 ^ (n - k) % 2 ^ k = num f a k := by
  apply num_eq (Nat.mod_lt _ (Nat.pow_pos (by decide)))
  intro t ht
  rw [Nat.testBit_mod_two_pow, Nat.testBit_div_two_pow, h t ht]
  have e : k - 1 - t + (n - k) = n - 1 - t := by omega
  rw [e]
  have : k - 1 - t < k := by omega
  simp [this]
set_option maxRecDepth 100000 in
theorem num_self (x n : Nat) (hx : x < 2 ^ n) (a : Nat) (f : Nat → Bool) (h : ∀ t, t < n → f (a + t) = x.testBit (n - 1 - t)) : num f a n = x :=
  (num_eq hx fun t ht => (h t ht).symm).symm
end Bs
end Go.Proofs.YtnfgkakhdgiepaaDoor
