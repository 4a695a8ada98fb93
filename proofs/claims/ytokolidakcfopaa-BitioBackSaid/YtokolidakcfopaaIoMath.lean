/- Numbers as their bits; bytes as theirs; streams of bits as lists of bytes; the check number. No program is named here. -/
import Derived.IntWalk
namespace Go.Proofs.Ytokolidakcfopaa
namespace Bs
/-- The number of the k bits of f from a on, the first one the most significant. -/
def num (f : Nat → Bool) (a : Nat) : Nat → Nat
  | 0 => 0
  | k + 1 => 2 * num f a k + (f (a + k)).toNat
theorem num_lt (f : Nat → Bool) (a : Nat) : ∀ k, num f a k < 2 ^ k
  | 0 => by simp [num]
  | k + 1 => by
    have h := num_lt f a k
    have h2 : (f (a + k)).toNat ≤ 1 := Bool.toNat_le _
    rw [num, Nat.pow_succ]; omega
theorem num_test (f : Nat → Bool) (a : Nat) : ∀ k i, (num f a k).testBit i = (decide (i < k) && f (a + (k - 1 - i)))
  | 0, i => by simp [num]
  | k + 1, 0 => by
    rw [num, Nat.testBit_zero]
    cases h : f (a + k) <;> simp [h] <;> omega
  | k + 1, i + 1 => by
    rw [num, Nat.testBit_succ]
    have e : (2 * num f a k + (f (a + k)).toNat) / 2 = num f a k := by
      have h2 : (f (a + k)).toNat ≤ 1 := Bool.toNat_le _
      omega
    rw [e, num_test f a k i, show k + 1 - 1 - (i + 1) = k - 1 - i by omega]
    congr 1
    rw [decide_eq_decide]; omega
theorem num_congr {f g : Nat → Bool} {a b : Nat} : ∀ k, (∀ t, t < k → f (a + t) = g (b + t)) → num f a k = num g b k
  | 0, _ => rfl
  | k + 1, h => by rw [num, num, num_congr k (fun t ht => h t (by omega)), h k (by omega)]
theorem num_eq {f : Nat → Bool} {a k x : Nat} (hx : x < 2 ^ k) (h : ∀ t, t < k → x.testBit (k - 1 - t) = f (a + t)) : x = num f a k := by
  apply Nat.eq_of_testBit_eq
  intro i
  rw [num_test]
  by_cases hi : i < k
  · have e := h (k - 1 - i) (by omega)
    rw [show k - 1 - (k - 1 - i) = i by omega] at e
    rw [e]; simp [hi]
  · rw [Nat.testBit_lt_two_pow (Nat.lt_of_lt_of_le hx (Nat.pow_le_pow_right (by decide) (by omega)))]
    simp [hi]
theorem num_add (f : Nat → Bool) (a j : Nat) : ∀ k, num f a (j + k) = num f a j * 2 ^ k + num f (a + j) k
  | 0 => by simp [num]
  | k + 1 => by
    have e := num_add f a j k
    rw [show j + (k + 1) = (j + k) + 1 by omega, num, e, num, Nat.pow_succ, Nat.add_assoc a j k]
    generalize num f a j = x
    generalize 2 ^ k = y
    rw [Nat.mul_add, ← Nat.mul_assoc, ← Nat.mul_assoc]
    have e2 : 2 * x * y = x * y * 2 := by rw [Nat.mul_comm 2 x, Nat.mul_assoc, Nat.mul_comm 2 y, Nat.mul_assoc]
    have e3 : x * (y * 2) = x * y * 2 := by rw [Nat.mul_assoc]
    omega
/-- Bit i of a list of bytes. -/
def bt (l : List Nat) (i : Nat) : Bool := (l.getD (i / 8) 0).testBit (7 - i % 8)
/-- Byte j of the bits f, cut at m. -/
def py (f : Nat → Bool) (m j : Nat) : Nat := num (fun i => decide (i < m) && f i) (8 * j) 8
/-- N bytes of the bits f, cut at m. -/
def pz (f : Nat → Bool) (m N : Nat) : List Nat := (List.range N).map (py f m)
theorem py_lt (f : Nat → Bool) (m j : Nat) : py f m j < 256 := num_lt _ _ 8
theorem py_test (f : Nat → Bool) (m j i : Nat) : (py f m j).testBit i = (decide (i < 8) && (decide (8 * j + (7 - i) < m) && f (8 * j + (7 - i)))) := by
  unfold py; rw [num_test]
theorem pz_len (f : Nat → Bool) (m N : Nat) : (pz f m N).length = N := by unfold pz; simp
theorem pz_at (f : Nat → Bool) (m N j : Nat) (h : j < N) : (pz f m N)[j]? = some (py f m j) := by
  unfold pz; rw [List.getElem?_map, List.getElem?_range h]; rfl
theorem pz_getD (f : Nat → Bool) (m N j : Nat) (h : j < N) : (pz f m N).getD j 0 = py f m j := by
  rw [List.getD_eq_getElem?_getD, pz_at f m N j h]; rfl
theorem pz_lt (f : Nat → Bool) (m N : Nat) : ∀ x ∈ pz f m N, x < 256 := by
  intro x hx
  unfold pz at hx
  obtain ⟨j, _, rfl⟩ := List.mem_map.1 hx
  exact py_lt _ _ _
theorem bt_pz (f : Nat → Bool) (m N i : Nat) (h : i < 8 * N) : bt (pz f m N) i = (decide (i < m) && f i) := by
  unfold bt
  rw [pz_getD f m N _ (by omega), py_test]
  rw [show 8 * (i / 8) + (7 - (7 - i % 8)) = i by omega]
  simp; omega
theorem py_congr {f g : Nat → Bool} {m n j : Nat} (h : ∀ i, 8 * j ≤ i → i < 8 * j + 8 → (decide (i < m) && f i) = (decide (i < n) && g i)) : py f m j = py g n j := by
  unfold py
  exact num_congr 8 fun t ht => h (8 * j + t) (by omega) (by omega)
theorem pz_congr {f g : Nat → Bool} {m n N : Nat} (h : ∀ i, i < 8 * N → (decide (i < m) && f i) = (decide (i < n) && g i)) : pz f m N = pz g n N := by
  unfold pz
  apply List.map_congr_left
  intro j hj
  have hj := List.mem_range.1 hj
  exact py_congr fun i h1 h2 => h i (by omega)
theorem pz_zero (f : Nat → Bool) (N : Nat) : pz f 0 N = List.replicate N 0 := by
  apply List.ext_getElem?
  intro i
  by_cases hi : i < N
  · rw [pz_at f 0 N i hi, List.getElem?_replicate, if_pos hi]
    congr 1
  · rw [List.getElem?_eq_none (by rw [pz_len]; omega), List.getElem?_eq_none (by simpa using hi)]
/-- A list of bytes is what its bits say. -/
theorem pz_bt (l : List Nat) (m : Nat) (hl : ∀ x ∈ l, x < 256) (hz : ∀ i, m ≤ i → i < 8 * l.length → bt l i = false) : l = pz (bt l) m l.length := by
  apply List.ext_getElem?
  intro j
  by_cases hj : j < l.length
  · rw [pz_at _ _ _ _ hj, List.getElem?_eq_getElem hj]
    congr 1
    have hlt := hl _ (List.getElem_mem hj)
    apply num_eq (k := 8) hlt
    intro t ht
    have e : bt l (8 * j + t) = (l[j]).testBit (8 - 1 - t) := by
      unfold bt
      rw [show (8 * j + t) / 8 = j by omega, show 7 - (8 * j + t) % 8 = 8 - 1 - t by omega, List.getD_eq_getElem?_getD, List.getElem?_eq_getElem hj]; rfl
    show _ = (decide (8 * j + t < m) && bt l (8 * j + t))
    by_cases hm : 8 * j + t < m
    · rw [e]; simp [hm]
    · rw [hz _ (by omega) (by omega)] at e
      rw [← e]; simp [hm]
  · rw [List.getElem?_eq_none (by omega), List.getElem?_eq_none (by rw [pz_len]; omega)]
/-- Bits behind m within the byte are 0 ahead of it. -/
theorem py_zero (f : Nat → Bool) {m j : Nat} (h : m ≤ 8 * j) : py f m j = 0 := by
  apply Nat.eq_of_testBit_eq
  intro t
  rw [py_test]
  have : ¬ 8 * j + (7 - t) < m := by omega
  simp [this]
/-- A byte gets k bits more. -/
theorem py_or (f : Nat → Bool) (m k : Nat) (hk : m % 8 + k ≤ 8) : py f m (m / 8) ||| (num f m k * 2 ^ (8 - m % 8 - k)) = py f (m + k) (m / 8) := by
  apply Nat.eq_of_testBit_eq
  intro i
  rw [Nat.testBit_or, ← Nat.shiftLeft_eq, Nat.testBit_shiftLeft, py_test, py_test, num_test]
  generalize hr : m % 8 = r at *
  have hm : m = 8 * (m / 8) + r := by omega
  generalize m / 8 = j at *
  subst hm
  by_cases h8 : i < 8
  · by_cases h1 : 8 * j + (7 - i) < 8 * j + r
    · have e1 : ¬ (i - (8 - r - k) < k ∧ i ≥ 8 - r - k) := by omega
      have e2 : 8 * j + (7 - i) < 8 * j + r + k := by omega
      by_cases e3 : i ≥ 8 - r - k
      · have e4 : ¬ i - (8 - r - k) < k := by omega
        simp [h8, h1, e2, e3, e4]
      · simp [h8, h1, e2, e3]
    · by_cases h2 : 8 * j + (7 - i) < 8 * j + r + k
      · have e1 : i - (8 - r - k) < k := by omega
        have e3 : i ≥ 8 - r - k := by omega
        have e5 : 8 * j + r + (k - 1 - (i - (8 - r - k))) = 8 * j + (7 - i) := by omega
        simp only [h8, h1, h2, e1, e3, e5, decide_true, decide_false, Bool.true_and, Bool.false_and, Bool.false_or]
      · have e3 : ¬ i ≥ 8 - r - k := by omega
        simp [h8, h1, h2, e3]
  · have e1 : ¬ i - (8 - r - k) < k := by omega
    simp [h8, e1]
/-- Other bytes are as they were. -/
theorem pz_set (f : Nat → Bool) (m k N : Nat) (hk : m % 8 + k ≤ 8) (hN : m / 8 < N) : (pz f m N).set (m / 8) (py f (m + k) (m / 8)) = pz f (m + k) N := by
  apply List.ext_getElem?
  intro j
  rw [List.getElem?_set, pz_len]
  by_cases hj : j < N
  · rw [pz_at _ _ _ _ hj]
    by_cases e : m / 8 = j
    · rw [if_pos e, if_pos hN, e, pz_at _ _ _ _ hj]
    · rw [if_neg e, pz_at _ _ _ _ hj]
      refine congrArg some (py_congr fun i h1 h2 => ?_)
      rw [show decide (i < m) = decide (i < m + k) by rw [decide_eq_decide]; omega]
  · rw [if_neg (by omega), List.getElem?_eq_none (by rw [pz_len]; omega), List.getElem?_eq_none (by rw [pz_len]; omega)]
/-- k bits out of a byte. -/
theorem num_byte (x s k a r : Nat) (f : Nat → Bool) (hs : s + k + r = 8) (h : ∀ t, t < k → f (a + t) = x.testBit (7 - (r + t))) : x / 2 ^ s % 2 ^ k = num f a k := by
  apply num_eq (Nat.mod_lt _ (Nat.pow_pos (by decide)))
  intro t ht
  rw [Nat.testBit_mod_two_pow, Nat.testBit_div_two_pow, h t ht]
  have e : k - 1 - t + s = 7 - (r + t) := by omega
  rw [e]
  have : k - 1 - t < k := by omega
  simp [this]
/-- k bits out of a number. -/
theorem num_word (x n k a : Nat) (f : Nat → Bool) (hk : k ≤ n) (h : ∀ t, t < k → f (a + t) = x.testBit (n - 1 - t)) : x / 2 ^ (n - k) % 2 ^ k = num f a k := by
  apply num_eq (Nat.mod_lt _ (Nat.pow_pos (by decide)))
  intro t ht
  rw [Nat.testBit_mod_two_pow, Nat.testBit_div_two_pow, h t ht]
  have e : k - 1 - t + (n - k) = n - 1 - t := by omega
  rw [e]
  have : k - 1 - t < k := by omega
  simp [this]
theorem num_self (x n : Nat) (hx : x < 2 ^ n) (a : Nat) (f : Nat → Bool) (h : ∀ t, t < n → f (a + t) = x.testBit (n - 1 - t)) : num f a n = x :=
  (num_eq hx fun t ht => (h t ht).symm).symm
end Bs
end Go.Proofs.Ytokolidakcfopaa
