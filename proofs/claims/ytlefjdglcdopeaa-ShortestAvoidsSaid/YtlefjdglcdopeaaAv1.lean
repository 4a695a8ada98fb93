/- Parts of the proof, packed: IoMath, IoWord, IoLeaf, IoTape, IoMem, IoRead, IoWild, ToKit, IoWrite. -/
import Derived.IntWalk
import Derived.Laws.BitsAllLaws
import Derived.RowKit3
import Derived.Test.YtlefjdglcdopeaaRows
import Derived.WalkKit
import Derived.WalkSpells
import Derived.WalkLawsBesides
import Derived.Lib.Hide
import Derived.Deep.QuietTactic
import Derived.BigQuiet
import Derived.ProofKit
import Derived.OpenShut
import Derived.Deep.DeepHandedRow
import Derived.Lib.SmallJoins
import Derived.BigRegion
/- Numbers as their bits; bytes as theirs; streams of bits as lists of bytes; the check number. No program is named here. -/
namespace Go.Proofs.Ytlefjdglcdopeaa
namespace Bs
/-- The number of the k bits of f from a on, the first one the most significant. -/
def num (f : Nat → Bool) (a : Nat) : Nat → Nat
  | 0 => 0
  | k + 1 => 2 * num f a k + (f (a + k)).toNat
set_option maxRecDepth 100000 in
theorem num_lt (f : Nat → Bool) (a : Nat) : ∀ k, num f a k < 2 ^ k
  | 0 => by simp [num]
  | k + 1 => by
    have h := num_lt f a k
    have h2 : (f (a + k)).toNat ≤ 1 := Bool.toNat_le _
    rw [num, Nat.pow_succ]; omega
set_option maxRecDepth 100000 in
theorem num_test (f : Nat → Bool) (a : Nat) : ∀ k i, (num f a k).testBit i = (decide (i < k) && f (a + (k - 1 - i)))
  | 0, i => by simp [num]
  | k + 1, 0 => by
    rw [num, Nat.testBit_zero]
    cases h : f (a + k) <;> simp [h] <;> omega
  | k + 1, i + 1 => by
    rw [num, Nat.testBit_succ]
    have e : (2 * num f a k + (f (a + k)).toNat) / 2 = num f a k := by
      have h2 : (f (a + k)).toNat ≤ 1 := Bool.toNat_le _
      omega
    rw [e, num_test f a k i, show k + 1 - 1 - (i + 1) = k - 1 - i by omega]
    congr 1
    rw [decide_eq_decide]; omega
set_option maxRecDepth 100000 in
theorem num_congr {f g : Nat → Bool} {a b : Nat} : ∀ k, (∀ t, t < k → f (a + t) = g (b + t)) → num f a k = num g b k
  | 0, _ => rfl
  | k + 1, h => by rw [num, num, num_congr k (fun t ht => h t (by omega)), h k (by omega)]
set_option maxRecDepth 100000 in
theorem num_eq {f : Nat → Bool} {a k x : Nat} (hx : x < 2 ^ k) (h : ∀ t, t < k → x.testBit (k - 1 - t) = f (a + t)) : x = num f a k := by
  apply Nat.eq_of_testBit_eq
  intro i
  rw [num_test]
  by_cases hi : i < k
  · have e := h (k - 1 - i) (by omega)
    rw [show k - 1 - (k - 1 - i) = i by omega] at e
    rw [e]; simp [hi]
  · rw [Nat.testBit_lt_two_pow (Nat.lt_of_lt_of_le hx (Nat.pow_le_pow_right (by decide) (by omega)))]
    simp [hi]
set_option maxRecDepth 100000 in
theorem num_add (f : Nat → Bool) (a j : Nat) : ∀ k, num f a (j + k) = num f a j * 2 ^ k + num f (a + j) k
  | 0 => by simp [num]
  | k + 1 => by
    have e := num_add f a j k
    rw [show j + (k + 1) = (j + k) + 1 by omega, num, e, num, Nat.pow_succ, Nat.add_assoc a j k]
    generalize num f a j = x
    generalize 2 ^ k = y
    rw [Nat.mul_add, ← Nat.mul_assoc, ← Nat.mul_assoc]
    have e2 : 2 * x * y = x * y * 2 := by rw [Nat.mul_comm 2 x, Nat.mul_assoc, Nat.mul_comm 2 y, Nat.mul_assoc]
    have e3 : x * (y * 2) = x * y * 2 := by rw [Nat.mul_assoc]
    omega
/-- Bit i of a list of bytes. -/
def bt (l : List Nat) (i : Nat) : Bool := (l.getD (i / 8) 0).testBit (7 - i % 8)
/-- Byte j of the bits f, cut at m. -/
def py (f : Nat → Bool) (m j : Nat) : Nat := num (fun i => decide (i < m) && f i) (8 * j) 8
/-- N bytes of the bits f, cut at m. -/
def pz (f : Nat → Bool) (m N : Nat) : List Nat := (List.range N).map (py f m)
set_option maxRecDepth 100000 in
theorem py_lt (f : Nat → Bool) (m j : Nat) : py f m j < 256 := num_lt _ _ 8
set_option maxRecDepth 100000 in
theorem py_test (f : Nat → Bool) (m j i : Nat) : (py f m j).testBit i = (decide (i < 8) && (decide (8 * j + (7 - i) < m) && f (8 * j + (7 - i)))) := by
  unfold py; rw [num_test]
set_option maxRecDepth 100000 in
theorem pz_len (f : Nat → Bool) (m N : Nat) : (pz f m N).length = N := by unfold pz; simp
set_option maxRecDepth 100000 in
theorem pz_at (f : Nat → Bool) (m N j : Nat) (h : j < N) : (pz f m N)[j]? = some (py f m j) := by
  unfold pz; rw [List.getElem?_map, List.getElem?_range h]; rfl
set_option maxRecDepth 100000 in
theorem pz_getD (f : Nat → Bool) (m N j : Nat) (h : j < N) : (pz f m N).getD j 0 = py f m j := by
  rw [List.getD_eq_getElem?_getD, pz_at f m N j h]; rfl
set_option maxRecDepth 100000 in
theorem pz_lt (f : Nat → Bool) (m N : Nat) : ∀ x ∈ pz f m N, x < 256 := by
  intro x hx
  unfold pz at hx
  obtain ⟨j, _, rfl⟩ := List.mem_map.1 hx
  exact py_lt _ _ _
set_option maxRecDepth 100000 in
theorem bt_pz (f : Nat → Bool) (m N i : Nat) (h : i < 8 * N) : bt (pz f m N) i = (decide (i < m) && f i) := by
  unfold bt
  rw [pz_getD f m N _ (by omega), py_test]
  rw [show 8 * (i / 8) + (7 - (7 - i % 8)) = i by omega]
  simp; omega
set_option maxRecDepth 100000 in
theorem py_congr {f g : Nat → Bool} {m n j : Nat} (h : ∀ i, 8 * j ≤ i → i < 8 * j + 8 → (decide (i < m) && f i) = (decide (i < n) && g i)) : py f m j = py g n j := by
  unfold py
  exact num_congr 8 fun t ht => h (8 * j + t) (by omega) (by omega)
set_option maxRecDepth 100000 in
theorem pz_congr {f g : Nat → Bool} {m n N : Nat} (h : ∀ i, i < 8 * N → (decide (i < m) && f i) = (decide (i < n) && g i)) : pz f m N = pz g n N := by
  unfold pz
  apply List.map_congr_left
  intro j hj
  have hj := List.mem_range.1 hj
  exact py_congr fun i h1 h2 => h i (by omega)
set_option maxRecDepth 100000 in
theorem pz_zero (f : Nat → Bool) (N : Nat) : pz f 0 N = List.replicate N 0 := by
  apply List.ext_getElem?
  intro i
  by_cases hi : i < N
  · rw [pz_at f 0 N i hi, List.getElem?_replicate, if_pos hi]
    congr 1
  · rw [List.getElem?_eq_none (by rw [pz_len]; omega), List.getElem?_eq_none (by simpa using hi)]
set_option maxRecDepth 100000 in
/-- A list of bytes is what its bits say. -/
theorem pz_bt (l : List Nat) (m : Nat) (hl : ∀ x ∈ l, x < 256) (hz : ∀ i, m ≤ i → i < 8 * l.length → bt l i = false) : l = pz (bt l) m l.length := by
  apply List.ext_getElem?
  intro j
  by_cases hj : j < l.length
  · rw [pz_at _ _ _ _ hj, List.getElem?_eq_getElem hj]
    congr 1
    have hlt := hl _ (List.getElem_mem hj)
    apply num_eq (k := 8) hlt
    intro t ht
    have e : bt l (8 * j + t) = (l[j]).testBit (8 - 1 - t) := by
      unfold bt
      rw [show (8 * j + t) / 8 = j by omega, show 7 - (8 * j + t) % 8 = 8 - 1 - t by omega, List.getD_eq_getElem?_getD, List.getElem?_eq_getElem hj]; rfl
    show _ = (decide (8 * j + t < m) && bt l (8 * j + t))
    by_cases hm : 8 * j + t < m
    · rw [e]; simp [hm]
    · rw [hz _ (by omega) (by omega)] at e
      rw [← e]; simp [hm]
  · rw [List.getElem?_eq_none (by omega), List.getElem?_eq_none (by rw [pz_len]; omega)]
set_option maxRecDepth 100000 in
/-- Bits behind m within the byte are 0 ahead of it. -/
theorem py_zero (f : Nat → Bool) {m j : Nat} (h : m ≤ 8 * j) : py f m j = 0 := by
  apply Nat.eq_of_testBit_eq
  intro t
  rw [py_test]
  have : ¬ 8 * j + (7 - t) < m := by omega
  simp [this]
set_option maxRecDepth 100000 in
/-- A byte gets k bits more. -/
theorem py_or (f : Nat → Bool) (m k : Nat) (hk : m % 8 + k ≤ 8) : py f m (m / 8) ||| (num f m k * 2 ^ (8 - m % 8 - k)) = py f (m + k) (m / 8) := by
  apply Nat.eq_of_testBit_eq
  intro i
  rw [Nat.testBit_or, ← Nat.shiftLeft_eq, Nat.testBit_shiftLeft, py_test, py_test, num_test]
  generalize hr : m % 8 = r at *
  have hm : m = 8 * (m / 8) + r := by omega
  generalize m / 8 = j at *
  subst hm
  by_cases h8 : i < 8
  · by_cases h1 : 8 * j + (7 - i) < 8 * j + r
    · have e1 : ¬ (i - (8 - r - k) < k ∧ i ≥ 8 - r - k) := by omega
      have e2 : 8 * j + (7 - i) < 8 * j + r + k := by omega
      by_cases e3 : i ≥ 8 - r - k
      · have e4 : ¬ i - (8 - r - k) < k := by omega
        simp [h8, h1, e2, e3, e4]
      · simp [h8, h1, e2, e3]
    · by_cases h2 : 8 * j + (7 - i) < 8 * j + r + k
      · have e1 : i - (8 - r - k) < k := by omega
        have e3 : i ≥ 8 - r - k := by omega
        have e5 : 8 * j + r + (k - 1 - (i - (8 - r - k))) = 8 * j + (7 - i) := by omega
        simp only [h8, h1, h2, e1, e3, e5, decide_true, decide_false, Bool.true_and, Bool.false_and, Bool.false_or]
      · have e3 : ¬ i ≥ 8 - r - k := by omega
        simp [h8, h1, h2, e3]
  · have e1 : ¬ i - (8 - r - k) < k := by omega
    simp [h8, e1]
set_option maxRecDepth 100000 in
/-- Other bytes are as they were. -/
theorem pz_set (f : Nat → Bool) (m k N : Nat) (hk : m % 8 + k ≤ 8) (hN : m / 8 < N) : (pz f m N).set (m / 8) (py f (m + k) (m / 8)) = pz f (m + k) N := by
  apply List.ext_getElem?
  intro j
  rw [List.getElem?_set, pz_len]
  by_cases hj : j < N
  · rw [pz_at _ _ _ _ hj]
    by_cases e : m / 8 = j
    · rw [if_pos e, if_pos hN, e, pz_at _ _ _ _ hj]
    · rw [if_neg e, pz_at _ _ _ _ hj]
      refine congrArg some (py_congr fun i h1 h2 => ?_)
      rw [show decide (i < m) = decide (i < m + k) by rw [decide_eq_decide]; omega]
  · rw [if_neg (by omega), List.getElem?_eq_none (by rw [pz_len]; omega), List.getElem?_eq_none (by rw [pz_len]; omega)]
set_option maxRecDepth 100000 in
/-- k bits out of a byte. -/
theorem num_byte (x s k a r : Nat) (f : Nat → Bool) (hs : s + k + r = 8) (h : ∀ t, t < k → f (a + t) = x.testBit (7 - (r + t))) : x / 2 ^ s % 2 ^ k = num f a k := by
  apply num_eq (Nat.mod_lt _ (Nat.pow_pos (by decide)))
  intro t ht
  rw [Nat.testBit_mod_two_pow, Nat.testBit_div_two_pow, h t ht]
  have e : k - 1 - t + s = 7 - (r + t) := by omega
  rw [e]
  have : k - 1 - t < k := by omega
  simp [this]
set_option maxRecDepth 100000 in
/-- k bits out of a number. -/
theorem num_word (x n k a : Nat) (f : Nat → Bool) (hk : k ≤ n) (h : ∀ t, t < k → f (a + t) = x.testBit (n - 1 - t)) : x / 2 ^ (n - k) % 2 ^ k = num f a k := by
  apply num_eq (Nat.mod_lt _ (Nat.pow_pos (by decide)))
  intro t ht
  rw [Nat.testBit_mod_two_pow, Nat.testBit_div_two_pow, h t ht]
  have e : k - 1 - t + (n - k) = n - 1 - t := by omega
  rw [e]
  have : k - 1 - t < k := by omega
  simp [this]
set_option maxRecDepth 100000 in
theorem num_self (x n : Nat) (hx : x < 2 ^ n) (a : Nat) (f : Nat → Bool) (h : ∀ t, t < n → f (a + t) = x.testBit (n - 1 - t)) : num f a n = x :=
  (num_eq hx fun t ht => (h t ht).symm).symm
end Bs
end Go.Proofs.Ytlefjdglcdopeaa

/- Words of 64 bits: what the model's operators give at numbers below 2^64. No program is named here. -/
namespace Go.Proofs.Ytlefjdglcdopeaa
open Go.RowKit
namespace Bs
/-- A number of 64 bits. -/
def U64 (b : Nat) : Prop := b < 18446744073709551616
/-- An int of Go's. -/
def I64 (x : Int) : Prop := -9223372036854775808 ≤ x ∧ x ≤ 9223372036854775807
set_option maxRecDepth 100000 in
theorem U64.lt {b : Nat} (h : U64 b) : b < 18446744073709551616 := h
set_option maxRecDepth 100000 in
theorem U64.pow {b : Nat} (h : U64 b) : b < 2 ^ 64 := h
set_option maxRecDepth 100000 in
theorem u64_mk {b : Nat} (h : b < 18446744073709551616) : U64 b := h
set_option maxRecDepth 100000 in
theorem u64_le {a b : Nat} (h : a ≤ b) (hb : U64 b) : U64 a := Nat.lt_of_le_of_lt h hb
set_option maxRecDepth 100000 in
theorem u64_and_le (a b : Nat) (h : U64 a) : U64 (a &&& b) := u64_le Nat.and_le_left h
set_option maxRecDepth 100000 in
theorem u64_or (a b : Nat) (h : U64 a) (k : U64 b) : U64 (a ||| b) := Nat.or_lt_two_pow h.pow k.pow
set_option maxRecDepth 100000 in
theorem u64_div (a b : Nat) (h : U64 a) : U64 (a / b) := u64_le (Nat.div_le_self _ _) h
set_option maxRecDepth 100000 in
theorem wrapU (x : Nat) (h : U64 x) : IntKind.u64.wrap (x : Int) = (x : Int) := by
  have := h.lt
  rw [IntKind.wrap_u64]; omega
set_option maxRecDepth 100000 in
theorem andU (a b : Nat) (ha : U64 a) (hb : U64 b) : bits .and .u64 (a : Int) (b : Int) = ((a &&& b : Nat) : Int) := u64_and_nat a b ha hb
set_option maxRecDepth 100000 in
theorem orU (a b : Nat) (ha : U64 a) (hb : U64 b) : bits .or .u64 (a : Int) (b : Int) = ((a ||| b : Nat) : Int) := u64_or_nat a b ha hb
set_option maxRecDepth 100000 in
theorem andNotU (a b : Nat) (ha : U64 a) (hb : U64 b) : bits .andNot .u64 (a : Int) (b : Int) = ((a &&& (18446744073709551615 - b) : Nat) : Int) := u64_andNot_nat a b ha hb
set_option maxRecDepth 100000 in
theorem divU (a k : Nat) : (a : Int) / ((k : Nat) : Int) = ((a / k : Nat) : Int) := (Int.natCast_ediv a k).symm
set_option maxRecDepth 100000 in
theorem powI (k : Nat) : ((2 : Int) ^ k) = ((2 ^ k : Nat) : Int) := by simp
set_option maxRecDepth 100000 in
theorem shrW (b k : Nat) : (b : Int) / 2 ^ k = ((b / 2 ^ k : Nat) : Int) := by rw [powI, divU]
set_option maxRecDepth 100000 in
theorem bitW (b k : Nat) (hb : U64 b) : bits .and .u64 ((b : Int) / 2 ^ k) 1 = ((b / 2 ^ k % 2 : Nat) : Int) := by
  rw [shrW, show (1 : Int) = ((1 : Nat) : Int) from rfl, andU _ 1 (u64_div _ _ hb) (by unfold U64; decide), nat_mask1]
set_option maxRecDepth 100000 in
theorem testW (b k : Nat) (hb : U64 b) : (bits .and .u64 ((b : Int) / 2 ^ k) 1 == 1) = b.testBit k := by
  rw [bitW b k hb, Nat.testBit_eq_decide_div_mod_eq]
  by_cases h : b / 2 ^ k % 2 = 1
  · simp [h]
  · have : b / 2 ^ k % 2 = 0 := by omega
    simp [this]
set_option maxRecDepth 100000 in
theorem nat_or_join (j : Nat) : (2 ^ j - 1) ||| 2 ^ j = 2 ^ j + (2 ^ j - 1) := by
  have h0 : 0 < 2 ^ j := Nat.pow_pos (by decide)
  rw [Nat.or_comm]
  exact nat_join j (2 ^ j) (2 ^ j - 1) (Nat.mod_self _) (by omega)
set_option maxRecDepth 100000 in
theorem bitsU (op : BinOp) (x y : Int) : ∃ z : Nat, U64 z ∧ bits op .u64 x y = (z : Int) := by
  unfold bits
  simp only []
  generalize (BitVec.toNat _ : Nat) = t
  refine ⟨t % 18446744073709551616, u64_mk (Nat.mod_lt _ (by decide)), ?_⟩
  rw [IntKind.wrap_u64]; omega
/-- One bit; all bits below. Plain names, so that the walk doesn't open them. -/
def b2 (k : Nat) : Nat := 2 ^ k
def lo (k : Nat) : Nat := 2 ^ k - 1
set_option maxRecDepth 100000 in
theorem b2_u64 {k : Nat} (h : k < 64) : U64 (b2 k) := Nat.pow_lt_pow_right (n := 64) (by decide) h
set_option maxRecDepth 100000 in
theorem lo_u64 {k : Nat} (h : k ≤ 64) : U64 (lo k) := by
  have : 2 ^ k ≤ 2 ^ 64 := Nat.pow_le_pow_right (by decide) h
  have h0 : 0 < 2 ^ k := Nat.pow_pos (by decide)
  unfold lo U64; omega
set_option maxRecDepth 100000 in
theorem or_lo (j : Nat) (hj : j < 64) : bits .or .u64 ((lo j : Nat) : Int) ((b2 j : Nat) : Int) = ((lo (j + 1) : Nat) : Int) := by
  have h0 : 0 < 2 ^ j := Nat.pow_pos (by decide)
  rw [orU _ _ (lo_u64 (by omega)) (b2_u64 hj)]
  unfold lo b2
  rw [nat_or_join j, Nat.pow_succ]; congr 1; omega
set_option maxRecDepth 100000 in
theorem andNot_zero (b c : Nat) (hb : U64 b) (hc : U64 c) : (bits .andNot .u64 (b : Int) (c : Int) == 0) = (b &&& (18446744073709551615 - c) == 0) := by
  rw [andNotU b c hb hc]
  generalize b &&& (18446744073709551615 - c) = z
  rw [Bool.eq_iff_iff]; simp
set_option maxRecDepth 100000 in
theorem p2_le {k : Nat} (h : k ≤ 8) : 2 ^ k ≤ 256 := Nat.pow_le_pow_right (n := 2) (by decide) h
set_option maxRecDepth 100000 in
theorem mask_word (k : Nat) (hk : k ≤ 8) : IntKind.u64.wrap (IntKind.u64.wrap (2 ^ k) - 1) = ((2 ^ k - 1 : Nat) : Int) := by
  have h1 := p2_le hk
  have h0 : 0 < 2 ^ k := Nat.pow_pos (by decide)
  rw [powI]
  generalize 2 ^ k = y at *
  rw [IntKind.wrap_u64, IntKind.wrap_u64]; omega
set_option maxRecDepth 100000 in
/-- k bits of a byte, behind those that were read. -/
theorem rd_word (v x s k : Nat) (hk : k ≤ 8) (hx : x < 256) (hv : v * 2 ^ k + 2 ^ k ≤ 18446744073709551616) :
    bits .or .u64 (IntKind.u64.wrap ((v : Int) * 2 ^ k)) (bits .and .u64 ((x : Int) / 2 ^ s) (IntKind.u64.wrap (IntKind.u64.wrap (2 ^ k) - 1))) = ((v * 2 ^ k + x / 2 ^ s % 2 ^ k : Nat) : Int) := by
  have h1 := p2_le hk
  have h0 : 0 < 2 ^ k := Nat.pow_pos (by decide)
  rw [mask_word k hk, shrW, andU _ _ (u64_div _ _ (u64_mk (by omega))) (u64_mk (by omega)), Nat.and_two_pow_sub_one_eq_mod]
  have hm := Nat.mod_lt (x / 2 ^ s) h0
  generalize x / 2 ^ s % 2 ^ k = z at *
  rw [powI, show ((v : Int) * ((2 ^ k : Nat) : Int)) = ((v * 2 ^ k : Nat) : Int) by simp, wrapU _ (u64_mk (by omega)), orU _ _ (u64_mk (by omega)) (u64_mk (by omega))]
  rw [nat_join k (v * 2 ^ k) z (Nat.mul_mod_left _ _) hm]
end Bs
end Go.Proofs.Ytlefjdglcdopeaa

/- The leaves: small functions without loops. -/
namespace Go.Proofs.Ytlefjdglcdopeaa
open Go.RowKit Bs

set_option maxRecDepth 100000 in
theorem ret_int {k : IntKind} {a b : Int} (h : a = b) : Ending.returned (.int k a) = .returned (.int k b) := by rw [h]
set_option maxRecDepth 100000 in
theorem ret_bool {a b : Bool} (h : a = b) : Ending.returned (.bool a) = .returned (.bool b) := by rw [h]

/-- Cut: a number from 0 on, below n. -/
def CutOf (n r : Int) : Prop := 0 ≤ r ∧ (1 ≤ n → r < n) ∧ (n < 1 → r = 0)

set_option maxRecDepth 100000 in
theorem cut_neg (x n : Int) (hn : I64 n) (h1 : 1 ≤ n) (h : x.tmod n < 0) : CutOf n (wrap64 (x.tmod n + n)) := by
  have h2 := Int.lt_tmod_of_pos x (show 0 < n by omega)
  unfold I64 at hn
  rw [IntWalk.wrap64_in _ (by omega)]
  unfold CutOf; omega
set_option maxRecDepth 100000 in
theorem cut_pos (x n : Int) (h1 : 1 ≤ n) (h : ¬ x.tmod n < 0) : CutOf n (x.tmod n) := by
  have h2 := Int.tmod_lt_of_pos x (show 0 < n by omega)
  unfold CutOf; omega
set_option maxRecDepth 100000 in
set_option maxHeartbeats 400000 in
theorem cut_any (x n : Int) (hn : I64 n) (w : World) :
    Calls Try.prog 51 #[.int .i64 x, .int .i64 n] w fun e w' => (∃ r, e = .returned (.int .i64 r) ∧ CutOf n r) ∧ w = w' := by
  by_cases h1 : n < 1
  · go_enter Try.func51, Try.ntmps51
    go_wp2
    go_ret
    exact ⟨⟨0, rfl, by unfold CutOf; omega⟩, rfl⟩
  · have h1' : 1 ≤ n := by omega
    by_cases h2 : x.tmod n < 0
    · have hf := Lib.hid (cut_neg x n hn h1' h2)
      go_enter Try.func51, Try.ntmps51
      go_wp2
      go_ret
      exact ⟨⟨_, rfl, hf.out⟩, rfl⟩
    · have hf := Lib.hid (cut_pos x n h1' h2)
      go_enter Try.func51, Try.ntmps51
      go_wp2
      go_ret
      exact ⟨⟨_, rfl, hf.out⟩, rfl⟩

set_option maxRecDepth 100000 in
theorem pow_word (k : Nat) (hk : k < 64) : IntKind.u64.wrap (2 ^ k) = ((b2 k : Nat) : Int) := by
  unfold b2
  have e : ((2 : Int) ^ k) = ((2 ^ k : Nat) : Int) := by simp
  rw [e]
  exact wrapU _ (Nat.pow_lt_pow_right (by decide) hk)
end Go.Proofs.Ytlefjdglcdopeaa

/- The tape of numbers: each function returns some number within its bounds; the tape's own block alone changes. -/
namespace Go.Proofs.Ytlefjdglcdopeaa
open Go.RowKit Bs

/-- A slice value of n ints, its cells in a block ahead of block a. -/
def IntsV (w : World) (a : Nat) (v : Value) (n : Nat) : Prop :=
  ∃ p c, v = .slice p n c ∧ (0 < n → ∃ b off, p = some ⟨b, off, none⟩ ∧ b < a ∧ ∀ i, i < n → ∃ x, I64 x ∧ w.cell? ⟨b, off + i, none⟩ = some (.int .i64 x))
/-- Block a is a tape. -/
structure TapeOf (w : World) (a : Nat) (v : Value) (n i : Nat) : Prop where
  l : w.cell? ⟨a, 0, none⟩ = some v
  p : w.cell? ⟨a, 1, none⟩ = some (.int .i64 (i : Int))
  fr : w.frozen? ⟨a, 1, none⟩ = false
  ints : IntsV w a v n
  le : i ≤ n
  len : n ≤ 600
def Tp (w : World) (a : Nat) : Prop := ∃ v n i, TapeOf w a v n i
/-- From w to w' the tape's block alone has changed, and blocks have come. -/
def St (a : Nat) (w w' : World) : Prop := w.grownBy w' (some a) ∧ Tp w' a
def IntPost (P : Int → Prop) (a : Nat) (w : World) (e : Ending) (w' : World) : Prop := ∃ r, e = .returned (.int .i64 r) ∧ P r ∧ St a w w'

set_option maxRecDepth 100000 in
theorem grown_refl (w : World) (r : Option Nat) : w.grownBy w r := ⟨rfl, rfl, rfl, Nat.le_refl _, fun _ _ _ => rfl⟩
set_option maxRecDepth 100000 in
theorem grown_trans {w0 w1 w2 : World} {r : Option Nat} (h : w0.grownBy w1 r) (k : w1.grownBy w2 r) : w0.grownBy w2 r :=
  ⟨k.os.trans h.os, k.tape.trans h.tape, k.output.trans h.output, Nat.le_trans h.size k.size, fun b hb hr => (k.block b (Nat.lt_of_lt_of_le hb h.size) hr).trans (h.block b hb hr)⟩
set_option maxRecDepth 100000 in
theorem grown_none {w0 w1 : World} (h : w0.grownBy w1 none) (r : Option Nat) : w0.grownBy w1 r :=
  ⟨h.os, h.tape, h.output, h.size, fun b hb _ => h.block b hb (by simp)⟩
set_option maxRecDepth 100000 in
theorem grown_drewN (w : World) (n : Nat) (r : Option Nat) : w.grownBy (w.drewN n) r := ⟨rfl, rfl, rfl, Nat.le_refl _, fun _ _ _ => rfl⟩
set_option maxRecDepth 100000 in
theorem grown_setCell (w : World) (p : Addr) (u : Value) : w.grownBy (w.setCell p u) (some p.block) :=
  ⟨rfl, rfl, rfl, by simp [World.setCell], fun k _ hk => Below.heap_setCell _ _ _ _ (by simpa using hk)⟩
set_option maxRecDepth 100000 in
theorem St.trans {a : Nat} {w0 w1 w2 : World} (h : St a w0 w1) (k : St a w1 w2) : St a w0 w2 := ⟨grown_trans h.1 k.1, k.2⟩
set_option maxRecDepth 100000 in
theorem IntsV.grown {w w' : World} {a n : Nat} {v : Value} (h : IntsV w a v n) (g : w.grownBy w' (some a)) : IntsV w' a v n := by
  obtain ⟨p, c, hv, hc⟩ := h
  refine ⟨p, c, hv, fun hn => ?_⟩
  obtain ⟨b, off, hp, hb, hx⟩ := hc hn
  refine ⟨b, off, hp, hb, fun i hi => ?_⟩
  obtain ⟨x, hx, hcell⟩ := hx i hi
  exact ⟨x, hx, g.cell hcell (by simp; omega)⟩

set_option maxRecDepth 100000 in
set_option maxHeartbeats 400000 in
theorem raw_end (a : Nat) (p : Option Addr) (n c i : Nat) (w : World) (h1 : w.cell? ⟨a, 0, none⟩ = some (.slice p n c)) (h2 : w.cell? ⟨a, 1, none⟩ = some (.int .i64 (i : Int))) (h : n ≤ i) :
    Calls Try.prog 52 #[.pointer (some ⟨a, 0, none⟩)] w fun e w' => e = .returned (.int .i64 0) ∧ ∃ nq, w' = w.drewN nq := by
  go_enter Try.func52, Try.ntmps52
  go_wp2
  go_quiet (fail)
  go_wp2
  go_ret
  exact ⟨rfl, _, rfl⟩
set_option maxRecDepth 100000 in
set_option maxHeartbeats 400000 in
theorem raw_step (a b off n c i : Nat) (x : Int) (w : World) (h1 : w.cell? ⟨a, 0, none⟩ = some (.slice (some ⟨b, off, none⟩) n c)) (h2 : w.cell? ⟨a, 1, none⟩ = some (.int .i64 (i : Int)))
    (hf : w.frozen? ⟨a, 1, none⟩ = false) (hba : b ≠ a) (hx : w.cell? ⟨b, off + i, none⟩ = some (.int .i64 x)) (h : i < n) (hn : n ≤ 600) :
    Calls Try.prog 52 #[.pointer (some ⟨a, 0, none⟩)] w fun e w' => e = .returned (.int .i64 x) ∧ ∃ m q, w' = ((w.drewN m).setCell ⟨a, 1, none⟩ (.int .i64 ((i : Int) + 1))).drewN q := by
  go_enter Try.func52, Try.ntmps52
  go_wp2
  go_quiet (fail)
  go_wp2
  go_quiet (fail)
  go_wp2
  go_ret
  exact ⟨rfl, _, _, rfl⟩
set_option maxRecDepth 100000 in
theorem raw_any (a : Nat) (w : World) (hT : Tp w a) :
    Calls Try.prog 52 #[.pointer (some ⟨a, 0, none⟩)] w fun e w' => IntPost I64 a w e w' := by
  obtain ⟨v, n, i, T⟩ := hT
  have zero : I64 0 := by unfold I64; omega
  have keep : ∀ nq, St a w (w.drewN nq) := fun nq =>
    ⟨grown_drewN w nq _, v, n, i, T.l, T.p, T.fr, T.ints.grown (grown_drewN w nq _), T.le, T.len⟩
  obtain ⟨p, c, rfl, hc⟩ := T.ints
  by_cases hlt : i < n
  · obtain ⟨b, off, rfl, hb, hx⟩ := hc (by omega)
    obtain ⟨x, hx, hcell⟩ := hx i hlt
    refine (raw_step a b off n c i x w T.l T.p T.fr (Nat.ne_of_lt hb) hcell hlt T.len).mono ?_
    rintro e w' ⟨rfl, m, q, rfl⟩
    have g : w.grownBy (((w.drewN m).setCell ⟨a, 1, none⟩ (.int .i64 ((i : Int) + 1))).drewN q) (some a) :=
      grown_trans (grown_trans (grown_drewN w m _) (grown_setCell _ ⟨a, 1, none⟩ _)) (grown_drewN _ q _)
    refine ⟨x, rfl, hx, g, .slice (some ⟨b, off, none⟩) n c, n, i + 1, ?_, ?_, ?_, T.ints.grown g, hlt, T.len⟩
    · exact (World.cell?_setCell_other (w.drewN m) ⟨a, 1, none⟩ ⟨a, 0, none⟩ _ (by simp)).trans T.l
    · exact World.cell?_setCell_same' (w.drewN m) ⟨a, 1, none⟩ _ (by rw [show (w.drewN m).cell? ⟨a, 1, none⟩ = _ from T.p]; rfl)
    · exact (World.frozen?_setCell (w.drewN m) ⟨a, 1, none⟩ ⟨a, 1, none⟩ _).trans T.fr
  · refine (raw_end a p n c i w T.l T.p (by omega)).mono ?_
    rintro e w' ⟨rfl, nq, rfl⟩
    exact ⟨0, rfl, zero, keep nq⟩

def NewPost (w : World) (e : Ending) (w' : World) : Prop := e = .returned (.pointer (some ⟨w.heap.size, 0, none⟩)) ∧ w.grownBy w' none ∧ Tp w' w.heap.size
set_option maxRecDepth 100000 in
set_option maxHeartbeats 400000 in
theorem new_some (p : Option Addr) (n c : Nat) (w : World) (hn : n ≤ 600) (hcm : c ≤ 9223372036854775807) :
    Calls Try.prog 11 #[.slice p n c] w fun e w' => e = .returned (.pointer (some ⟨w.heap.size, 0, none⟩)) ∧ w' = w.alloc (.cells #[.slice p n c, .int .i64 0] 60) := by
  go_enter Try.func11, Try.ntmps11
  go_wp2
  go_ret
  exact ⟨rfl, rfl⟩
set_option maxRecDepth 100000 in
set_option maxHeartbeats 400000 in
theorem new_cut (b off n c : Nat) (w : World) (hn : 600 < n) (hc : n ≤ c) (hcm : c ≤ 9223372036854775807) :
    Calls Try.prog 11 #[.slice (some ⟨b, off, none⟩) n c] w fun e w' => e = .returned (.pointer (some ⟨w.heap.size, 0, none⟩)) ∧ w' = w.alloc (.cells #[.slice (some ⟨b, off, none⟩) 600 c, .int .i64 0] 60) := by
  go_enter Try.func11, Try.ntmps11
  go_wp2
  go_ret
  exact ⟨rfl, rfl⟩
/-- A slice of ints that came in. -/
def IntsIn (w : World) (v : Value) : Prop :=
  ∃ p n c, v = .slice p n c ∧ n ≤ c ∧ c ≤ 9223372036854775807 ∧ (0 < n → ∃ b off, p = some ⟨b, off, none⟩ ∧ b < w.heap.size ∧ ∀ i, i < n → ∃ x, I64 x ∧ w.cell? ⟨b, off + i, none⟩ = some (.int .i64 x))
set_option maxRecDepth 100000 in
theorem tape_new (w : World) (v : Value) (n : Nat) (hv : IntsV w w.heap.size v n) (hn : n ≤ 600) : Tp (w.alloc (.cells #[v, .int .i64 0] 60)) w.heap.size := by
  have hb : (w.alloc (.cells #[v, .int .i64 0] 60)).heap[w.heap.size]? = some (.cells #[v, .int .i64 0] 60 (0, 0)) := heap_alloc_new w _
  refine ⟨v, n, 0, ?_, ?_, ?_, hv.grown (World.grownBy_alloc w _ _), Nat.zero_le _, hn⟩
  · rw [cell_of_row _ _ _ _ _ _ hb]; rfl
  · rw [cell_of_row _ _ _ _ _ _ hb]; rfl
  · unfold World.frozen?; rw [show (Addr.mk w.heap.size 1 none).block = w.heap.size from rfl, hb]; rfl
set_option maxRecDepth 100000 in
theorem new_any (v : Value) (w : World) (hv : IntsIn w v) :
    Calls Try.prog 11 #[v] w fun e w' => NewPost w e w' := by
  obtain ⟨p, n, c, rfl, hnc, hcm, hc⟩ := hv
  by_cases hn : n ≤ 600
  · refine (new_some p n c w hn hcm).mono ?_
    rintro e w' ⟨rfl, rfl⟩
    refine ⟨rfl, World.grownBy_alloc w _ _, tape_new w _ n ⟨p, c, rfl, fun h => ?_⟩ hn⟩
    obtain ⟨b, off, hp, hb, hx⟩ := hc h
    exact ⟨b, off, hp, by omega, hx⟩
  · obtain ⟨b, off, rfl, hb, hx⟩ := hc (by omega)
    refine (new_cut b off n c w (by omega) hnc hcm).mono ?_
    rintro e w' ⟨rfl, rfl⟩
    exact ⟨rfl, World.grownBy_alloc w _ _, tape_new w _ 600 ⟨_, c, rfl, fun _ => ⟨b, off, rfl, by omega, fun i hi => hx i (by omega)⟩⟩ (by omega)⟩

set_option maxRecDepth 100000 in
set_option maxHeartbeats 400000 in
theorem next_any (a : Nat) (n : Int) (hn : I64 n) (w : World) (hT : Tp w a) :
    Calls Try.prog 24 #[.pointer (some ⟨a, 0, none⟩), .int .i64 n] w fun e w' => IntPost (CutOf n) a w e w' := by
  go_enter Try.func24, Try.ntmps24
  go_wp2_with fail
  refine (raw_any a _ hT).mono ?_
  rintro e w1 ⟨x, rfl, hx, hs⟩
  go_wp2_with fail
  refine (cut_any x n hn _).mono ?_
  rintro e w2 ⟨⟨r, rfl, hr⟩, rfl⟩
  go_wp2_with fail
  go_ret
  exact ⟨r, rfl, hr, hs⟩

def RangeOf (low high r : Int) : Prop := low ≤ r ∧ (low ≤ high → r ≤ high) ∧ (high < low → r = low)
set_option maxRecDepth 100000 in
set_option maxHeartbeats 400000 in
theorem range_any (a : Nat) (low high : Int) (h1 : -1099511627776 ≤ low) (h2 : low ≤ 1099511627776) (h3 : -1099511627776 ≤ high) (h4 : high ≤ 1099511627776) (w : World) (hT : Tp w a) :
    Calls Try.prog 37 #[.pointer (some ⟨a, 0, none⟩), .int .i64 low, .int .i64 high] w fun e w' => IntPost (RangeOf low high) a w e w' := by
  go_enter Try.func37, Try.ntmps37
  go_wp2_with fail
  refine (next_any a _ (by unfold I64; omega) _ hT).mono ?_
  rintro e w1 ⟨r, rfl, hr, hs⟩
  have hlo : 0 ≤ r := hr.1
  have hhi : r ≤ 2199023255553 := by unfold CutOf at hr; omega
  have hR : Hid (RangeOf low high (low + r)) := by show RangeOf _ _ _; unfold CutOf at hr; unfold RangeOf; omega
  go_wp2_with fail
  go_ret
  exact ⟨_, rfl, hR, hs⟩

/-- Each of n ints of a slice, outside block a, meets P. -/
def Among (P : Int → Prop) (w : World) (a b off n : Nat) : Prop := b ≠ a ∧ b < w.heap.size ∧ ∀ i, i < n → ∃ x, P x ∧ w.cell? ⟨b, off + i, none⟩ = some (.int .i64 x)
set_option maxRecDepth 100000 in
theorem Among.at_ {P : Int → Prop} {w w' : World} {a b off n : Nat} (h : Among P w a b off n) (g : w.grownBy w' (some a)) (i : Nat) (hi : i < n) :
    ∃ x, P x ∧ w'.cell? ⟨b, off + i, none⟩ = some (.int .i64 x) := by
  obtain ⟨x, hx, hc⟩ := h.2.2 i hi
  exact ⟨x, hx, g.cell hc (by simpa using h.1)⟩
set_option maxRecDepth 100000 in
set_option maxHeartbeats 400000 in
theorem pick_any (P : Int → Prop) (a b off n c : Nat) (h0 : 0 < n) (hn : n ≤ 1000) (w : World) (hT : Tp w a) (hA : Among P w a b off n) :
    Calls Try.prog 38 #[.pointer (some ⟨a, 0, none⟩), .slice (some ⟨b, off, none⟩) n c] w fun e w' => IntPost P a w e w' := by
  go_enter Try.func38, Try.ntmps38
  go_wp2_with fail
  refine (next_any a _ (by unfold I64; omega) _ hT).mono ?_
  rintro e w1 ⟨r, rfl, hr, hs⟩
  obtain ⟨k, rfl⟩ := Int.eq_ofNat_of_zero_le hr.1
  have hk : k < n := by unfold CutOf at hr; omega
  obtain ⟨x, hx, hc⟩ := hA.at_ hs.1 k hk
  have HX : Hid (P x) := hx
  clear hx
  go_wp2_with fail
  go_ret
  exact ⟨x, rfl, HX, hs⟩

set_option maxRecDepth 100000 in
set_option maxHeartbeats 400000 in
theorem one_any (a : Nat) (n : Int) (hn : I64 n) (w : World) (hT : Tp w a) :
    Calls Try.prog 39 #[.pointer (some ⟨a, 0, none⟩), .int .i64 n] w fun e w' => ∃ b, e = .returned (.bool b) ∧ St a w w' := by
  go_enter Try.func39, Try.ntmps39
  go_wp2_with fail
  refine (next_any a n hn _ hT).mono ?_
  rintro e w1 ⟨r, rfl, hr, hs⟩
  go_wp2_with fail
  go_ret
  exact ⟨_, rfl, hs⟩

set_option maxRecDepth 100000 in
theorem among_new (P : Int → Prop) (w : World) (a : Nat) (cs : Array Value) (t : TypeId) (ha : a < w.heap.size) (h : ∀ i, i < cs.size → ∃ x, P x ∧ cs[i]? = some (.int .i64 x)) :
    Among P (w.alloc (.cells cs t)) a w.heap.size 0 cs.size := by
  have hb : (w.alloc (.cells cs t)).heap[w.heap.size]? = some (.cells cs t (0, 0)) := heap_alloc_new w _
  refine ⟨by omega, by simp, fun i hi => ?_⟩
  obtain ⟨x, hx, hc⟩ := h i hi
  refine ⟨x, hx, ?_⟩
  rw [Nat.zero_add, cell_of_row _ _ _ _ _ _ hb]; exact hc
set_option maxRecDepth 100000 in
theorem among_list (P : Int → Prop) (w : World) (a : Nat) (l : List Int) (cs : Array Value) (t : TypeId) (ha : a < w.heap.size) (hl : cs = (l.map fun x => Value.int .i64 x).toArray) (h : ∀ x ∈ l, P x) :
    Among P (w.alloc (.cells cs t)) a w.heap.size 0 cs.size := by
  refine among_new P w a cs t ha fun i hi => ?_
  subst hl
  have hi' : i < l.length := by simpa using hi
  exact ⟨l[i], h _ (List.getElem_mem hi'), by simp [hi']⟩
set_option maxRecDepth 100000 in
theorem Tp.lt {w : World} {a : Nat} (h : Tp w a) : a < w.heap.size := by
  obtain ⟨v, n, i, T⟩ := h
  exact World.block_lt_of_cell? w ⟨a, 0, none⟩ T.l
set_option maxRecDepth 100000 in
theorem Tp.alloc {w : World} {a : Nat} (h : Tp w a) (o : Obj) : Tp (w.alloc o) a := by
  have hlt := h.lt
  obtain ⟨v, n, i, T⟩ := h
  have hb : (w.alloc o).heap[a]? = w.heap[a]? := Below.heap_alloc w o a hlt
  exact ⟨v, n, i, (World.cell?_of_block (a := ⟨a, 0, none⟩) hb).trans T.l, (World.cell?_of_block (a := ⟨a, 1, none⟩) hb).trans T.p, (World.frozen?_of_block (a := ⟨a, 1, none⟩) hb).trans T.fr, T.ints.grown (World.grownBy_alloc w o _), T.le, T.len⟩
set_option maxRecDepth 100000 in
theorem St.alloc_left {w w' : World} {a : Nat} {o : Obj} (h : St a (w.alloc o) w') : St a w w' := ⟨grown_trans (World.grownBy_alloc w o _) h.1, h.2⟩
set_option maxRecDepth 100000 in
/-- Behind New the tape's block is new: what writes it alone has turned nothing old. -/
theorem grown_tape {w w1 w2 : World} (h : w.grownBy w1 none) (k : w1.grownBy w2 (some w.heap.size)) : w.grownBy w2 none :=
  ⟨k.os.trans h.os, k.tape.trans h.tape, k.output.trans h.output, Nat.le_trans h.size k.size, fun b hb _ => (k.block b (Nat.lt_of_lt_of_le hb h.size) (by simp; omega)).trans (h.block b hb (by simp))⟩
set_option maxRecDepth 100000 in
theorem St.grown_alloc {a : Nat} {w w' : World} (h : St a w w') (o : Obj) : w.grownBy (w'.alloc o) (some a) := grown_trans h.1 (World.grownBy_alloc w' o _)
set_option maxRecDepth 100000 in
theorem Tp.drew {w : World} {a : Nat} (h : Tp w a) : Tp w.drew a := by
  obtain ⟨v, n, i, T⟩ := h
  exact ⟨v, n, i, T.l, T.p, T.fr, T.ints, T.le, T.len⟩
set_option maxRecDepth 100000 in
theorem Tp.keep {w w' : World} {a : Nat} (h : Tp w a) (g : w.grownBy w' none) : Tp w' a := by
  have hlt := h.lt
  obtain ⟨v, n, i, T⟩ := h
  have hb : w'.heap[a]? = w.heap[a]? := g.block a hlt (by simp)
  exact ⟨v, n, i, (World.cell?_of_block (a := ⟨a, 0, none⟩) hb).trans T.l, (World.cell?_of_block (a := ⟨a, 1, none⟩) hb).trans T.p, (World.frozen?_of_block (a := ⟨a, 1, none⟩) hb).trans T.fr, T.ints.grown (grown_none g _), T.le, T.len⟩
end Go.Proofs.Ytlefjdglcdopeaa

/- Memory: slices that are read, slices that a call has made. -/
namespace Go.Proofs.Ytlefjdglcdopeaa
open Go.RowKit Bs

set_option maxRecDepth 100000 in
theorem info_int : (Try.prog.info? 3).map (fun i => (i.zero, i.size, i.bytes)) = some (some (.int .i64 0), 1, 8) := by kernel_rfl
set_option maxRecDepth 100000 in
theorem info_u64 : (Try.prog.info? 120).map (fun i => (i.zero, i.size, i.bytes)) = some (some (.int .u64 0), 1, 8) := by kernel_rfl
set_option maxRecDepth 100000 in
theorem info_u8 : (Try.prog.info? 5).map (fun i => (i.zero, i.size, i.bytes)) = some (some (.int .u8 0), 1, 1) := by kernel_rfl

/-- The slice value v reads as vs; where it has elements, its block meets q. -/
def Rd (w : World) (q : Nat → Prop) (v : Value) (vs : List Value) : Prop :=
  ∃ p c, v = .slice p vs.length c ∧ (vs ≠ [] → ∃ b off, p = some ⟨b, off, none⟩ ∧ q b ∧ ∀ i x, vs[i]? = some x → w.cell? ⟨b, off + i, none⟩ = some x)
set_option maxRecDepth 100000 in
theorem Rd.grown {w w' : World} {q : Nat → Prop} {v : Value} {vs : List Value} {r : Option Nat} (h : Rd w q v vs) (g : w.grownBy w' r) (hq : ∀ b, q b → some b ≠ r) : Rd w' q v vs := by
  obtain ⟨p, c, hv, hc⟩ := h
  refine ⟨p, c, hv, fun hne => ?_⟩
  obtain ⟨b, off, hp, hb, hx⟩ := hc hne
  exact ⟨b, off, hp, hb, fun i x hi => g.cell (hx i x hi) (hq b hb)⟩
set_option maxRecDepth 100000 in
theorem Rd.mono {w : World} {q q' : Nat → Prop} {v : Value} {vs : List Value} (h : Rd w q v vs) (hq : ∀ b, q b → q' b) : Rd w q' v vs := by
  obtain ⟨p, c, hv, hc⟩ := h
  refine ⟨p, c, hv, fun hne => ?_⟩
  obtain ⟨b, off, hp, hb, hx⟩ := hc hne
  exact ⟨b, off, hp, hq b hb, hx⟩
set_option maxRecDepth 100000 in
theorem Rd.keep {w w' : World} {q : Nat → Prop} {v : Value} {vs : List Value} (h : Rd w q v vs) (g : w.grownBy w' none) : Rd w' q v vs := h.grown g (fun _ _ => by simp)
set_option maxRecDepth 100000 in
theorem Rd.nil_ (w : World) (q : Nat → Prop) (p : Option Addr) (c : Nat) : Rd w q (.slice p 0 c) [] := ⟨p, c, rfl, fun h => absurd rfl h⟩
set_option maxRecDepth 100000 in
theorem rd_of_own {w : World} {base : Nat} {e : TypeId} {v : Value} {n : Nat} {xs : List Value} (h : w.ownsRow base e 1 v n xs) : Rd w (base ≤ ·) v xs := by
  have hl : xs.length = n := by have := h.1; omega
  rcases h.2 with ⟨rfl, h0⟩ | ⟨g, cap, cur, rfl, hb, hg, _⟩
  · subst h0
    exact ⟨none, 0, by rw [hl], fun hne => absurd (List.eq_nil_of_length_eq_zero hl) hne⟩
  · refine ⟨some ⟨g, 0, none⟩, cap, by rw [hl], fun _ => ⟨g, 0, rfl, hb, fun i x hi => ?_⟩⟩
    have := h.cells (g := g) rfl i x hi
    have hadd : (⟨g, 0, none⟩ : Addr).add i = ⟨g, 0 + i, none⟩ := by unfold Addr.add; split <;> simp_all
    rw [hadd] at this
    exact this
set_option maxRecDepth 100000 in
theorem own_step {w wr w1 : World} {o : Obj} {e : TypeId} {size n : Nat} {v : Value} {xs : List Value} (h : w.grownBy wr none) (hown : wr.ownsRow w.heap.size e size v n xs) (hg : (wr.alloc o).grownBy w1 v.ownBlock) : w.grownBy w1 none := by
  refine ⟨hg.os.trans h.os, hg.tape.trans h.tape, hg.output.trans h.output, Nat.le_trans h.size (Nat.le_trans (by simp) hg.size), fun k hk _ => ?_⟩
  have hks : k < wr.heap.size := Nat.lt_of_lt_of_le hk h.size
  refine (hg.block k (by simp; omega) (fun e => ?_)).trans ((Below.heap_alloc wr o k hks).trans (h.block k hk (by simp)))
  have := (hown.lt k e.symm).1
  omega
set_option maxRecDepth 100000 in
theorem cell_one (w : World) (x : Value) (t : TypeId) : ∀ j u, [x][j]? = some u → (w.alloc (.cells #[x] t)).cell? ((⟨w.heap.size, 0, none⟩ : Addr).add j) = some u := by
  intro j u hj
  match j, hj with
  | 0, hj =>
    simp at hj; subst hj
    have hb : (w.alloc (.cells #[x] t)).heap[w.heap.size]? = some (.cells #[x] t (0, 0)) := heap_alloc_new w _
    have hadd : (⟨w.heap.size, 0, none⟩ : Addr).add 0 = ⟨w.heap.size, 0, none⟩ := by unfold Addr.add; split <;> simp_all
    rw [hadd, cell_of_row _ _ _ _ _ _ hb]; rfl
set_option maxRecDepth 100000 in
theorem hid_drew {W w : World} {r : Option Nat} (h : Hid (W.grownBy w r)) : Hid (W.grownBy w.drew r) := Lib.hid ⟨h.out.os, h.out.tape, h.out.output, h.out.size, h.out.block⟩
set_option maxRecDepth 100000 in
theorem hid_more {W w w' : World} {r : Option Nat} (h : Hid (W.grownBy w r)) (k : w.grownBy w' r) : Hid (W.grownBy w' r) := Lib.hid (grown_trans h.out k)
/-- An int of Go's out of a number. -/
def ival (k : Nat) : Value := .int .i64 (k : Int)
def ListPost (vs : List Value) (w : World) (e : Ending) (w' : World) : Prop := ∃ v, e = .returned v ∧ Rd w' (w.heap.size ≤ ·) v vs ∧ w.grownBy w' none
end Go.Proofs.Ytlefjdglcdopeaa

/- The program's small functions, and its reading of bits. -/
namespace Go.Proofs.Ytlefjdglcdopeaa
open Go.RowKit Bs

/-- A byte. -/
def nv (x : Nat) : Value := .int .u8 (x : Int)
/-- Bytes, each below 256. -/
def By (l : List Nat) : Prop := ∀ x ∈ l, x < 256
set_option maxRecDepth 100000 in
theorem By.at_ {l : List Nat} (h : By l) {j : Nat} (hj : j < l.length) : l.getD j 0 < 256 := by
  rw [List.getD_eq_getElem?_getD, List.getElem?_eq_getElem hj]
  exact h _ (List.getElem_mem hj)
set_option maxRecDepth 100000 in
theorem nv_at {l : List Nat} {j : Nat} (h : j < l.length) : (l.map nv)[j]? = some (.int .u8 ((l.getD j 0 : Nat) : Int)) := by
  rw [List.getElem?_map, List.getElem?_eq_getElem h, List.getD_eq_getElem?_getD, List.getElem?_eq_getElem h]; rfl
set_option maxRecDepth 100000 in
theorem Rd.at_ {w : World} {q : Nat → Prop} {p : Option Addr} {n c i : Nat} {vs : List Value} {x : Value} (h : Rd w q (.slice p n c) vs) (hi : vs[i]? = some x) :
    ∃ b off, p = some ⟨b, off, none⟩ ∧ q b ∧ w.cell? ⟨b, off + i, none⟩ = some x := by
  obtain ⟨p1, c1, e1, hx⟩ := h
  injection e1 with a1 a2 a3
  subst a1
  obtain ⟨b, off, hp, hq, hc⟩ := hx (by intro e; rw [e] at hi; simp at hi)
  exact ⟨b, off, hp, hq, hc i x hi⟩
def vw (n : Int) : Bool := decide (0 ≤ n) && decide (n ≤ 64)
set_option maxRecDepth 100000 in
/-- One round of reading: k bits of the byte at A. -/
theorem read_step {l : List Nat} {at0 j A x k s : Nat} (hA : at0 + j = A) (hX : l.getD (A / 8) 0 = x) (hs : s + k + A % 8 = 8) (hj : j + k ≤ 64) (hx : x < 256) :
    bits .or .u64 (IntKind.u64.wrap (((num (bt l) at0 j : Nat) : Int) * 2 ^ k)) (bits .and .u64 ((x : Int) / 2 ^ s) (IntKind.u64.wrap (IntKind.u64.wrap (2 ^ k) - 1))) = ((num (bt l) at0 (j + k) : Nat) : Int) := by
  have h1 := num_lt (bt l) at0 j
  have h2 : 2 ^ (j + k) ≤ 2 ^ 64 := Nat.pow_le_pow_right (by decide) hj
  have h3 : num (bt l) at0 j * 2 ^ k + 2 ^ k ≤ 2 ^ (j + k) := by
    rw [Nat.pow_add, ← Nat.succ_mul]
    exact Nat.mul_le_mul_right _ h1
  rw [rd_word _ x s k (by omega) hx (Nat.le_trans h3 h2), num_add, hA]
  rw [num_byte x s k A (A % 8) (bt l) hs]
  intro t ht
  unfold bt
  rw [show (A + t) / 8 = A / 8 by omega, hX, show (A + t) % 8 = A % 8 + t by omega]
end Go.Proofs.Ytlefjdglcdopeaa

/- The tape's wild numbers; rows of a call's own while the tape turns. -/
namespace Go.Proofs.Ytlefjdglcdopeaa
open Go.RowKit Bs
def wilds : List Int := [-1, 0, 1, 7, 8, 23, 24, 31, 32, 63, 64, 99, 100, 255, 256, 257, 1000, 1001, 1023, 1024, 1000000, 1000001, 1099511627776, 9223372036854775807, -9223372036854775808]
set_option maxRecDepth 100000 in
theorem wilds_i64 : ∀ x ∈ wilds, I64 x := by unfold I64 wilds; decide +kernel
set_option maxRecDepth 100000 in
set_option maxHeartbeats 800000 in
theorem wild_any (a : Nat) (w : World) (hT : Tp w a) :
    Calls Try.prog 41 #[.pointer (some ⟨a, 0, none⟩)] w fun e w' => IntPost I64 a w e w' := by
  have HA := among_list I64 w a wilds (wilds.map fun x => Value.int .i64 x).toArray 3 hT.lt rfl wilds_i64
  have HA' := Lib.hid HA
  clear HA
  go_enter Try.func41, Try.ntmps41
  go_wp2_with fail
  refine (pick_any I64 a _ 0 25 25 (by omega) (by omega) _ (hT.alloc _) HA'.out).mono ?_
  rintro e w1 ⟨r, rfl, hr, hs⟩
  go_wp2_with fail
  go_ret
  exact ⟨_, rfl, hr, hs.alloc_left⟩
set_option maxRecDepth 100000 in
theorem own_block_ne {w wr : World} {e : TypeId} {v : Value} {n a : Nat} {xs : List Value} (h : wr.ownsRow w.heap.size e 1 v n xs) (ha : a < w.heap.size) : v.ownBlock = none ∨ v.ownBlock ≠ some a := by
  cases hv : v.ownBlock with
  | none => exact .inl rfl
  | some g =>
    right
    intro e2
    have e3 := Option.some.inj e2
    have := (h.lt g hv).1
    omega
set_option maxRecDepth 100000 in
/-- A row of the call's own is appended to: the tape stands. -/
theorem st_append {a : Nat} {w wr w1 : World} {o : Obj} {v : Value} {n : Nat} {e : TypeId} {xs : List Value} (hs : St a w wr) (ha : a < w.heap.size) (hown : wr.ownsRow w.heap.size e 1 v n xs) (hg : (wr.alloc o).grownBy w1 v.ownBlock) : St a w w1 := by
  have hT := hs.2.alloc o
  have hlt := hT.lt
  have hne : some a ≠ v.ownBlock := by
    rcases own_block_ne hown ha with h | h
    · rw [h]; simp
    · exact fun e => h e.symm
  refine ⟨⟨hg.os.trans hs.1.os, hg.tape.trans hs.1.tape, hg.output.trans hs.1.output, Nat.le_trans hs.1.size (Nat.le_trans (by simp) hg.size), fun k hk hka => ?_⟩, ?_⟩
  · have hks : k < wr.heap.size := Nat.lt_of_lt_of_le hk hs.1.size
    refine (hg.block k (by simp; omega) (fun e => ?_)).trans ((Below.heap_alloc wr o k hks).trans (hs.1.block k hk hka))
    have := (hown.lt k e.symm).1
    omega
  · have hb := hg.block a hlt hne
    have hal := hs.2.lt
    obtain ⟨lv, m, i, T⟩ := hT
    refine ⟨lv, m, i, (World.cell?_of_block (a := ⟨a, 0, none⟩) hb).trans T.l, (World.cell?_of_block (a := ⟨a, 1, none⟩) hb).trans T.p, (World.frozen?_of_block (a := ⟨a, 1, none⟩) hb).trans T.fr, ?_, T.le, T.len⟩
    obtain ⟨p, c, hv, hc⟩ := T.ints
    refine ⟨p, c, hv, fun hm => ?_⟩
    obtain ⟨b, off, hp, hba, hx⟩ := hc hm
    refine ⟨b, off, hp, hba, fun i hi => ?_⟩
    obtain ⟨x, hx, hcell⟩ := hx i hi
    refine ⟨x, hx, hg.cell hcell (fun e => ?_)⟩
    have := (hown.lt b e.symm).1
    omega
set_option maxRecDepth 100000 in
/-- A row of the call's own stands while the tape turns. -/
theorem own_kept {a : Nat} {w wr w1 : World} {v : Value} {n : Nat} {e : TypeId} {xs : List Value} (ha : a < w.heap.size) (hown : wr.ownsRow w.heap.size e 1 v n xs) (g : wr.grownBy w1 (some a)) : w1.ownsRow w.heap.size e 1 v n xs :=
  hown.kept g (own_block_ne hown ha)
end Go.Proofs.Ytlefjdglcdopeaa

/- (Without streams.) What every statement's proof shares: the arguments opened; the call's end shut. -/
namespace Go.Proofs.Ytlefjdglcdopeaa
open Go.ChangeShapes Go.WideShapes Go.ChangeAt Go.RowKit Go.Joins Bs

set_option maxRecDepth 100000 in
theorem kit_own : ownKnob Try.prog.godebug = none := by kernel_rfl
set_option maxRecDepth 100000 in
theorem kit_laid : laidOutB Try.prog = true := by kernel_rfl
set_option maxRecDepth 100000 in
theorem kit_cellsByte : Try.prog.cellsOf 5 = 1 := by kernel_rfl
set_option maxRecDepth 100000 in
theorem kit_cellsInt : Try.prog.cellsOf 3 = 1 := by kernel_rfl
section
variable {H : Type} {enc : TypeId × Value → H} {W W' : World}
/-- The types of these parameters can be read. -/
def Readable (P : Program) (ts : List TypeId) : Bool := ts.all fun t => P.readableRec t && decide (t < P.types.size)
set_option maxRecDepth 100000 in
theorem args_below {P : Program} (hl : laidOutB P = true) (hb : Below W.heap.size W W') {sp : Nat → Bool} : ∀ (ts : List TypeId) (vs : List Value) (ds : List (DataW H)) (ps : List MemPlace), Readable P ts = true →
    DataW.TrodAll enc P W 0 (fun _ => true) true ts vs ds ps → (∀ x ∈ ps, x.block < W.heap.size) → (∀ x ∈ ps, sp x.block = true) → DataW.TrodAll enc P W' 0 sp true ts vs ds ps := by
  intro ts
  induction ts with
  | nil =>
    intro vs ds ps _ h _ _
    cases vs with
    | nil => cases ds with
      | nil => exact h
      | cons _ _ => exact h.elim
    | cons _ _ => exact h.elim
  | cons t ts ih =>
    intro vs ds ps hr h hlt hs
    cases vs with
    | nil => exact h.elim
    | cons v vs => cases ds with
      | nil => exact h.elim
      | cons d ds =>
        obtain ⟨p, q, h1, h2, rfl⟩ := h
        have hr' : (P.readableRec t = true ∧ t < P.types.size) ∧ Readable P ts = true := by
          unfold Readable at hr ⊢
          rw [List.all_cons, Bool.and_eq_true, Bool.and_eq_true, decide_eq_true_eq] at hr
          exact hr
        exact ⟨p, q, WideElems.Trod_stays hl hr'.1.1 hr'.1.2 h1 (fun x hx => hb.same (hlt x (by simp [hx]))) (fun x hx => hs x (by simp [hx])),
          ih vs ds q hr'.2 h2 (fun x hx => hlt x (by simp [hx])) (fun x hx => hs x (by simp [hx])), rfl⟩
set_option maxRecDepth 100000 in
theorem below_of_grown (g : W.grownBy W' none) : Below W.heap.size W W' := ⟨g.os, g.tape, g.output, g.size, fun k hk => g.block k hk (by simp)⟩
set_option maxRecDepth 100000 in
/-- The end of a statement's call: it returned true, and made memory alone. -/
theorem law_post {f : Func} {s : ChangeSpec} {args : Array Value} {ds gs : List (DataW H)} {before : List MemPlace} (hr : Readable Try.prog f.params.toList = true) (hv : s.vars = [])
    (hres : f.resultTypes = #[4]) (hfn : (s.fn H (ds ++ gs)).results = [.lit (.bool true)] ∧ (s.fn H (ds ++ gs)).args = ds ∧ (s.fn H (ds ++ gs)).vars = [])
    (hW : DataW.Whole enc Try.prog f.params.toList s.vars false W args.toList ds gs before) (g : W.grownBy W' none) : s.post enc Try.prog f false true false false W args (.bool true) W' := by
  have hlt := hW.lt
  have hb := below_of_grown g
  obtain ⟨p, q, hA, hV, hp, _, _⟩ := id hW
  rw [hv] at hV
  obtain ⟨rfl, rfl⟩ := trodVars_none hV
  rw [List.append_nil] at hp
  subst hp
  refine ⟨ds, [], before, [], before, [], hW, ?_, ?_, ?_, hb.frame _, fun h => by cases h⟩
  · rw [hfn.1, hres]
    exact trodAll_mk1 (shut_bool Try.underlying4 _)
  · rw [hfn.2.1]
    exact args_below kit_laid hb _ _ _ _ hr hA hlt (fun x hx => by simpa using hlt x hx)
  · rw [hfn.2.2, hv]; rfl
end

section
variable {H : Type} {enc : TypeId × Value → H} {W : World} {base : Nat} {v : Value} {d : DataW H} {ps : List MemPlace}
set_option maxRecDepth 100000 in
theorem opn_u64 (hval : Value.okWide Try.prog W .any base 120 v) (h : DataW.Trod enc Try.prog W 0 (fun _ => true) true 120 v d ps) : ∃ b : Nat, v = .int .u64 (b : Int) ∧ U64 b := by
  obtain ⟨n, rfl, _, _, wf⟩ := open_int Try.underlying120 hval h
  have hb : 0 ≤ n ∧ n < 18446744073709551616 := by
    simp [Lit.wf, IntKind.min, IntKind.max, IntKind.bits, IntKind.signed] at wf
    omega
  obtain ⟨b, rfl⟩ := Int.eq_ofNat_of_zero_le hb.1
  exact ⟨b, rfl, u64_mk (by omega)⟩
set_option maxRecDepth 100000 in
theorem opn_i64 (hval : Value.okWide Try.prog W .any base 3 v) (h : DataW.Trod enc Try.prog W 0 (fun _ => true) true 3 v d ps) : ∃ n : Int, v = .int .i64 n ∧ I64 n := by
  obtain ⟨n, rfl, _, _, wf⟩ := open_int Try.underlying3 hval h
  refine ⟨n, rfl, ?_⟩
  simp [Lit.wf, IntKind.min, IntKind.max, IntKind.bits, IntKind.signed] at wf
  unfold I64; omega
set_option maxRecDepth 100000 in
theorem i64_wf {n : Int} (wf : (Lit.int .i64 n).wf = true) : I64 n := by
  simp [Lit.wf, IntKind.min, IntKind.max, IntKind.bits, IntKind.signed] at wf
  unfold I64; omega
set_option maxRecDepth 100000 in
theorem opn_slice {T E : TypeId} {k : IntKind} (ht : Try.prog.underlying T = some (.slice E)) (he : Try.prog.underlying E = some (.int k)) (hc : Try.prog.cellsOf E = 1)
    (hval : Value.okWide Try.prog W .any base T v) (h : DataW.Trod enc Try.prog W 0 (fun _ => true) true T v d ps) :
    ∃ zs : List Int, (∀ z ∈ zs, (Lit.int k z).wf = true) ∧ Rd W (· < W.heap.size) v (zs.map fun z => .int k z) ∧ ∃ p c, v = .slice p zs.length c ∧ zs.length ≤ c ∧ c ≤ 9223372036854775807 := by
  obtain ⟨p0, n0, c0, rfl⟩ := okWide_slice ht hval
  obtain ⟨fuel, hf⟩ := h
  rcases open_ints ht he hc hf with ⟨hcs, _⟩ | ⟨a, len, cap, zs, hcs, _, hl, hm, hz, _, hcell, hw⟩
  · simp [Value.cells] at hcs
    obtain ⟨rfl, rfl, rfl⟩ := hcs
    exact ⟨[], fun _ h => by simp at h, Rd.nil_ _ _ _ _, none, 0, rfl, Nat.le_refl _, Nat.zero_le _⟩
  · simp [Value.cells] at hcs
    obtain ⟨rfl, rfl, rfl⟩ := hcs
    rw [if_pos rfl] at hz
    have hlen : (zs.take n0).length = n0 := by rw [List.length_take]; omega
    refine ⟨zs.take n0, fun z hzm => hw z (List.mem_of_mem_take hzm), ?_, some a, c0, by rw [hlen], by omega, hm⟩
    refine ⟨some a, c0, by rw [List.length_map, hlen], fun hne => ?_⟩
    have hpos : 0 < zs.length := by
      rcases Nat.eq_zero_or_pos zs.length with h0 | h0
      · rw [List.eq_nil_of_length_eq_zero h0] at hne
        simp at hne
      · exact h0
    obtain ⟨b, off, rfl, hcc⟩ := ints_at hcell hpos
    refine ⟨b, off, rfl, World.block_lt_of_cell? W ⟨b, off + 0, none⟩ (hcc 0 hpos), fun i x hi => ?_⟩
    obtain ⟨hi1, hi2⟩ := List.getElem?_eq_some_iff.1 hi
    rw [List.length_map, hlen] at hi1
    rw [hcc i (by omega)]
    rw [List.getElem_map, List.getElem_take] at hi2
    rw [← hi2, List.getD_eq_getElem?_getD, List.getElem?_eq_getElem (by omega)]; rfl
set_option maxRecDepth 100000 in
theorem opn_ints (hval : Value.okWide Try.prog W .any base 22 v) (h : DataW.Trod enc Try.prog W 0 (fun _ => true) true 22 v d ps) :
    ∃ zs : List Int, (∀ z ∈ zs, I64 z) ∧ Rd W (· < W.heap.size) v (zs.map fun z => .int .i64 z) ∧ ∃ p c, v = .slice p zs.length c ∧ zs.length ≤ c ∧ c ≤ 9223372036854775807 := by
  obtain ⟨zs, hw, hr⟩ := opn_slice Try.underlying22 Try.underlying3 kit_cellsInt hval h
  exact ⟨zs, fun z hz => i64_wf (hw z hz), hr⟩
set_option maxRecDepth 100000 in
theorem ints_in {zs : List Int} (hz : ∀ z ∈ zs, I64 z) (h : Rd W (· < W.heap.size) v (zs.map fun z => .int .i64 z)) (hc : ∃ p c, v = .slice p zs.length c ∧ zs.length ≤ c ∧ c ≤ 9223372036854775807) : IntsIn W v := by
  obtain ⟨p, c, rfl, h1, h2⟩ := hc
  refine ⟨p, zs.length, c, rfl, h1, h2, fun hn => ?_⟩
  obtain ⟨p', c', hv, hx⟩ := h
  injection hv with e1 e2 e3
  subst e1
  obtain ⟨b, off, hp, hb, hcell⟩ := hx (by intro e; have := congrArg List.length e; simp at this; subst this; simp at hn)
  refine ⟨b, off, hp, hb, fun i hi => ⟨zs[i], hz _ (List.getElem_mem hi), hcell i _ ?_⟩⟩
  rw [List.getElem?_map, List.getElem?_eq_getElem hi]; rfl
end
section
variable {H : Type} {enc : TypeId × Value → H} {W : World} {base : Nat} {v : Value} {d : DataW H} {ps : List MemPlace}
set_option maxRecDepth 100000 in
theorem opn_u8 (hval : Value.okWide Try.prog W .any base 5 v) (h : DataW.Trod enc Try.prog W 0 (fun _ => true) true 5 v d ps) : ∃ b : Nat, v = .int .u8 (b : Int) ∧ b < 256 := by
  obtain ⟨n, rfl, _, _, wf⟩ := open_int Try.underlying5 hval h
  have hb : 0 ≤ n ∧ n < 256 := by
    simp [Lit.wf, IntKind.min, IntKind.max, IntKind.bits, IntKind.signed] at wf
    omega
  obtain ⟨b, rfl⟩ := Int.eq_ofNat_of_zero_le hb.1
  exact ⟨b, rfl, by omega⟩
end
end Go.Proofs.Ytlefjdglcdopeaa

/- A block of bytes that a call has made; the program's writing and moving of bits. -/
namespace Go.Proofs.Ytlefjdglcdopeaa
open Go.RowKit Bs

/-- Block g holds the bytes l. -/
def Blk (w : World) (g : Nat) (l : List Nat) : Prop := w.heap[g]? = some (.cells (l.map nv).toArray 5 (0, 0))
section
variable {w w' : World} {g : Nat} {l : List Nat}
set_option maxRecDepth 100000 in
theorem Blk.cell (h : Blk w g l) {j : Nat} (hj : j < l.length) : w.cell? ⟨g, j, none⟩ = some (.int .u8 ((l.getD j 0 : Nat) : Int)) := by
  rw [cell_of_row w g j _ _ (0, 0) h]
  rw [List.getElem?_toArray]
  exact nv_at hj
set_option maxRecDepth 100000 in
theorem Blk.frozen (h : Blk w g l) (j : Nat) : w.frozen? ⟨g, j, none⟩ = false := frozen_of_row w g j _ _ h
set_option maxRecDepth 100000 in
theorem Blk.set (h : Blk w g l) (j x : Nat) : Blk (w.setCell ⟨g, j, none⟩ (nv x)) g (l.set j x) := by
  have e := heap_setCell_same w g j _ _ (nv x) h
  unfold Blk
  rw [e]
  congr 2
  rw [List.setIfInBounds_toArray, List.map_set]
set_option maxRecDepth 100000 in
theorem Blk.lt (h : Blk w g l) : g < w.heap.size := (Array.getElem?_eq_some_iff.1 h).1
set_option maxRecDepth 100000 in
theorem Blk.grown {r : Option Nat} (h : Blk w g l) (k : w.grownBy w' r) (hr : some g ≠ r) : Blk w' g l := (k.block g h.lt hr).trans h
set_option maxRecDepth 100000 in
theorem Blk.keep (h : Blk w g l) (k : w.grownBy w' none) : Blk w' g l := h.grown k (by simp)
set_option maxRecDepth 100000 in
theorem Blk.rd (h : Blk w g l) (q : Nat → Prop) (hq : q g) (c : Nat) : Rd w q (.slice (some ⟨g, 0, none⟩) l.length c) (l.map nv) := by
  refine ⟨some ⟨g, 0, none⟩, c, by rw [List.length_map], fun _ => ⟨g, 0, rfl, hq, fun i x hi => ?_⟩⟩
  rw [Nat.zero_add, cell_of_row w g i _ _ (0, 0) h, List.getElem?_toArray]
  exact hi
end
set_option maxRecDepth 100000 in
theorem set_grown {w0 w : World} {g j : Nat} {x : Value} (h : w0.grownBy w (some g)) : w0.grownBy (w.setCell ⟨g, j, none⟩ x) (some g) := grown_trans h (grown_setCell w ⟨g, j, none⟩ x)
set_option maxRecDepth 100000 in
theorem wr_word (x V d k s : Nat) (hx : x < 256) (hV : U64 V) (hs : s + k ≤ 8) :
    bits .or .u8 (x : Int) (IntKind.u8.wrap (IntKind.u8.wrap (bits .and .u64 ((V : Int) / 2 ^ d) (IntKind.u64.wrap (IntKind.u64.wrap (2 ^ k) - 1))) * 2 ^ s)) = ((x ||| (V / 2 ^ d % 2 ^ k * 2 ^ s) : Nat) : Int) := by
  have h1 := p2_le (show k ≤ 8 by omega)
  have h0 : 0 < 2 ^ k := Nat.pow_pos (by decide)
  rw [mask_word k (by omega), shrW, andU _ _ (u64_div _ _ hV) (u64_mk (by omega)), Nat.and_two_pow_sub_one_eq_mod]
  have hm := Nat.mod_lt (V / 2 ^ d) h0
  generalize V / 2 ^ d % 2 ^ k = z at *
  have e1 : IntKind.u8.wrap (z : Int) = (z : Int) := by rw [IntKind.wrap_u8']; omega
  have h2 : 2 ^ (s + k) ≤ 256 := p2_le hs
  have h3 : z * 2 ^ s < 2 ^ (s + k) := by
    rw [Nat.pow_add, Nat.mul_comm (2 ^ s)]
    exact Nat.mul_lt_mul_of_pos_right hm (Nat.pow_pos (by decide))
  rw [e1, powI, show ((z : Int) * ((2 ^ s : Nat) : Int)) = ((z * 2 ^ s : Nat) : Int) by simp]
  generalize z * 2 ^ s = y at *
  have e2 : IntKind.u8.wrap (y : Int) = (y : Int) := by rw [IntKind.wrap_u8']; omega
  rw [e2, u8_or_nat x y hx (by omega)]
set_option maxRecDepth 100000 in
/-- One round of writing: k bits at A, out of n bits that are left. -/
theorem write_step {f : Nat → Bool} {A n N V k s d x : Nat} (hx : (pz f A N).getD (A / 8) 0 = x) (hN : A / 8 < N) (hV : U64 V) (hs : s + k + A % 8 = 8) (hd : d + k = n) (hf : ∀ t, t < k → f (A + t) = V.testBit (n - 1 - t)) :
    bits .or .u8 (x : Int) (IntKind.u8.wrap (IntKind.u8.wrap (bits .and .u64 ((V : Int) / 2 ^ d) (IntKind.u64.wrap (IntKind.u64.wrap (2 ^ k) - 1))) * 2 ^ s)) = ((py f (A + k) (A / 8) : Nat) : Int) := by
  rw [pz_getD f A N _ hN] at hx
  subst hx
  rw [wr_word _ V d k s (py_lt _ _ _) hV (by omega), show d = n - k by omega, num_word V n k A f (by omega) hf, show s = 8 - A % 8 - k by omega, py_or f A k (by omega)]
set_option maxRecDepth 100000 in
theorem write_step1 {f : Nat → Bool} {A N V k s x : Nat} (hx : (pz f A N).getD (A / 8) 0 = x) (hN : A / 8 < N) (hV : U64 V) (hs : s + k + A % 8 = 8) (hf : ∀ t, t < k → f (A + t) = V.testBit (k - 1 - t)) :
    bits .or .u8 (x : Int) (bits .and .u64 (V : Int) (IntKind.u64.wrap (IntKind.u64.wrap (2 ^ k) - 1)) % 256 * 2 ^ s % 256) = ((py f (A + k) (A / 8) : Nat) : Int) := by
  rw [← write_step (d := 0) (n := k) hx hN hV hs (by omega) hf, IntKind.wrap_u8', IntKind.wrap_u8']
  simp
set_option maxRecDepth 100000 in
theorem write_step2 {f : Nat → Bool} {A n N V k d x : Nat} (hx : (pz f A N).getD (A / 8) 0 = x) (hN : A / 8 < N) (hV : U64 V) (hs : k + A % 8 = 8) (hd : d + k = n) (hf : ∀ t, t < k → f (A + t) = V.testBit (n - 1 - t)) :
    bits .or .u8 (x : Int) (bits .and .u64 ((V : Int) / 2 ^ d) (IntKind.u64.wrap (IntKind.u64.wrap (2 ^ k) - 1)) % 256) = ((py f (A + k) (A / 8) : Nat) : Int) := by
  rw [← write_step (s := 0) (n := n) hx hN hV (by omega) hd hf, IntKind.wrap_u8', IntKind.wrap_u8']
  simp
set_option maxRecDepth 100000 in
theorem write_set {f : Nat → Bool} {A k N g : Nat} {w wr : World} (h : Blk wr g (pz f A N)) (hg : w.grownBy wr (some g)) (hk : A % 8 + k ≤ 8) (hN : A / 8 < N) :
    Blk (wr.setCell ⟨g, A / 8, none⟩ (.int .u8 ((py f (A + k) (A / 8) : Nat) : Int))) g (pz f (A + k) N) ∧ w.grownBy (wr.setCell ⟨g, A / 8, none⟩ (.int .u8 ((py f (A + k) (A / 8) : Nat) : Int))) (some g) := by
  refine ⟨?_, set_grown hg⟩
  have := h.set (A / 8) (py f (A + k) (A / 8))
  rw [pz_set f A k N hk hN] at this
  exact this
def WriteRel (f : Nat → Bool) (N g : Nat) (w : World) (A : Nat) (wr : World) : Prop := Blk wr g (pz f A N) ∧ w.grownBy wr (some g)
set_option maxRecDepth 100000 in
theorem writeRel_next {f : Nat → Bool} {N g A k : Nat} {w wr : World} {x : Int} (h : WriteRel f N g w A wr) (hk : A % 8 + k ≤ 8) (hN : A / 8 < N) (hx : x = ((py f (A + k) (A / 8) : Nat) : Int)) :
    WriteRel f N g w (A + k) (wr.setCell ⟨g, A / 8, none⟩ (.int .u8 x)).drew := by
  subst hx
  have k := write_set h.1 h.2 hk hN
  exact ⟨k.1, k.2.os, k.2.tape, k.2.output, k.2.size, k.2.block⟩
set_option maxRecDepth 100000 in
/-- Bits moved: the k bits from place at on are those of the source from place fr on. -/
theorem writeRel_trans {f : Nat → Bool} {N g A B : Nat} {w w1 w2 : World} (h : WriteRel f N g w A w1) (k : WriteRel f N g w1 B w2) : WriteRel f N g w B w2 :=
  ⟨k.1, grown_trans h.2 k.2⟩
end Go.Proofs.Ytlefjdglcdopeaa
