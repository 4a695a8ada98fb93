/- Parts of the proof, packed: IoMath, IoWord, IoLeaf, IoTape, IoMem, IoRead, IoWild, ToKit, IoWrite, IoValid, IoRef. -/
import Derived.Lib.TrailingZeros
import Derived.IntWalk
import Derived.Laws.BitsAllLaws
import Derived.RowKit3
import Derived.Test.YtnpkihioklpnmaaRows
import Derived.WalkKit
import Derived.WalkSpells
import Derived.WalkLawsBesides
import Derived.Lib.Hide
import Derived.Deep.QuietTactic
import Derived.BigQuiet
import Derived.Shelf.Spec.TrailingZeros
import Derived.ProofKit
import Derived.OpenShut
import Derived.Deep.DeepHandedRow
import Derived.Lib.SmallJoins
import Derived.BigRegion
import Derived.Deep.LoopGhost
/- Both. -/
namespace Go.Proofs.Ytnpkihioklpnmaa
namespace Bs
/-- b without its lowest bit. -/
def wo (b : Nat) : Nat := b &&& (b - 1)
/- THE COUNT OF BITS, AS math/bits HAS IT: in halves, quarters, bytes; each step a byte at a time. -/
def k0 : Nat → Nat | 0 => 0 | k + 1 => 85 + 256 * k0 k
def k1 : Nat → Nat | 0 => 0 | k + 1 => 51 + 256 * k1 k
def k2 : Nat → Nat | 0 => 0 | k + 1 => 15 + 256 * k2 k
def t1 (k x : Nat) : Nat := (x / 2 &&& k0 k) + (x &&& k0 k)
def t2 (k x : Nat) : Nat := (x / 4 &&& k1 k) + (x &&& k1 k)
def t3 (k x : Nat) : Nat := (x / 16 + x) &&& k2 k
def p1 (d : Nat) : Nat := (d / 2 &&& 85) + (d &&& 85)
def p2 (d : Nat) : Nat := (d / 4 &&& 51) + (d &&& 51)
def p3 (d : Nat) : Nat := p2 (p1 d) % 16 + p2 (p1 d) / 16
/-- The eight bytes' counts, side by side. -/
def pb : Nat → Nat → Nat | 0, _ => 0 | k + 1, x => p3 (x % 256) + 256 * pb k (x / 256)
/-- The number of the k bits of f from a on, the first one the most significant. -/
def num (f : Nat → Bool) (a : Nat) : Nat → Nat
  | 0 => 0
  | k + 1 => 2 * num f a k + (f (a + k)).toNat
set_option maxRecDepth 100000 in
theorem num_lt (f : Nat → Bool) (a : Nat) : ∀ k, num f a k < 2 ^ k
  | 0 => by simp [num]
  | k + 1 => by
    have h := num_lt f a k
    have h2 : (f (a + k)).toNat ≤ 1 := Bool.toNat_le _
    rw [num, Nat.pow_succ]; omega
set_option maxRecDepth 100000 in
theorem num_test (f : Nat → Bool) (a : Nat) : ∀ k i, (num f a k).testBit i = (decide (i < k) && f (a + (k - 1 - i)))
  | 0, i => by simp [num]
  | k + 1, 0 => by
    rw [num, Nat.testBit_zero]
    cases h : f (a + k) <;> simp [h] <;> omega
  | k + 1, i + 1 => by
    rw [num, Nat.testBit_succ]
    have e : (2 * num f a k + (f (a + k)).toNat) / 2 = num f a k := by
      have h2 : (f (a + k)).toNat ≤ 1 := Bool.toNat_le _
      omega
    rw [e, num_test f a k i, show k + 1 - 1 - (i + 1) = k - 1 - i by omega]
    congr 1
    rw [decide_eq_decide]; omega
set_option maxRecDepth 100000 in
theorem num_congr {f g : Nat → Bool} {a b : Nat} : ∀ k, (∀ t, t < k → f (a + t) = g (b + t)) → num f a k = num g b k
  | 0, _ => rfl
  | k + 1, h => by rw [num, num, num_congr k (fun t ht => h t (by omega)), h k (by omega)]
set_option maxRecDepth 100000 in
theorem num_eq {f : Nat → Bool} {a k x : Nat} (hx : x < 2 ^ k) (h : ∀ t, t < k → x.testBit (k - 1 - t) = f (a + t)) : x = num f a k := by
  apply Nat.eq_of_testBit_eq
  intro i
  rw [num_test]
  by_cases hi : i < k
  · have e := h (k - 1 - i) (by omega)
    rw [show k - 1 - (k - 1 - i) = i by omega] at e
    rw [e]; simp [hi]
  · rw [Nat.testBit_lt_two_pow (Nat.lt_of_lt_of_le hx (Nat.pow_le_pow_right (by decide) (by omega)))]
    simp [hi]
/-- Bit i of a list of bytes. -/
def bt (l : List Nat) (i : Nat) : Bool := (l.getD (i / 8) 0).testBit (7 - i % 8)
/-- Byte j of the bits f, cut at m. -/
def py (f : Nat → Bool) (m j : Nat) : Nat := num (fun i => decide (i < m) && f i) (8 * j) 8
/-- N bytes of the bits f, cut at m. -/
def pz (f : Nat → Bool) (m N : Nat) : List Nat := (List.range N).map (py f m)
set_option maxRecDepth 100000 in
theorem py_lt (f : Nat → Bool) (m j : Nat) : py f m j < 256 := num_lt _ _ 8
set_option maxRecDepth 100000 in
theorem py_test (f : Nat → Bool) (m j i : Nat) : (py f m j).testBit i = (decide (i < 8) && (decide (8 * j + (7 - i) < m) && f (8 * j + (7 - i)))) := by
  unfold py; rw [num_test]
set_option maxRecDepth 100000 in
theorem pz_len (f : Nat → Bool) (m N : Nat) : (pz f m N).length = N := by unfold pz; simp
set_option maxRecDepth 100000 in
theorem pz_at (f : Nat → Bool) (m N j : Nat) (h : j < N) : (pz f m N)[j]? = some (py f m j) := by
  unfold pz; rw [List.getElem?_map, List.getElem?_range h]; rfl
set_option maxRecDepth 100000 in
theorem pz_getD (f : Nat → Bool) (m N j : Nat) (h : j < N) : (pz f m N).getD j 0 = py f m j := by
  rw [List.getD_eq_getElem?_getD, pz_at f m N j h]; rfl
set_option maxRecDepth 100000 in
theorem pz_lt (f : Nat → Bool) (m N : Nat) : ∀ x ∈ pz f m N, x < 256 := by
  intro x hx
  unfold pz at hx
  obtain ⟨j, _, rfl⟩ := List.mem_map.1 hx
  exact py_lt _ _ _
set_option maxRecDepth 100000 in
theorem bt_pz (f : Nat → Bool) (m N i : Nat) (h : i < 8 * N) : bt (pz f m N) i = (decide (i < m) && f i) := by
  unfold bt
  rw [pz_getD f m N _ (by omega), py_test]
  rw [show 8 * (i / 8) + (7 - (7 - i % 8)) = i by omega]
  simp; omega
set_option maxRecDepth 100000 in
theorem py_congr {f g : Nat → Bool} {m n j : Nat} (h : ∀ i, 8 * j ≤ i → i < 8 * j + 8 → (decide (i < m) && f i) = (decide (i < n) && g i)) : py f m j = py g n j := by
  unfold py
  exact num_congr 8 fun t ht => h (8 * j + t) (by omega) (by omega)
set_option maxRecDepth 100000 in
theorem pz_congr {f g : Nat → Bool} {m n N : Nat} (h : ∀ i, i < 8 * N → (decide (i < m) && f i) = (decide (i < n) && g i)) : pz f m N = pz g n N := by
  unfold pz
  apply List.map_congr_left
  intro j hj
  have hj := List.mem_range.1 hj
  exact py_congr fun i h1 h2 => h i (by omega)
set_option maxRecDepth 100000 in
/-- A list of bytes is what its bits say. -/
theorem pz_bt (l : List Nat) (m : Nat) (hl : ∀ x ∈ l, x < 256) (hz : ∀ i, m ≤ i → i < 8 * l.length → bt l i = false) : l = pz (bt l) m l.length := by
  apply List.ext_getElem?
  intro j
  by_cases hj : j < l.length
  · rw [pz_at _ _ _ _ hj, List.getElem?_eq_getElem hj]
    congr 1
    have hlt := hl _ (List.getElem_mem hj)
    apply num_eq (k := 8) hlt
    intro t ht
    have e : bt l (8 * j + t) = (l[j]).testBit (8 - 1 - t) := by
      unfold bt
      rw [show (8 * j + t) / 8 = j by omega, show 7 - (8 * j + t) % 8 = 8 - 1 - t by omega, List.getD_eq_getElem?_getD, List.getElem?_eq_getElem hj]; rfl
    show _ = (decide (8 * j + t < m) && bt l (8 * j + t))
    by_cases hm : 8 * j + t < m
    · rw [e]; simp [hm]
    · rw [hz _ (by omega) (by omega)] at e
      rw [← e]; simp [hm]
  · rw [List.getElem?_eq_none (by omega), List.getElem?_eq_none (by rw [pz_len]; omega)]
set_option maxRecDepth 100000 in
/-- Bits behind m within the byte are 0 ahead of it. -/
theorem py_zero (f : Nat → Bool) {m j : Nat} (h : m ≤ 8 * j) : py f m j = 0 := by
  apply Nat.eq_of_testBit_eq
  intro t
  rw [py_test]
  have : ¬ 8 * j + (7 - t) < m := by omega
  simp [this]
set_option maxRecDepth 100000 in
/-- A byte gets k bits more. -/
theorem py_or (f : Nat → Bool) (m k : Nat) (hk : m % 8 + k ≤ 8) : py f m (m / 8) ||| (num f m k * 2 ^ (8 - m % 8 - k)) = py f (m + k) (m / 8) := by
  apply Nat.eq_of_testBit_eq
  intro i
  rw [Nat.testBit_or, ← Nat.shiftLeft_eq, Nat.testBit_shiftLeft, py_test, py_test, num_test]
  generalize hr : m % 8 = r at *
  have hm : m = 8 * (m / 8) + r := by omega
  generalize m / 8 = j at *
  subst hm
  by_cases h8 : i < 8
  · by_cases h1 : 8 * j + (7 - i) < 8 * j + r
    · have e1 : ¬ (i - (8 - r - k) < k ∧ i ≥ 8 - r - k) := by omega
      have e2 : 8 * j + (7 - i) < 8 * j + r + k := by omega
      by_cases e3 : i ≥ 8 - r - k
      · have e4 : ¬ i - (8 - r - k) < k := by omega
        simp [h8, h1, e2, e3, e4]
      · simp [h8, h1, e2, e3]
    · by_cases h2 : 8 * j + (7 - i) < 8 * j + r + k
      · have e1 : i - (8 - r - k) < k := by omega
        have e3 : i ≥ 8 - r - k := by omega
        have e5 : 8 * j + r + (k - 1 - (i - (8 - r - k))) = 8 * j + (7 - i) := by omega
        simp only [h8, h1, h2, e1, e3, e5, decide_true, decide_false, Bool.true_and, Bool.false_and, Bool.false_or]
      · have e3 : ¬ i ≥ 8 - r - k := by omega
        simp [h8, h1, h2, e3]
  · have e1 : ¬ i - (8 - r - k) < k := by omega
    simp [h8, e1]
set_option maxRecDepth 100000 in
/-- Other bytes are as they were. -/
theorem pz_set (f : Nat → Bool) (m k N : Nat) (hk : m % 8 + k ≤ 8) (hN : m / 8 < N) : (pz f m N).set (m / 8) (py f (m + k) (m / 8)) = pz f (m + k) N := by
  apply List.ext_getElem?
  intro j
  rw [List.getElem?_set, pz_len]
  by_cases hj : j < N
  · rw [pz_at _ _ _ _ hj]
    by_cases e : m / 8 = j
    · rw [if_pos e, if_pos hN, e, pz_at _ _ _ _ hj]
    · rw [if_neg e, pz_at _ _ _ _ hj]
      refine congrArg some (py_congr fun i h1 h2 => ?_)
      rw [show decide (i < m) = decide (i < m + k) by rw [decide_eq_decide]; omega]
  · rw [if_neg (by omega), List.getElem?_eq_none (by rw [pz_len]; omega), List.getElem?_eq_none (by rw [pz_len]; omega)]
end Bs
end Go.Proofs.Ytnpkihioklpnmaa

/- Both. -/
namespace Go.Proofs.Ytnpkihioklpnmaa
open Go.RowKit
namespace Bs
/-- A number of 64 bits. -/
def U64 (b : Nat) : Prop := b < 18446744073709551616
/-- An int of Go's. -/
def I64 (x : Int) : Prop := -9223372036854775808 ≤ x ∧ x ≤ 9223372036854775807
set_option maxRecDepth 100000 in
theorem U64.lt {b : Nat} (h : U64 b) : b < 18446744073709551616 := h
set_option maxRecDepth 100000 in
theorem u64_mk {b : Nat} (h : b < 18446744073709551616) : U64 b := h
set_option maxRecDepth 100000 in
theorem u64_le {a b : Nat} (h : a ≤ b) (hb : U64 b) : U64 a := Nat.lt_of_le_of_lt h hb
set_option maxRecDepth 100000 in
theorem u64_div (a b : Nat) (h : U64 a) : U64 (a / b) := u64_le (Nat.div_le_self _ _) h
set_option maxRecDepth 100000 in
theorem wrapU (x : Nat) (h : U64 x) : IntKind.u64.wrap (x : Int) = (x : Int) := by
  have := h.lt
  rw [IntKind.wrap_u64]; omega
set_option maxRecDepth 100000 in
theorem andU (a b : Nat) (ha : U64 a) (hb : U64 b) : bits .and .u64 (a : Int) (b : Int) = ((a &&& b : Nat) : Int) := u64_and_nat a b ha hb
set_option maxRecDepth 100000 in
theorem divU (a k : Nat) : (a : Int) / ((k : Nat) : Int) = ((a / k : Nat) : Int) := (Int.natCast_ediv a k).symm
set_option maxRecDepth 100000 in
theorem powI (k : Nat) : ((2 : Int) ^ k) = ((2 ^ k : Nat) : Int) := by simp
set_option maxRecDepth 100000 in
theorem shrW (b k : Nat) : (b : Int) / 2 ^ k = ((b / 2 ^ k : Nat) : Int) := by rw [powI, divU]
set_option maxRecDepth 100000 in
theorem bitW (b k : Nat) (hb : U64 b) : bits .and .u64 ((b : Int) / 2 ^ k) 1 = ((b / 2 ^ k % 2 : Nat) : Int) := by
  rw [shrW, show (1 : Int) = ((1 : Nat) : Int) from rfl, andU _ 1 (u64_div _ _ hb) (by unfold U64; decide), nat_mask1]
/-- One bit; all bits below. Plain names, so that the walk doesn't open them. -/
def b2 (k : Nat) : Nat := 2 ^ k
def lo (k : Nat) : Nat := 2 ^ k - 1
end Bs
end Go.Proofs.Ytnpkihioklpnmaa

/- Both. -/
namespace Go.Proofs.Ytnpkihioklpnmaa
open Go.RowKit Bs

set_option maxRecDepth 100000 in
theorem ret_int {k : IntKind} {a b : Int} (h : a = b) : Ending.returned (.int k a) = .returned (.int k b) := by rw [h]
set_option maxRecDepth 100000 in
theorem ret_bool {a b : Bool} (h : a = b) : Ending.returned (.bool a) = .returned (.bool b) := by rw [h]

/-- Cut: a number from 0 on, below n. -/
def CutOf (n r : Int) : Prop := 0 ≤ r ∧ (1 ≤ n → r < n) ∧ (n < 1 → r = 0)

set_option maxRecDepth 100000 in
theorem cut_neg (x n : Int) (hn : I64 n) (h1 : 1 ≤ n) (h : x.tmod n < 0) : CutOf n (wrap64 (x.tmod n + n)) := by
  have h2 := Int.lt_tmod_of_pos x (show 0 < n by omega)
  unfold I64 at hn
  rw [IntWalk.wrap64_in _ (by omega)]
  unfold CutOf; omega
set_option maxRecDepth 100000 in
theorem cut_pos (x n : Int) (h1 : 1 ≤ n) (h : ¬ x.tmod n < 0) : CutOf n (x.tmod n) := by
  have h2 := Int.tmod_lt_of_pos x (show 0 < n by omega)
  unfold CutOf; omega
set_option maxRecDepth 100000 in
set_option maxHeartbeats 400000 in
theorem cut_any (x n : Int) (hn : I64 n) (w : World) :
    Calls Try.prog 57 #[.int .i64 x, .int .i64 n] w fun e w' => (∃ r, e = .returned (.int .i64 r) ∧ CutOf n r) ∧ w = w' := by
  by_cases h1 : n < 1
  · go_enter Try.func57, Try.ntmps57
    go_wp2
    go_ret
    exact ⟨⟨0, rfl, by unfold CutOf; omega⟩, rfl⟩
  · have h1' : 1 ≤ n := by omega
    by_cases h2 : x.tmod n < 0
    · have hf := Lib.hid (cut_neg x n hn h1' h2)
      go_enter Try.func57, Try.ntmps57
      go_wp2
      go_ret
      exact ⟨⟨_, rfl, hf.out⟩, rfl⟩
    · have hf := Lib.hid (cut_pos x n h1' h2)
      go_enter Try.func57, Try.ntmps57
      go_wp2
      go_ret
      exact ⟨⟨_, rfl, hf.out⟩, rfl⟩

def vl (n : Int) : Bool := n == 8 || n == 16 || n == 32 || n == 64
set_option maxRecDepth 100000 in
theorem vl_cases {n : Int} (h : vl n = true) : n = 8 ∨ n = 16 ∨ n = 32 ∨ n = 64 := by
  unfold vl at h; simp at h; omega
set_option maxRecDepth 100000 in
set_option maxHeartbeats 400000 in
theorem vlp_any (n : Int) (w : World) :
    Calls Try.prog 109 #[.int .i64 n] w fun e w' => e = .returned (.bool (vl n)) ∧ w = w' := by
  go_enter Try.func109, Try.ntmps109
  go_wp2
  all_goals go_ret
  all_goals exact ⟨ret_bool (by first | rfl | (unfold vl; simp [*])), rfl⟩
set_option maxRecDepth 100000 in
set_option maxHeartbeats 400000 in
theorem vlr_any (n : Int) (w : World) :
    Calls Try.prog 110 #[.int .i64 n] w fun e w' => e = .returned (.bool (vl n)) ∧ w = w' := by
  go_enter Try.func110, Try.ntmps110
  go_wp2
  all_goals go_ret
  all_goals exact ⟨ret_bool (by first | rfl | (unfold vl; simp [*])), rfl⟩
end Go.Proofs.Ytnpkihioklpnmaa

/- Both. -/
namespace Go.Proofs.Ytnpkihioklpnmaa
open Go.RowKit Bs

/-- A slice value of n ints, its cells in a block ahead of block a. -/
def IntsV (w : World) (a : Nat) (v : Value) (n : Nat) : Prop :=
  ∃ p c, v = .slice p n c ∧ (0 < n → ∃ b off, p = some ⟨b, off, none⟩ ∧ b < a ∧ ∀ i, i < n → ∃ x, I64 x ∧ w.cell? ⟨b, off + i, none⟩ = some (.int .i64 x))
/-- Block a is a tape. -/
structure TapeOf (w : World) (a : Nat) (v : Value) (n i : Nat) : Prop where
  l : w.cell? ⟨a, 0, none⟩ = some v
  p : w.cell? ⟨a, 1, none⟩ = some (.int .i64 (i : Int))
  fr : w.frozen? ⟨a, 1, none⟩ = false
  ints : IntsV w a v n
  le : i ≤ n
  len : n ≤ 600
def Tp (w : World) (a : Nat) : Prop := ∃ v n i, TapeOf w a v n i
/-- From w to w' the tape's block alone has changed, and blocks have come. -/
def St (a : Nat) (w w' : World) : Prop := w.grownBy w' (some a) ∧ Tp w' a
def IntPost (P : Int → Prop) (a : Nat) (w : World) (e : Ending) (w' : World) : Prop := ∃ r, e = .returned (.int .i64 r) ∧ P r ∧ St a w w'

set_option maxRecDepth 100000 in
theorem grown_refl (w : World) (r : Option Nat) : w.grownBy w r := ⟨rfl, rfl, rfl, Nat.le_refl _, fun _ _ _ => rfl⟩
set_option maxRecDepth 100000 in
theorem grown_trans {w0 w1 w2 : World} {r : Option Nat} (h : w0.grownBy w1 r) (k : w1.grownBy w2 r) : w0.grownBy w2 r :=
  ⟨k.os.trans h.os, k.tape.trans h.tape, k.output.trans h.output, Nat.le_trans h.size k.size, fun b hb hr => (k.block b (Nat.lt_of_lt_of_le hb h.size) hr).trans (h.block b hb hr)⟩
set_option maxRecDepth 100000 in
theorem grown_none {w0 w1 : World} (h : w0.grownBy w1 none) (r : Option Nat) : w0.grownBy w1 r :=
  ⟨h.os, h.tape, h.output, h.size, fun b hb _ => h.block b hb (by simp)⟩
set_option maxRecDepth 100000 in
theorem grown_drewN (w : World) (n : Nat) (r : Option Nat) : w.grownBy (w.drewN n) r := ⟨rfl, rfl, rfl, Nat.le_refl _, fun _ _ _ => rfl⟩
set_option maxRecDepth 100000 in
theorem grown_setCell (w : World) (p : Addr) (u : Value) : w.grownBy (w.setCell p u) (some p.block) :=
  ⟨rfl, rfl, rfl, by simp [World.setCell], fun k _ hk => Below.heap_setCell _ _ _ _ (by simpa using hk)⟩
set_option maxRecDepth 100000 in
theorem St.trans {a : Nat} {w0 w1 w2 : World} (h : St a w0 w1) (k : St a w1 w2) : St a w0 w2 := ⟨grown_trans h.1 k.1, k.2⟩
set_option maxRecDepth 100000 in
theorem IntsV.grown {w w' : World} {a n : Nat} {v : Value} (h : IntsV w a v n) (g : w.grownBy w' (some a)) : IntsV w' a v n := by
  obtain ⟨p, c, hv, hc⟩ := h
  refine ⟨p, c, hv, fun hn => ?_⟩
  obtain ⟨b, off, hp, hb, hx⟩ := hc hn
  refine ⟨b, off, hp, hb, fun i hi => ?_⟩
  obtain ⟨x, hx, hcell⟩ := hx i hi
  exact ⟨x, hx, g.cell hcell (by simp; omega)⟩

set_option maxRecDepth 100000 in
set_option maxHeartbeats 400000 in
theorem raw_end (a : Nat) (p : Option Addr) (n c i : Nat) (w : World) (h1 : w.cell? ⟨a, 0, none⟩ = some (.slice p n c)) (h2 : w.cell? ⟨a, 1, none⟩ = some (.int .i64 (i : Int))) (h : n ≤ i) :
    Calls Try.prog 58 #[.pointer (some ⟨a, 0, none⟩)] w fun e w' => e = .returned (.int .i64 0) ∧ ∃ nq, w' = w.drewN nq := by
  go_enter Try.func58, Try.ntmps58
  go_wp2
  go_quiet (fail)
  go_wp2
  go_ret
  exact ⟨rfl, _, rfl⟩
set_option maxRecDepth 100000 in
set_option maxHeartbeats 400000 in
theorem raw_step (a b off n c i : Nat) (x : Int) (w : World) (h1 : w.cell? ⟨a, 0, none⟩ = some (.slice (some ⟨b, off, none⟩) n c)) (h2 : w.cell? ⟨a, 1, none⟩ = some (.int .i64 (i : Int)))
    (hf : w.frozen? ⟨a, 1, none⟩ = false) (hba : b ≠ a) (hx : w.cell? ⟨b, off + i, none⟩ = some (.int .i64 x)) (h : i < n) (hn : n ≤ 600) :
    Calls Try.prog 58 #[.pointer (some ⟨a, 0, none⟩)] w fun e w' => e = .returned (.int .i64 x) ∧ ∃ m q, w' = ((w.drewN m).setCell ⟨a, 1, none⟩ (.int .i64 ((i : Int) + 1))).drewN q := by
  go_enter Try.func58, Try.ntmps58
  go_wp2
  go_quiet (fail)
  go_wp2
  go_quiet (fail)
  go_wp2
  go_ret
  exact ⟨rfl, _, _, rfl⟩
set_option maxRecDepth 100000 in
theorem raw_any (a : Nat) (w : World) (hT : Tp w a) :
    Calls Try.prog 58 #[.pointer (some ⟨a, 0, none⟩)] w fun e w' => IntPost I64 a w e w' := by
  obtain ⟨v, n, i, T⟩ := hT
  have zero : I64 0 := by unfold I64; omega
  have keep : ∀ nq, St a w (w.drewN nq) := fun nq =>
    ⟨grown_drewN w nq _, v, n, i, T.l, T.p, T.fr, T.ints.grown (grown_drewN w nq _), T.le, T.len⟩
  obtain ⟨p, c, rfl, hc⟩ := T.ints
  by_cases hlt : i < n
  · obtain ⟨b, off, rfl, hb, hx⟩ := hc (by omega)
    obtain ⟨x, hx, hcell⟩ := hx i hlt
    refine (raw_step a b off n c i x w T.l T.p T.fr (Nat.ne_of_lt hb) hcell hlt T.len).mono ?_
    rintro e w' ⟨rfl, m, q, rfl⟩
    have g : w.grownBy (((w.drewN m).setCell ⟨a, 1, none⟩ (.int .i64 ((i : Int) + 1))).drewN q) (some a) :=
      grown_trans (grown_trans (grown_drewN w m _) (grown_setCell _ ⟨a, 1, none⟩ _)) (grown_drewN _ q _)
    refine ⟨x, rfl, hx, g, .slice (some ⟨b, off, none⟩) n c, n, i + 1, ?_, ?_, ?_, T.ints.grown g, hlt, T.len⟩
    · exact (World.cell?_setCell_other (w.drewN m) ⟨a, 1, none⟩ ⟨a, 0, none⟩ _ (by simp)).trans T.l
    · exact World.cell?_setCell_same' (w.drewN m) ⟨a, 1, none⟩ _ (by rw [show (w.drewN m).cell? ⟨a, 1, none⟩ = _ from T.p]; rfl)
    · exact (World.frozen?_setCell (w.drewN m) ⟨a, 1, none⟩ ⟨a, 1, none⟩ _).trans T.fr
  · refine (raw_end a p n c i w T.l T.p (by omega)).mono ?_
    rintro e w' ⟨rfl, nq, rfl⟩
    exact ⟨0, rfl, zero, keep nq⟩

def NewPost (w : World) (e : Ending) (w' : World) : Prop := e = .returned (.pointer (some ⟨w.heap.size, 0, none⟩)) ∧ w.grownBy w' none ∧ Tp w' w.heap.size
set_option maxRecDepth 100000 in
set_option maxHeartbeats 400000 in
theorem new_some (p : Option Addr) (n c : Nat) (w : World) (hn : n ≤ 600) (hcm : c ≤ 9223372036854775807) :
    Calls Try.prog 11 #[.slice p n c] w fun e w' => e = .returned (.pointer (some ⟨w.heap.size, 0, none⟩)) ∧ w' = w.alloc (.cells #[.slice p n c, .int .i64 0] 87) := by
  go_enter Try.func11, Try.ntmps11
  go_wp2
  go_ret
  exact ⟨rfl, rfl⟩
set_option maxRecDepth 100000 in
set_option maxHeartbeats 400000 in
theorem new_cut (b off n c : Nat) (w : World) (hn : 600 < n) (hc : n ≤ c) (hcm : c ≤ 9223372036854775807) :
    Calls Try.prog 11 #[.slice (some ⟨b, off, none⟩) n c] w fun e w' => e = .returned (.pointer (some ⟨w.heap.size, 0, none⟩)) ∧ w' = w.alloc (.cells #[.slice (some ⟨b, off, none⟩) 600 c, .int .i64 0] 87) := by
  go_enter Try.func11, Try.ntmps11
  go_wp2
  go_ret
  exact ⟨rfl, rfl⟩
/-- A slice of ints that came in. -/
def IntsIn (w : World) (v : Value) : Prop :=
  ∃ p n c, v = .slice p n c ∧ n ≤ c ∧ c ≤ 9223372036854775807 ∧ (0 < n → ∃ b off, p = some ⟨b, off, none⟩ ∧ b < w.heap.size ∧ ∀ i, i < n → ∃ x, I64 x ∧ w.cell? ⟨b, off + i, none⟩ = some (.int .i64 x))
set_option maxRecDepth 100000 in
theorem tape_new (w : World) (v : Value) (n : Nat) (hv : IntsV w w.heap.size v n) (hn : n ≤ 600) : Tp (w.alloc (.cells #[v, .int .i64 0] 87)) w.heap.size := by
  have hb : (w.alloc (.cells #[v, .int .i64 0] 87)).heap[w.heap.size]? = some (.cells #[v, .int .i64 0] 87 (0, 0)) := heap_alloc_new w _
  refine ⟨v, n, 0, ?_, ?_, ?_, hv.grown (World.grownBy_alloc w _ _), Nat.zero_le _, hn⟩
  · rw [cell_of_row _ _ _ _ _ _ hb]; rfl
  · rw [cell_of_row _ _ _ _ _ _ hb]; rfl
  · unfold World.frozen?; rw [show (Addr.mk w.heap.size 1 none).block = w.heap.size from rfl, hb]; rfl
set_option maxRecDepth 100000 in
theorem new_any (v : Value) (w : World) (hv : IntsIn w v) :
    Calls Try.prog 11 #[v] w fun e w' => NewPost w e w' := by
  obtain ⟨p, n, c, rfl, hnc, hcm, hc⟩ := hv
  by_cases hn : n ≤ 600
  · refine (new_some p n c w hn hcm).mono ?_
    rintro e w' ⟨rfl, rfl⟩
    refine ⟨rfl, World.grownBy_alloc w _ _, tape_new w _ n ⟨p, c, rfl, fun h => ?_⟩ hn⟩
    obtain ⟨b, off, hp, hb, hx⟩ := hc h
    exact ⟨b, off, hp, by omega, hx⟩
  · obtain ⟨b, off, rfl, hb, hx⟩ := hc (by omega)
    refine (new_cut b off n c w (by omega) hnc hcm).mono ?_
    rintro e w' ⟨rfl, rfl⟩
    exact ⟨rfl, World.grownBy_alloc w _ _, tape_new w _ 600 ⟨_, c, rfl, fun _ => ⟨b, off, rfl, by omega, fun i hi => hx i (by omega)⟩⟩ (by omega)⟩

set_option maxRecDepth 100000 in
set_option maxHeartbeats 400000 in
theorem next_any (a : Nat) (n : Int) (hn : I64 n) (w : World) (hT : Tp w a) :
    Calls Try.prog 25 #[.pointer (some ⟨a, 0, none⟩), .int .i64 n] w fun e w' => IntPost (CutOf n) a w e w' := by
  go_enter Try.func25, Try.ntmps25
  go_wp2_with fail
  refine (raw_any a _ hT).mono ?_
  rintro e w1 ⟨x, rfl, hx, hs⟩
  go_wp2_with fail
  refine (cut_any x n hn _).mono ?_
  rintro e w2 ⟨⟨r, rfl, hr⟩, rfl⟩
  go_wp2_with fail
  go_ret
  exact ⟨r, rfl, hr, hs⟩

def RangeOf (low high r : Int) : Prop := low ≤ r ∧ (low ≤ high → r ≤ high) ∧ (high < low → r = low)
set_option maxRecDepth 100000 in
set_option maxHeartbeats 400000 in
theorem range_any (a : Nat) (low high : Int) (h1 : -1099511627776 ≤ low) (h2 : low ≤ 1099511627776) (h3 : -1099511627776 ≤ high) (h4 : high ≤ 1099511627776) (w : World) (hT : Tp w a) :
    Calls Try.prog 18 #[.pointer (some ⟨a, 0, none⟩), .int .i64 low, .int .i64 high] w fun e w' => IntPost (RangeOf low high) a w e w' := by
  go_enter Try.func18, Try.ntmps18
  go_wp2_with fail
  refine (next_any a _ (by unfold I64; omega) _ hT).mono ?_
  rintro e w1 ⟨r, rfl, hr, hs⟩
  have hlo : 0 ≤ r := hr.1
  have hhi : r ≤ 2199023255553 := by unfold CutOf at hr; omega
  have hR : Hid (RangeOf low high (low + r)) := by show RangeOf _ _ _; unfold CutOf at hr; unfold RangeOf; omega
  go_wp2_with fail
  go_ret
  exact ⟨_, rfl, hR, hs⟩

/-- Each of n ints of a slice, outside block a, meets P. -/
def Among (P : Int → Prop) (w : World) (a b off n : Nat) : Prop := b ≠ a ∧ b < w.heap.size ∧ ∀ i, i < n → ∃ x, P x ∧ w.cell? ⟨b, off + i, none⟩ = some (.int .i64 x)
set_option maxRecDepth 100000 in
theorem Among.at_ {P : Int → Prop} {w w' : World} {a b off n : Nat} (h : Among P w a b off n) (g : w.grownBy w' (some a)) (i : Nat) (hi : i < n) :
    ∃ x, P x ∧ w'.cell? ⟨b, off + i, none⟩ = some (.int .i64 x) := by
  obtain ⟨x, hx, hc⟩ := h.2.2 i hi
  exact ⟨x, hx, g.cell hc (by simpa using h.1)⟩
set_option maxRecDepth 100000 in
set_option maxHeartbeats 400000 in
theorem pick_any (P : Int → Prop) (a b off n c : Nat) (h0 : 0 < n) (hn : n ≤ 1000) (w : World) (hT : Tp w a) (hA : Among P w a b off n) :
    Calls Try.prog 46 #[.pointer (some ⟨a, 0, none⟩), .slice (some ⟨b, off, none⟩) n c] w fun e w' => IntPost P a w e w' := by
  go_enter Try.func46, Try.ntmps46
  go_wp2_with fail
  refine (next_any a _ (by unfold I64; omega) _ hT).mono ?_
  rintro e w1 ⟨r, rfl, hr, hs⟩
  obtain ⟨k, rfl⟩ := Int.eq_ofNat_of_zero_le hr.1
  have hk : k < n := by unfold CutOf at hr; omega
  obtain ⟨x, hx, hc⟩ := hA.at_ hs.1 k hk
  have HX : Hid (P x) := hx
  clear hx
  go_wp2_with fail
  go_ret
  exact ⟨x, rfl, HX, hs⟩

set_option maxRecDepth 100000 in
set_option maxHeartbeats 400000 in
theorem one_any (a : Nat) (n : Int) (hn : I64 n) (w : World) (hT : Tp w a) :
    Calls Try.prog 24 #[.pointer (some ⟨a, 0, none⟩), .int .i64 n] w fun e w' => ∃ b, e = .returned (.bool b) ∧ St a w w' := by
  go_enter Try.func24, Try.ntmps24
  go_wp2_with fail
  refine (next_any a n hn _ hT).mono ?_
  rintro e w1 ⟨r, rfl, hr, hs⟩
  go_wp2_with fail
  go_ret
  exact ⟨_, rfl, hs⟩

set_option maxRecDepth 100000 in
theorem among_new (P : Int → Prop) (w : World) (a : Nat) (cs : Array Value) (t : TypeId) (ha : a < w.heap.size) (h : ∀ i, i < cs.size → ∃ x, P x ∧ cs[i]? = some (.int .i64 x)) :
    Among P (w.alloc (.cells cs t)) a w.heap.size 0 cs.size := by
  have hb : (w.alloc (.cells cs t)).heap[w.heap.size]? = some (.cells cs t (0, 0)) := heap_alloc_new w _
  refine ⟨by omega, by simp, fun i hi => ?_⟩
  obtain ⟨x, hx, hc⟩ := h i hi
  refine ⟨x, hx, ?_⟩
  rw [Nat.zero_add, cell_of_row _ _ _ _ _ _ hb]; exact hc
set_option maxRecDepth 100000 in
theorem among_list (P : Int → Prop) (w : World) (a : Nat) (l : List Int) (cs : Array Value) (t : TypeId) (ha : a < w.heap.size) (hl : cs = (l.map fun x => Value.int .i64 x).toArray) (h : ∀ x ∈ l, P x) :
    Among P (w.alloc (.cells cs t)) a w.heap.size 0 cs.size := by
  refine among_new P w a cs t ha fun i hi => ?_
  subst hl
  have hi' : i < l.length := by simpa using hi
  exact ⟨l[i], h _ (List.getElem_mem hi'), by simp [hi']⟩
set_option maxRecDepth 100000 in
theorem Tp.lt {w : World} {a : Nat} (h : Tp w a) : a < w.heap.size := by
  obtain ⟨v, n, i, T⟩ := h
  exact World.block_lt_of_cell? w ⟨a, 0, none⟩ T.l
set_option maxRecDepth 100000 in
theorem Tp.alloc {w : World} {a : Nat} (h : Tp w a) (o : Obj) : Tp (w.alloc o) a := by
  have hlt := h.lt
  obtain ⟨v, n, i, T⟩ := h
  have hb : (w.alloc o).heap[a]? = w.heap[a]? := Below.heap_alloc w o a hlt
  exact ⟨v, n, i, (World.cell?_of_block (a := ⟨a, 0, none⟩) hb).trans T.l, (World.cell?_of_block (a := ⟨a, 1, none⟩) hb).trans T.p, (World.frozen?_of_block (a := ⟨a, 1, none⟩) hb).trans T.fr, T.ints.grown (World.grownBy_alloc w o _), T.le, T.len⟩
set_option maxRecDepth 100000 in
theorem St.alloc_left {w w' : World} {a : Nat} {o : Obj} (h : St a (w.alloc o) w') : St a w w' := ⟨grown_trans (World.grownBy_alloc w o _) h.1, h.2⟩
set_option maxRecDepth 100000 in
set_option maxHeartbeats 400000 in
theorem length_any (a : Nat) (w : World) (hT : Tp w a) :
    Calls Try.prog 55 #[.pointer (some ⟨a, 0, none⟩)] w fun e w' => IntPost (fun r => vl r = true) a w e w' := by
  go_enter Try.func55, Try.ntmps55
  go_wp2_with fail
  refine (pick_any (fun r => vl r = true) a _ 0 5 5 (by omega) (by omega) _ (hT.alloc _) (among_list _ w a [8, 8, 16, 32, 64] _ _ hT.lt rfl (by decide))).mono ?_
  rintro e w1 ⟨r, rfl, hr, hs⟩
  go_wp2_with fail
  go_ret
  exact ⟨_, rfl, hr, hs.alloc_left⟩
set_option maxRecDepth 100000 in
theorem Tp.drew {w : World} {a : Nat} (h : Tp w a) : Tp w.drew a := by
  obtain ⟨v, n, i, T⟩ := h
  exact ⟨v, n, i, T.l, T.p, T.fr, T.ints, T.le, T.len⟩
set_option maxRecDepth 100000 in
theorem Tp.keep {w w' : World} {a : Nat} (h : Tp w a) (g : w.grownBy w' none) : Tp w' a := by
  have hlt := h.lt
  obtain ⟨v, n, i, T⟩ := h
  have hb : w'.heap[a]? = w.heap[a]? := g.block a hlt (by simp)
  exact ⟨v, n, i, (World.cell?_of_block (a := ⟨a, 0, none⟩) hb).trans T.l, (World.cell?_of_block (a := ⟨a, 1, none⟩) hb).trans T.p, (World.frozen?_of_block (a := ⟨a, 1, none⟩) hb).trans T.fr, T.ints.grown (grown_none g _), T.le, T.len⟩

end Go.Proofs.Ytnpkihioklpnmaa

/- Both. -/
namespace Go.Proofs.Ytnpkihioklpnmaa
open Go.RowKit Bs

set_option maxRecDepth 100000 in
theorem info_u8 : (Try.prog.info? 5).map (fun i => (i.zero, i.size, i.bytes)) = some (some (.int .u8 0), 1, 1) := by kernel_rfl

/-- The slice value v reads as vs; where it has elements, its block meets q. -/
def Rd (w : World) (q : Nat → Prop) (v : Value) (vs : List Value) : Prop :=
  ∃ p c, v = .slice p vs.length c ∧ (vs ≠ [] → ∃ b off, p = some ⟨b, off, none⟩ ∧ q b ∧ ∀ i x, vs[i]? = some x → w.cell? ⟨b, off + i, none⟩ = some x)
set_option maxRecDepth 100000 in
theorem Rd.grown {w w' : World} {q : Nat → Prop} {v : Value} {vs : List Value} {r : Option Nat} (h : Rd w q v vs) (g : w.grownBy w' r) (hq : ∀ b, q b → some b ≠ r) : Rd w' q v vs := by
  obtain ⟨p, c, hv, hc⟩ := h
  refine ⟨p, c, hv, fun hne => ?_⟩
  obtain ⟨b, off, hp, hb, hx⟩ := hc hne
  exact ⟨b, off, hp, hb, fun i x hi => g.cell (hx i x hi) (hq b hb)⟩
set_option maxRecDepth 100000 in
theorem Rd.mono {w : World} {q q' : Nat → Prop} {v : Value} {vs : List Value} (h : Rd w q v vs) (hq : ∀ b, q b → q' b) : Rd w q' v vs := by
  obtain ⟨p, c, hv, hc⟩ := h
  refine ⟨p, c, hv, fun hne => ?_⟩
  obtain ⟨b, off, hp, hb, hx⟩ := hc hne
  exact ⟨b, off, hp, hq b hb, hx⟩
set_option maxRecDepth 100000 in
theorem Rd.keep {w w' : World} {q : Nat → Prop} {v : Value} {vs : List Value} (h : Rd w q v vs) (g : w.grownBy w' none) : Rd w' q v vs := h.grown g (fun _ _ => by simp)
set_option maxRecDepth 100000 in
theorem Rd.nil_ (w : World) (q : Nat → Prop) (p : Option Addr) (c : Nat) : Rd w q (.slice p 0 c) [] := ⟨p, c, rfl, fun h => absurd rfl h⟩
set_option maxRecDepth 100000 in
theorem rd_of_own {w : World} {base : Nat} {e : TypeId} {v : Value} {n : Nat} {xs : List Value} (h : w.ownsRow base e 1 v n xs) : Rd w (base ≤ ·) v xs := by
  have hl : xs.length = n := by have := h.1; omega
  rcases h.2 with ⟨rfl, h0⟩ | ⟨g, cap, cur, rfl, hb, hg, _⟩
  · subst h0
    exact ⟨none, 0, by rw [hl], fun hne => absurd (List.eq_nil_of_length_eq_zero hl) hne⟩
  · refine ⟨some ⟨g, 0, none⟩, cap, by rw [hl], fun _ => ⟨g, 0, rfl, hb, fun i x hi => ?_⟩⟩
    have := h.cells (g := g) rfl i x hi
    have hadd : (⟨g, 0, none⟩ : Addr).add i = ⟨g, 0 + i, none⟩ := by unfold Addr.add; split <;> simp_all
    rw [hadd] at this
    exact this
set_option maxRecDepth 100000 in
theorem hid_drew {W w : World} {r : Option Nat} (h : Hid (W.grownBy w r)) : Hid (W.grownBy w.drew r) := Lib.hid ⟨h.out.os, h.out.tape, h.out.output, h.out.size, h.out.block⟩
set_option maxRecDepth 100000 in
theorem hid_more {W w w' : World} {r : Option Nat} (h : Hid (W.grownBy w r)) (k : w.grownBy w' r) : Hid (W.grownBy w' r) := Lib.hid (grown_trans h.out k)
end Go.Proofs.Ytnpkihioklpnmaa

/- The program's small functions, and its reading of bits. -/
namespace Go.Proofs.Ytnpkihioklpnmaa
open Go.RowKit Bs

/-- A byte. -/
def nv (x : Nat) : Value := .int .u8 (x : Int)
/-- Bytes, each below 256. -/
def By (l : List Nat) : Prop := ∀ x ∈ l, x < 256
set_option maxRecDepth 100000 in
theorem By.at_ {l : List Nat} (h : By l) {j : Nat} (hj : j < l.length) : l.getD j 0 < 256 := by
  rw [List.getD_eq_getElem?_getD, List.getElem?_eq_getElem hj]
  exact h _ (List.getElem_mem hj)
set_option maxRecDepth 100000 in
theorem nv_at {l : List Nat} {j : Nat} (h : j < l.length) : (l.map nv)[j]? = some (.int .u8 ((l.getD j 0 : Nat) : Int)) := by
  rw [List.getElem?_map, List.getElem?_eq_getElem h, List.getD_eq_getElem?_getD, List.getElem?_eq_getElem h]; rfl
set_option maxRecDepth 100000 in
theorem Rd.at_ {w : World} {q : Nat → Prop} {p : Option Addr} {n c i : Nat} {vs : List Value} {x : Value} (h : Rd w q (.slice p n c) vs) (hi : vs[i]? = some x) :
    ∃ b off, p = some ⟨b, off, none⟩ ∧ q b ∧ w.cell? ⟨b, off + i, none⟩ = some x := by
  obtain ⟨p1, c1, e1, hx⟩ := h
  injection e1 with a1 a2 a3
  subst a1
  obtain ⟨b, off, hp, hq, hc⟩ := hx (by intro e; rw [e] at hi; simp at hi)
  exact ⟨b, off, hp, hq, hc i x hi⟩
def vw (n : Int) : Bool := decide (0 ≤ n) && decide (n ≤ 64)
end Go.Proofs.Ytnpkihioklpnmaa

/- The tape's wild numbers; rows of a call's own while the tape turns. -/
namespace Go.Proofs.Ytnpkihioklpnmaa
open Go.RowKit Bs
def wilds : List Int := [-1, 0, 1, 7, 8, 23, 24, 31, 32, 63, 64, 99, 100, 255, 256, 257, 1000, 1001, 1023, 1024, 1000000, 1000001, 1099511627776, 9223372036854775807, -9223372036854775808]
set_option maxRecDepth 100000 in
theorem wilds_i64 : ∀ x ∈ wilds, I64 x := by unfold I64 wilds; decide +kernel
set_option maxRecDepth 100000 in
set_option maxHeartbeats 800000 in
theorem wild_any (a : Nat) (w : World) (hT : Tp w a) :
    Calls Try.prog 56 #[.pointer (some ⟨a, 0, none⟩)] w fun e w' => IntPost I64 a w e w' := by
  have HA := among_list I64 w a wilds (wilds.map fun x => Value.int .i64 x).toArray 3 hT.lt rfl wilds_i64
  have HA' := Lib.hid HA
  clear HA
  go_enter Try.func56, Try.ntmps56
  go_wp2_with fail
  refine (pick_any I64 a _ 0 25 25 (by omega) (by omega) _ (hT.alloc _) HA'.out).mono ?_
  rintro e w1 ⟨r, rfl, hr, hs⟩
  go_wp2_with fail
  go_ret
  exact ⟨_, rfl, hr, hs.alloc_left⟩
end Go.Proofs.Ytnpkihioklpnmaa

/- (Without streams.) What every statement's proof shares: the arguments opened; the call's end shut. -/
namespace Go.Proofs.Ytnpkihioklpnmaa
open Go.ChangeShapes Go.WideShapes Go.ChangeAt Go.RowKit Go.Joins Bs

set_option maxRecDepth 100000 in
theorem kit_own : ownKnob Try.prog.godebug = none := by kernel_rfl
set_option maxRecDepth 100000 in
theorem kit_laid : laidOutB Try.prog = true := by kernel_rfl
set_option maxRecDepth 100000 in
theorem kit_cellsInt : Try.prog.cellsOf 3 = 1 := by kernel_rfl
section
variable {H : Type} {enc : TypeId × Value → H} {W W' : World}
/-- The types of these parameters can be read. -/
def Readable (P : Program) (ts : List TypeId) : Bool := ts.all fun t => P.readableRec t && decide (t < P.types.size)
set_option maxRecDepth 100000 in
theorem args_below {P : Program} (hl : laidOutB P = true) (hb : Below W.heap.size W W') {sp : Nat → Bool} : ∀ (ts : List TypeId) (vs : List Value) (ds : List (DataW H)) (ps : List MemPlace), Readable P ts = true →
    DataW.TrodAll enc P W 0 (fun _ => true) true ts vs ds ps → (∀ x ∈ ps, x.block < W.heap.size) → (∀ x ∈ ps, sp x.block = true) → DataW.TrodAll enc P W' 0 sp true ts vs ds ps := by
  intro ts
  induction ts with
  | nil =>
    intro vs ds ps _ h _ _
    cases vs with
    | nil => cases ds with
      | nil => exact h
      | cons _ _ => exact h.elim
    | cons _ _ => exact h.elim
  | cons t ts ih =>
    intro vs ds ps hr h hlt hs
    cases vs with
    | nil => exact h.elim
    | cons v vs => cases ds with
      | nil => exact h.elim
      | cons d ds =>
        obtain ⟨p, q, h1, h2, rfl⟩ := h
        have hr' : (P.readableRec t = true ∧ t < P.types.size) ∧ Readable P ts = true := by
          unfold Readable at hr ⊢
          rw [List.all_cons, Bool.and_eq_true, Bool.and_eq_true, decide_eq_true_eq] at hr
          exact hr
        exact ⟨p, q, WideElems.Trod_stays hl hr'.1.1 hr'.1.2 h1 (fun x hx => hb.same (hlt x (by simp [hx]))) (fun x hx => hs x (by simp [hx])),
          ih vs ds q hr'.2 h2 (fun x hx => hlt x (by simp [hx])) (fun x hx => hs x (by simp [hx])), rfl⟩
set_option maxRecDepth 100000 in
theorem below_of_grown (g : W.grownBy W' none) : Below W.heap.size W W' := ⟨g.os, g.tape, g.output, g.size, fun k hk => g.block k hk (by simp)⟩
set_option maxRecDepth 100000 in
/-- The end of a statement's call: it returned true, and made memory alone. -/
theorem law_post {f : Func} {s : ChangeSpec} {args : Array Value} {ds gs : List (DataW H)} {before : List MemPlace} (hr : Readable Try.prog f.params.toList = true) (hv : s.vars = [])
    (hres : f.resultTypes = #[4]) (hfn : (s.fn H (ds ++ gs)).results = [.lit (.bool true)] ∧ (s.fn H (ds ++ gs)).args = ds ∧ (s.fn H (ds ++ gs)).vars = [])
    (hW : DataW.Whole enc Try.prog f.params.toList s.vars false W args.toList ds gs before) (g : W.grownBy W' none) : s.post enc Try.prog f false true false false W args (.bool true) W' := by
  have hlt := hW.lt
  have hb := below_of_grown g
  obtain ⟨p, q, hA, hV, hp, _, _⟩ := id hW
  rw [hv] at hV
  obtain ⟨rfl, rfl⟩ := trodVars_none hV
  rw [List.append_nil] at hp
  subst hp
  refine ⟨ds, [], before, [], before, [], hW, ?_, ?_, ?_, hb.frame _, fun h => by cases h⟩
  · rw [hfn.1, hres]
    exact trodAll_mk1 (shut_bool Try.underlying4 _)
  · rw [hfn.2.1]
    exact args_below kit_laid hb _ _ _ _ hr hA hlt (fun x hx => by simpa using hlt x hx)
  · rw [hfn.2.2, hv]; rfl
end

section
variable {H : Type} {enc : TypeId × Value → H} {W : World} {base : Nat} {v : Value} {d : DataW H} {ps : List MemPlace}
set_option maxRecDepth 100000 in
theorem i64_wf {n : Int} (wf : (Lit.int .i64 n).wf = true) : I64 n := by
  simp [Lit.wf, IntKind.min, IntKind.max, IntKind.bits, IntKind.signed] at wf
  unfold I64; omega
set_option maxRecDepth 100000 in
theorem opn_slice {T E : TypeId} {k : IntKind} (ht : Try.prog.underlying T = some (.slice E)) (he : Try.prog.underlying E = some (.int k)) (hc : Try.prog.cellsOf E = 1)
    (hval : Value.okWide Try.prog W .any base T v) (h : DataW.Trod enc Try.prog W 0 (fun _ => true) true T v d ps) :
    ∃ zs : List Int, (∀ z ∈ zs, (Lit.int k z).wf = true) ∧ Rd W (· < W.heap.size) v (zs.map fun z => .int k z) ∧ ∃ p c, v = .slice p zs.length c ∧ zs.length ≤ c ∧ c ≤ 9223372036854775807 := by
  obtain ⟨p0, n0, c0, rfl⟩ := okWide_slice ht hval
  obtain ⟨fuel, hf⟩ := h
  rcases open_ints ht he hc hf with ⟨hcs, _⟩ | ⟨a, len, cap, zs, hcs, _, hl, hm, hz, _, hcell, hw⟩
  · simp [Value.cells] at hcs
    obtain ⟨rfl, rfl, rfl⟩ := hcs
    exact ⟨[], fun _ h => by simp at h, Rd.nil_ _ _ _ _, none, 0, rfl, Nat.le_refl _, Nat.zero_le _⟩
  · simp [Value.cells] at hcs
    obtain ⟨rfl, rfl, rfl⟩ := hcs
    rw [if_pos rfl] at hz
    have hlen : (zs.take n0).length = n0 := by rw [List.length_take]; omega
    refine ⟨zs.take n0, fun z hzm => hw z (List.mem_of_mem_take hzm), ?_, some a, c0, by rw [hlen], by omega, hm⟩
    refine ⟨some a, c0, by rw [List.length_map, hlen], fun hne => ?_⟩
    have hpos : 0 < zs.length := by
      rcases Nat.eq_zero_or_pos zs.length with h0 | h0
      · rw [List.eq_nil_of_length_eq_zero h0] at hne
        simp at hne
      · exact h0
    obtain ⟨b, off, rfl, hcc⟩ := ints_at hcell hpos
    refine ⟨b, off, rfl, World.block_lt_of_cell? W ⟨b, off + 0, none⟩ (hcc 0 hpos), fun i x hi => ?_⟩
    obtain ⟨hi1, hi2⟩ := List.getElem?_eq_some_iff.1 hi
    rw [List.length_map, hlen] at hi1
    rw [hcc i (by omega)]
    rw [List.getElem_map, List.getElem_take] at hi2
    rw [← hi2, List.getD_eq_getElem?_getD, List.getElem?_eq_getElem (by omega)]; rfl
set_option maxRecDepth 100000 in
theorem opn_ints (hval : Value.okWide Try.prog W .any base 22 v) (h : DataW.Trod enc Try.prog W 0 (fun _ => true) true 22 v d ps) :
    ∃ zs : List Int, (∀ z ∈ zs, I64 z) ∧ Rd W (· < W.heap.size) v (zs.map fun z => .int .i64 z) ∧ ∃ p c, v = .slice p zs.length c ∧ zs.length ≤ c ∧ c ≤ 9223372036854775807 := by
  obtain ⟨zs, hw, hr⟩ := opn_slice Try.underlying22 Try.underlying3 kit_cellsInt hval h
  exact ⟨zs, fun z hz => i64_wf (hw z hz), hr⟩
set_option maxRecDepth 100000 in
theorem ints_in {zs : List Int} (hz : ∀ z ∈ zs, I64 z) (h : Rd W (· < W.heap.size) v (zs.map fun z => .int .i64 z)) (hc : ∃ p c, v = .slice p zs.length c ∧ zs.length ≤ c ∧ c ≤ 9223372036854775807) : IntsIn W v := by
  obtain ⟨p, c, rfl, h1, h2⟩ := hc
  refine ⟨p, zs.length, c, rfl, h1, h2, fun hn => ?_⟩
  obtain ⟨p', c', hv, hx⟩ := h
  injection hv with e1 e2 e3
  subst e1
  obtain ⟨b, off, hp, hb, hcell⟩ := hx (by intro e; have := congrArg List.length e; simp at this; subst this; simp at hn)
  refine ⟨b, off, hp, hb, fun i hi => ⟨zs[i], hz _ (List.getElem_mem hi), hcell i _ ?_⟩⟩
  rw [List.getElem?_map, List.getElem?_eq_getElem hi]; rfl
end
section
variable {H : Type} {enc : TypeId × Value → H} {W : World} {base : Nat} {v : Value} {d : DataW H} {ps : List MemPlace}
end
end Go.Proofs.Ytnpkihioklpnmaa

/- A block of bytes that a call has made; the program's writing and moving of bits. -/
namespace Go.Proofs.Ytnpkihioklpnmaa
open Go.RowKit Bs

section
variable {w w' : World} {g : Nat} {l : List Nat}
end
end Go.Proofs.Ytnpkihioklpnmaa

/- Valid, of the program and of the reference. -/
namespace Go.Proofs.Ytnpkihioklpnmaa
open Go.RowKit Bs
set_option maxRecDepth 100000 in
theorem qt1 {P : Program} {f : FuncId} {args : Array Value} {w : World} {n : Nat} {v : Value} (h : Calls P f args (w.drewN n) fun e w' => e = .returned v ∧ w.drewN n = w') :
    Calls P f args (w.drewN n) fun e w'' => e = .returned v ∧ ∃ m, w'' = w.drewN m := h.mono fun _ _ ⟨he, hw⟩ => ⟨he, n, hw.symm⟩
/-- A stream is valid. -/
def vs (l : List Nat) (n : Int) : Bool := decide (0 ≤ n ∧ n ≤ 8192 ∧ l.length = (n.toNat + 7) / 8 ∧ ∀ i, i < 8 * l.length → n.toNat ≤ i → bt l i = false)
set_option maxRecDepth 100000 in
theorem vs_iff {l : List Nat} {N : Nat} : vs l (N : Int) = true ↔ N ≤ 8192 ∧ l.length = (N + 7) / 8 ∧ ∀ i, i < 8 * l.length → N ≤ i → bt l i = false := by
  unfold vs
  rw [decide_eq_true_eq, Int.toNat_natCast]
  constructor
  · rintro ⟨_, h1, h2⟩; exact ⟨by omega, h2⟩
  · rintro ⟨h1, h2⟩; exact ⟨by omega, by omega, h2⟩
set_option maxRecDepth 100000 in
theorem vs_neg {l : List Nat} {n : Int} (h : n < 0) : vs l n = false := by
  unfold vs; rw [decide_eq_false_iff_not]; rintro ⟨h1, _⟩; omega
set_option maxRecDepth 100000 in
theorem vs_big {l : List Nat} {n : Int} (h : 8192 < n) : vs l n = false := by
  unfold vs; rw [decide_eq_false_iff_not]; rintro ⟨_, h1, _⟩; omega
set_option maxRecDepth 100000 in
theorem vs_len {l : List Nat} {N : Nat} (h : l.length ≠ (N + 7) / 8) : vs l (N : Int) = false := by
  unfold vs; rw [decide_eq_false_iff_not, Int.toNat_natCast]; rintro ⟨_, _, h1, _⟩; exact h h1
set_option maxRecDepth 100000 in
theorem vs_nat {l : List Nat} {n : Int} (h : vs l n = true) : ∃ N : Nat, n = (N : Int) := by
  unfold vs at h; rw [decide_eq_true_eq] at h
  exact ⟨n.toNat, by omega⟩
def ValidPost (l : List Nat) (n : Int) (w : World) (e : Ending) (w' : World) : Prop := e = .returned (.bool (vs l n)) ∧ w.grownBy w' none
set_option maxRecDepth 100000 in
/-- A block of two cells. -/
theorem box2 (w : World) (v0 v1 : Value) (t : TypeId) : (w.alloc (.cells #[v0, v1] t)).cell? ⟨w.heap.size, 0, none⟩ = some v0 ∧ (w.alloc (.cells #[v0, v1] t)).cell? ⟨w.heap.size, 1, none⟩ = some v1 := by
  have hb : (w.alloc (.cells #[v0, v1] t)).heap[w.heap.size]? = some (.cells #[v0, v1] t (0, 0)) := heap_alloc_new w _
  refine ⟨?_, ?_⟩
  · rw [cell_of_row _ _ _ _ _ _ hb]; rfl
  · rw [cell_of_row _ _ _ _ _ _ hb]; rfl
end Go.Proofs.Ytnpkihioklpnmaa

/- Of the reference: one bit, Valid. -/
namespace Go.Proofs.Ytnpkihioklpnmaa
open Go.RowKit Bs
/-- A bit as a word. -/
def bw (b : Bool) : Value := .int .u64 ((b.toNat : Nat) : Int)
set_option maxRecDepth 100000 in
theorem bt_word {l : List Nat} {i x s : Nat} (hx : l.getD (i / 8) 0 = x) (hs : 7 - i % 8 = s) (hx8 : x < 256) : bits .and .u64 (IntKind.u64.wrap ((x : Int) / 2 ^ s)) 1 = (((bt l i).toNat : Nat) : Int) := by
  rw [show IntKind.u64.wrap ((x : Int) / 2 ^ s) = (x : Int) / 2 ^ s by rw [shrW]; exact wrapU _ (u64_div _ _ (u64_mk (by omega))), bitW x s (u64_mk (by omega))]
  unfold bt
  rw [hx, hs, Nat.toNat_testBit]
set_option maxRecDepth 100000 in
set_option maxHeartbeats 800000 in
theorem bitr_any (l : List Nat) (i : Nat) (q : Nat → Prop) (p : Option Addr) (c : Nat) (hl : By l) (hi : i < 8 * l.length) (hi2 : i ≤ 1000000) (w : World) (hR : Rd w q (.slice p l.length c) (l.map nv)) :
    Calls Try.prog 124 #[.slice p l.length c, .int .i64 (i : Int)] w fun e w' => e = .returned (bw (bt l i)) ∧ w = w' := by
  have hK : i / 8 < l.length := by omega
  obtain ⟨g, off, rfl, _, hcell⟩ := hR.at_ (nv_at hK)
  have hx := hl.at_ hK
  generalize hX : l.getD (i / 8) 0 = x at *
  obtain ⟨s, hs⟩ : ∃ s : Nat, 7 - i % 8 = s := ⟨_, rfl⟩
  have hs8 : s ≤ 7 := by omega
  have hsub : 7 - (i : Int) % 8 = (s : Int) := by omega
  have HB := Lib.hid (bt_word hX hs hx)
  clear hs hX hR
  go_enter Try.func124, Try.ntmps124
  go_wp2_with fail
  go_ret
  exact ⟨ret_int HB.out, rfl⟩
set_option maxRecDepth 100000 in
theorem bw_true {b : Bool} (h : b = true) : bw b = .int .u64 1 := by rw [h]; rfl
set_option maxRecDepth 100000 in
theorem bw_false {b : Bool} (h : b = false) : bw b = .int .u64 0 := by rw [h]; rfl
set_option maxRecDepth 100000 in
set_option maxHeartbeats 1600000 in
theorem validr_any (l : List Nat) (n : Int) (q : Nat → Prop) (p : Option Addr) (c : Nat) (hl : By l) (w : World) (hq : ∀ b, q b → b < w.heap.size) (hR : Rd w q (.slice p l.length c) (l.map nv)) :
    Calls Try.prog 123 #[.agg #[.slice p l.length c, .int .i64 n]] w fun e w' => ValidPost l n w e w' := by
  by_cases h1 : n < 0
  · have V := Lib.hid (vs_neg (l := l) h1)
    go_enter Try.func123, Try.ntmps123
    go_wp2_with fail
    go_ret
    exact ⟨ret_bool (by rw [V.out]), World.grownBy_alloc _ _ _⟩
  · by_cases h2 : 8192 < n
    · have V := Lib.hid (vs_big (l := l) h2)
      go_enter Try.func123, Try.ntmps123
      go_wp2_with fail
      go_ret
      exact ⟨ret_bool (by rw [V.out]), World.grownBy_alloc _ _ _⟩
    · obtain ⟨N, rfl⟩ := Int.eq_ofNat_of_zero_le (show 0 ≤ n by omega)
      have hN : N ≤ 8192 := by omega
      obtain ⟨M, hM⟩ : ∃ M : Nat, M = (N + 7) / 8 := ⟨_, rfl⟩
      have hMe : ((N : Int) + 7) / 8 = (M : Int) := by omega
      by_cases h3 : l.length = M
      · have hM2 : M ≤ 1024 := by omega
        subst h3
        have HM := Lib.hid hM
        clear hM
        go_enter Try.func123, Try.ntmps123
        go_wp2_with fail
        obtain ⟨c0, c1⟩ := box2 w (.slice p l.length c) (.int .i64 (N : Int)) 123
        have HG := Lib.hid (World.grownBy_alloc w (.cells #[.slice p l.length c, .int .i64 (N : Int)] 123) none)
        have hR1 := hR.keep HG.out
        generalize w.alloc (.cells #[.slice p l.length c, .int .i64 (N : Int)] 123) = w1 at *
        generalize w.heap.size = b at *
        go_wp2_with fail
        go_loop [3] (fun i => ∃ j : Nat, N ≤ j ∧ i = .int .i64 (j : Int) ∧ (N ≤ 8 * l.length → j ≤ 8 * l.length) ∧ ∀ t, t < j → N ≤ t → t < 8 * l.length → bt l t = false) (fun i => (8 * l.length - (RowKit.intOf i).toNat))
        case atStart => exact ⟨N, Nat.le_refl _, rfl, fun h => h, fun t h1 h2 => by omega⟩
        case round =>
          obtain ⟨j, hj, rfl, hj2, hz⟩ := hrel
          by_cases hlt : j < 8 * l.length
          · have C1 := bitr_any l j q p c hl hlt (by omega) w1 hR1
            have HZ := Lib.hid hz
            have hj9 : j ≤ 9000 := by omega
            by_cases hb : bt l j = true
            · rw [bw_true hb] at C1
              have H1 := Lib.hid C1
              have V : Hid (vs l (N : Int) = false) := by
                show vs l (N : Int) = false
                rw [Bool.eq_false_iff]
                intro h
                have := (vs_iff.1 h).2.2 j hlt hj
                rw [hb] at this; cases this
              clear C1 hz hb
              go_wp2_with (go_at_call 124; refine H1.out.mono ?_; rintro e w' ⟨rfl, rfl⟩)
              go_ret
              exact ⟨ret_bool (by rw [V.out]), HG.out⟩
            · have hb0 : bt l j = false := by simpa using hb
              rw [bw_false hb0] at C1
              have H1 := Lib.hid C1
              have HB := Lib.hid hb0
              clear C1 hz hb hb0
              go_wp2_with (go_at_call 124; refine H1.out.mono ?_; rintro e w' ⟨rfl, rfl⟩)
              go_round
              case rel =>
                refine ⟨j + 1, by omega, by go_num, fun _ => by omega, fun t h1 h2 h3 => ?_⟩
                by_cases e : t = j
                · rw [e]; exact HB.out
                · exact HZ.out t (by omega) h2 h3
              case measure => simp [RowKit.intOf]; omega
          · have V : Hid (vs l (N : Int) = true) := by
              show vs l (N : Int) = true
              exact vs_iff.2 ⟨hN, by have := HM.out; omega, fun i h1 h2 => hz i (by omega) h2 (by omega)⟩
            clear hz
            go_wp2_with fail
            go_ret
            exact ⟨ret_bool (by rw [V.out]), HG.out⟩
      · have V := Lib.hid (vs_len (l := l) (N := N) (by omega))
        have d4 : ¬ ((l.length : Int) = (M : Int)) := by omega
        clear hM
        go_enter Try.func123, Try.ntmps123
        go_wp2_with fail
        go_ret
        exact ⟨ret_bool (by rw [V.out]), World.grownBy_alloc _ _ _⟩
end Go.Proofs.Ytnpkihioklpnmaa
