/- The check number under changed bits: one, two, three bits, a burst. No program is named here. -/
import Derived.Test.YthnjiknmlakkkaaIoCheck
namespace Go.Proofs.Ythnjiknmlakkkaa
namespace Bs
theorem two_xor (r s : Nat) : 2 * (r ^^^ s) = 2 * r ^^^ 2 * s := by
  apply Nat.eq_of_testBit_eq
  intro i
  cases i with
  | zero => rw [Nat.testBit_xor, Nat.testBit_zero, Nat.testBit_zero, Nat.testBit_zero]; simp
  | succ i =>
    rw [Nat.testBit_xor, Nat.testBit_succ, Nat.testBit_succ, Nat.testBit_succ, show 2 * (r ^^^ s) / 2 = r ^^^ s by omega, show 2 * r / 2 = r by omega, show 2 * s / 2 = s by omega, Nat.testBit_xor]
theorem stp_xor (r s : Nat) (a b : Bool) (hr : r < 65536) (hs : s < 65536) : stp r a ^^^ stp s b = stp (r ^^^ s) (a != b) := by
  have e16 : (65536 : Nat) = 2 ^ 16 := rfl
  have h1 : 2 * (r ^^^ s) % 65536 = (2 * r % 65536) ^^^ (2 * s % 65536) := by
    rw [e16, ← Nat.xor_mod_two_pow]
    rw [two_xor]
  unfold stp
  rw [Nat.testBit_xor, h1]
  generalize 2 * r % 65536 = x
  generalize 2 * s % 65536 = y
  cases r.testBit 15 <;> cases s.testBit 15 <;> cases a <;> cases b <;> simp <;> (apply Nat.eq_of_testBit_eq; intro i; simp only [Nat.testBit_xor]; cases x.testBit i <;> cases y.testBit i <;> cases Nat.testBit 4129 i <;> rfl)
/-- The difference of two registers behind k bits, e the difference of the bits. -/
def dif (e : Nat → Bool) : Nat → Nat
  | 0 => 0
  | k + 1 => stp (dif e k) (e k)
theorem dif_lt (e : Nat → Bool) : ∀ k, dif e k < 65536
  | 0 => by simp [dif]
  | k + 1 => stp_lt _ _
theorem chk_dif (f g : Nat → Bool) : ∀ k, chk f k ^^^ chk g k = dif (fun i => f i != g i) k
  | 0 => by simp [chk, dif]
  | k + 1 => by rw [chk, chk, dif, stp_xor _ _ _ _ (chk_lt f k) (chk_lt g k), chk_dif f g k]
theorem chk_ne {f g : Nat → Bool} {k : Nat} (h : dif (fun i => f i != g i) k ≠ 0) : chk f k ≠ chk g k := by
  intro e
  rw [← chk_dif, e, Nat.xor_self] at h
  exact h rfl
theorem dif_congr {e e' : Nat → Bool} : ∀ k, (∀ i, i < k → e i = e' i) → dif e k = dif e' k
  | 0, _ => rfl
  | k + 1, h => by rw [dif, dif, dif_congr k (fun i hi => h i (by omega)), h k (by omega)]
/-- The parity of the low k bits. -/
def par (d : Nat) : Nat → Bool
  | 0 => false
  | k + 1 => (d.testBit k != par d k)
theorem par_xor (x y : Nat) : ∀ k, par (x ^^^ y) k = (par x k != par y k)
  | 0 => rfl
  | k + 1 => by
    rw [par, par, par, par_xor x y k, Nat.testBit_xor]
    cases x.testBit k <;> cases y.testBit k <;> cases par x k <;> cases par y k <;> rfl
theorem par_shift (d : Nat) : ∀ k, k ≤ 15 → par (2 * d % 65536) (k + 1) = par d k
  | 0, _ => by
    rw [par, par, par, Nat.testBit_zero]
    simp <;> omega
  | k + 1, h => by
    rw [par, par_shift d k (by omega), par]
    congr 1
    rw [show (65536 : Nat) = 2 ^ 16 from rfl, Nat.testBit_mod_two_pow, Nat.testBit_succ, show 2 * d / 2 = d by omega]
    simp <;> omega
theorem par_stp (d : Nat) (e : Bool) : par (stp d e) 16 = (par d 16 != e) := by
  have h1 : par (2 * d % 65536) 16 = par d 15 := par_shift d 15 (Nat.le_refl _)
  have h2 : par 4129 16 = true := by decide
  have h3 : par d 16 = (d.testBit 15 != par d 15) := rfl
  unfold stp
  split
  · rename_i h
    rw [par_xor, h1, h2, h3]
    revert h
    cases d.testBit 15 <;> cases e <;> cases par d 15 <;> simp
  · rename_i h
    rw [h1, h3]
    revert h
    cases d.testBit 15 <;> cases e <;> cases par d 15 <;> simp
/-- The parity of the first k differences. -/
def pe (e : Nat → Bool) : Nat → Bool
  | 0 => false
  | k + 1 => (pe e k != e k)
theorem par_dif (e : Nat → Bool) : ∀ k, par (dif e k) 16 = pe e k
  | 0 => by show par 0 16 = false; decide
  | k + 1 => by rw [dif, par_stp, par_dif e k, pe]
theorem par_zero : par 0 16 = false := by decide
theorem dif_odd {e : Nat → Bool} {k : Nat} (h : pe e k = true) : dif e k ≠ 0 := by
  intro h0
  have := par_dif e k
  rw [h0, par_zero, h] at this
  cases this
theorem pe_xor (e e' : Nat → Bool) : ∀ k, pe (fun i => e i != e' i) k = (pe e k != pe e' k)
  | 0 => rfl
  | k + 1 => by
    rw [pe, pe, pe, pe_xor e e' k]
    cases e k <;> cases e' k <;> cases pe e k <;> cases pe e' k <;> rfl
theorem pe_one (p : Nat) : ∀ k, pe (fun i => decide (i = p)) k = decide (p < k)
  | 0 => by simp [pe]
  | k + 1 => by
    rw [pe, pe_one p k]
    by_cases h : k = p
    · subst h; simp
    · have h1 : decide (p < k + 1) = decide (p < k) := by rw [decide_eq_decide]; omega
      simp [h, h1]
theorem stp_zero {d : Nat} (hd : d < 65536) (h : stp d false = 0) : d = 0 := by
  have h0 : (stp d false).testBit 0 = false := by rw [h]; exact Nat.zero_testBit _
  unfold stp at h h0
  split at h
  · rename_i hb
    rw [if_pos hb, Nat.testBit_xor, show (65536 : Nat) = 2 ^ 16 from rfl, Nat.testBit_mod_two_pow, Nat.testBit_zero] at h0
    have : (4129 : Nat).testBit 0 = true := by decide
    rw [this] at h0
    simp at h0 <;> omega
  · rename_i hb
    have h15 : d.testBit 15 = false := by revert hb; cases d.testBit 15 <;> simp
    have hlt : d / 32768 = 0 := by rw [bit15 hd, h15]; rfl
    omega
/-- A difference that stands goes on where no bit differs. -/
theorem dif_stays {e : Nat → Bool} {k : Nat} (h : dif e k ≠ 0) : ∀ m, (∀ i, k ≤ i → i < k + m → e i = false) → dif e (k + m) ≠ 0
  | 0, _ => h
  | m + 1, he => by
    have h1 := dif_stays h m fun i h1 h2 => he i h1 (by omega)
    show dif e ((k + m) + 1) ≠ 0
    rw [dif, he (k + m) (by omega) (by omega)]
    exact fun h0 => h1 (stp_zero (dif_lt _ _) h0)
theorem dif_none {e : Nat → Bool} : ∀ k, (∀ i, i < k → e i = false) → dif e k = 0
  | 0, _ => rfl
  | k + 1, h => by rw [dif, dif_none k (fun i hi => h i (by omega)), h k (by omega)]; decide
/-- m steps without a difference, behind one. -/
def zst : Nat → Nat
  | 0 => 4129
  | m + 1 => stp (zst m) false
theorem zst_all : ∀ m, m < 300 → stp (zst m) true ≠ 0 := by decide +kernel
theorem dif_run {e : Nat → Bool} {p : Nat} (h0 : ∀ i, i < p → e i = false) (hp : e p = true) : ∀ m, (∀ i, p < i → i < p + 1 + m → e i = false) → dif e (p + 1 + m) = zst m
  | 0, _ => by
    show dif e (p + 1) = _
    rw [dif, dif_none p h0, hp]; decide
  | m + 1, h => by
    show dif e ((p + 1 + m) + 1) = _
    rw [dif, dif_run h0 hp m (fun i h1 h2 => h i h1 (by omega)), h (p + 1 + m) (by omega) (by omega), zst]
theorem dif_two_lt {e : Nat → Bool} {p r k : Nat} (hpr : p < r) (hr : r < k) (hk : k ≤ 300) (he : ∀ i, i < k → e i = (decide (i = p) != decide (i = r))) : dif e k ≠ 0 := by
  have h1 : dif e (p + 1 + (r - p - 1)) = zst (r - p - 1) := by
    refine dif_run (fun i hi => ?_) ?_ _ fun i h1 h2 => ?_
    · rw [he i (by omega)]; have a1 : ¬ i = p := by omega
      have a2 : ¬ i = r := by omega
      simp [a1, a2]
    · rw [he p (by omega)]; have a2 : ¬ p = r := by omega
      simp [a2]
    · rw [he i (by omega)]; have a1 : ¬ i = p := by omega
      have a2 : ¬ i = r := by omega
      simp [a1, a2]
  rw [show p + 1 + (r - p - 1) = r by omega] at h1
  have h2 : dif e (r + 1) ≠ 0 := by
    rw [dif, h1, he r hr]
    have a1 : ¬ r = p := by omega
    simp only [a1, decide_false, decide_true, Bool.false_bne]
    exact zst_all _ (by omega)
  have h3 := dif_stays h2 (k - (r + 1)) fun i h1 h2 => by
    rw [he i (by omega)]; have a1 : ¬ i = p := by omega
    have a2 : ¬ i = r := by omega
    simp [a1, a2]
  rw [show r + 1 + (k - (r + 1)) = k by omega] at h3
  exact h3
theorem dif_two {e : Nat → Bool} {p r k : Nat} (hne : p ≠ r) (hp : p < k) (hr : r < k) (hk : k ≤ 300) (he : ∀ i, i < k → e i = (decide (i = p) != decide (i = r))) : dif e k ≠ 0 := by
  rcases Nat.lt_or_ge p r with h | h
  · exact dif_two_lt h hr hk he
  · refine dif_two_lt (p := r) (r := p) (by omega) hp hk fun i hi => ?_
    rw [he i hi]
    cases decide (i = p) <;> cases decide (i = r) <;> rfl
theorem dif_one {e : Nat → Bool} {p k : Nat} (hp : p < k) (he : ∀ i, i < k → e i = decide (i = p)) : dif e k ≠ 0 := by
  rw [dif_congr k he]
  exact dif_odd (by rw [pe_one]; simpa using hp)
theorem dif_three {e : Nat → Bool} {p r s k : Nat} (hp : p < k) (hr : r < k) (hs : s < k) (he : ∀ i, i < k → e i = ((decide (i = p) != decide (i = r)) != decide (i = s))) : dif e k ≠ 0 := by
  rw [dif_congr k he]
  refine dif_odd ?_
  rw [pe_xor (fun i => decide (i = p) != decide (i = r)), pe_xor (fun i => decide (i = p)), pe_one, pe_one, pe_one]
  simp [hp, hr, hs]
/-- Where a step ends with low zeros, it began with one fewer. -/
theorem stp_low {d : Nat} {e : Bool} {j : Nat} (hd : d < 65536) (hj : j < 16) (h : stp d e % 2 ^ (j + 1) = 0) : d % 2 ^ j = 0 := by
  have hb : (stp d e).testBit 0 = false := by
    have : (stp d e % 2 ^ (j + 1)).testBit 0 = false := by rw [h]; exact Nat.zero_testBit _
    rw [Nat.testBit_mod_two_pow] at this
    simpa using this
  have h2 : stp d e = 2 * d % 65536 := by
    unfold stp
    unfold stp at hb
    split
    · rename_i hc
      rw [if_pos hc, Nat.testBit_xor, show (65536 : Nat) = 2 ^ 16 from rfl, Nat.testBit_mod_two_pow, Nat.testBit_zero] at hb
      have h4 : (4129 : Nat).testBit 0 = true := by decide
      rw [h4] at hb
      simp at hb <;> omega
    · rfl
  rw [h2, show (65536 : Nat) = 2 ^ 16 from rfl, Nat.mod_mod_of_dvd _ (Nat.pow_dvd_pow 2 (by omega)), Nat.pow_succ, Nat.mul_comm (2 ^ j) 2, Nat.mul_mod_mul_left] at h
  first | exact h | omega
theorem dif_low {e : Nat → Bool} {k : Nat} (h : dif e k = 0) : ∀ m, m ≤ k → m ≤ 16 → dif e (k - m) % 2 ^ (16 - m) = 0
  | 0, _, _ => by rw [Nat.sub_zero, h]
  | m + 1, h1, h2 => by
    have h3 := dif_low h m (by omega) (by omega)
    rw [show k - m = (k - (m + 1)) + 1 by omega, dif, show 16 - m = (16 - (m + 1)) + 1 by omega] at h3
    exact stp_low (dif_lt _ _) (by omega) h3
theorem dif_burst {e : Nat → Bool} {p k : Nat} (hpk : p + 16 ≤ k) (h0 : ∀ i, i < p → e i = false) (hp : e p = true) (h1 : ∀ i, p + 16 ≤ i → i < k → e i = false) : dif e k ≠ 0 := by
  have h2 : dif e (p + 16) ≠ 0 := by
    intro hz
    have h3 := dif_low hz 15 (by omega) (by omega)
    have h4 := dif_run h0 hp 0 (fun i a b => by omega)
    rw [show p + 16 - 15 = p + 1 + 0 by omega, h4] at h3
    revert h3; decide
  have h3 := dif_stays h2 (k - (p + 16)) fun i a b => h1 i a (by omega)
  rw [show p + 16 + (k - (p + 16)) = k by omega] at h3
  exact h3
end Bs
end Go.Proofs.Ythnjiknmlakkkaa
