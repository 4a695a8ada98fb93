/- Spread, Gather, Nth, Rank as plain functions of numbers. No program is named here. -/
import Derived.Test.YtnfgkakhdgiepaaDoorIoWord
namespace Go.Proofs.YtnfgkakhdgiepaaDoor
open Go.RowKit
namespace Bs
def cnt (b : Nat) : Nat := (bl b).length
set_option maxRecDepth 100000 in
theorem cnt_le (b : Nat) : cnt b ≤ 64 := bl_length_le b
def nth (b : Nat) (n : Int) : Int := if n < 0 then -1 else match (bl b)[n.toNat]? with | some k => (k : Int) | none => -1
set_option maxRecDepth 100000 in
theorem nth_neg {b : Nat} {n : Int} (h : n < 0) : nth b n = -1 := by unfold nth; rw [if_pos h]
set_option maxRecDepth 100000 in
theorem nth_far {b : Nat} {n : Int} (h : (cnt b : Int) ≤ n) : nth b n = -1 := by
  unfold nth
  rw [if_neg (by omega), List.getElem?_eq_none (by unfold cnt at h; omega)]
set_option maxRecDepth 100000 in
theorem nth_at {b k : Nat} {n : Nat} (h : (bl b)[n]? = some k) : nth b (n : Int) = (k : Int) := by
  unfold nth
  rw [if_neg (by omega), Int.toNat_natCast, h]
def rk (b : Nat) (k : Int) : Nat := (blN (min k.toNat 64) b).length
set_option maxRecDepth 100000 in
theorem rk_neg {b : Nat} {k : Int} (h : k < 0) : rk b k = 0 := by
  unfold rk
  rw [show min k.toNat 64 = 0 by omega]; rfl
set_option maxRecDepth 100000 in
theorem rk_far {b : Nat} {k : Int} (h : 63 < k) : rk b k = cnt b := by
  unfold rk
  rw [show min k.toNat 64 = 64 by omega]; rfl
set_option maxRecDepth 100000 in
theorem filter_lt (f : Nat → Bool) (k : Nat) : ∀ n, k ≤ n → ((List.range n).filter fun i => decide (i < k) && f i) = (List.range k).filter f := by
  intro n hn
  induction n with
  | zero => obtain rfl : k = 0 := by omega
            rfl
  | succ n ih =>
    by_cases h : k ≤ n
    · rw [List.range_succ, List.filter_append, ih h]
      have : ¬ n < k := by omega
      simp [this]
    · obtain rfl : k = n + 1 := by omega
      apply List.filter_congr
      intro x hx
      have : x < n + 1 := List.mem_range.1 hx
      simp [this]
set_option maxRecDepth 100000 in
theorem bl_lo (b k : Nat) (hk : k ≤ 64) : bl (b &&& lo k) = blN k b := by
  unfold bl blN lo
  rw [Nat.and_two_pow_sub_one_eq_mod]
  have : (fun i => (b % 2 ^ k).testBit i) = fun i => decide (i < k) && b.testBit i := by
    funext i; exact Nat.testBit_mod_two_pow b k i
  rw [this]
  exact filter_lt _ k 64 hk
set_option maxRecDepth 100000 in
theorem rk_mid {b : Nat} {k : Nat} (h : k ≤ 63) : rk b (k : Int) = cnt (b &&& lo k) := by
  unfold rk cnt
  rw [bl_lo b k (by omega), Int.toNat_natCast, show min k 64 = k by omega]

/-- A bit put to a place. -/
def put (t : Bool) (k : Nat) : Nat := if t then b2 k else 0
set_option maxRecDepth 100000 in
theorem put_u64 (t : Bool) {k : Nat} (h : k < 64) : U64 (put t k) := by
  unfold put
  cases t
  · show (0 : Nat) < 18446744073709551616; decide
  · exact b2_u64 h
set_option maxRecDepth 100000 in
theorem put_test (t : Bool) (k i : Nat) : (put t k).testBit i = (t && decide (k = i)) := by
  cases t
  · show (0 : Nat).testBit i = _
    simp
  · show (2 ^ k).testBit i = _
    rw [Nat.testBit_two_pow]; simp
def spr (x : Nat) (l : List Nat) : Nat → Nat
  | 0 => 0
  | j + 1 => spr x l j ||| put (x.testBit j) (l.getD j 0)
def gat (x : Nat) (l : List Nat) : Nat → Nat
  | 0 => 0
  | j + 1 => gat x l j ||| put (x.testBit (l.getD j 0)) j
def spread (x b : Nat) : Nat := spr x (bl b) (cnt b)
def gather (x b : Nat) : Nat := gat x (bl b) (cnt b)
set_option maxRecDepth 100000 in
theorem bl_getD_lt (b j : Nat) : (bl b).getD j 0 < 64 := by
  rw [List.getD_eq_getElem?_getD]
  cases h : (bl b)[j]? with
  | none => simp
  | some k => exact bl_lt (List.mem_of_getElem? h)
set_option maxRecDepth 100000 in
theorem spr_u64 (x b : Nat) : ∀ j, U64 (spr x (bl b) j)
  | 0 => by unfold U64 spr; decide
  | j + 1 => u64_or _ _ (spr_u64 x b j) (put_u64 _ (bl_getD_lt b j))
set_option maxRecDepth 100000 in
theorem gat_u64 (x : Nat) (l : List Nat) : ∀ j, j ≤ 64 → U64 (gat x l j)
  | 0, _ => by unfold U64 gat; decide
  | j + 1, h => u64_or _ _ (gat_u64 x l j (by omega)) (put_u64 _ (by omega))
set_option maxRecDepth 100000 in
theorem spread_u64 (x b : Nat) : U64 (spread x b) := spr_u64 x b _
set_option maxRecDepth 100000 in
theorem gather_u64 (x b : Nat) : U64 (gather x b) := gat_u64 x _ _ (cnt_le b)
set_option maxRecDepth 100000 in
theorem spr_test (x : Nat) (l : List Nat) (i : Nat) : ∀ j, j ≤ l.length → ((spr x l j).testBit i = true ↔ ∃ m, m < j ∧ l[m]? = some i ∧ x.testBit m = true)
  | 0, _ => by simp [spr]
  | j + 1, h => by
    have hj : l[j]? = some (l.getD j 0) := by rw [List.getD_eq_getElem?_getD, List.getElem?_eq_getElem (by omega)]; rfl
    rw [spr, Nat.testBit_or, put_test, Bool.or_eq_true, spr_test x l i j (by omega)]
    simp only [Bool.and_eq_true, decide_eq_true_eq]
    constructor
    · rintro (⟨m, hm, h1, h2⟩ | ⟨h1, h2⟩)
      · exact ⟨m, by omega, h1, h2⟩
      · exact ⟨j, by omega, by rw [hj, h2], h1⟩
    · rintro ⟨m, hm, h1, h2⟩
      by_cases e : m = j
      · subst e
        rw [hj] at h1
        exact .inr ⟨h2, Option.some.inj h1⟩
      · exact .inl ⟨m, by omega, h1, h2⟩
set_option maxRecDepth 100000 in
theorem gat_test (x : Nat) (l : List Nat) (i : Nat) : ∀ j, (gat x l j).testBit i = (decide (i < j) && x.testBit (l.getD i 0))
  | 0 => by simp [gat]
  | j + 1 => by
    rw [gat, Nat.testBit_or, put_test, gat_test x l i j]
    by_cases h : i < j
    · have h1 : i < j + 1 := by omega
      have h2 : ¬ j = i := by omega
      simp [h, h1, h2]
    · by_cases e : j = i
      · subst e; simp
      · have h1 : ¬ i < j + 1 := by omega
        simp [h, h1, e]
set_option maxRecDepth 100000 in
/-- Spread of Gather: the bits that both have. -/
theorem spread_gather (x b : Nat) (hx : U64 x) : spread (gather x b) b = x &&& b := by
  apply Nat.eq_of_testBit_eq
  intro i
  rw [Nat.testBit_and, Bool.eq_iff_iff]
  unfold spread
  rw [show cnt b = (bl b).length from rfl, spr_test _ _ _ _ (Nat.le_refl _)]
  unfold gather
  simp only [gat_test, Bool.and_eq_true, decide_eq_true_eq]
  constructor
  · rintro ⟨m, hm, h1, _, h2⟩
    rw [List.getD_eq_getElem?_getD, h1] at h2
    exact ⟨h2, (mem_blN.1 (List.mem_of_getElem? h1)).2⟩
  · rintro ⟨h1, h2⟩
    have hi : i < 64 := by
      rcases Nat.lt_or_ge i 64 with h | h
      · exact h
      · have := Nat.testBit_lt_two_pow (Nat.lt_of_lt_of_le hx.pow (Nat.pow_le_pow_right (by decide) h))
        rw [this] at h1; cases h1
    obtain ⟨m, hm, h3⟩ := List.mem_iff_getElem.1 (mem_blN.2 ⟨hi, h2⟩ : i ∈ bl b)
    have h4 : (bl b)[m]? = some i := by show (blN 64 b)[m]? = some i; rw [List.getElem?_eq_getElem hm, h3]
    exact ⟨m, hm, h4, hm, by rw [List.getD_eq_getElem?_getD, h4]; exact h1⟩
set_option maxRecDepth 100000 in
theorem bl_inj {b m n i : Nat} (hm : (bl b)[m]? = some i) (hn : (bl b)[n]? = some i) : m = n := by
  have hs := blN_sorted 64 b
  have h := List.pairwise_iff_getElem.1 hs
  obtain ⟨hm1, hm2⟩ := List.getElem?_eq_some_iff.1 hm
  obtain ⟨hn1, hn2⟩ := List.getElem?_eq_some_iff.1 hn
  rcases Nat.lt_trichotomy m n with hlt | he | hgt
  · have h1 : (bl b)[m] < (bl b)[n] := h m n hm1 hn1 hlt
    rw [hm2, hn2] at h1; omega
  · exact he
  · have h1 : (bl b)[n] < (bl b)[m] := h n m hn1 hm1 hgt
    rw [hm2, hn2] at h1; omega
set_option maxRecDepth 100000 in
/-- Gather of Spread: the lowest bits. -/
theorem gather_spread (x b : Nat) : gather (spread x b) b = x % 2 ^ cnt b := by
  apply Nat.eq_of_testBit_eq
  intro i
  unfold gather
  rw [gat_test, Nat.testBit_mod_two_pow]
  by_cases h : i < cnt b
  · have hi : (bl b)[i]? = some ((bl b).getD i 0) := by rw [List.getD_eq_getElem?_getD, List.getElem?_eq_getElem h]; rfl
    simp only [h, decide_true, Bool.true_and]
    rw [Bool.eq_iff_iff]
    unfold spread
    rw [show spr x (bl b) (cnt b) = spr x (bl b) (bl b).length from rfl, spr_test _ _ _ _ (Nat.le_refl _)]
    constructor
    · rintro ⟨m, _, h1, h2⟩
      rw [bl_inj hi h1]; exact h2
    · exact fun h2 => ⟨i, h, hi, h2⟩
  · simp [h]
/-- A shifted number. -/
def sh (x j : Nat) : Nat := x / 2 ^ j
set_option maxRecDepth 100000 in
theorem sh_zero (x : Nat) : sh x 0 = x := by unfold sh; simp
set_option maxRecDepth 100000 in
theorem sh_u64 {x : Nat} (h : U64 x) (j : Nat) : U64 (sh x j) := u64_div _ _ h
set_option maxRecDepth 100000 in
theorem sh_half (x j : Nat) : ((sh x j : Nat) : Int) / 2 = ((sh x (j + 1) : Nat) : Int) := by
  rw [show (2 : Int) = ((2 : Nat) : Int) from rfl, divU]
  unfold sh
  rw [Nat.div_div_eq_div_mul, Nat.pow_succ]
set_option maxRecDepth 100000 in
theorem put_word (z k : Nat) (hz : z ≤ 1) (hk : k < 64) : IntKind.u64.wrap ((z : Int) * 2 ^ k) = ((put (decide (z = 1)) k : Nat) : Int) := by
  have h := (b2_u64 hk).lt
  unfold b2 at h
  rw [powI, ← Int.natCast_mul]
  rcases (show z = 0 ∨ z = 1 by omega) with rfl | rfl
  · simp [put, IntKind.wrap_u64]
  · rw [Nat.one_mul]
    exact wrapU (2 ^ k) h
set_option maxRecDepth 100000 in
theorem bit_of (x j : Nat) : decide (x / 2 ^ j % 2 = 1) = x.testBit j := (Nat.testBit_eq_decide_div_mod_eq).symm
set_option maxRecDepth 100000 in
theorem spread_word (r x j k : Nat) (hr : U64 r) (hx : U64 x) (hk : k < 64) :
    bits .or .u64 (r : Int) (IntKind.u64.wrap (bits .and .u64 ((sh x j : Nat) : Int) 1 * 2 ^ k)) = ((r ||| put (x.testBit j) k : Nat) : Int) := by
  rw [show (1 : Int) = ((1 : Nat) : Int) from rfl, andU _ 1 (sh_u64 hx j) (by unfold U64; decide), nat_mask1, put_word _ k (by omega) hk]
  rw [show decide (sh x j % 2 = 1) = x.testBit j from bit_of x j]
  exact orU r _ hr (put_u64 _ hk)
set_option maxRecDepth 100000 in
theorem gather_word (r x j k : Nat) (hr : U64 r) (hx : U64 x) (hj : j < 64) :
    bits .or .u64 (r : Int) (IntKind.u64.wrap (bits .and .u64 ((x : Int) / 2 ^ k) 1 * 2 ^ j)) = ((r ||| put (x.testBit k) j : Nat) : Int) := by
  rw [bitW x k hx, put_word _ j (by omega) hj, bit_of]
  exact orU r _ hr (put_u64 _ hj)
set_option maxRecDepth 100000 in
theorem spr_next {x j k : Nat} {l : List Nat} (h : l[j]? = some k) : spr x l (j + 1) = spr x l j ||| put (x.testBit j) k := by
  rw [spr, List.getD_eq_getElem?_getD, h]; rfl
set_option maxRecDepth 100000 in
theorem gat_next {x j k : Nat} {l : List Nat} (h : l[j]? = some k) : gat x l (j + 1) = gat x l j ||| put (x.testBit k) j := by
  rw [gat, List.getD_eq_getElem?_getD, h]; rfl
/-- c is b without its j lowest bits. -/
def Strip (b c j : Nat) : Prop := U64 c ∧ bl c = (bl b).drop j ∧ j ≤ cnt b
set_option maxRecDepth 100000 in
theorem Strip.start {b : Nat} (h : U64 b) : Strip b b 0 := ⟨h, rfl, Nat.zero_le _⟩
set_option maxRecDepth 100000 in
theorem Strip.step {b c j : Nat} (h : Strip b c j) (h0 : c ≠ 0) : Strip b (wo c) (j + 1) ∧ (bl b)[j]? = some (Lib.ctz 64 c) := by
  have hc := bl_wo h0 h.1.lt
  rw [h.2.1] at hc
  have h1 : (bl b)[j]? = some (Lib.ctz 64 c) := by
    have := congrArg (fun l => l[0]?) hc
    simpa using this
  refine ⟨⟨u64_wo c h.1, ?_, (List.getElem?_eq_some_iff.1 h1).1⟩, h1⟩
  have := congrArg List.tail hc
  rw [List.tail_drop] at this
  simpa using this.symm
set_option maxRecDepth 100000 in
theorem Strip.end_ {b j : Nat} (h : Strip b 0 j) : j = cnt b := by
  have h1 := h.2.1
  rw [bl_zero] at h1
  have := congrArg List.length h1
  rw [List.length_drop] at this
  have h2 := h.2.2
  unfold cnt at h2 ⊢
  simp at this
  omega
set_option maxRecDepth 100000 in
theorem Strip.more {b c j : Nat} (h : Strip b c j) (hj : j < cnt b) : c ≠ 0 := by
  rintro rfl
  have := h.end_
  omega
set_option maxRecDepth 100000 in
theorem Strip.done {b j : Nat} (h : Strip b 0 j) : (bl b).take j = bl b := by
  rw [h.end_]; exact List.take_length
set_option maxRecDepth 100000 in
theorem take_next {l : List Nat} {j x : Nat} (h : l[j]? = some x) : l.take (j + 1) = l.take j ++ [x] := by
  rw [List.take_add_one, h]; rfl
set_option maxRecDepth 100000 in
theorem sorted_below {l : List Nat} (hs : l.Pairwise (· < ·)) : ∀ {i k : Nat}, l[i]? = some k → (l.filter fun x => decide (x < k)).length = i := by
  induction l with
  | nil => intro i k h; simp at h
  | cons a r ih =>
    intro i k h
    rw [List.pairwise_cons] at hs
    cases i with
    | zero =>
      simp at h; subst h
      rw [List.filter_cons, if_neg (by simp)]
      rw [List.filter_eq_nil_iff.2]
      · rfl
      · intro x hx
        have := hs.1 x hx
        simp; omega
    | succ i =>
      rw [List.getElem?_cons_succ] at h
      have hk : a < k := hs.1 k (List.mem_of_getElem? h)
      rw [List.filter_cons, if_pos (by simpa using hk), List.length_cons, ih hs.2 h]
set_option maxRecDepth 100000 in
theorem blN_filter (b k : Nat) (hk : k ≤ 64) : blN k b = (bl b).filter fun x => decide (x < k) := by
  unfold bl blN
  rw [List.filter_filter]
  exact (filter_lt _ k 64 hk).symm
set_option maxRecDepth 100000 in
theorem rk_nth {b i k : Nat} (h : (bl b)[i]? = some k) : rk b (k : Int) = i := by
  have hk : k < 64 := bl_lt (List.mem_of_getElem? h)
  unfold rk
  rw [Int.toNat_natCast, show min k 64 = k by omega, blN_filter b k (by omega)]
  exact sorted_below (blN_sorted 64 b) h
set_option maxRecDepth 100000 in
theorem bl_next_lt {b i j k : Nat} (h : (bl b)[i]? = some j) (h' : (bl b)[i + 1]? = some k) : j < k := by
  obtain ⟨h1, h2⟩ := List.getElem?_eq_some_iff.1 h
  obtain ⟨h3, h4⟩ := List.getElem?_eq_some_iff.1 h'
  have := List.pairwise_iff_getElem.1 (blN_sorted 64 b) i (i + 1) h1 h3 (by omega)
  rw [← h2, ← h4]
  exact this
set_option maxRecDepth 100000 in
theorem nth_mem {b i k : Nat} (h : (bl b)[i]? = some k) : b.testBit k = true := (mem_blN.1 (List.mem_of_getElem? h)).2
/-- The bit before the i-th one: -1 ahead of the first. -/
def prev (b i : Nat) : Int := if i = 0 then -1 else nth b ((i - 1 : Nat) : Int)
set_option maxRecDepth 100000 in
theorem prev_lt {b i k : Nat} (h : (bl b)[i]? = some k) : prev b i < (k : Int) := by
  unfold prev
  cases i with
  | zero => rw [if_pos rfl]; omega
  | succ i =>
    rw [if_neg (by omega), show i + 1 - 1 = i by omega]
    have hi : i < (bl b).length := by have := (List.getElem?_eq_some_iff.1 h).1; omega
    have h0 := List.getElem?_eq_getElem hi
    rw [nth_at h0]
    have := bl_next_lt h0 h
    omega
set_option maxRecDepth 100000 in
theorem prev_ge (b i : Nat) : -1 ≤ prev b i ∧ prev b i ≤ 63 := by
  unfold prev
  by_cases h : i = 0
  · rw [if_pos h]; omega
  · rw [if_neg h]
    unfold nth
    rw [if_neg (by omega)]
    cases hh : (bl b)[((i - 1 : Nat) : Int).toNat]? with
    | none => simp
    | some k => have := bl_lt (List.mem_of_getElem? hh); simp; omega
set_option maxRecDepth 100000 in
theorem prev_succ {b i k : Nat} (h : (bl b)[i]? = some k) : prev b (i + 1) = (k : Int) := by
  unfold prev
  rw [if_neg (by omega), show i + 1 - 1 = i by omega]
  exact nth_at h
set_option maxRecDepth 100000 in
theorem compl_test {f : Nat} (h : U64 f) (i : Nat) : (18446744073709551615 - f).testBit i = (decide (i < 64) && !f.testBit i) := by
  have := Nat.testBit_two_pow_sub_succ h.pow i
  rw [← this]
  congr 1
  have := h.lt
  omega
set_option maxRecDepth 100000 in
theorem and_compl (z : Nat) {f : Nat} (h : U64 f) : (z &&& f) &&& (18446744073709551615 - f) = 0 := by
  apply Nat.eq_of_testBit_eq
  intro i
  rw [Nat.testBit_and, Nat.testBit_and, compl_test h, Nat.zero_testBit]
  cases f.testBit i <;> simp
set_option maxRecDepth 100000 in
theorem lt_of_compl {x n : Nat} (hx : U64 x) (hn : n ≤ 64) (h : x &&& (18446744073709551615 - lo n) = 0) : x < 2 ^ n := by
  apply Nat.lt_pow_two_of_testBit
  intro i hi
  cases ht : x.testBit i with
  | false => rfl
  | true =>
    have h2 := congrArg (·.testBit i) h
    have hi64 : i < 64 := by
      rcases Nat.lt_or_ge i 64 with h1 | h1
      · exact h1
      · have := Nat.testBit_lt_two_pow (Nat.lt_of_lt_of_le hx.pow (Nat.pow_le_pow_right (by decide) h1))
        rw [this] at ht; cases ht
    have hlo : (lo n).testBit i = false := by
      unfold lo
      rw [Nat.testBit_two_pow_sub_one]
      simp; omega
    simp only [Nat.testBit_and, compl_test (lo_u64 hn), Nat.zero_testBit, ht, hlo, hi64, decide_true, Bool.not_false, Bool.and_self] at h2
    cases h2
end Bs
end Go.Proofs.YtnfgkakhdgiepaaDoor
