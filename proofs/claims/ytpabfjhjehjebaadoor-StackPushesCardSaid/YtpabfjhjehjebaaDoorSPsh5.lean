/- Parts of the proof, packed: IoCheck, Spread, Full, PkBits, PkOpn, StMath, StLeaf. -/
import Derived.Test.YtpabfjhjehjebaaDoorSPsh3
import Derived.WalkMore
import Derived.Test.YtpabfjhjehjebaaDoorSPsh1
import Derived.Deep.LoopGhost
import Derived.Test.YtpabfjhjehjebaaDoorSPsh4
import Derived.Test.YtpabfjhjehjebaaDoorSPsh2
/- The program's check number. -/
namespace Go.Proofs.YtpabfjhjehjebaaDoor
open Go.RowKit Bs
namespace Bs
/-- The register behind one bit. -/
def stp (r : Nat) (b : Bool) : Nat := if (r.testBit 15 != b) = true then (2 * r % 65536) ^^^ 4129 else 2 * r % 65536
/-- The register behind k bits. -/
def chk (f : Nat → Bool) : Nat → Nat
  | 0 => 65535
  | k + 1 => stp (chk f k) (f k)
set_option maxRecDepth 100000 in
theorem stp_lt (r : Nat) (b : Bool) : stp r b < 65536 := by
  have h : 2 * r % 65536 < 65536 := Nat.mod_lt _ (by decide)
  unfold stp
  split
  · exact Nat.xor_lt_two_pow (n := 16) h (by decide)
  · exact h
set_option maxRecDepth 100000 in
theorem chk_lt (f : Nat → Bool) : ∀ k, chk f k < 65536
  | 0 => by simp [chk]
  | k + 1 => stp_lt _ _
set_option maxRecDepth 100000 in
theorem stp_diff {r : Nat} {b : Bool} (h : (r.testBit 15 != b) = true) : stp r b = (2 * r % 65536) ^^^ 4129 := by unfold stp; rw [if_pos h]
set_option maxRecDepth 100000 in
theorem stp_same {r : Nat} {b : Bool} (h : (r.testBit 15 != b) = false) : stp r b = 2 * r % 65536 := by unfold stp; rw [if_neg (by simp [h])]
set_option maxRecDepth 100000 in
theorem bit15 {r : Nat} (h : r < 65536) : r / 32768 = (r.testBit 15).toNat := by
  rw [Nat.toNat_testBit, show (2 : Nat) ^ 15 = 32768 from rfl]; omega
end Bs
/-- What Check returns. -/
def chkV (l : List Nat) (n : Int) : Nat × Int := if vs l n = false then (0, 1) else (chk (bt l) n.toNat, 0)
set_option maxRecDepth 100000 in
theorem chkV_inv {l : List Nat} {n : Int} (h : vs l n = false) : chkV l n = (0, 1) := by unfold chkV; rw [if_pos h]
set_option maxRecDepth 100000 in
theorem chkV_ok {l : List Nat} {N : Nat} (h : vs l (N : Int) = true) : chkV l (N : Int) = (chk (bt l) N, 0) := by unfold chkV; rw [if_neg (by simp [h]), Int.toNat_natCast]
def CheckPost (l : List Nat) (n : Int) (w : World) (e : Ending) (w' : World) : Prop := e = .returned (.tuple #[.int .u64 (((chkV l n).1 : Nat) : Int), .int .i64 (chkV l n).2]) ∧ w.grownBy w' none
set_option maxRecDepth 100000 in
theorem check_end {l : List Nat} {n : Int} {x : Nat} {y : Int} {w w' : World} (h : chkV l n = (x, y)) (g : w.grownBy w' none) : CheckPost l n w (.returned (.tuple #[.int .u64 (x : Int), .int .i64 y])) w' := ⟨by rw [h], g⟩
set_option maxRecDepth 100000 in
theorem ne_bits (a b : Bool) : ((((a.toNat : Nat) : Int)) != ((b.toNat : Nat) : Int)) = (a != b) := by cases a <;> cases b <;> rfl
set_option maxRecDepth 100000 in
theorem diff_word {r x s : Nat} (hr : r < 65536) (hx : x < 256) : ((r : Int) / 32768 != bits .and .u8 ((x : Int) / 2 ^ s) 1) = (r.testBit 15 != x.testBit s) := by
  have e1 : ((r : Int) / 32768) = (((r.testBit 15).toNat : Nat) : Int) := by rw [← bit15 hr]; omega
  have h2 : x / 2 ^ s ≤ x := Nat.div_le_self _ _
  have e2 : bits .and .u8 ((x : Int) / 2 ^ s) 1 = (((x.testBit s).toNat : Nat) : Int) := by
    rw [shrW, show (1 : Int) = ((1 : Nat) : Int) from rfl, u8_and_nat _ 1 (by omega) (by omega), nat_mask1, Nat.toNat_testBit]
  rw [e1, e2, ne_bits]
set_option maxRecDepth 100000 in
theorem shift16 {r : Nat} (hr : r < 65536) : IntKind.u16.wrap ((r : Int) * 2) = ((2 * r % 65536 : Nat) : Int) := by rw [IntKind.wrap_u16]; omega
set_option maxRecDepth 100000 in
theorem xor16 {r : Nat} (hr : r < 65536) : bits .xor .u16 (IntKind.u16.wrap ((r : Int) * 2)) 4129 = (((2 * r % 65536) ^^^ 4129 : Nat) : Int) := by
  rw [shift16 hr, show (4129 : Int) = ((4129 : Nat) : Int) from rfl, u16_xor_nat _ _ (Nat.mod_lt _ (by decide)) (by decide)]
set_option maxRecDepth 100000 in
set_option maxHeartbeats 3200000 in
theorem checkp_any (l : List Nat) (n : Int) (q : Nat → Prop) (p : Option Addr) (c : Nat) (hl : By l) (w : World) (hR : Rd w q (.slice p l.length c) (l.map nv)) :
    Calls Tryd.prog 84 #[.agg #[.slice p l.length c, .int .i64 n]] w fun e w' => CheckPost l n w e w' := by
  obtain ⟨k1, k2⟩ := one_box w #[.slice p l.length c, .int .i64 n] 74
  have H0 := Lib.hid (And.intro k1 k2)
  have hR1 := hR.keep k2
  clear k1 k2 hR
  go_enter Tryd.func84, Tryd.ntmps84
  go_wp2_with fail
  generalize w.alloc (.cells #[.slice p l.length c, .int .i64 n] 74) = w1 at *
  obtain ⟨c0, c1⟩ := row_cells H0.out.1
  go_step3
  go_wp2_with fail
  refine (validp_any l n q p c hl _ hR1).mono ?_
  rintro e w2 ⟨rfl, hg⟩
  have hrow := kept_row H0.out.1 hg (by simp)
  clear c0 c1
  obtain ⟨c0, c1⟩ := row_cells hrow
  have HG := Lib.hid (grown_trans H0.out.2 hg)
  have hR2 := hR1.keep hg
  clear hrow hg hR1 H0
  by_cases hv : vs l n = true
  · obtain ⟨N, rfl⟩ := vs_nat hv
    obtain ⟨hN, hlen⟩ := vs_bits hv
    rw [hv]
    have V := Lib.hid (chkV_ok hv)
    have HLEN := Lib.hid hlen
    have hl2 : l.length ≤ 1024 := by omega
    have hr0 := chk_lt (bt l) 0
    clear hv hlen
    go_wp2_with fail
    go_step3
    go_wp2_with fail
    go_loop [4, 5, 18] (fun r x i => ∃ j y : Nat, j ≤ l.length ∧ i = .int .i64 (j : Int) ∧ x = .int .i64 (y : Int) ∧ y + 8 * j = N ∧ r = .int .u16 ((chk (bt l) (8 * j) : Nat) : Int)) (fun _ _ i => (l.length - (intOf i).toNat))
    case atStart => exact ⟨0, N, Nat.zero_le _, rfl, rfl, rfl, rfl⟩
    case round =>
      obtain ⟨j, y, hj, rfl, rfl, hy, rfl⟩ := hrel
      have HY := Lib.hid hy
      clear hy
      by_cases hlt : j < l.length
      · obtain ⟨g, off, rfl, _, hcell⟩ := hR2.at_ (nv_at hlt)
        have hx := hl.at_ hlt
        generalize hX : l.getD j 0 = x at *
        have HX := Lib.hid hX
        clear hX
        go_wp2_with fail
        go_loop [4, 5, 8] (fun r z k => ∃ t y : Nat, t ≤ 8 ∧ k = .int .i64 (7 - (t : Int)) ∧ z = .int .i64 (y : Int) ∧ y + (8 * j + t) = N ∧ r = .int .u16 ((chk (bt l) (8 * j + t) : Nat) : Int)) (fun _ _ k => (intOf k + 1).toNat)
        case atStart => exact ⟨0, y, by omega, rfl, rfl, by have := HY.out; omega, rfl⟩
        case round =>
          obtain ⟨t, y', ht, rfl, rfl, hy', rfl⟩ := hrel
          have HY2 := Lib.hid hy'
          clear hy'
          have hrlt := chk_lt (bt l) (8 * j + t)
          generalize hrr : chk (bt l) (8 * j + t) = r at *
          have HRR := Lib.hid hrr
          clear hrr
          by_cases ht8 : t < 8
          · obtain ⟨s, hs⟩ : ∃ s : Nat, s = 7 - t := ⟨_, rfl⟩
            have hsi : 7 - (t : Int) = (s : Int) := by omega
            rw [hsi]
            by_cases hy0 : y' = 0
            · subst hy0
              clear hs
              go_wp2_with fail
              go_ret2
              exact check_end (by rw [V.out, ← HRR.out]; have := HY2.out; rw [show 8 * j + t = N by omega]) HG.out
            · have hy1 : ((y' : Int) == 0) = false := by simp; omega
              have hs8 : s < 8 := by omega
              have hy9 : y' ≤ 8192 := by have := HY2.out; omega
              have D := diff_word (s := s) hrlt hx
              have hb : bt l (8 * j + t) = x.testBit s := by
                unfold bt
                rw [show (8 * j + t) / 8 = j by omega, HX.out, show 7 - (8 * j + t) % 8 = s by omega]
              have HC : Hid (chk (bt l) (8 * j + (t + 1)) = stp r (x.testBit s)) := by
                show chk (bt l) ((8 * j + t) + 1) = _
                rw [chk, HRR.out, hb]
              have HS := Lib.hid hs
              have HSI := Lib.hid hsi
              clear hs hb hsi
              by_cases hd : (r.testBit 15 != x.testBit s) = true
              · rw [hd] at D
                have S : Hid (bits .xor .u16 (IntKind.u16.wrap ((r : Int) * 2)) 4129 = ((chk (bt l) (8 * j + (t + 1)) : Nat) : Int)) := by
                  show _ = _
                  rw [HC.out, stp_diff hd, xor16 hrlt]
                go_wp2_with fail
                go_round
                case rel => exact ⟨t + 1, y' - 1, by omega, by congr 1; have := HS.out; omega, by congr 1; omega, by have := HY2.out; omega, by rw [S.out]⟩
                case measure => have := HS.out; simp [intOf] <;> omega
              · have hd0 : (r.testBit 15 != x.testBit s) = false := by simpa using hd
                rw [hd0] at D
                have S : Hid (IntKind.u16.wrap ((r : Int) * 2) = ((chk (bt l) (8 * j + (t + 1)) : Nat) : Int)) := by
                  show _ = _
                  rw [HC.out, stp_same hd0, shift16 hrlt]
                clear hd
                go_wp2_with fail
                go_round
                case rel => exact ⟨t + 1, y' - 1, by omega, by congr 1; have := HS.out; omega, by congr 1; omega, by have := HY2.out; omega, by rw [S.out]⟩
                case measure => have := HS.out; simp [intOf] <;> omega
          · obtain rfl : t = 8 := by omega
            go_wp2_with fail
            go_round
            case rel => exact ⟨j + 1, y', by omega, by go_num, rfl, by have := HY2.out; omega, by rw [← HRR.out]; rfl⟩
            case measure => simp [intOf]; omega
      · obtain rfl : j = l.length := by omega
        have hr := chk_lt (bt l) (8 * l.length)
        have HE : Hid (8 * l.length = N) := by have := HY.out; have := HLEN.out; show 8 * l.length = N; omega
        rw [HE.out] at hr ⊢
        generalize hrr : chk (bt l) N = r at *
        have HRR := Lib.hid hrr
        clear hrr
        go_wp2_with fail
        go_ret2
        exact check_end V.out HG.out
  · have hv0 : vs l n = false := by simpa using hv
    have V := Lib.hid (chkV_inv hv0)
    rw [hv0]
    go_wp2_with fail
    go_ret2
    exact check_end V.out HG.out
end Go.Proofs.YtpabfjhjehjebaaDoor

/- Spread, Gather, Nth, Rank as plain functions of numbers. No program is named here. -/
namespace Go.Proofs.YtpabfjhjehjebaaDoor
open Go.RowKit
namespace Bs
def cnt (b : Nat) : Nat := (bl b).length
set_option maxRecDepth 100000 in
theorem cnt_le (b : Nat) : cnt b ≤ 64 := bl_length_le b
def nth (b : Nat) (n : Int) : Int := if n < 0 then -1 else match (bl b)[n.toNat]? with | some k => (k : Int) | none => -1
set_option maxRecDepth 100000 in
theorem nth_neg {b : Nat} {n : Int} (h : n < 0) : nth b n = -1 := by unfold nth; rw [if_pos h]
set_option maxRecDepth 100000 in
theorem nth_far {b : Nat} {n : Int} (h : (cnt b : Int) ≤ n) : nth b n = -1 := by
  unfold nth
  rw [if_neg (by omega), List.getElem?_eq_none (by unfold cnt at h; omega)]
set_option maxRecDepth 100000 in
theorem nth_at {b k : Nat} {n : Nat} (h : (bl b)[n]? = some k) : nth b (n : Int) = (k : Int) := by
  unfold nth
  rw [if_neg (by omega), Int.toNat_natCast, h]
def rk (b : Nat) (k : Int) : Nat := (blN (min k.toNat 64) b).length
set_option maxRecDepth 100000 in
theorem rk_neg {b : Nat} {k : Int} (h : k < 0) : rk b k = 0 := by
  unfold rk
  rw [show min k.toNat 64 = 0 by omega]; rfl
set_option maxRecDepth 100000 in
theorem rk_far {b : Nat} {k : Int} (h : 63 < k) : rk b k = cnt b := by
  unfold rk
  rw [show min k.toNat 64 = 64 by omega]; rfl
set_option maxRecDepth 100000 in
theorem filter_lt (f : Nat → Bool) (k : Nat) : ∀ n, k ≤ n → ((List.range n).filter fun i => decide (i < k) && f i) = (List.range k).filter f := by
  intro n hn
  induction n with
  | zero => obtain rfl : k = 0 := by omega
            rfl
  | succ n ih =>
    by_cases h : k ≤ n
    · rw [List.range_succ, List.filter_append, ih h]
      have : ¬ n < k := by omega
      simp [this]
    · obtain rfl : k = n + 1 := by omega
      apply List.filter_congr
      intro x hx
      have : x < n + 1 := List.mem_range.1 hx
      simp [this]
set_option maxRecDepth 100000 in
theorem bl_lo (b k : Nat) (hk : k ≤ 64) : bl (b &&& lo k) = blN k b := by
  unfold bl blN lo
  rw [Nat.and_two_pow_sub_one_eq_mod]
  have : (fun i => (b % 2 ^ k).testBit i) = fun i => decide (i < k) && b.testBit i := by
    funext i; exact Nat.testBit_mod_two_pow b k i
  rw [this]
  exact filter_lt _ k 64 hk
set_option maxRecDepth 100000 in
theorem rk_mid {b : Nat} {k : Nat} (h : k ≤ 63) : rk b (k : Int) = cnt (b &&& lo k) := by
  unfold rk cnt
  rw [bl_lo b k (by omega), Int.toNat_natCast, show min k 64 = k by omega]

/-- A bit put to a place. -/
def put (t : Bool) (k : Nat) : Nat := if t then b2 k else 0
set_option maxRecDepth 100000 in
theorem put_u64 (t : Bool) {k : Nat} (h : k < 64) : U64 (put t k) := by
  unfold put
  cases t
  · show (0 : Nat) < 18446744073709551616; decide
  · exact b2_u64 h
set_option maxRecDepth 100000 in
theorem put_test (t : Bool) (k i : Nat) : (put t k).testBit i = (t && decide (k = i)) := by
  cases t
  · show (0 : Nat).testBit i = _
    simp
  · show (2 ^ k).testBit i = _
    rw [Nat.testBit_two_pow]; simp
def spr (x : Nat) (l : List Nat) : Nat → Nat
  | 0 => 0
  | j + 1 => spr x l j ||| put (x.testBit j) (l.getD j 0)
def gat (x : Nat) (l : List Nat) : Nat → Nat
  | 0 => 0
  | j + 1 => gat x l j ||| put (x.testBit (l.getD j 0)) j
def spread (x b : Nat) : Nat := spr x (bl b) (cnt b)
def gather (x b : Nat) : Nat := gat x (bl b) (cnt b)
set_option maxRecDepth 100000 in
theorem bl_getD_lt (b j : Nat) : (bl b).getD j 0 < 64 := by
  rw [List.getD_eq_getElem?_getD]
  cases h : (bl b)[j]? with
  | none => simp
  | some k => exact bl_lt (List.mem_of_getElem? h)
set_option maxRecDepth 100000 in
theorem spr_u64 (x b : Nat) : ∀ j, U64 (spr x (bl b) j)
  | 0 => by unfold U64 spr; decide
  | j + 1 => u64_or _ _ (spr_u64 x b j) (put_u64 _ (bl_getD_lt b j))
set_option maxRecDepth 100000 in
theorem gat_u64 (x : Nat) (l : List Nat) : ∀ j, j ≤ 64 → U64 (gat x l j)
  | 0, _ => by unfold U64 gat; decide
  | j + 1, h => u64_or _ _ (gat_u64 x l j (by omega)) (put_u64 _ (by omega))
set_option maxRecDepth 100000 in
theorem spread_u64 (x b : Nat) : U64 (spread x b) := spr_u64 x b _
set_option maxRecDepth 100000 in
theorem gather_u64 (x b : Nat) : U64 (gather x b) := gat_u64 x _ _ (cnt_le b)
set_option maxRecDepth 100000 in
theorem spr_test (x : Nat) (l : List Nat) (i : Nat) : ∀ j, j ≤ l.length → ((spr x l j).testBit i = true ↔ ∃ m, m < j ∧ l[m]? = some i ∧ x.testBit m = true)
  | 0, _ => by simp [spr]
  | j + 1, h => by
    have hj : l[j]? = some (l.getD j 0) := by rw [List.getD_eq_getElem?_getD, List.getElem?_eq_getElem (by omega)]; rfl
    rw [spr, Nat.testBit_or, put_test, Bool.or_eq_true, spr_test x l i j (by omega)]
    simp only [Bool.and_eq_true, decide_eq_true_eq]
    constructor
    · rintro (⟨m, hm, h1, h2⟩ | ⟨h1, h2⟩)
      · exact ⟨m, by omega, h1, h2⟩
      · exact ⟨j, by omega, by rw [hj, h2], h1⟩
    · rintro ⟨m, hm, h1, h2⟩
      by_cases e : m = j
      · subst e
        rw [hj] at h1
        exact .inr ⟨h2, Option.some.inj h1⟩
      · exact .inl ⟨m, by omega, h1, h2⟩
set_option maxRecDepth 100000 in
theorem gat_test (x : Nat) (l : List Nat) (i : Nat) : ∀ j, (gat x l j).testBit i = (decide (i < j) && x.testBit (l.getD i 0))
  | 0 => by simp [gat]
  | j + 1 => by
    rw [gat, Nat.testBit_or, put_test, gat_test x l i j]
    by_cases h : i < j
    · have h1 : i < j + 1 := by omega
      have h2 : ¬ j = i := by omega
      simp [h, h1, h2]
    · by_cases e : j = i
      · subst e; simp
      · have h1 : ¬ i < j + 1 := by omega
        simp [h, h1, e]
set_option maxRecDepth 100000 in
/-- Spread of Gather: the bits that both have. -/
theorem spread_gather (x b : Nat) (hx : U64 x) : spread (gather x b) b = x &&& b := by
  apply Nat.eq_of_testBit_eq
  intro i
  rw [Nat.testBit_and, Bool.eq_iff_iff]
  unfold spread
  rw [show cnt b = (bl b).length from rfl, spr_test _ _ _ _ (Nat.le_refl _)]
  unfold gather
  simp only [gat_test, Bool.and_eq_true, decide_eq_true_eq]
  constructor
  · rintro ⟨m, hm, h1, _, h2⟩
    rw [List.getD_eq_getElem?_getD, h1] at h2
    exact ⟨h2, (mem_blN.1 (List.mem_of_getElem? h1)).2⟩
  · rintro ⟨h1, h2⟩
    have hi : i < 64 := by
      rcases Nat.lt_or_ge i 64 with h | h
      · exact h
      · have := Nat.testBit_lt_two_pow (Nat.lt_of_lt_of_le hx.pow (Nat.pow_le_pow_right (by decide) h))
        rw [this] at h1; cases h1
    obtain ⟨m, hm, h3⟩ := List.mem_iff_getElem.1 (mem_blN.2 ⟨hi, h2⟩ : i ∈ bl b)
    have h4 : (bl b)[m]? = some i := by show (blN 64 b)[m]? = some i; rw [List.getElem?_eq_getElem hm, h3]
    exact ⟨m, hm, h4, hm, by rw [List.getD_eq_getElem?_getD, h4]; exact h1⟩
set_option maxRecDepth 100000 in
theorem bl_inj {b m n i : Nat} (hm : (bl b)[m]? = some i) (hn : (bl b)[n]? = some i) : m = n := by
  have hs := blN_sorted 64 b
  have h := List.pairwise_iff_getElem.1 hs
  obtain ⟨hm1, hm2⟩ := List.getElem?_eq_some_iff.1 hm
  obtain ⟨hn1, hn2⟩ := List.getElem?_eq_some_iff.1 hn
  rcases Nat.lt_trichotomy m n with hlt | he | hgt
  · have h1 : (bl b)[m] < (bl b)[n] := h m n hm1 hn1 hlt
    rw [hm2, hn2] at h1; omega
  · exact he
  · have h1 : (bl b)[n] < (bl b)[m] := h n m hn1 hm1 hgt
    rw [hm2, hn2] at h1; omega
set_option maxRecDepth 100000 in
/-- Gather of Spread: the lowest bits. -/
theorem gather_spread (x b : Nat) : gather (spread x b) b = x % 2 ^ cnt b := by
  apply Nat.eq_of_testBit_eq
  intro i
  unfold gather
  rw [gat_test, Nat.testBit_mod_two_pow]
  by_cases h : i < cnt b
  · have hi : (bl b)[i]? = some ((bl b).getD i 0) := by rw [List.getD_eq_getElem?_getD, List.getElem?_eq_getElem h]; rfl
    simp only [h, decide_true, Bool.true_and]
    rw [Bool.eq_iff_iff]
    unfold spread
    rw [show spr x (bl b) (cnt b) = spr x (bl b) (bl b).length from rfl, spr_test _ _ _ _ (Nat.le_refl _)]
    constructor
    · rintro ⟨m, _, h1, h2⟩
      rw [bl_inj hi h1]; exact h2
    · exact fun h2 => ⟨i, h, hi, h2⟩
  · simp [h]
/-- A shifted number. -/
def sh (x j : Nat) : Nat := x / 2 ^ j
set_option maxRecDepth 100000 in
theorem sh_zero (x : Nat) : sh x 0 = x := by unfold sh; simp
set_option maxRecDepth 100000 in
theorem sh_u64 {x : Nat} (h : U64 x) (j : Nat) : U64 (sh x j) := u64_div _ _ h
set_option maxRecDepth 100000 in
theorem sh_half (x j : Nat) : ((sh x j : Nat) : Int) / 2 = ((sh x (j + 1) : Nat) : Int) := by
  rw [show (2 : Int) = ((2 : Nat) : Int) from rfl, divU]
  unfold sh
  rw [Nat.div_div_eq_div_mul, Nat.pow_succ]
set_option maxRecDepth 100000 in
theorem put_word (z k : Nat) (hz : z ≤ 1) (hk : k < 64) : IntKind.u64.wrap ((z : Int) * 2 ^ k) = ((put (decide (z = 1)) k : Nat) : Int) := by
  have h := (b2_u64 hk).lt
  unfold b2 at h
  rw [powI, ← Int.natCast_mul]
  rcases (show z = 0 ∨ z = 1 by omega) with rfl | rfl
  · simp [put, IntKind.wrap_u64]
  · rw [Nat.one_mul]
    exact wrapU (2 ^ k) h
set_option maxRecDepth 100000 in
theorem bit_of (x j : Nat) : decide (x / 2 ^ j % 2 = 1) = x.testBit j := (Nat.testBit_eq_decide_div_mod_eq).symm
set_option maxRecDepth 100000 in
theorem spread_word (r x j k : Nat) (hr : U64 r) (hx : U64 x) (hk : k < 64) :
    bits .or .u64 (r : Int) (IntKind.u64.wrap (bits .and .u64 ((sh x j : Nat) : Int) 1 * 2 ^ k)) = ((r ||| put (x.testBit j) k : Nat) : Int) := by
  rw [show (1 : Int) = ((1 : Nat) : Int) from rfl, andU _ 1 (sh_u64 hx j) (by unfold U64; decide), nat_mask1, put_word _ k (by omega) hk]
  rw [show decide (sh x j % 2 = 1) = x.testBit j from bit_of x j]
  exact orU r _ hr (put_u64 _ hk)
set_option maxRecDepth 100000 in
theorem gather_word (r x j k : Nat) (hr : U64 r) (hx : U64 x) (hj : j < 64) :
    bits .or .u64 (r : Int) (IntKind.u64.wrap (bits .and .u64 ((x : Int) / 2 ^ k) 1 * 2 ^ j)) = ((r ||| put (x.testBit k) j : Nat) : Int) := by
  rw [bitW x k hx, put_word _ j (by omega) hj, bit_of]
  exact orU r _ hr (put_u64 _ hj)
set_option maxRecDepth 100000 in
theorem spr_next {x j k : Nat} {l : List Nat} (h : l[j]? = some k) : spr x l (j + 1) = spr x l j ||| put (x.testBit j) k := by
  rw [spr, List.getD_eq_getElem?_getD, h]; rfl
set_option maxRecDepth 100000 in
theorem gat_next {x j k : Nat} {l : List Nat} (h : l[j]? = some k) : gat x l (j + 1) = gat x l j ||| put (x.testBit k) j := by
  rw [gat, List.getD_eq_getElem?_getD, h]; rfl
/-- c is b without its j lowest bits. -/
def Strip (b c j : Nat) : Prop := U64 c ∧ bl c = (bl b).drop j ∧ j ≤ cnt b
set_option maxRecDepth 100000 in
theorem Strip.start {b : Nat} (h : U64 b) : Strip b b 0 := ⟨h, rfl, Nat.zero_le _⟩
set_option maxRecDepth 100000 in
theorem Strip.step {b c j : Nat} (h : Strip b c j) (h0 : c ≠ 0) : Strip b (wo c) (j + 1) ∧ (bl b)[j]? = some (Lib.ctz 64 c) := by
  have hc := bl_wo h0 h.1.lt
  rw [h.2.1] at hc
  have h1 : (bl b)[j]? = some (Lib.ctz 64 c) := by
    have := congrArg (fun l => l[0]?) hc
    simpa using this
  refine ⟨⟨u64_wo c h.1, ?_, (List.getElem?_eq_some_iff.1 h1).1⟩, h1⟩
  have := congrArg List.tail hc
  rw [List.tail_drop] at this
  simpa using this.symm
set_option maxRecDepth 100000 in
theorem Strip.end_ {b j : Nat} (h : Strip b 0 j) : j = cnt b := by
  have h1 := h.2.1
  rw [bl_zero] at h1
  have := congrArg List.length h1
  rw [List.length_drop] at this
  have h2 := h.2.2
  unfold cnt at h2 ⊢
  simp at this
  omega
set_option maxRecDepth 100000 in
theorem Strip.more {b c j : Nat} (h : Strip b c j) (hj : j < cnt b) : c ≠ 0 := by
  rintro rfl
  have := h.end_
  omega
set_option maxRecDepth 100000 in
theorem Strip.done {b j : Nat} (h : Strip b 0 j) : (bl b).take j = bl b := by
  rw [h.end_]; exact List.take_length
set_option maxRecDepth 100000 in
theorem take_next {l : List Nat} {j x : Nat} (h : l[j]? = some x) : l.take (j + 1) = l.take j ++ [x] := by
  rw [List.take_add_one, h]; rfl
set_option maxRecDepth 100000 in
theorem sorted_below {l : List Nat} (hs : l.Pairwise (· < ·)) : ∀ {i k : Nat}, l[i]? = some k → (l.filter fun x => decide (x < k)).length = i := by
  induction l with
  | nil => intro i k h; simp at h
  | cons a r ih =>
    intro i k h
    rw [List.pairwise_cons] at hs
    cases i with
    | zero =>
      simp at h; subst h
      rw [List.filter_cons, if_neg (by simp)]
      rw [List.filter_eq_nil_iff.2]
      · rfl
      · intro x hx
        have := hs.1 x hx
        simp; omega
    | succ i =>
      rw [List.getElem?_cons_succ] at h
      have hk : a < k := hs.1 k (List.mem_of_getElem? h)
      rw [List.filter_cons, if_pos (by simpa using hk), List.length_cons, ih hs.2 h]
set_option maxRecDepth 100000 in
theorem blN_filter (b k : Nat) (hk : k ≤ 64) : blN k b = (bl b).filter fun x => decide (x < k) := by
  unfold bl blN
  rw [List.filter_filter]
  exact (filter_lt _ k 64 hk).symm
set_option maxRecDepth 100000 in
theorem rk_nth {b i k : Nat} (h : (bl b)[i]? = some k) : rk b (k : Int) = i := by
  have hk : k < 64 := bl_lt (List.mem_of_getElem? h)
  unfold rk
  rw [Int.toNat_natCast, show min k 64 = k by omega, blN_filter b k (by omega)]
  exact sorted_below (blN_sorted 64 b) h
set_option maxRecDepth 100000 in
theorem bl_next_lt {b i j k : Nat} (h : (bl b)[i]? = some j) (h' : (bl b)[i + 1]? = some k) : j < k := by
  obtain ⟨h1, h2⟩ := List.getElem?_eq_some_iff.1 h
  obtain ⟨h3, h4⟩ := List.getElem?_eq_some_iff.1 h'
  have := List.pairwise_iff_getElem.1 (blN_sorted 64 b) i (i + 1) h1 h3 (by omega)
  rw [← h2, ← h4]
  exact this
set_option maxRecDepth 100000 in
theorem nth_mem {b i k : Nat} (h : (bl b)[i]? = some k) : b.testBit k = true := (mem_blN.1 (List.mem_of_getElem? h)).2
/-- The bit before the i-th one: -1 ahead of the first. -/
def prev (b i : Nat) : Int := if i = 0 then -1 else nth b ((i - 1 : Nat) : Int)
set_option maxRecDepth 100000 in
theorem prev_lt {b i k : Nat} (h : (bl b)[i]? = some k) : prev b i < (k : Int) := by
  unfold prev
  cases i with
  | zero => rw [if_pos rfl]; omega
  | succ i =>
    rw [if_neg (by omega), show i + 1 - 1 = i by omega]
    have hi : i < (bl b).length := by have := (List.getElem?_eq_some_iff.1 h).1; omega
    have h0 := List.getElem?_eq_getElem hi
    rw [nth_at h0]
    have := bl_next_lt h0 h
    omega
set_option maxRecDepth 100000 in
theorem prev_ge (b i : Nat) : -1 ≤ prev b i ∧ prev b i ≤ 63 := by
  unfold prev
  by_cases h : i = 0
  · rw [if_pos h]; omega
  · rw [if_neg h]
    unfold nth
    rw [if_neg (by omega)]
    cases hh : (bl b)[((i - 1 : Nat) : Int).toNat]? with
    | none => simp
    | some k => have := bl_lt (List.mem_of_getElem? hh); simp; omega
set_option maxRecDepth 100000 in
theorem prev_succ {b i k : Nat} (h : (bl b)[i]? = some k) : prev b (i + 1) = (k : Int) := by
  unfold prev
  rw [if_neg (by omega), show i + 1 - 1 = i by omega]
  exact nth_at h
set_option maxRecDepth 100000 in
theorem compl_test {f : Nat} (h : U64 f) (i : Nat) : (18446744073709551615 - f).testBit i = (decide (i < 64) && !f.testBit i) := by
  have := Nat.testBit_two_pow_sub_succ h.pow i
  rw [← this]
  congr 1
  have := h.lt
  omega
set_option maxRecDepth 100000 in
theorem and_compl (z : Nat) {f : Nat} (h : U64 f) : (z &&& f) &&& (18446744073709551615 - f) = 0 := by
  apply Nat.eq_of_testBit_eq
  intro i
  rw [Nat.testBit_and, Nat.testBit_and, compl_test h, Nat.zero_testBit]
  cases f.testBit i <;> simp
set_option maxRecDepth 100000 in
theorem lt_of_compl {x n : Nat} (hx : U64 x) (hn : n ≤ 64) (h : x &&& (18446744073709551615 - lo n) = 0) : x < 2 ^ n := by
  apply Nat.lt_pow_two_of_testBit
  intro i hi
  cases ht : x.testBit i with
  | false => rfl
  | true =>
    have h2 := congrArg (·.testBit i) h
    have hi64 : i < 64 := by
      rcases Nat.lt_or_ge i 64 with h1 | h1
      · exact h1
      · have := Nat.testBit_lt_two_pow (Nat.lt_of_lt_of_le hx.pow (Nat.pow_le_pow_right (by decide) h1))
        rw [this] at ht; cases ht
    have hlo : (lo n).testBit i = false := by
      unfold lo
      rw [Nat.testBit_two_pow_sub_one]
      simp; omega
    simp only [Nat.testBit_and, compl_test (lo_u64 hn), Nat.zero_testBit, ht, hlo, hi64, decide_true, Bool.not_false, Bool.and_self] at h2
    cases h2
end Bs
end Go.Proofs.YtpabfjhjehjebaaDoor

/- Full, Valid, Count, First, Rank of the program; Full, Valid of the reference. -/
namespace Go.Proofs.YtpabfjhjehjebaaDoor
open Go.RowKit Bs

/-- All bits below a valid length. -/
def full (n : Int) : Nat := if vl n then lo n.toNat else 0
set_option maxRecDepth 100000 in
theorem full_val : full 8 = 255 ∧ full 16 = 65535 ∧ full 32 = 4294967295 ∧ full 64 = 18446744073709551615 := by decide +kernel
set_option maxRecDepth 100000 in
theorem full_false {n : Int} (h : vl n = false) : full n = 0 := by unfold full; rw [h]; rfl
set_option maxRecDepth 100000 in
theorem full_true {n : Int} (h : vl n = true) : full n = lo n.toNat := by unfold full; rw [h]; rfl
set_option maxRecDepth 100000 in
theorem full_u64 (n : Int) : U64 (full n) := by
  by_cases h : vl n = true
  · rcases vl_cases h with rfl | rfl | rfl | rfl <;> (unfold U64; decide +kernel)
  · rw [full_false (by simpa using h)]; unfold U64; decide
set_option maxRecDepth 100000 in
set_option maxHeartbeats 400000 in
theorem fullp_any (n : Int) (w : World) :
    Calls Tryd.prog 101 #[.int .i64 n] w fun e w' => e = .returned (.int .u64 ((full n : Nat) : Int)) ∧ w = w' := by
  by_cases h : vl n = true
  · obtain ⟨v1, v2, v3, v4⟩ := full_val
    rcases vl_cases h with rfl | rfl | rfl | rfl
    all_goals clear h
    · have V := Lib.hid v1; clear v1 v2 v3 v4
      go_enter Tryd.func101, Tryd.ntmps101
      go_wp2
      go_ret
      exact ⟨ret_int (by rw [V.out]; rfl), rfl⟩
    · have V := Lib.hid v2; clear v1 v2 v3 v4
      go_enter Tryd.func101, Tryd.ntmps101
      go_wp2
      go_ret
      exact ⟨ret_int (by rw [V.out]; rfl), rfl⟩
    · have V := Lib.hid v3; clear v1 v2 v3 v4
      go_enter Tryd.func101, Tryd.ntmps101
      go_wp2
      go_ret
      exact ⟨ret_int (by rw [V.out]; rfl), rfl⟩
    · have V := Lib.hid v4; clear v1 v2 v3 v4
      go_enter Tryd.func101, Tryd.ntmps101
      go_wp2
      go_ret
      exact ⟨ret_int (by rw [V.out]; rfl), rfl⟩
  · have hv : vl n = false := by simpa using h
    have V := Lib.hid (full_false hv)
    clear h
    go_enter Tryd.func101, Tryd.ntmps101
    go_wp2_with (go_at_call 100; refine (vlp_any _ _).mono ?_; rintro e w' ⟨rfl, rfl⟩)
    go_ret
    exact ⟨ret_int (by rw [V.out]; rfl), rfl⟩

set_option maxRecDepth 100000 in
set_option maxHeartbeats 400000 in
theorem fullr_any (n : Int) (w : World) :
    Calls Tryd.prog 80 #[.int .i64 n] w fun e w' => e = .returned (.int .u64 ((full n : Nat) : Int)) ∧ w = w' := by
  by_cases h : vl n = true
  · have hv := h
    obtain ⟨N, rfl⟩ : ∃ N : Nat, n = (N : Int) := ⟨n.toNat, by rcases vl_cases h with rfl | rfl | rfl | rfl <;> rfl⟩
    have hN : N ≤ 64 := by rcases vl_cases h with h | h | h | h <;> omega
    have V := Lib.hid (full_true h)
    clear h
    go_enter Tryd.func80, Tryd.ntmps80
    go_wp2_with (go_at_call 91; refine (vlr_any _ _).mono ?_; rintro e w' ⟨rfl, rfl⟩)
    go_loop [3, 4] (fun b k => ∃ j : Nat, j ≤ N ∧ k = .int .i64 (j : Int) ∧ b = .int .u64 ((lo j : Nat) : Int)) (fun _ k => N - (intOf k).toNat)
    case atStart => exact ⟨0, Nat.zero_le _, rfl, rfl⟩
    case round =>
      obtain ⟨j, hj, rfl, rfl⟩ := hrel
      by_cases hlt : j < N
      · have hj64 : j < 64 := by omega
        have O := Lib.hid (or_lo j hj64)
        go_wp2_with (go_at_call 79; refine (bit_any _ hj64 _).mono ?_; rintro e w' ⟨rfl, rfl⟩)
        go_round
        case rel => exact ⟨j + 1, by omega, by go_num, by rw [O.out]⟩
        case measure => simp [intOf]; omega
      · go_wp2_with fail
        go_ret
        have hjN : j = N := by omega
        exact ⟨ret_int (by rw [V.out, hjN]; rfl), rfl⟩
  · have hv : vl n = false := by simpa using h
    have V := Lib.hid (full_false hv)
    clear h
    go_enter Tryd.func80, Tryd.ntmps80
    go_wp2_with (go_at_call 91; refine (vlr_any _ _).mono ?_; rintro e w' ⟨rfl, rfl⟩)
    go_ret
    exact ⟨ret_int (by rw [V.out]; rfl), rfl⟩

/-- Is the bit string valid for the length? -/
def vb (b : Nat) (n : Int) : Bool := vl n && b &&& (18446744073709551615 - full n) == 0
set_option maxRecDepth 100000 in
set_option maxHeartbeats 400000 in
theorem bvalidp_any (b : Nat) (n : Int) (hb : U64 b) (w : World) :
    Calls Tryd.prog 89 #[.int .u64 (b : Int), .int .i64 n] w fun e w' => e = .returned (.bool (vb b n)) ∧ w = w' := by
  by_cases h : vl n = true
  · have hv := h
    clear h
    go_enter Tryd.func89, Tryd.ntmps89
    go_wp2_with (first | (go_at_call 100; refine (vlp_any _ _).mono ?_; rintro e w' ⟨rfl, rfl⟩) | (go_at_call 101; refine (fullp_any _ _).mono ?_; rintro e w' ⟨rfl, rfl⟩))
    go_ret
    exact ⟨ret_bool (by unfold vb; rw [hv]; exact andNot_zero b _ hb (full_u64 n)), rfl⟩
  · have hv : vl n = false := by simpa using h
    clear h
    go_enter Tryd.func89, Tryd.ntmps89
    go_wp2_with (go_at_call 100; refine (vlp_any _ _).mono ?_; rintro e w' ⟨rfl, rfl⟩)
    go_ret
    exact ⟨ret_bool (by unfold vb; rw [hv]; rfl), rfl⟩
set_option maxRecDepth 100000 in
set_option maxHeartbeats 400000 in
theorem bvalidr_any (b : Nat) (n : Int) (hb : U64 b) (w : World) :
    Calls Tryd.prog 75 #[.int .u64 (b : Int), .int .i64 n] w fun e w' => e = .returned (.bool (vb b n)) ∧ w = w' := by
  by_cases h : vl n = true
  · have hv := h
    clear h
    go_enter Tryd.func75, Tryd.ntmps75
    go_wp2_with (first | (go_at_call 91; refine (vlr_any _ _).mono ?_; rintro e w' ⟨rfl, rfl⟩) | (go_at_call 80; refine (fullr_any _ _).mono ?_; rintro e w' ⟨rfl, rfl⟩))
    go_ret
    exact ⟨ret_bool (by unfold vb; rw [hv]; exact andNot_zero b _ hb (full_u64 n)), rfl⟩
  · have hv : vl n = false := by simpa using h
    clear h
    go_enter Tryd.func75, Tryd.ntmps75
    go_wp2_with (go_at_call 91; refine (vlr_any _ _).mono ?_; rintro e w' ⟨rfl, rfl⟩)
    go_ret
    exact ⟨ret_bool (by unfold vb; rw [hv]; rfl), rfl⟩

/-- The lowest bit, -1 if there is none. -/
def fst (b : Nat) : Int := if b = 0 then -1 else ((Lib.ctz 64 b : Nat) : Int)
set_option maxRecDepth 100000 in
set_option maxHeartbeats 400000 in
theorem firstp_any (b : Nat) (hb : U64 b) (w : World) (hT : Tb w) :
    Calls Tryd.prog 97 #[.int .u64 (b : Int)] w fun e w' => e = .returned (.int .i64 (fst b)) ∧ w = w' := by
  by_cases h0 : b = 0
  · subst h0
    go_enter Tryd.func97, Tryd.ntmps97
    go_wp2
    go_ret
    exact ⟨rfl, rfl⟩
  · have hz : ((b : Int) == 0) = false := by simp; omega
    have F : Hid (fst b = ((Lib.ctz 64 b : Nat) : Int)) := by show fst b = _; unfold fst; rw [if_neg h0]
    clear h0
    go_enter Tryd.func97, Tryd.ntmps97
    go_wp2_with (go_at_call 102; refine (tz_any _ hb _ hT).mono ?_; rintro e w' ⟨rfl, rfl⟩)
    go_ret
    exact ⟨ret_int (by rw [F.out]), rfl⟩
end Go.Proofs.YtpabfjhjehjebaaDoor

/- Streams as lists of bits; the encoding of a packet as a list of bits. -/
namespace Go.Proofs.YtpabfjhjehjebaaDoor
open Go.RowKit Bs
/-- The k lowest bits of v, the highest first. -/
def nb (v k : Nat) : List Bool := (List.range k).map fun t => v.testBit (k - 1 - t)
def bf (B : List Bool) (i : Nat) : Bool := B.getD i false
/-- The bytes of these bits. -/
def pk (B : List Bool) : List Nat := pz (bf B) B.length ((B.length + 7) / 8)
set_option maxRecDepth 100000 in
theorem nb_len (v k : Nat) : (nb v k).length = k := by unfold nb; simp
set_option maxRecDepth 100000 in
theorem pk_len (B : List Bool) : (pk B).length = (B.length + 7) / 8 := pz_len _ _ _
set_option maxRecDepth 100000 in
theorem bf_nb (v k i : Nat) (h : i < k) : bf (nb v k) i = v.testBit (k - 1 - i) := by
  unfold bf nb
  rw [List.getD_eq_getElem?_getD, List.getElem?_map, List.getElem?_range h]; rfl
set_option maxRecDepth 100000 in
theorem bf_left (A B : List Bool) (i : Nat) (h : i < A.length) : bf (A ++ B) i = bf A i := by
  unfold bf
  rw [List.getD_eq_getElem?_getD, List.getD_eq_getElem?_getD, List.getElem?_append_left h]
set_option maxRecDepth 100000 in
theorem bf_right (A B : List Bool) (i : Nat) : bf (A ++ B) (A.length + i) = bf B i := by
  unfold bf
  rw [List.getD_eq_getElem?_getD, List.getD_eq_getElem?_getD, List.getElem?_append_right (by omega), Nat.add_sub_cancel_left]
set_option maxRecDepth 100000 in
theorem bf_out (B : List Bool) (i : Nat) (h : B.length ≤ i) : bf B i = false := by
  unfold bf
  rw [List.getD_eq_getElem?_getD, List.getElem?_eq_none h]; rfl
set_option maxRecDepth 100000 in
theorem bt_pk (B : List Bool) (i : Nat) (h : i < 8 * ((B.length + 7) / 8)) : bt (pk B) i = bf B i := by
  unfold pk
  rw [bt_pz _ _ _ _ h]
  by_cases hi : i < B.length
  · simp [hi]
  · simp [hi, bf_out B i (by omega)]
set_option maxRecDepth 100000 in
theorem pk_vs (B : List Bool) (h : B.length ≤ 8192) : vs (pk B) (B.length : Int) = true := by
  refine vs_iff.2 ⟨h, pk_len _, fun i hi hn => ?_⟩
  rw [pk_len] at hi
  rw [bt_pk _ _ hi]
  exact bf_out B i hn
set_option maxRecDepth 100000 in
theorem pk_by (B : List Bool) : By (pk B) := pz_lt _ _ _
set_option maxRecDepth 100000 in
theorem apV_pk (B : List Bool) (v k : Nat) (hk : k ≤ 64) (hv : v < 2 ^ k) (h : B.length + k ≤ 8192) : apV (pk B) (B.length : Int) v (k : Int) = (pk (B ++ nb v k), ((B ++ nb v k).length : Int), 0) := by
  have e : (B ++ nb v k).length = B.length + k := by rw [List.length_append, nb_len]
  rw [apV_ok (pk_vs B (by omega)) (by unfold vw; simp; omega) (Nat.not_le.2 hv) (by omega)]
  unfold pk
  rw [e]
  refine congrArg (fun x => (x, _)) (pz_congr fun i hi => ?_)
  by_cases hl : i < B.length + k
  · simp only [hl, decide_true, Bool.true_and]
    unfold apf
    by_cases hb : i < B.length
    · rw [if_pos hb, bf_left _ _ _ hb]
      have := bt_pk B i (by omega)
      unfold pk at this
      exact this
    · obtain ⟨t, rfl⟩ : ∃ t, i = B.length + t := ⟨i - B.length, by omega⟩
      rw [if_neg hb, bf_right, bf_nb _ _ _ (by omega), Nat.add_sub_cancel_left]
  · simp [hl]
set_option maxRecDepth 100000 in
theorem jnV_pk (A B : List Bool) (h : A.length + B.length ≤ 8192) : jnV (pk A) (A.length : Int) (pk B) (B.length : Int) = (pk (A ++ B), ((A ++ B).length : Int), 0) := by
  have e : (A ++ B).length = A.length + B.length := List.length_append
  rw [jnV_ok (pk_vs A (by omega)) (pk_vs B (by omega)) e.symm (by omega)]
  unfold pk
  rw [e]
  refine congrArg (fun x => (x, _)) (pz_congr fun i hi => ?_)
  by_cases hl : i < A.length + B.length
  · simp only [hl, decide_true, Bool.true_and]
    unfold jnf
    by_cases hb : i < A.length
    · rw [if_pos hb, bf_left _ _ _ hb]
      have := bt_pk A i (by omega)
      unfold pk at this
      exact this
    · obtain ⟨t, rfl⟩ : ∃ t, i = A.length + t := ⟨i - A.length, by omega⟩
      rw [if_neg hb, bf_right, Nat.add_sub_cancel_left]
      have := bt_pk B t (by omega)
      unfold pk at this
      exact this
  · simp [hl]
/-- The bits of bytes. -/
def pb (l : List Nat) : List Bool := (List.range (8 * l.length)).map (bt l)
set_option maxRecDepth 100000 in
theorem pb_len (l : List Nat) : (pb l).length = 8 * l.length := by unfold pb; simp
set_option maxRecDepth 100000 in
theorem bf_pb (l : List Nat) (i : Nat) (h : i < 8 * l.length) : bf (pb l) i = bt l i := by
  unfold bf pb
  rw [List.getD_eq_getElem?_getD, List.getElem?_map, List.getElem?_range h]; rfl
set_option maxRecDepth 100000 in
theorem pk_pb (l : List Nat) (h : By l) : pk (pb l) = l := by
  have e := pz_bt l (8 * l.length) h fun i h1 h2 => absurd h2 (by omega)
  refine Eq.trans ?_ e.symm
  unfold pk
  rw [pb_len, show (8 * l.length + 7) / 8 = l.length by omega]
  refine pz_congr fun i hi => ?_
  simp only [hi, decide_true, Bool.true_and]
  exact bf_pb l i hi
set_option maxRecDepth 100000 in
theorem alV_pk (B : List Bool) (h : B.length ≤ 8192) : alV (pk B) (B.length : Int) = (pk B, ((8 * (pk B).length : Nat) : Int), 0) := alV_ok (pk_vs B h)
/-- A packet's parts. -/
structure Pk where
  mode : Int
  sub : Int
  set : Int
  len : Int
  ttl : Int
  ent : Int
  ing : Int
  pro : Int
  bits : Nat
  pay : ByteArray
def Pk.val (P : Pk) : Value := .agg #[.int .i64 P.mode, .int .i64 P.sub, .int .i64 P.set, .int .i64 P.len, .int .i64 P.ttl, .int .i64 P.ent, .int .i64 P.ing, .int .i64 P.pro, .int .u64 (P.bits : Int), .string P.pay]
structure Pk.Wf (P : Pk) : Prop where
  mode : I64 P.mode
  sub : I64 P.sub
  set : I64 P.set
  len : I64 P.len
  ttl : I64 P.ttl
  ent : I64 P.ent
  ing : I64 P.ing
  pro : I64 P.pro
  bits : U64 P.bits
  pay : P.pay.size ≤ maxLen
/-- Is it valid? -/
def vpk (P : Pk) : Bool := decide ((1 ≤ P.mode ∧ P.mode ≤ 3) ∧ (0 ≤ P.sub ∧ P.sub ≤ 7) ∧ (0 ≤ P.set ∧ P.set ≤ 31) ∧ (0 ≤ P.ttl ∧ P.ttl ≤ 63) ∧ (0 ≤ P.ent ∧ P.ent ≤ 1023) ∧ (0 ≤ P.ing ∧ P.ing ≤ 256) ∧ (0 ≤ P.pro ∧ P.pro ≤ 7) ∧ P.pay.size ≤ 64 ∧ vb P.bits P.len = true)
/-- The code of the length. -/
def lcode (n : Int) : Nat := if n = 8 then 0 else if n = 16 then 1 else if n = 32 then 2 else 3
/-- The numbers of the header, with their widths. -/
def fl (P : Pk) : List (Nat × Nat) := [(2, 2), (P.mode.toNat, 2), (P.sub.toNat, 3), (P.set.toNat, 5), (lcode P.len, 2), (P.ttl.toNat, 6), (P.ent.toNat, 10), (P.ing.toNat, 9), (P.pro.toNat, 3), (P.pay.size, 7)]
def flb (f : List (Nat × Nat)) : List Bool := f.flatMap fun x => nb x.1 x.2
def byl (s : ByteArray) : List Nat := s.data.toList.map fun b => b.toNat
def body (P : Pk) : List Bool := flb (fl P) ++ nb P.bits P.len.toNat ++ pb (byl P.pay)
def ck (B : List Bool) : Nat := chk (bf B) B.length
def enc (P : Pk) : List Nat := pk (body P ++ nb (ck (body P)) 16)
set_option maxRecDepth 100000 in
theorem flb_len (f : List (Nat × Nat)) : (flb f).length = (f.map (·.2)).sum := by
  induction f with
  | nil => rfl
  | cons x r ih =>
    unfold flb at *
    rw [List.flatMap_cons, List.length_append, ih, nb_len]; rfl
set_option maxRecDepth 100000 in
theorem byl_len (s : ByteArray) : (byl s).length = s.size := by unfold byl; rw [List.length_map, Array.length_toList]; rfl
set_option maxRecDepth 100000 in
theorem byl_by (s : ByteArray) : By (byl s) := fun x hx => by
  unfold byl at hx
  obtain ⟨b, _, rfl⟩ := List.mem_map.1 hx
  exact b.toNat_lt
set_option maxRecDepth 100000 in
theorem hdr_len (P : Pk) : (flb (fl P)).length = 49 := by rw [flb_len]; rfl
set_option maxRecDepth 100000 in
theorem body_len (P : Pk) : (body P).length = 49 + P.len.toNat + 8 * P.pay.size := by
  unfold body
  rw [List.length_append, List.length_append, hdr_len, nb_len, pb_len, byl_len]
end Go.Proofs.YtpabfjhjehjebaaDoor

/- A packet that comes in as an argument. -/
namespace Go.Proofs.YtpabfjhjehjebaaDoor
open Go.ChangeShapes Go.WideShapes Go.ChangeAt Go.RowKit Go.Joins Bs
set_option maxRecDepth 100000 in
theorem array10 {xs : Array Value} (h : xs.size = 10) : ∃ c0 c1 c2 c3 c4 c5 c6 c7 c8 c9, xs = #[c0, c1, c2, c3, c4, c5, c6, c7, c8, c9] := by
  obtain ⟨l⟩ := xs
  match l, h with
  | [c0, c1, c2, c3, c4, c5, c6, c7, c8, c9], _ => exact ⟨c0, c1, c2, c3, c4, c5, c6, c7, c8, c9, rfl⟩
set_option maxRecDepth 100000 in
theorem list10 {A : Type} {xs : List A} (h : xs.length = 10) : ∃ x0 x1 x2 x3 x4 x5 x6 x7 x8 x9, xs = [x0, x1, x2, x3, x4, x5, x6, x7, x8, x9] := by
  match xs, h with
  | [x0, x1, x2, x3, x4, x5, x6, x7, x8, x9], _ => exact ⟨x0, x1, x2, x3, x4, x5, x6, x7, x8, x9, rfl⟩
set_option maxRecDepth 100000 in
theorem kit_cellsStr : Tryd.prog.cellsOf 9 = 1 := by kernel_rfl
section
variable {H : Type} {enc : TypeId × Value → H} {W : World} {base : Nat} {v : Value} {d : DataW H} {ps : List MemPlace}
set_option maxRecDepth 100000 in
theorem opn_packet (hval : Value.okWide Tryd.prog W .any base 31 v) (h : DataW.Trod enc Tryd.prog W 0 (fun _ => true) true 31 v d ps) : ∃ P : Pk, v = P.val ∧ P.Wf := by
  have hs := Tryd.underlying31
  obtain ⟨cs, rfl, hsz⟩ := okWide_struct hs hval
  obtain ⟨c0, c1, c2, c3, c4, c5, c6, c7, c8, c9, rfl⟩ := array10 (hsz.trans (by kernel_rfl))
  obtain ⟨fuel, hf⟩ := h
  obtain ⟨xs, n, _, _, hl, hlen, hf⟩ := DataW.trod_struct hs hf
  obtain ⟨x0, x1, x2, x3, x4, x5, x6, x7, x8, x9, rfl⟩ := list10 hlen
  have h0 : DataW.trod enc Tryd.prog W 0 (fun _ => true) true n 3 [c0] = some x0 := by simpa [Value.cells, kit_cellsInt] using hf 0 _ rfl
  have h1 : DataW.trod enc Tryd.prog W 0 (fun _ => true) true n 3 [c1] = some x1 := by simpa [Value.cells, kit_cellsInt] using hf 1 _ rfl
  have h2 : DataW.trod enc Tryd.prog W 0 (fun _ => true) true n 3 [c2] = some x2 := by simpa [Value.cells, kit_cellsInt] using hf 2 _ rfl
  have h3 : DataW.trod enc Tryd.prog W 0 (fun _ => true) true n 3 [c3] = some x3 := by simpa [Value.cells, kit_cellsInt] using hf 3 _ rfl
  have h4 : DataW.trod enc Tryd.prog W 0 (fun _ => true) true n 3 [c4] = some x4 := by simpa [Value.cells, kit_cellsInt] using hf 4 _ rfl
  have h5 : DataW.trod enc Tryd.prog W 0 (fun _ => true) true n 3 [c5] = some x5 := by simpa [Value.cells, kit_cellsInt] using hf 5 _ rfl
  have h6 : DataW.trod enc Tryd.prog W 0 (fun _ => true) true n 3 [c6] = some x6 := by simpa [Value.cells, kit_cellsInt] using hf 6 _ rfl
  have h7 : DataW.trod enc Tryd.prog W 0 (fun _ => true) true n 3 [c7] = some x7 := by simpa [Value.cells, kit_cellsInt] using hf 7 _ rfl
  have h8 : DataW.trod enc Tryd.prog W 0 (fun _ => true) true n 29 [c8] = some x8 := by simpa [Value.cells, kit_cellsU64] using hf 8 _ rfl
  have h9 : DataW.trod enc Tryd.prog W 0 (fun _ => true) true n 9 [c9] = some x9 := by simpa [Value.cells, kit_cellsStr] using hf 9 _ rfl
  obtain ⟨m0, e0, _, w0⟩ := DataW.trod_int Tryd.underlying3 h0
  obtain rfl : c0 = .int .i64 m0 := by simpa using e0
  obtain ⟨m1, e1, _, w1⟩ := DataW.trod_int Tryd.underlying3 h1
  obtain rfl : c1 = .int .i64 m1 := by simpa using e1
  obtain ⟨m2, e2, _, w2⟩ := DataW.trod_int Tryd.underlying3 h2
  obtain rfl : c2 = .int .i64 m2 := by simpa using e2
  obtain ⟨m3, e3, _, w3⟩ := DataW.trod_int Tryd.underlying3 h3
  obtain rfl : c3 = .int .i64 m3 := by simpa using e3
  obtain ⟨m4, e4, _, w4⟩ := DataW.trod_int Tryd.underlying3 h4
  obtain rfl : c4 = .int .i64 m4 := by simpa using e4
  obtain ⟨m5, e5, _, w5⟩ := DataW.trod_int Tryd.underlying3 h5
  obtain rfl : c5 = .int .i64 m5 := by simpa using e5
  obtain ⟨m6, e6, _, w6⟩ := DataW.trod_int Tryd.underlying3 h6
  obtain rfl : c6 = .int .i64 m6 := by simpa using e6
  obtain ⟨m7, e7, _, w7⟩ := DataW.trod_int Tryd.underlying3 h7
  obtain rfl : c7 = .int .i64 m7 := by simpa using e7
  obtain ⟨m8, e8, _, w8⟩ := DataW.trod_int Tryd.underlying29 h8
  obtain rfl : c8 = .int .u64 m8 := by simpa using e8
  obtain ⟨s9, e9, _, w9⟩ := DataW.trod_string Tryd.underlying9 h9
  obtain rfl : c9 = .string s9 := by simpa using e9
  have hb : 0 ≤ m8 ∧ m8 < 18446744073709551616 := by
    simp [Lit.wf, IntKind.min, IntKind.max, IntKind.bits, IntKind.signed] at w8
    omega
  obtain ⟨b, rfl⟩ := Int.eq_ofNat_of_zero_le hb.1
  exact ⟨⟨m0, m1, m2, m3, m4, m5, m6, m7, b, s9⟩, rfl, ⟨i64_wf w0, i64_wf w1, i64_wf w2, i64_wf w3, i64_wf w4, i64_wf w5, i64_wf w6, i64_wf w7, (show U64 b by unfold U64; omega), w9⟩⟩
end
end Go.Proofs.YtpabfjhjehjebaaDoor

/- Label stacks: the mathematics. A label is a word of four bytes; a stack is read until its bottom. -/
namespace Go.Proofs.YtpabfjhjehjebaaDoor
open Go.RowKit Bs
structure Lab where
  v : Int
  c : Int
  h : Int
set_option maxRecDepth 100000 in
theorem Lab.eq_of {a b : Lab} (h1 : a.v = b.v) (h2 : a.c = b.c) (h3 : a.h = b.h) : a = b := by cases a; cases b; simp_all
def Lab.Wf (l : Lab) : Prop := I64 l.v ∧ I64 l.c ∧ I64 l.h
/-- A label's cells. -/
def labC (l : Lab) : List Value := [.int .i64 l.v, .int .i64 l.c, .int .i64 l.h]
def vlab (l : Lab) : Bool := decide ((0 ≤ l.v ∧ l.v ≤ 1048575) ∧ (0 ≤ l.c ∧ l.c ≤ 7) ∧ (0 ≤ l.h ∧ l.h ≤ 255))
set_option maxRecDepth 100000 in
theorem vlab_iff (l : Lab) : vlab l = true ↔ (0 ≤ l.v ∧ l.v ≤ 1048575) ∧ (0 ≤ l.c ∧ l.c ≤ 7) ∧ (0 ≤ l.h ∧ l.h ≤ 255) := by unfold vlab; simp
/-- The word of a label, with the bit of the bottom. -/
def wordL (l : Lab) (z : Bool) : Nat := l.v.toNat * 4096 + l.c.toNat * 512 + l.h.toNat + (if z then 256 else 0)
def by4 (n : Nat) : List Nat := [n / 16777216 % 256, n / 65536 % 256, n / 256 % 256, n % 256]
set_option maxRecDepth 100000 in
theorem by4_len (n : Nat) : (by4 n).length = 4 := rfl
set_option maxRecDepth 100000 in
theorem by4_by (n : Nat) : By (by4 n) := by
  intro x hx
  simp [by4] at hx
  omega
/-- The bytes of a stack: the last label has the bottom's bit. -/
def encL : List Lab → List Nat
  | [] => []
  | [l] => by4 (wordL l true)
  | l :: m :: r => by4 (wordL l false) ++ encL (m :: r)
set_option maxRecDepth 100000 in
theorem encL_len : ∀ ls : List Lab, (encL ls).length = 4 * ls.length
  | [] => rfl
  | [l] => rfl
  | l :: m :: r => by
    show (by4 (wordL l false) ++ encL (m :: r)).length = _
    rw [List.length_append, by4_len, encL_len (m :: r), List.length_cons (a := l)]; omega
set_option maxRecDepth 100000 in
theorem encL_by : ∀ ls : List Lab, By (encL ls)
  | [] => fun x hx => by cases hx
  | [l] => by4_by _
  | l :: m :: r => fun x hx => by
    rcases List.mem_append.1 (show x ∈ by4 (wordL l false) ++ encL (m :: r) from hx) with h | h
    · exact by4_by _ x h
    · exact encL_by (m :: r) x h
/-- The bytes of the first labels of a stack, none of which is the last. -/
def encP (ls : List Lab) : List Nat := ls.flatMap fun l => by4 (wordL l false)
set_option maxRecDepth 100000 in
theorem encP_snoc (ls : List Lab) (l : Lab) : encP (ls ++ [l]) = encP ls ++ by4 (wordL l false) := by unfold encP; simp
set_option maxRecDepth 100000 in
theorem encL_snoc : ∀ (ls : List Lab) (l : Lab), encL (ls ++ [l]) = encP ls ++ by4 (wordL l true)
  | [], l => rfl
  | [m], l => by show by4 (wordL m false) ++ by4 (wordL l true) = _; simp [encP]
  | m :: k :: r, l => by
    show by4 (wordL m false) ++ encL (k :: r ++ [l]) = _
    rw [encL_snoc (k :: r) l]
    simp [encP]
/-- The label of a word; whether it is the bottom. -/
def labN (n : Nat) : Lab := ⟨((n / 4096 : Nat) : Int), ((n / 512 % 8 : Nat) : Int), ((n % 256 : Nat) : Int)⟩
def botN (n : Nat) : Bool := n / 256 % 2 == 1
/-- Word k of some bytes. -/
def word4 (b : List Nat) (k : Nat) : Nat := b.getD (4 * k) 0 * 16777216 + b.getD (4 * k + 1) 0 * 65536 + b.getD (4 * k + 2) 0 * 256 + b.getD (4 * k + 3) 0
set_option maxRecDepth 100000 in
theorem word4_lt {b : List Nat} (h : By b) (k : Nat) : word4 b k < 4294967296 := by
  have f : ∀ j, b.getD j 0 < 256 := by
    intro j
    by_cases hj : j < b.length
    · exact h.at_ hj
    · rw [List.getD_eq_getElem?_getD, List.getElem?_eq_none (by omega)]; decide
  have h0 := f (4 * k)
  have h1 := f (4 * k + 1)
  have h2 := f (4 * k + 2)
  have h3 := f (4 * k + 3)
  unfold word4
  omega
set_option maxRecDepth 100000 in
theorem labN_wf {n : Nat} (h : n < 4294967296) : (labN n).Wf := by
  unfold Lab.Wf labN I64
  simp only
  omega
set_option maxRecDepth 100000 in
theorem labN_v {n : Nat} (h : n < 4294967296) : vlab (labN n) = true := by
  rw [vlab_iff]
  unfold labN
  simp only
  omega
set_option maxRecDepth 100000 in
theorem lab_back {l : Lab} (h : vlab l = true) (z : Bool) : wordL l z < 4294967296 ∧ labN (wordL l z) = l ∧ botN (wordL l z) = z := by
  rw [vlab_iff] at h
  obtain ⟨⟨a, b⟩, ⟨c, d⟩, e, f⟩ := h
  have e0 : wordL l z = l.v.toNat * 4096 + l.c.toNat * 512 + l.h.toNat + (if z then 256 else 0) := rfl
  have hz : (if z then 256 else 0) = 256 * z.toNat := by cases z <;> rfl
  have hz2 : z.toNat ≤ 1 := Bool.toNat_le z
  rw [hz] at e0
  refine ⟨by omega, Lab.eq_of ?_ ?_ ?_, ?_⟩
  · show ((wordL l z / 4096 : Nat) : Int) = l.v
    omega
  · show ((wordL l z / 512 % 8 : Nat) : Int) = l.c
    omega
  · show ((wordL l z % 256 : Nat) : Int) = l.h
    omega
  · unfold botN
    have : wordL l z / 256 % 2 = z.toNat := by omega
    rw [this]
    cases z <;> rfl
/-- The number of labels that are read, and the error: f labels may still follow the first k. -/
def decGo (b : List Nat) : Nat → Nat → Nat × Int
  | 0, _ => (0, 3)
  | f + 1, k => if b.length < 4 * k + 4 then (0, 20) else if botN (word4 b k) then (k + 1, 0) else decGo b f (k + 1)
def decM (b : List Nat) : Nat × Int := decGo b 24 0
/-- The first k labels of some bytes. -/
def labsN (b : List Nat) (k : Nat) : List Lab := (List.range k).map fun i => labN (word4 b i)
set_option maxRecDepth 100000 in
theorem labsN_len (b : List Nat) (k : Nat) : (labsN b k).length = k := by unfold labsN; simp
set_option maxRecDepth 100000 in
theorem labsN_snoc (b : List Nat) (k : Nat) : labsN b (k + 1) = labsN b k ++ [labN (word4 b k)] := by unfold labsN; rw [List.range_succ, List.map_append]; rfl
set_option maxRecDepth 100000 in
theorem decGo_le (b : List Nat) : ∀ f k, (decGo b f k).1 ≤ k + f ∧ 4 * (decGo b f k).1 ≤ b.length ∧ ((decGo b f k).2 = 0 ∨ (decGo b f k).1 = 0) ∧ (decGo b f k).2 = (if (decGo b f k).2 = 0 then 0 else if (decGo b f k).2 = 3 then 3 else 20) := by
  intro f
  induction f with
  | zero => intro k; simp [decGo]
  | succ f ih =>
    intro k
    unfold decGo
    by_cases h1 : b.length < 4 * k + 4
    · rw [if_pos h1]; simp
    rw [if_neg h1]
    by_cases h2 : botN (word4 b k) = true
    · rw [if_pos h2]; exact ⟨by simp only; omega, by simp only; omega, Or.inl rfl, rfl⟩
    rw [if_neg h2]
    obtain ⟨a, c, d, e⟩ := ih (k + 1)
    exact ⟨by omega, c, d, e⟩
set_option maxRecDepth 100000 in
theorem word4_app (a t : List Nat) (k : Nat) (h : 4 * k + 4 ≤ a.length) : word4 (a ++ t) k = word4 a k := by
  have f : ∀ j, j < a.length → (a ++ t).getD j 0 = a.getD j 0 := by
    intro j hj
    rw [List.getD_eq_getElem?_getD, List.getElem?_append_left hj, ← List.getD_eq_getElem?_getD]
  unfold word4
  rw [f _ (by omega), f _ (by omega), f _ (by omega), f _ (by omega)]
set_option maxRecDepth 100000 in
theorem word4_by4 (n : Nat) (h : n < 4294967296) (t : List Nat) : word4 (by4 n ++ t) 0 = n := by
  show (n / 16777216 % 256) * 16777216 + (n / 65536 % 256) * 65536 + (n / 256 % 256) * 256 + n % 256 = n
  omega
set_option maxRecDepth 100000 in
theorem word4_succ (n : Nat) (t : List Nat) (k : Nat) : word4 (by4 n ++ t) (k + 1) = word4 t k := by
  have f : ∀ j, (by4 n ++ t).getD (j + 4) 0 = t.getD j 0 := by
    intro j
    rw [List.getD_eq_getElem?_getD, List.getElem?_append_right (by rw [by4_len]; omega), by4_len, Nat.add_sub_cancel, ← List.getD_eq_getElem?_getD]
  unfold word4
  rw [show 4 * (k + 1) = 4 * k + 4 by omega, show 4 * k + 4 + 1 = 4 * k + 1 + 4 by omega, show 4 * k + 4 + 2 = 4 * k + 2 + 4 by omega, show 4 * k + 4 + 3 = 4 * k + 3 + 4 by omega, f, f, f, f]
set_option maxRecDepth 100000 in
theorem word_at : ∀ (ls : List Lab) (t : List Nat) (k : Nat) (l : Lab), ls[k]? = some l → (∀ x ∈ ls, vlab x = true) → word4 (encL ls ++ t) k = wordL l (decide (k + 1 = ls.length))
  | [], _, _, _, h, _ => by simp at h
  | [m], t, k, l, h, hv => by
    have hk : k = 0 := by
      rcases k with _ | k
      · rfl
      · simp at h
    subst hk
    obtain rfl : m = l := by simpa using h
    show word4 (by4 (wordL m true) ++ t) 0 = _
    rw [word4_by4 _ (lab_back (hv m (by simp)) true).1]
    rfl
  | m :: m2 :: r, t, k, l, h, hv => by
    rcases k with _ | k
    · obtain rfl : m = l := by simpa using h
      show word4 (by4 (wordL m false) ++ encL (m2 :: r) ++ t) 0 = _
      rw [List.append_assoc, word4_by4 _ (lab_back (hv m (by simp)) false).1]
      simp
    · show word4 (by4 (wordL m false) ++ encL (m2 :: r) ++ t) (k + 1) = _
      rw [List.append_assoc, word4_succ, word_at (m2 :: r) t k l (by simpa using h) (fun x hx => hv x (List.mem_cons_of_mem _ hx))]
      simp
set_option maxRecDepth 100000 in
/-- What is decoded of a stack's bytes is the stack, whatever is behind it. -/
theorem dec_encL (ls : List Lab) (t : List Nat) (h1 : 1 ≤ ls.length) (h2 : ls.length ≤ 24) (hv : ∀ x ∈ ls, vlab x = true) : decM (encL ls ++ t) = (ls.length, 0) ∧ labsN (encL ls ++ t) ls.length = ls := by
  have hw : ∀ k (hk : k < ls.length), word4 (encL ls ++ t) k = wordL ls[k] (decide (k + 1 = ls.length)) := fun k hk => word_at ls t k _ (List.getElem?_eq_getElem hk) hv
  have go : ∀ f k, k + f = 24 → k < ls.length → decGo (encL ls ++ t) f k = (ls.length, 0) := by
    intro f
    induction f with
    | zero => intro k hk hl; omega
    | succ f ih =>
      intro k hk hl
      unfold decGo
      rw [if_neg (by rw [List.length_append, encL_len]; omega), hw k hl, (lab_back (hv _ (List.getElem_mem hl)) _).2.2]
      by_cases e : k + 1 = ls.length
      · rw [if_pos (by simpa using e), e]
      · rw [if_neg (by simpa using e)]
        exact ih (k + 1) (by omega) (by omega)
  refine ⟨go 24 0 rfl (by omega), ?_⟩
  apply List.ext_getElem
  · rw [labsN_len]
  · intro k h3 h4
    simp only [labsN, List.getElem_map, List.getElem_range]
    rw [hw k h4]
    exact (lab_back (hv _ (List.getElem_mem h4)) _).2.1
end Go.Proofs.YtpabfjhjehjebaaDoor

/- stack: within, ValidLabel; the reference's ValidLabel. -/
namespace Go.Proofs.YtpabfjhjehjebaaDoor
open Go.RowKit Bs
set_option maxRecDepth 100000 in
theorem sone_box (w : World) (A : Array Value) (t : TypeId) : (w.alloc (.cells A t)).heap[w.heap.size]? = some (.cells A t (0, 0)) ∧ w.grownBy (w.alloc (.cells A t)) none :=
  ⟨heap_alloc_new w _, World.grownBy_alloc w _ _⟩
set_option maxRecDepth 100000 in
theorem swithin_any (n a b : Int) (w : World) :
    Calls Tryd.prog 65 #[.int .i64 n, .int .i64 a, .int .i64 b] w fun e w' => e = .returned (.bool (decide (a ≤ n ∧ n ≤ b))) ∧ w' = w := by
  go_enter Tryd.func65, Tryd.ntmps65
  by_cases h1 : a ≤ n
  · by_cases h2 : n ≤ b
    · go_wp2_with fail
      go_ret
      exact ⟨by simp; omega, rfl⟩
    · go_wp2_with fail
      go_ret
      exact ⟨by simp; omega, rfl⟩
  · go_wp2_with fail
    go_ret
    exact ⟨by simp; omega, rfl⟩
set_option maxRecDepth 100000 in
theorem lab_facts {w : World} {b : Nat} {l : Lab} (h : w.heap[b]? = some (.cells #[.int .i64 l.v, .int .i64 l.c, .int .i64 l.h] 55 (0, 0))) :
    w.cell? ⟨b, 0, none⟩ = some (.int .i64 l.v) ∧ w.cell? ⟨b, 1, none⟩ = some (.int .i64 l.c) ∧ w.cell? ⟨b, 2, none⟩ = some (.int .i64 l.h) :=
  ⟨cell_of_row _ _ _ _ _ _ h, cell_of_row _ _ _ _ _ _ h, cell_of_row _ _ _ _ _ _ h⟩
set_option maxRecDepth 100000 in
set_option maxHeartbeats 1600000 in
theorem slab_any (l : Lab) (w : World) :
    Calls Tryd.prog 66 #[.agg #[.int .i64 l.v, .int .i64 l.c, .int .i64 l.h]] w fun e w' => e = .returned (.bool (vlab l)) ∧ w.grownBy w' none := by
  obtain ⟨k1, k2⟩ := sone_box w #[.int .i64 l.v, .int .i64 l.c, .int .i64 l.h] 55
  obtain ⟨c0, c1, c2⟩ := lab_facts k1
  have K := Lib.hid k2
  clear k1 k2
  go_enter Tryd.func66, Tryd.ntmps66
  go_wp2_with fail
  generalize w.alloc _ = wa at *
  by_cases h1 : 0 ≤ l.v ∧ l.v ≤ 1048575
  · by_cases h2 : 0 ≤ l.c ∧ l.c ≤ 7
    · have e1 : decide (0 ≤ l.v ∧ l.v ≤ 1048575) = true := decide_eq_true h1
      have e2 : decide (0 ≤ l.c ∧ l.c ≤ 7) = true := decide_eq_true h2
      go_wp2_with (go_at_call 65; refine (swithin_any _ _ _ _).mono ?_; rintro e w' ⟨rfl, rfl⟩; try simp only [e1, e2])
      go_ret
      exact ⟨by unfold vlab; simp [h1, h2], K.out⟩
    · have e1 : decide (0 ≤ l.v ∧ l.v ≤ 1048575) = true := decide_eq_true h1
      have e2 : decide (0 ≤ l.c ∧ l.c ≤ 7) = false := decide_eq_false h2
      go_wp2_with (go_at_call 65; refine (swithin_any _ _ _ _).mono ?_; rintro e w' ⟨rfl, rfl⟩; try simp only [e1, e2])
      go_ret
      exact ⟨by unfold vlab; simp [h2], K.out⟩
  · have e1 : decide (0 ≤ l.v ∧ l.v ≤ 1048575) = false := decide_eq_false h1
    go_wp2_with (go_at_call 65; refine (swithin_any _ _ _ _).mono ?_; rintro e w' ⟨rfl, rfl⟩; try simp only [e1])
    go_ret
    exact ⟨by unfold vlab; simp [h1], K.out⟩
set_option maxRecDepth 100000 in
set_option maxHeartbeats 1600000 in
theorem rlab_any (l : Lab) (w : World) :
    Calls Tryd.prog 49 #[.agg #[.int .i64 l.v, .int .i64 l.c, .int .i64 l.h]] w fun e w' => e = .returned (.bool (vlab l)) ∧ w.grownBy w' none := by
  obtain ⟨k1, k2⟩ := sone_box w #[.int .i64 l.v, .int .i64 l.c, .int .i64 l.h] 55
  obtain ⟨c0, c1, c2⟩ := lab_facts k1
  have K := Lib.hid k2
  clear k1 k2
  go_enter Tryd.func49, Tryd.ntmps49
  go_wp2_with fail
  generalize w.alloc _ = wa at *
  go_wp2_with fail
  all_goals go_ret
  all_goals refine ⟨congrArg (fun b => Ending.returned (Value.bool b)) ?_, K.out⟩
  all_goals unfold vlab
  all_goals first | (exact (decide_eq_false (by omega)).symm) | (rw [Bool.eq_iff_iff, decide_eq_true_eq, decide_eq_true_eq]; omega)
end Go.Proofs.YtpabfjhjehjebaaDoor
