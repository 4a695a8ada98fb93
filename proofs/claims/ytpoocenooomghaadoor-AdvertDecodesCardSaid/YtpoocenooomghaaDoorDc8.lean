/- Parts of the proof, packed: IoAlign, IoCheck, Spread, Full, PkBits, PkFields, Funs, PkHead, PkCalls, AdPut, PkRd. -/
import Derived.Test.YtpoocenooomghaaDoorDc7
import Derived.WalkMore
import Derived.Test.YtpoocenooomghaaDoorDc1
import Derived.Deep.LoopGhost
import Derived.Test.YtpoocenooomghaaDoorDc2
import Derived.OwnWalk
import Derived.Lib.ConvBytes
import Derived.Test.YtpoocenooomghaaDoorDc6
import Derived.Deep.CutRange
/- Align of the program. -/
namespace Go.Proofs.YtpoocenooomghaaDoor
open Go.RowKit Bs
/-- What Align returns. -/
def alV (l : List Nat) (n : Int) : List Nat × Int × Int := if vs l n = false then ([], 0, 1) else (l, ((8 * l.length : Nat) : Int), 0)
set_option maxRecDepth 100000 in
theorem alV_inv {l : List Nat} {n : Int} (h : vs l n = false) : alV l n = ([], 0, 1) := by unfold alV; rw [if_pos h]
set_option maxRecDepth 100000 in
theorem alV_ok {l : List Nat} {n : Int} (h : vs l n = true) : alV l n = (l, ((8 * l.length : Nat) : Int), 0) := by unfold alV; rw [if_neg (by simp [h])]
set_option maxRecDepth 100000 in
set_option maxHeartbeats 3200000 in
theorem alignp_any (l : List Nat) (n : Int) (q : Nat → Prop) (p : Option Addr) (c : Nat) (hl : By l) (w : World) (hR : Rd w q (.slice p l.length c) (l.map nv)) :
    Calls Tryd.prog 47 #[.agg #[.slice p l.length c, .int .i64 n]] w fun e w' => SPost (alV l n) w e w' := by
  obtain ⟨k1, k2, k3, k4⟩ := two_boxes w #[.slice p l.length c, .int .i64 n] #[.slice none 0 0, .int .i64 0] 47 47
  have H0 := Lib.hid (And.intro k1 (And.intro k2 (And.intro k3 k4)))
  have hR1 := hR.keep k3
  clear k1 k2 k3 k4 hR
  go_enter Tryd.func47, Tryd.ntmps47
  go_wp2_with fail
  generalize (w.alloc (.cells #[.slice p l.length c, .int .i64 n] 47)).alloc (.cells #[.slice none 0 0, .int .i64 0] 47) = w1 at *
  refine (validp_any l n q p c hl _ hR1).mono ?_
  rintro e w2 ⟨rfl, hg⟩
  have hrow := kept_row H0.out.1 hg (by simp)
  have hres := kept_row H0.out.2.1 hg (by simp)
  obtain ⟨c0, c1⟩ := row_cells hrow
  obtain ⟨r0, r1⟩ := row_cells hres
  have g0 := frozen_of_row _ _ 0 _ _ hres
  have g1 := frozen_of_row _ _ 1 _ _ hres
  have HG := Lib.hid (grown_trans H0.out.2.2.1 hg)
  have HRES := Lib.hid hres
  have HROW := Lib.hid hrow
  have HSZ : Hid (w.heap.size + 2 ≤ w2.heap.size) := Lib.hid (by rw [← H0.out.2.2.2]; exact hg.size)
  have hR2 := hR1.keep hg
  clear hrow hres hg hR1 H0
  by_cases hv : vs l n = true
  · have V := Lib.hid (alV_ok hv)
    obtain ⟨N, rfl⟩ := vs_nat hv
    obtain ⟨hN, hlen⟩ := vs_bits hv
    rw [hv]
    have hB := bytesFor_any N (by omega) w2
    rw [← hlen] at hB
    have H2 := Lib.hid hB
    have hl2 : l.length ≤ 1024 := by omega
    have hTi : 8 * (l.length : Int) = ((8 * l.length : Nat) : Int) := by omega
    have C := zeros_any (8 * l.length) (by omega) w2
    unfold ZerosPost at C
    rw [show (8 * l.length + 7) / 8 = l.length by omega] at C
    obtain ⟨T, hT⟩ : ∃ T : Nat, T = 8 * l.length := ⟨_, rfl⟩
    rw [← hT] at hTi C V
    have H1 := Lib.hid C
    have HT := Lib.hid hT
    have hT8 : T ≤ 8192 := by omega
    clear hv hlen C hB hT
    go_wp2_with (first | (go_at_call 88; refine H2.out.mono ?_; rintro e w' ⟨rfl, rfl⟩))
    refine H1.out.mono ?_
    rintro e w3 ⟨g, rfl, hgg, hB3, hg3⟩
    have hrow := kept_row HROW.out hg3 (by simp)
    have hres := kept_row HRES.out hg3 (by simp)
    clear c0 c1 r0 r1 g0 g1
    obtain ⟨c0, c1⟩ := row_cells hrow
    have M4 := Lib.hid (made_of (W := w) (M := l.length) (T := (T : Int)) hB3 (by have := HG.out.size; omega) (grown_trans HG.out hg3))
    have HR4 := Lib.hid ((hR2.keep hg3).keep (World.grownBy_alloc w3 (.cells #[.slice (some ⟨g, 0, none⟩) l.length l.length, .int .i64 (T : Int)] 47) none))
    have n1 : ¬ w.heap.size = w3.heap.size := by have := HSZ.out; have := hg3.size; omega
    have n2 : w.heap.size ≠ w3.heap.size := n1
    have n3 : w.heap.size < w3.heap.size := by have := HSZ.out; have := hg3.size; omega
    have hgw : w.heap.size + 2 ≤ g := by have := HSZ.out; omega
    have HRES3 := Lib.hid (kept_row hres (World.grownBy_alloc w3 (.cells #[.slice (some ⟨g, 0, none⟩) l.length l.length, .int .i64 (T : Int)] 47) none) (by simp))
    clear hB3 hrow hres H1 hR2
    go_wp2_with (refine wpList_copy_into rfl _ _ rfl g l.length l.length rfl p l.length c rfl (List.replicate l.length 0) M4.out.blk (by simp) l rfl q HR4.out (Nat.le_refl _) ?_; intro w5 hB5 hg5; rw [List.drop_of_length_le (by simp), List.append_nil] at hB5; have M5 := Lib.hid (M4.out.next hg5 hB5); have HR5 := Lib.hid (kept_row HRES3.out hg5 (by intro e; have := Option.some.inj e; omega)); obtain ⟨e0, e1⟩ := row_cells M5.out.row; obtain ⟨r0, r1⟩ := row_cells HR5.out; have g0 := frozen_of_row _ _ 0 _ _ HR5.out; have g1 := frozen_of_row _ _ 1 _ _ HR5.out; clear hB5 hg5)
    refine bodyPost_ret (res_stream_err rfl _ _ (w.heap.size + 1) _ _ rfl (store2 HR5.out)) rfl ?_
    refine SPost.of V.out ?_
    exact ok_end M5.out.blk rfl hl M5.out.lo M5.out.gr (by omega) (by omega)
  · have hv0 : vs l n = false := by simpa using hv
    have V := Lib.hid (alV_inv hv0)
    rw [hv0]
    go_wp2_with fail
    refine bodyPost_ret (res_stream_err rfl _ _ (w.heap.size + 1) _ _ rfl (store2 HRES.out)) rfl ?_
    exact SPost.of V.out (err_end HG.out (by omega))
end Go.Proofs.YtpoocenooomghaaDoor

/- The program's check number. -/
namespace Go.Proofs.YtpoocenooomghaaDoor
open Go.RowKit Bs
namespace Bs
/-- The register behind one bit. -/
def stp (r : Nat) (b : Bool) : Nat := if (r.testBit 15 != b) = true then (2 * r % 65536) ^^^ 4129 else 2 * r % 65536
/-- The register behind k bits. -/
def crcB (f : Nat → Bool) : Nat → Nat
  | 0 => 65535
  | k + 1 => stp (crcB f k) (f k)
set_option maxRecDepth 100000 in
theorem stp_lt (r : Nat) (b : Bool) : stp r b < 65536 := by
  have h : 2 * r % 65536 < 65536 := Nat.mod_lt _ (by decide)
  unfold stp
  split
  · exact Nat.xor_lt_two_pow (n := 16) h (by decide)
  · exact h
set_option maxRecDepth 100000 in
theorem chk_lt (f : Nat → Bool) : ∀ k, crcB f k < 65536
  | 0 => by simp [crcB]
  | k + 1 => stp_lt _ _
set_option maxRecDepth 100000 in
theorem stp_diff {r : Nat} {b : Bool} (h : (r.testBit 15 != b) = true) : stp r b = (2 * r % 65536) ^^^ 4129 := by unfold stp; rw [if_pos h]
set_option maxRecDepth 100000 in
theorem stp_same {r : Nat} {b : Bool} (h : (r.testBit 15 != b) = false) : stp r b = 2 * r % 65536 := by unfold stp; rw [if_neg (by simp [h])]
set_option maxRecDepth 100000 in
theorem bit15 {r : Nat} (h : r < 65536) : r / 32768 = (r.testBit 15).toNat := by
  rw [Nat.toNat_testBit, show (2 : Nat) ^ 15 = 32768 from rfl]; omega
end Bs
/-- What Check returns. -/
def chkV (l : List Nat) (n : Int) : Nat × Int := if vs l n = false then (0, 1) else (crcB (bt l) n.toNat, 0)
set_option maxRecDepth 100000 in
theorem chkV_inv {l : List Nat} {n : Int} (h : vs l n = false) : chkV l n = (0, 1) := by unfold chkV; rw [if_pos h]
set_option maxRecDepth 100000 in
theorem chkV_ok {l : List Nat} {N : Nat} (h : vs l (N : Int) = true) : chkV l (N : Int) = (crcB (bt l) N, 0) := by unfold chkV; rw [if_neg (by simp [h]), Int.toNat_natCast]
def CheckPost (l : List Nat) (n : Int) (w : World) (e : Ending) (w' : World) : Prop := e = .returned (.tuple #[.int .u64 (((chkV l n).1 : Nat) : Int), .int .i64 (chkV l n).2]) ∧ w.grownBy w' none
set_option maxRecDepth 100000 in
theorem check_end {l : List Nat} {n : Int} {x : Nat} {y : Int} {w w' : World} (h : chkV l n = (x, y)) (g : w.grownBy w' none) : CheckPost l n w (.returned (.tuple #[.int .u64 (x : Int), .int .i64 y])) w' := ⟨by rw [h], g⟩
set_option maxRecDepth 100000 in
theorem ne_bits (a b : Bool) : ((((a.toNat : Nat) : Int)) != ((b.toNat : Nat) : Int)) = (a != b) := by cases a <;> cases b <;> rfl
set_option maxRecDepth 100000 in
theorem diff_word {r x s : Nat} (hr : r < 65536) (hx : x < 256) : ((r : Int) / 32768 != bits .and .u8 ((x : Int) / 2 ^ s) 1) = (r.testBit 15 != x.testBit s) := by
  have e1 : ((r : Int) / 32768) = (((r.testBit 15).toNat : Nat) : Int) := by rw [← bit15 hr]; omega
  have h2 : x / 2 ^ s ≤ x := Nat.div_le_self _ _
  have e2 : bits .and .u8 ((x : Int) / 2 ^ s) 1 = (((x.testBit s).toNat : Nat) : Int) := by
    rw [shrW, show (1 : Int) = ((1 : Nat) : Int) from rfl, u8_and_nat _ 1 (by omega) (by omega), nat_mask1, Nat.toNat_testBit]
  rw [e1, e2, ne_bits]
set_option maxRecDepth 100000 in
theorem shift16 {r : Nat} (hr : r < 65536) : IntKind.u16.wrap ((r : Int) * 2) = ((2 * r % 65536 : Nat) : Int) := by rw [IntKind.wrap_u16]; omega
set_option maxRecDepth 100000 in
theorem xor16 {r : Nat} (hr : r < 65536) : bits .xor .u16 (IntKind.u16.wrap ((r : Int) * 2)) 4129 = (((2 * r % 65536) ^^^ 4129 : Nat) : Int) := by
  rw [shift16 hr, show (4129 : Int) = ((4129 : Nat) : Int) from rfl, u16_xor_nat _ _ (Nat.mod_lt _ (by decide)) (by decide)]
set_option maxRecDepth 100000 in
set_option maxHeartbeats 3200000 in
theorem checkp_any (l : List Nat) (n : Int) (q : Nat → Prop) (p : Option Addr) (c : Nat) (hl : By l) (w : World) (hR : Rd w q (.slice p l.length c) (l.map nv)) :
    Calls Tryd.prog 45 #[.agg #[.slice p l.length c, .int .i64 n]] w fun e w' => CheckPost l n w e w' := by
  obtain ⟨k1, k2⟩ := one_box w #[.slice p l.length c, .int .i64 n] 47
  have H0 := Lib.hid (And.intro k1 k2)
  have hR1 := hR.keep k2
  clear k1 k2 hR
  go_enter Tryd.func45, Tryd.ntmps45
  go_wp2_with fail
  generalize w.alloc (.cells #[.slice p l.length c, .int .i64 n] 47) = w1 at *
  obtain ⟨c0, c1⟩ := row_cells H0.out.1
  go_step3
  go_wp2_with fail
  refine (validp_any l n q p c hl _ hR1).mono ?_
  rintro e w2 ⟨rfl, hg⟩
  have hrow := kept_row H0.out.1 hg (by simp)
  clear c0 c1
  obtain ⟨c0, c1⟩ := row_cells hrow
  have HG := Lib.hid (grown_trans H0.out.2 hg)
  have hR2 := hR1.keep hg
  clear hrow hg hR1 H0
  by_cases hv : vs l n = true
  · obtain ⟨N, rfl⟩ := vs_nat hv
    obtain ⟨hN, hlen⟩ := vs_bits hv
    rw [hv]
    have V := Lib.hid (chkV_ok hv)
    have HLEN := Lib.hid hlen
    have hl2 : l.length ≤ 1024 := by omega
    have hr0 := chk_lt (bt l) 0
    clear hv hlen
    go_wp2_with fail
    go_step3
    go_wp2_with fail
    go_loop [4, 5, 18] (fun r x i => ∃ j y : Nat, j ≤ l.length ∧ i = .int .i64 (j : Int) ∧ x = .int .i64 (y : Int) ∧ y + 8 * j = N ∧ r = .int .u16 ((crcB (bt l) (8 * j) : Nat) : Int)) (fun _ _ i => (l.length - (RowKit.intOf i).toNat))
    case atStart => exact ⟨0, N, Nat.zero_le _, rfl, rfl, rfl, rfl⟩
    case round =>
      obtain ⟨j, y, hj, rfl, rfl, hy, rfl⟩ := hrel
      have HY := Lib.hid hy
      clear hy
      by_cases hlt : j < l.length
      · obtain ⟨g, off, rfl, _, hcell⟩ := hR2.at_ (nv_at hlt)
        have hx := hl.at_ hlt
        generalize hX : l.getD j 0 = x at *
        have HX := Lib.hid hX
        clear hX
        go_wp2_with fail
        go_loop [4, 5, 8] (fun r z k => ∃ t y : Nat, t ≤ 8 ∧ k = .int .i64 (7 - (t : Int)) ∧ z = .int .i64 (y : Int) ∧ y + (8 * j + t) = N ∧ r = .int .u16 ((crcB (bt l) (8 * j + t) : Nat) : Int)) (fun _ _ k => (RowKit.intOf k + 1).toNat)
        case atStart => exact ⟨0, y, by omega, rfl, rfl, by have := HY.out; omega, rfl⟩
        case round =>
          obtain ⟨t, y', ht, rfl, rfl, hy', rfl⟩ := hrel
          have HY2 := Lib.hid hy'
          clear hy'
          have hrlt := chk_lt (bt l) (8 * j + t)
          generalize hrr : crcB (bt l) (8 * j + t) = r at *
          have HRR := Lib.hid hrr
          clear hrr
          by_cases ht8 : t < 8
          · obtain ⟨s, hs⟩ : ∃ s : Nat, s = 7 - t := ⟨_, rfl⟩
            have hsi : 7 - (t : Int) = (s : Int) := by omega
            rw [hsi]
            by_cases hy0 : y' = 0
            · subst hy0
              clear hs
              go_wp2_with fail
              go_ret2
              exact check_end (by rw [V.out, ← HRR.out]; have := HY2.out; rw [show 8 * j + t = N by omega]) HG.out
            · have hy1 : ((y' : Int) == 0) = false := by simp; omega
              have hs8 : s < 8 := by omega
              have hy9 : y' ≤ 8192 := by have := HY2.out; omega
              have D := diff_word (s := s) hrlt hx
              have hb : bt l (8 * j + t) = x.testBit s := by
                unfold bt
                rw [show (8 * j + t) / 8 = j by omega, HX.out, show 7 - (8 * j + t) % 8 = s by omega]
              have HC : Hid (crcB (bt l) (8 * j + (t + 1)) = stp r (x.testBit s)) := by
                show crcB (bt l) ((8 * j + t) + 1) = _
                rw [crcB, HRR.out, hb]
              have HS := Lib.hid hs
              have HSI := Lib.hid hsi
              clear hs hb hsi
              by_cases hd : (r.testBit 15 != x.testBit s) = true
              · rw [hd] at D
                have S : Hid (bits .xor .u16 (IntKind.u16.wrap ((r : Int) * 2)) 4129 = ((crcB (bt l) (8 * j + (t + 1)) : Nat) : Int)) := by
                  show _ = _
                  rw [HC.out, stp_diff hd, xor16 hrlt]
                go_wp2_with fail
                go_round
                case rel => exact ⟨t + 1, y' - 1, by omega, by congr 1; have := HS.out; omega, by congr 1; omega, by have := HY2.out; omega, by rw [S.out]⟩
                case measure => have := HS.out; simp [RowKit.intOf] <;> omega
              · have hd0 : (r.testBit 15 != x.testBit s) = false := by simpa using hd
                rw [hd0] at D
                have S : Hid (IntKind.u16.wrap ((r : Int) * 2) = ((crcB (bt l) (8 * j + (t + 1)) : Nat) : Int)) := by
                  show _ = _
                  rw [HC.out, stp_same hd0, shift16 hrlt]
                clear hd
                go_wp2_with fail
                go_round
                case rel => exact ⟨t + 1, y' - 1, by omega, by congr 1; have := HS.out; omega, by congr 1; omega, by have := HY2.out; omega, by rw [S.out]⟩
                case measure => have := HS.out; simp [RowKit.intOf] <;> omega
          · obtain rfl : t = 8 := by omega
            go_wp2_with fail
            go_round
            case rel => exact ⟨j + 1, y', by omega, by go_num, rfl, by have := HY2.out; omega, by rw [← HRR.out]; rfl⟩
            case measure => simp [RowKit.intOf]; omega
      · obtain rfl : j = l.length := by omega
        have hr := chk_lt (bt l) (8 * l.length)
        have HE : Hid (8 * l.length = N) := by have := HY.out; have := HLEN.out; show 8 * l.length = N; omega
        rw [HE.out] at hr ⊢
        generalize hrr : crcB (bt l) N = r at *
        have HRR := Lib.hid hrr
        clear hrr
        go_wp2_with fail
        go_ret2
        exact check_end V.out HG.out
  · have hv0 : vs l n = false := by simpa using hv
    have V := Lib.hid (chkV_inv hv0)
    rw [hv0]
    go_wp2_with fail
    go_ret2
    exact check_end V.out HG.out
end Go.Proofs.YtpoocenooomghaaDoor

/- Spread, Gather, Nth, Rank as plain functions of numbers. No program is named here. -/
namespace Go.Proofs.YtpoocenooomghaaDoor
open Go.RowKit
namespace Bs
def cnt (b : Nat) : Nat := (bl b).length
set_option maxRecDepth 100000 in
theorem cnt_le (b : Nat) : cnt b ≤ 64 := bl_length_le b
def nth (b : Nat) (n : Int) : Int := if n < 0 then -1 else match (bl b)[n.toNat]? with | some k => (k : Int) | none => -1
set_option maxRecDepth 100000 in
theorem nth_neg {b : Nat} {n : Int} (h : n < 0) : nth b n = -1 := by unfold nth; rw [if_pos h]
set_option maxRecDepth 100000 in
theorem nth_far {b : Nat} {n : Int} (h : (cnt b : Int) ≤ n) : nth b n = -1 := by
  unfold nth
  rw [if_neg (by omega), List.getElem?_eq_none (by unfold cnt at h; omega)]
set_option maxRecDepth 100000 in
theorem nth_at {b k : Nat} {n : Nat} (h : (bl b)[n]? = some k) : nth b (n : Int) = (k : Int) := by
  unfold nth
  rw [if_neg (by omega), Int.toNat_natCast, h]
def rk (b : Nat) (k : Int) : Nat := (blN (min k.toNat 64) b).length
set_option maxRecDepth 100000 in
theorem rk_neg {b : Nat} {k : Int} (h : k < 0) : rk b k = 0 := by
  unfold rk
  rw [show min k.toNat 64 = 0 by omega]; rfl
set_option maxRecDepth 100000 in
theorem rk_far {b : Nat} {k : Int} (h : 63 < k) : rk b k = cnt b := by
  unfold rk
  rw [show min k.toNat 64 = 64 by omega]; rfl
set_option maxRecDepth 100000 in
theorem filter_lt (f : Nat → Bool) (k : Nat) : ∀ n, k ≤ n → ((List.range n).filter fun i => decide (i < k) && f i) = (List.range k).filter f := by
  intro n hn
  induction n with
  | zero => obtain rfl : k = 0 := by omega
            rfl
  | succ n ih =>
    by_cases h : k ≤ n
    · rw [List.range_succ, List.filter_append, ih h]
      have : ¬ n < k := by omega
      simp [this]
    · obtain rfl : k = n + 1 := by omega
      apply List.filter_congr
      intro x hx
      have : x < n + 1 := List.mem_range.1 hx
      simp [this]
set_option maxRecDepth 100000 in
theorem bl_lo (b k : Nat) (hk : k ≤ 64) : bl (b &&& lo k) = blN k b := by
  unfold bl blN lo
  rw [Nat.and_two_pow_sub_one_eq_mod]
  have : (fun i => (b % 2 ^ k).testBit i) = fun i => decide (i < k) && b.testBit i := by
    funext i; exact Nat.testBit_mod_two_pow b k i
  rw [this]
  exact filter_lt _ k 64 hk
set_option maxRecDepth 100000 in
theorem rk_mid {b : Nat} {k : Nat} (h : k ≤ 63) : rk b (k : Int) = cnt (b &&& lo k) := by
  unfold rk cnt
  rw [bl_lo b k (by omega), Int.toNat_natCast, show min k 64 = k by omega]

/-- A bit put to a place. -/
def put (t : Bool) (k : Nat) : Nat := if t then b2 k else 0
set_option maxRecDepth 100000 in
theorem put_u64 (t : Bool) {k : Nat} (h : k < 64) : U64 (put t k) := by
  unfold put
  cases t
  · show (0 : Nat) < 18446744073709551616; decide
  · exact b2_u64 h
set_option maxRecDepth 100000 in
theorem put_test (t : Bool) (k i : Nat) : (put t k).testBit i = (t && decide (k = i)) := by
  cases t
  · show (0 : Nat).testBit i = _
    simp
  · show (2 ^ k).testBit i = _
    rw [Nat.testBit_two_pow]; simp
def spr (x : Nat) (l : List Nat) : Nat → Nat
  | 0 => 0
  | j + 1 => spr x l j ||| put (x.testBit j) (l.getD j 0)
def gat (x : Nat) (l : List Nat) : Nat → Nat
  | 0 => 0
  | j + 1 => gat x l j ||| put (x.testBit (l.getD j 0)) j
def spread (x b : Nat) : Nat := spr x (bl b) (cnt b)
def gather (x b : Nat) : Nat := gat x (bl b) (cnt b)
set_option maxRecDepth 100000 in
theorem bl_getD_lt (b j : Nat) : (bl b).getD j 0 < 64 := by
  rw [List.getD_eq_getElem?_getD]
  cases h : (bl b)[j]? with
  | none => simp
  | some k => exact bl_lt (List.mem_of_getElem? h)
set_option maxRecDepth 100000 in
theorem spr_u64 (x b : Nat) : ∀ j, U64 (spr x (bl b) j)
  | 0 => by unfold U64 spr; decide
  | j + 1 => u64_or _ _ (spr_u64 x b j) (put_u64 _ (bl_getD_lt b j))
set_option maxRecDepth 100000 in
theorem gat_u64 (x : Nat) (l : List Nat) : ∀ j, j ≤ 64 → U64 (gat x l j)
  | 0, _ => by unfold U64 gat; decide
  | j + 1, h => u64_or _ _ (gat_u64 x l j (by omega)) (put_u64 _ (by omega))
set_option maxRecDepth 100000 in
theorem spread_u64 (x b : Nat) : U64 (spread x b) := spr_u64 x b _
set_option maxRecDepth 100000 in
theorem gather_u64 (x b : Nat) : U64 (gather x b) := gat_u64 x _ _ (cnt_le b)
set_option maxRecDepth 100000 in
theorem spr_test (x : Nat) (l : List Nat) (i : Nat) : ∀ j, j ≤ l.length → ((spr x l j).testBit i = true ↔ ∃ m, m < j ∧ l[m]? = some i ∧ x.testBit m = true)
  | 0, _ => by simp [spr]
  | j + 1, h => by
    have hj : l[j]? = some (l.getD j 0) := by rw [List.getD_eq_getElem?_getD, List.getElem?_eq_getElem (by omega)]; rfl
    rw [spr, Nat.testBit_or, put_test, Bool.or_eq_true, spr_test x l i j (by omega)]
    simp only [Bool.and_eq_true, decide_eq_true_eq]
    constructor
    · rintro (⟨m, hm, h1, h2⟩ | ⟨h1, h2⟩)
      · exact ⟨m, by omega, h1, h2⟩
      · exact ⟨j, by omega, by rw [hj, h2], h1⟩
    · rintro ⟨m, hm, h1, h2⟩
      by_cases e : m = j
      · subst e
        rw [hj] at h1
        exact .inr ⟨h2, Option.some.inj h1⟩
      · exact .inl ⟨m, by omega, h1, h2⟩
set_option maxRecDepth 100000 in
theorem gat_test (x : Nat) (l : List Nat) (i : Nat) : ∀ j, (gat x l j).testBit i = (decide (i < j) && x.testBit (l.getD i 0))
  | 0 => by simp [gat]
  | j + 1 => by
    rw [gat, Nat.testBit_or, put_test, gat_test x l i j]
    by_cases h : i < j
    · have h1 : i < j + 1 := by omega
      have h2 : ¬ j = i := by omega
      simp [h, h1, h2]
    · by_cases e : j = i
      · subst e; simp
      · have h1 : ¬ i < j + 1 := by omega
        simp [h, h1, e]
set_option maxRecDepth 100000 in
/-- Spread of Gather: the bits that both have. -/
theorem spread_gather (x b : Nat) (hx : U64 x) : spread (gather x b) b = x &&& b := by
  apply Nat.eq_of_testBit_eq
  intro i
  rw [Nat.testBit_and, Bool.eq_iff_iff]
  unfold spread
  rw [show cnt b = (bl b).length from rfl, spr_test _ _ _ _ (Nat.le_refl _)]
  unfold gather
  simp only [gat_test, Bool.and_eq_true, decide_eq_true_eq]
  constructor
  · rintro ⟨m, hm, h1, _, h2⟩
    rw [List.getD_eq_getElem?_getD, h1] at h2
    exact ⟨h2, (mem_blN.1 (List.mem_of_getElem? h1)).2⟩
  · rintro ⟨h1, h2⟩
    have hi : i < 64 := by
      rcases Nat.lt_or_ge i 64 with h | h
      · exact h
      · have := Nat.testBit_lt_two_pow (Nat.lt_of_lt_of_le hx.pow (Nat.pow_le_pow_right (by decide) h))
        rw [this] at h1; cases h1
    obtain ⟨m, hm, h3⟩ := List.mem_iff_getElem.1 (mem_blN.2 ⟨hi, h2⟩ : i ∈ bl b)
    have h4 : (bl b)[m]? = some i := by show (blN 64 b)[m]? = some i; rw [List.getElem?_eq_getElem hm, h3]
    exact ⟨m, hm, h4, hm, by rw [List.getD_eq_getElem?_getD, h4]; exact h1⟩
set_option maxRecDepth 100000 in
theorem bl_inj {b m n i : Nat} (hm : (bl b)[m]? = some i) (hn : (bl b)[n]? = some i) : m = n := by
  have hs := blN_sorted 64 b
  have h := List.pairwise_iff_getElem.1 hs
  obtain ⟨hm1, hm2⟩ := List.getElem?_eq_some_iff.1 hm
  obtain ⟨hn1, hn2⟩ := List.getElem?_eq_some_iff.1 hn
  rcases Nat.lt_trichotomy m n with hlt | he | hgt
  · have h1 : (bl b)[m] < (bl b)[n] := h m n hm1 hn1 hlt
    rw [hm2, hn2] at h1; omega
  · exact he
  · have h1 : (bl b)[n] < (bl b)[m] := h n m hn1 hm1 hgt
    rw [hm2, hn2] at h1; omega
set_option maxRecDepth 100000 in
/-- Gather of Spread: the lowest bits. -/
theorem gather_spread (x b : Nat) : gather (spread x b) b = x % 2 ^ cnt b := by
  apply Nat.eq_of_testBit_eq
  intro i
  unfold gather
  rw [gat_test, Nat.testBit_mod_two_pow]
  by_cases h : i < cnt b
  · have hi : (bl b)[i]? = some ((bl b).getD i 0) := by rw [List.getD_eq_getElem?_getD, List.getElem?_eq_getElem h]; rfl
    simp only [h, decide_true, Bool.true_and]
    rw [Bool.eq_iff_iff]
    unfold spread
    rw [show spr x (bl b) (cnt b) = spr x (bl b) (bl b).length from rfl, spr_test _ _ _ _ (Nat.le_refl _)]
    constructor
    · rintro ⟨m, _, h1, h2⟩
      rw [bl_inj hi h1]; exact h2
    · exact fun h2 => ⟨i, h, hi, h2⟩
  · simp [h]
/-- A shifted number. -/
def sh (x j : Nat) : Nat := x / 2 ^ j
set_option maxRecDepth 100000 in
theorem sh_zero (x : Nat) : sh x 0 = x := by unfold sh; simp
set_option maxRecDepth 100000 in
theorem sh_u64 {x : Nat} (h : U64 x) (j : Nat) : U64 (sh x j) := u64_div _ _ h
set_option maxRecDepth 100000 in
theorem sh_half (x j : Nat) : ((sh x j : Nat) : Int) / 2 = ((sh x (j + 1) : Nat) : Int) := by
  rw [show (2 : Int) = ((2 : Nat) : Int) from rfl, divU]
  unfold sh
  rw [Nat.div_div_eq_div_mul, Nat.pow_succ]
set_option maxRecDepth 100000 in
theorem put_word (z k : Nat) (hz : z ≤ 1) (hk : k < 64) : IntKind.u64.wrap ((z : Int) * 2 ^ k) = ((put (decide (z = 1)) k : Nat) : Int) := by
  have h := (b2_u64 hk).lt
  unfold b2 at h
  rw [powI, ← Int.natCast_mul]
  rcases (show z = 0 ∨ z = 1 by omega) with rfl | rfl
  · simp [put, IntKind.wrap_u64]
  · rw [Nat.one_mul]
    exact wrapU (2 ^ k) h
set_option maxRecDepth 100000 in
theorem bit_of (x j : Nat) : decide (x / 2 ^ j % 2 = 1) = x.testBit j := (Nat.testBit_eq_decide_div_mod_eq).symm
set_option maxRecDepth 100000 in
theorem spread_word (r x j k : Nat) (hr : U64 r) (hx : U64 x) (hk : k < 64) :
    bits .or .u64 (r : Int) (IntKind.u64.wrap (bits .and .u64 ((sh x j : Nat) : Int) 1 * 2 ^ k)) = ((r ||| put (x.testBit j) k : Nat) : Int) := by
  rw [show (1 : Int) = ((1 : Nat) : Int) from rfl, andU _ 1 (sh_u64 hx j) (by unfold U64; decide), nat_mask1, put_word _ k (by omega) hk]
  rw [show decide (sh x j % 2 = 1) = x.testBit j from bit_of x j]
  exact orU r _ hr (put_u64 _ hk)
set_option maxRecDepth 100000 in
theorem gather_word (r x j k : Nat) (hr : U64 r) (hx : U64 x) (hj : j < 64) :
    bits .or .u64 (r : Int) (IntKind.u64.wrap (bits .and .u64 ((x : Int) / 2 ^ k) 1 * 2 ^ j)) = ((r ||| put (x.testBit k) j : Nat) : Int) := by
  rw [bitW x k hx, put_word _ j (by omega) hj, bit_of]
  exact orU r _ hr (put_u64 _ hj)
set_option maxRecDepth 100000 in
theorem spr_next {x j k : Nat} {l : List Nat} (h : l[j]? = some k) : spr x l (j + 1) = spr x l j ||| put (x.testBit j) k := by
  rw [spr, List.getD_eq_getElem?_getD, h]; rfl
set_option maxRecDepth 100000 in
theorem gat_next {x j k : Nat} {l : List Nat} (h : l[j]? = some k) : gat x l (j + 1) = gat x l j ||| put (x.testBit k) j := by
  rw [gat, List.getD_eq_getElem?_getD, h]; rfl
/-- c is b without its j lowest bits. -/
def Strip (b c j : Nat) : Prop := U64 c ∧ bl c = (bl b).drop j ∧ j ≤ cnt b
set_option maxRecDepth 100000 in
theorem Strip.start {b : Nat} (h : U64 b) : Strip b b 0 := ⟨h, rfl, Nat.zero_le _⟩
set_option maxRecDepth 100000 in
theorem Strip.step {b c j : Nat} (h : Strip b c j) (h0 : c ≠ 0) : Strip b (wo c) (j + 1) ∧ (bl b)[j]? = some (Lib.ctz 64 c) := by
  have hc := bl_wo h0 h.1.lt
  rw [h.2.1] at hc
  have h1 : (bl b)[j]? = some (Lib.ctz 64 c) := by
    have := congrArg (fun l => l[0]?) hc
    simpa using this
  refine ⟨⟨u64_wo c h.1, ?_, (List.getElem?_eq_some_iff.1 h1).1⟩, h1⟩
  have := congrArg List.tail hc
  rw [List.tail_drop] at this
  simpa using this.symm
set_option maxRecDepth 100000 in
theorem Strip.end_ {b j : Nat} (h : Strip b 0 j) : j = cnt b := by
  have h1 := h.2.1
  rw [bl_zero] at h1
  have := congrArg List.length h1
  rw [List.length_drop] at this
  have h2 := h.2.2
  unfold cnt at h2 ⊢
  simp at this
  omega
set_option maxRecDepth 100000 in
theorem Strip.more {b c j : Nat} (h : Strip b c j) (hj : j < cnt b) : c ≠ 0 := by
  rintro rfl
  have := h.end_
  omega
set_option maxRecDepth 100000 in
theorem Strip.done {b j : Nat} (h : Strip b 0 j) : (bl b).take j = bl b := by
  rw [h.end_]; exact List.take_length
set_option maxRecDepth 100000 in
theorem take_next {l : List Nat} {j x : Nat} (h : l[j]? = some x) : l.take (j + 1) = l.take j ++ [x] := by
  rw [List.take_add_one, h]; rfl
set_option maxRecDepth 100000 in
theorem sorted_below {l : List Nat} (hs : l.Pairwise (· < ·)) : ∀ {i k : Nat}, l[i]? = some k → (l.filter fun x => decide (x < k)).length = i := by
  induction l with
  | nil => intro i k h; simp at h
  | cons a r ih =>
    intro i k h
    rw [List.pairwise_cons] at hs
    cases i with
    | zero =>
      simp at h; subst h
      rw [List.filter_cons, if_neg (by simp)]
      rw [List.filter_eq_nil_iff.2]
      · rfl
      · intro x hx
        have := hs.1 x hx
        simp; omega
    | succ i =>
      rw [List.getElem?_cons_succ] at h
      have hk : a < k := hs.1 k (List.mem_of_getElem? h)
      rw [List.filter_cons, if_pos (by simpa using hk), List.length_cons, ih hs.2 h]
set_option maxRecDepth 100000 in
theorem blN_filter (b k : Nat) (hk : k ≤ 64) : blN k b = (bl b).filter fun x => decide (x < k) := by
  unfold bl blN
  rw [List.filter_filter]
  exact (filter_lt _ k 64 hk).symm
set_option maxRecDepth 100000 in
theorem rk_nth {b i k : Nat} (h : (bl b)[i]? = some k) : rk b (k : Int) = i := by
  have hk : k < 64 := bl_lt (List.mem_of_getElem? h)
  unfold rk
  rw [Int.toNat_natCast, show min k 64 = k by omega, blN_filter b k (by omega)]
  exact sorted_below (blN_sorted 64 b) h
set_option maxRecDepth 100000 in
theorem bl_next_lt {b i j k : Nat} (h : (bl b)[i]? = some j) (h' : (bl b)[i + 1]? = some k) : j < k := by
  obtain ⟨h1, h2⟩ := List.getElem?_eq_some_iff.1 h
  obtain ⟨h3, h4⟩ := List.getElem?_eq_some_iff.1 h'
  have := List.pairwise_iff_getElem.1 (blN_sorted 64 b) i (i + 1) h1 h3 (by omega)
  rw [← h2, ← h4]
  exact this
set_option maxRecDepth 100000 in
theorem nth_mem {b i k : Nat} (h : (bl b)[i]? = some k) : b.testBit k = true := (mem_blN.1 (List.mem_of_getElem? h)).2
/-- The bit before the i-th one: -1 ahead of the first. -/
def prev (b i : Nat) : Int := if i = 0 then -1 else nth b ((i - 1 : Nat) : Int)
set_option maxRecDepth 100000 in
theorem prev_lt {b i k : Nat} (h : (bl b)[i]? = some k) : prev b i < (k : Int) := by
  unfold prev
  cases i with
  | zero => rw [if_pos rfl]; omega
  | succ i =>
    rw [if_neg (by omega), show i + 1 - 1 = i by omega]
    have hi : i < (bl b).length := by have := (List.getElem?_eq_some_iff.1 h).1; omega
    have h0 := List.getElem?_eq_getElem hi
    rw [nth_at h0]
    have := bl_next_lt h0 h
    omega
set_option maxRecDepth 100000 in
theorem prev_ge (b i : Nat) : -1 ≤ prev b i ∧ prev b i ≤ 63 := by
  unfold prev
  by_cases h : i = 0
  · rw [if_pos h]; omega
  · rw [if_neg h]
    unfold nth
    rw [if_neg (by omega)]
    cases hh : (bl b)[((i - 1 : Nat) : Int).toNat]? with
    | none => simp
    | some k => have := bl_lt (List.mem_of_getElem? hh); simp; omega
set_option maxRecDepth 100000 in
theorem prev_succ {b i k : Nat} (h : (bl b)[i]? = some k) : prev b (i + 1) = (k : Int) := by
  unfold prev
  rw [if_neg (by omega), show i + 1 - 1 = i by omega]
  exact nth_at h
set_option maxRecDepth 100000 in
theorem compl_test {f : Nat} (h : U64 f) (i : Nat) : (18446744073709551615 - f).testBit i = (decide (i < 64) && !f.testBit i) := by
  have := Nat.testBit_two_pow_sub_succ h.pow i
  rw [← this]
  congr 1
  have := h.lt
  omega
set_option maxRecDepth 100000 in
theorem and_compl (z : Nat) {f : Nat} (h : U64 f) : (z &&& f) &&& (18446744073709551615 - f) = 0 := by
  apply Nat.eq_of_testBit_eq
  intro i
  rw [Nat.testBit_and, Nat.testBit_and, compl_test h, Nat.zero_testBit]
  cases f.testBit i <;> simp
set_option maxRecDepth 100000 in
theorem lt_of_compl {x n : Nat} (hx : U64 x) (hn : n ≤ 64) (h : x &&& (18446744073709551615 - lo n) = 0) : x < 2 ^ n := by
  apply Nat.lt_pow_two_of_testBit
  intro i hi
  cases ht : x.testBit i with
  | false => rfl
  | true =>
    have h2 := congrArg (·.testBit i) h
    have hi64 : i < 64 := by
      rcases Nat.lt_or_ge i 64 with h1 | h1
      · exact h1
      · have := Nat.testBit_lt_two_pow (Nat.lt_of_lt_of_le hx.pow (Nat.pow_le_pow_right (by decide) h1))
        rw [this] at ht; cases ht
    have hlo : (lo n).testBit i = false := by
      unfold lo
      rw [Nat.testBit_two_pow_sub_one]
      simp; omega
    simp only [Nat.testBit_and, compl_test (lo_u64 hn), Nat.zero_testBit, ht, hlo, hi64, decide_true, Bool.not_false, Bool.and_self] at h2
    cases h2
end Bs
end Go.Proofs.YtpoocenooomghaaDoor

/- Full, Valid, Count, First, Rank of the program; Full, Valid of the reference. -/
namespace Go.Proofs.YtpoocenooomghaaDoor
open Go.RowKit Bs

/-- All bits below a valid length. -/
def full (n : Int) : Nat := if vl n then lo n.toNat else 0
set_option maxRecDepth 100000 in
theorem full_val : full 8 = 255 ∧ full 16 = 65535 ∧ full 32 = 4294967295 ∧ full 64 = 18446744073709551615 := by decide +kernel
set_option maxRecDepth 100000 in
theorem full_false {n : Int} (h : vl n = false) : full n = 0 := by unfold full; rw [h]; rfl
set_option maxRecDepth 100000 in
theorem full_true {n : Int} (h : vl n = true) : full n = lo n.toNat := by unfold full; rw [h]; rfl
set_option maxRecDepth 100000 in
theorem full_u64 (n : Int) : U64 (full n) := by
  by_cases h : vl n = true
  · rcases vl_cases h with rfl | rfl | rfl | rfl <;> (unfold U64; decide +kernel)
  · rw [full_false (by simpa using h)]; unfold U64; decide
/-- Is the bit string valid for the length? -/
def vb (b : Nat) (n : Int) : Bool := vl n && b &&& (18446744073709551615 - full n) == 0
/-- The lowest bit, -1 if there is none. -/
def fst (b : Nat) : Int := if b = 0 then -1 else ((Lib.ctz 64 b : Nat) : Int)
set_option maxRecDepth 100000 in
set_option maxHeartbeats 400000 in
theorem firstp_any (b : Nat) (hb : U64 b) (w : World) (hT : Tb w) :
    Calls Tryd.prog 83 #[.int .u64 (b : Int)] w fun e w' => e = .returned (.int .i64 (fst b)) ∧ w = w' := by
  by_cases h0 : b = 0
  · subst h0
    go_enter Tryd.func83, Tryd.ntmps83
    go_wp2
    go_ret
    exact ⟨rfl, rfl⟩
  · have hz : ((b : Int) == 0) = false := by simp; omega
    have F : Hid (fst b = ((Lib.ctz 64 b : Nat) : Int)) := by show fst b = _; unfold fst; rw [if_neg h0]
    clear h0
    go_enter Tryd.func83, Tryd.ntmps83
    go_wp2_with (go_at_call 109; refine (tz_any _ hb _ hT).mono ?_; rintro e w' ⟨rfl, rfl⟩)
    go_ret
    exact ⟨ret_int (by rw [F.out]), rfl⟩
end Go.Proofs.YtpoocenooomghaaDoor

/- Streams as lists of bits; the encoding of a packet as a list of bits. -/
namespace Go.Proofs.YtpoocenooomghaaDoor
open Go.RowKit Bs
/-- The k lowest bits of v, the highest first. -/
def nb (v k : Nat) : List Bool := (List.range k).map fun t => v.testBit (k - 1 - t)
def bf (B : List Bool) (i : Nat) : Bool := B.getD i false
/-- The bytes of these bits. -/
def pk (B : List Bool) : List Nat := pz (bf B) B.length ((B.length + 7) / 8)
set_option maxRecDepth 100000 in
theorem nb_len (v k : Nat) : (nb v k).length = k := by unfold nb; simp
set_option maxRecDepth 100000 in
theorem pk_len (B : List Bool) : (pk B).length = (B.length + 7) / 8 := pz_len _ _ _
set_option maxRecDepth 100000 in
theorem bf_nb (v k i : Nat) (h : i < k) : bf (nb v k) i = v.testBit (k - 1 - i) := by
  unfold bf nb
  rw [List.getD_eq_getElem?_getD, List.getElem?_map, List.getElem?_range h]; rfl
set_option maxRecDepth 100000 in
theorem bf_left (A B : List Bool) (i : Nat) (h : i < A.length) : bf (A ++ B) i = bf A i := by
  unfold bf
  rw [List.getD_eq_getElem?_getD, List.getD_eq_getElem?_getD, List.getElem?_append_left h]
set_option maxRecDepth 100000 in
theorem bf_right (A B : List Bool) (i : Nat) : bf (A ++ B) (A.length + i) = bf B i := by
  unfold bf
  rw [List.getD_eq_getElem?_getD, List.getD_eq_getElem?_getD, List.getElem?_append_right (by omega), Nat.add_sub_cancel_left]
set_option maxRecDepth 100000 in
theorem bf_out (B : List Bool) (i : Nat) (h : B.length ≤ i) : bf B i = false := by
  unfold bf
  rw [List.getD_eq_getElem?_getD, List.getElem?_eq_none h]; rfl
set_option maxRecDepth 100000 in
theorem bt_pk (B : List Bool) (i : Nat) (h : i < 8 * ((B.length + 7) / 8)) : bt (pk B) i = bf B i := by
  unfold pk
  rw [bt_pz _ _ _ _ h]
  by_cases hi : i < B.length
  · simp [hi]
  · simp [hi, bf_out B i (by omega)]
set_option maxRecDepth 100000 in
theorem pk_vs (B : List Bool) (h : B.length ≤ 8192) : vs (pk B) (B.length : Int) = true := by
  refine vs_iff.2 ⟨h, pk_len _, fun i hi hn => ?_⟩
  rw [pk_len] at hi
  rw [bt_pk _ _ hi]
  exact bf_out B i hn
set_option maxRecDepth 100000 in
theorem pk_by (B : List Bool) : By (pk B) := pz_lt _ _ _
set_option maxRecDepth 100000 in
theorem apV_pk (B : List Bool) (v k : Nat) (hk : k ≤ 64) (hv : v < 2 ^ k) (h : B.length + k ≤ 8192) : apV (pk B) (B.length : Int) v (k : Int) = (pk (B ++ nb v k), ((B ++ nb v k).length : Int), 0) := by
  have e : (B ++ nb v k).length = B.length + k := by rw [List.length_append, nb_len]
  rw [apV_ok (pk_vs B (by omega)) (by unfold vw; simp; omega) (Nat.not_le.2 hv) (by omega)]
  unfold pk
  rw [e]
  refine congrArg (fun x => (x, _)) (pz_congr fun i hi => ?_)
  by_cases hl : i < B.length + k
  · simp only [hl, decide_true, Bool.true_and]
    unfold apf
    by_cases hb : i < B.length
    · rw [if_pos hb, bf_left _ _ _ hb]
      have := bt_pk B i (by omega)
      unfold pk at this
      exact this
    · obtain ⟨t, rfl⟩ : ∃ t, i = B.length + t := ⟨i - B.length, by omega⟩
      rw [if_neg hb, bf_right, bf_nb _ _ _ (by omega), Nat.add_sub_cancel_left]
  · simp [hl]
set_option maxRecDepth 100000 in
theorem jnV_pk (A B : List Bool) (h : A.length + B.length ≤ 8192) : jnV (pk A) (A.length : Int) (pk B) (B.length : Int) = (pk (A ++ B), ((A ++ B).length : Int), 0) := by
  have e : (A ++ B).length = A.length + B.length := List.length_append
  rw [jnV_ok (pk_vs A (by omega)) (pk_vs B (by omega)) e.symm (by omega)]
  unfold pk
  rw [e]
  refine congrArg (fun x => (x, _)) (pz_congr fun i hi => ?_)
  by_cases hl : i < A.length + B.length
  · simp only [hl, decide_true, Bool.true_and]
    unfold jnf
    by_cases hb : i < A.length
    · rw [if_pos hb, bf_left _ _ _ hb]
      have := bt_pk A i (by omega)
      unfold pk at this
      exact this
    · obtain ⟨t, rfl⟩ : ∃ t, i = A.length + t := ⟨i - A.length, by omega⟩
      rw [if_neg hb, bf_right, Nat.add_sub_cancel_left]
      have := bt_pk B t (by omega)
      unfold pk at this
      exact this
  · simp [hl]
/-- The bits of bytes. -/
def pb (l : List Nat) : List Bool := (List.range (8 * l.length)).map (bt l)
set_option maxRecDepth 100000 in
theorem pb_len (l : List Nat) : (pb l).length = 8 * l.length := by unfold pb; simp
set_option maxRecDepth 100000 in
theorem bf_pb (l : List Nat) (i : Nat) (h : i < 8 * l.length) : bf (pb l) i = bt l i := by
  unfold bf pb
  rw [List.getD_eq_getElem?_getD, List.getElem?_map, List.getElem?_range h]; rfl
set_option maxRecDepth 100000 in
theorem pk_pb (l : List Nat) (h : By l) : pk (pb l) = l := by
  have e := pz_bt l (8 * l.length) h fun i h1 h2 => absurd h2 (by omega)
  refine Eq.trans ?_ e.symm
  unfold pk
  rw [pb_len, show (8 * l.length + 7) / 8 = l.length by omega]
  refine pz_congr fun i hi => ?_
  simp only [hi, decide_true, Bool.true_and]
  exact bf_pb l i hi
set_option maxRecDepth 100000 in
theorem alV_pk (B : List Bool) (h : B.length ≤ 8192) : alV (pk B) (B.length : Int) = (pk B, ((8 * (pk B).length : Nat) : Int), 0) := alV_ok (pk_vs B h)
/-- A packet's parts. -/
structure Pk where
  mode : Int
  sub : Int
  set : Int
  len : Int
  ttl : Int
  ent : Int
  ing : Int
  pro : Int
  bits : Nat
  pay : ByteArray
def Pk.val (P : Pk) : Value := .agg #[.int .i64 P.mode, .int .i64 P.sub, .int .i64 P.set, .int .i64 P.len, .int .i64 P.ttl, .int .i64 P.ent, .int .i64 P.ing, .int .i64 P.pro, .int .u64 (P.bits : Int), .string P.pay]
structure Pk.Wf (P : Pk) : Prop where
  mode : I64 P.mode
  sub : I64 P.sub
  set : I64 P.set
  len : I64 P.len
  ttl : I64 P.ttl
  ent : I64 P.ent
  ing : I64 P.ing
  pro : I64 P.pro
  bits : U64 P.bits
  pay : P.pay.size ≤ maxLen
/-- Is it valid? -/
def vpk (P : Pk) : Bool := decide ((1 ≤ P.mode ∧ P.mode ≤ 3) ∧ (0 ≤ P.sub ∧ P.sub ≤ 7) ∧ (0 ≤ P.set ∧ P.set ≤ 31) ∧ (0 ≤ P.ttl ∧ P.ttl ≤ 63) ∧ (0 ≤ P.ent ∧ P.ent ≤ 1023) ∧ (0 ≤ P.ing ∧ P.ing ≤ 256) ∧ (0 ≤ P.pro ∧ P.pro ≤ 7) ∧ P.pay.size ≤ 64 ∧ vb P.bits P.len = true)
/-- The code of the length. -/
def lcode (n : Int) : Nat := if n = 8 then 0 else if n = 16 then 1 else if n = 32 then 2 else 3
/-- The numbers of the header, with their widths. -/
def fl (P : Pk) : List (Nat × Nat) := [(2, 2), (P.mode.toNat, 2), (P.sub.toNat, 3), (P.set.toNat, 5), (lcode P.len, 2), (P.ttl.toNat, 6), (P.ent.toNat, 10), (P.ing.toNat, 9), (P.pro.toNat, 3), (P.pay.size, 7)]
def flb (f : List (Nat × Nat)) : List Bool := f.flatMap fun x => nb x.1 x.2
def byl (s : ByteArray) : List Nat := s.data.toList.map fun b => b.toNat
def body (P : Pk) : List Bool := flb (fl P) ++ nb P.bits P.len.toNat ++ pb (byl P.pay)
def ck (B : List Bool) : Nat := crcB (bf B) B.length
def enc (P : Pk) : List Nat := pk (body P ++ nb (ck (body P)) 16)
set_option maxRecDepth 100000 in
theorem flb_len (f : List (Nat × Nat)) : (flb f).length = (f.map (·.2)).sum := by
  induction f with
  | nil => rfl
  | cons x r ih =>
    unfold flb at *
    rw [List.flatMap_cons, List.length_append, ih, nb_len]; rfl
set_option maxRecDepth 100000 in
theorem byl_len (s : ByteArray) : (byl s).length = s.size := by unfold byl; rw [List.length_map, Array.length_toList]; rfl
set_option maxRecDepth 100000 in
theorem byl_by (s : ByteArray) : By (byl s) := fun x hx => by
  unfold byl at hx
  obtain ⟨b, _, rfl⟩ := List.mem_map.1 hx
  exact b.toNat_lt
set_option maxRecDepth 100000 in
theorem hdr_len (P : Pk) : (flb (fl P)).length = 49 := by rw [flb_len]; rfl
set_option maxRecDepth 100000 in
theorem body_len (P : Pk) : (body P).length = 49 + P.len.toNat + 8 * P.pay.size := by
  unfold body
  rw [List.length_append, List.length_append, hdr_len, nb_len, pb_len, byl_len]
end Go.Proofs.YtpoocenooomghaaDoor

/- packet: the table of the fields. -/
namespace Go.Proofs.YtpoocenooomghaaDoor
open Go.RowKit Bs
def fcells (h : Nat) : Array Value := #[.pointer (some ⟨h, 0, none⟩), .int .i64 2, .pointer (some ⟨h, 1, none⟩), .int .i64 2, .pointer (some ⟨h, 2, none⟩), .int .i64 3, .pointer (some ⟨h, 3, none⟩), .int .i64 5, .pointer (some ⟨h, 11, none⟩), .int .i64 2,
  .pointer (some ⟨h, 5, none⟩), .int .i64 6, .pointer (some ⟨h, 6, none⟩), .int .i64 10, .pointer (some ⟨h, 7, none⟩), .int .i64 9, .pointer (some ⟨h, 8, none⟩), .int .i64 3, .pointer (some ⟨h, 12, none⟩), .int .i64 7]
def hcells (P : Pk) : Array Value := #[.int .i64 2, .int .i64 P.mode, .int .i64 P.sub, .int .i64 P.set, .int .i64 P.len, .int .i64 P.ttl, .int .i64 P.ent, .int .i64 P.ing, .int .i64 P.pro, .int .u64 (P.bits : Int), .string P.pay, .int .i64 (lcode P.len : Int), .int .i64 (P.pay.size : Int)]
set_option maxRecDepth 100000 in
theorem fst_code {n : Int} (h : vl n = true) : fst (n.toNat / 8) = (lcode n : Int) := by
  rcases vl_cases h with rfl | rfl | rfl | rfl <;> decide
set_option maxRecDepth 100000 in
theorem vpk_parts {P : Pk} (h : vpk P = true) : ((1 ≤ P.mode ∧ P.mode ≤ 3) ∧ (0 ≤ P.sub ∧ P.sub ≤ 7) ∧ (0 ≤ P.set ∧ P.set ≤ 31) ∧ (0 ≤ P.ttl ∧ P.ttl ≤ 63) ∧ (0 ≤ P.ent ∧ P.ent ≤ 1023) ∧ (0 ≤ P.ing ∧ P.ing ≤ 256) ∧ (0 ≤ P.pro ∧ P.pro ≤ 7) ∧ P.pay.size ≤ 64 ∧ vb P.bits P.len = true) := of_decide_eq_true h
set_option maxRecDepth 100000 in
theorem vb_vl {b : Nat} {n : Int} (h : vb b n = true) : vl n = true := by
  unfold vb at h
  exact (Bool.and_eq_true _ _ ▸ h).1
set_option maxRecDepth 100000 in
theorem lcode_lt (n : Int) : lcode n < 4 := by
  unfold lcode
  split
  · decide
  · split
    · decide
    · split <;> decide
set_option maxRecDepth 100000 in
/-- What stands in the table of the fields. -/
theorem field_at {P : Pk} (h : vpk P = true) (hb : Nat) (k : Nat) (hk : k < 10) : ∃ o wd x : Nat, (fcells hb)[k * 2]? = some (.pointer (some ⟨hb, o, none⟩)) ∧ (fcells hb)[k * 2 + 1]? = some (.int .i64 (wd : Int)) ∧ (hcells P)[o]? = some (.int .i64 (x : Int)) ∧ x < 2 ^ wd ∧ wd ≤ 10 ∧ (fl P)[k]? = some (x, wd) := by
  obtain ⟨⟨m1, m2⟩, ⟨s1, s2⟩, ⟨e1, e2⟩, ⟨t1, t2⟩, ⟨n1, n2⟩, ⟨i1, i2⟩, ⟨p1, p2⟩, y1, v1⟩ := vpk_parts h
  have hl := lcode_lt P.len
  rcases (show k = 0 ∨ k = 1 ∨ k = 2 ∨ k = 3 ∨ k = 4 ∨ k = 5 ∨ k = 6 ∨ k = 7 ∨ k = 8 ∨ k = 9 by omega) with rfl | rfl | rfl | rfl | rfl | rfl | rfl | rfl | rfl | rfl
  · exact ⟨0, 2, 2, rfl, rfl, rfl, by decide, by decide, rfl⟩
  · exact ⟨1, 2, P.mode.toNat, rfl, rfl, by rw [Int.toNat_of_nonneg (by omega)]; rfl, by omega, by decide, rfl⟩
  · exact ⟨2, 3, P.sub.toNat, rfl, rfl, by rw [Int.toNat_of_nonneg (by omega)]; rfl, by omega, by decide, rfl⟩
  · exact ⟨3, 5, P.set.toNat, rfl, rfl, by rw [Int.toNat_of_nonneg (by omega)]; rfl, by omega, by decide, rfl⟩
  · exact ⟨11, 2, lcode P.len, rfl, rfl, rfl, by omega, by decide, rfl⟩
  · exact ⟨5, 6, P.ttl.toNat, rfl, rfl, by rw [Int.toNat_of_nonneg (by omega)]; rfl, by omega, by decide, rfl⟩
  · exact ⟨6, 10, P.ent.toNat, rfl, rfl, by rw [Int.toNat_of_nonneg (by omega)]; rfl, by omega, by decide, rfl⟩
  · exact ⟨7, 9, P.ing.toNat, rfl, rfl, by rw [Int.toNat_of_nonneg (by omega)]; rfl, by omega, by decide, rfl⟩
  · exact ⟨8, 3, P.pro.toNat, rfl, rfl, by rw [Int.toNat_of_nonneg (by omega)]; rfl, by omega, by decide, rfl⟩
  · exact ⟨12, 7, P.pay.size, rfl, rfl, rfl, by omega, by decide, rfl⟩
set_option maxRecDepth 100000 in
theorem flb_snoc {f : List (Nat × Nat)} {k x wd : Nat} (h : f[k]? = some (x, wd)) : flb (f.take (k + 1)) = flb (f.take k) ++ nb x wd := by
  unfold flb
  rw [List.take_add_one, h, List.flatMap_append]
  simp
set_option maxRecDepth 100000 in
theorem flb_take_le (P : Pk) (k : Nat) : (flb ((fl P).take k)).length ≤ 49 := by
  have h := hdr_len P
  have e : fl P = (fl P).take k ++ (fl P).drop k := (List.take_append_drop _ _).symm
  have e2 : flb (fl P) = flb ((fl P).take k) ++ flb ((fl P).drop k) := by
    unfold flb
    rw [← List.flatMap_append, List.take_append_drop]
  rw [e2, List.length_append] at h
  omega
end Go.Proofs.YtpoocenooomghaaDoor

/- The program's functions on bits: List, Nth, Rank, Spread, Gather. -/
namespace Go.Proofs.YtpoocenooomghaaDoor
open Go.RowKit Bs

set_option maxRecDepth 100000 in
theorem Tb.grown {w w' : World} {r : Option Nat} (h : Tb w) (g : w.grownBy w' r) (hr : r ≠ some 0) : Tb w' := by
  intro j hj
  exact g.cell (h j hj) (fun e => hr e.symm)
set_option maxRecDepth 100000 in
theorem Tb.keep {w w' : World} (h : Tb w) (g : w.grownBy w' none) : Tb w' := h.grown g (by simp)

set_option maxRecDepth 100000 in
theorem fst_pos {c : Nat} (h : c ≠ 0) : fst c = ((Lib.ctz 64 c : Nat) : Int) := by unfold fst; rw [if_neg h]

/-- The j lowest bits. -/
def tk (b j : Nat) : List Nat := (bl b).take j
set_option maxRecDepth 100000 in
theorem tk_le (b j : Nat) : (tk b j).length ≤ 64 := by unfold tk; rw [List.length_take]; have := bl_length_le b; omega
def ListRel (b : Nat) (w : World) (v : Value) (c j : Nat) (wr : World) : Prop :=
  Strip b c j ∧ wr.ownsRow w.heap.size 3 1 v (tk b j).length ((tk b j).map ival) ∧ w.grownBy wr none
set_option maxRecDepth 100000 in
theorem list_hit {b c j : Nat} {w wr w1 : World} {v v' : Value} {o : Obj} (h : ListRel b w v c j wr) (h0 : c ≠ 0)
    (hown' : w1.ownsRow w.heap.size 3 1 v' ((tk b j).length + 1) ((tk b j).map ival ++ [.int .i64 (fst c)])) (hg : (wr.alloc o).grownBy w1 v.ownBlock) : ListRel b w v' (wo c) (j + 1) w1 := by
  obtain ⟨h1, h2⟩ := h.1.step h0
  refine ⟨h1, ?_, own_step h.2.2 h.2.1 hg⟩
  unfold tk at hown' ⊢
  rw [take_next h2, List.length_append, List.map_append]
  rw [fst_pos h0] at hown'
  exact hown'
set_option maxRecDepth 100000 in
set_option maxHeartbeats 400000 in
theorem firstp_pos (c : Nat) (hc : U64 c) (h0 : c ≠ 0) (w : World) (hT : Tb w) :
    Calls Tryd.prog 83 #[.int .u64 (c : Int)] w fun e w' => e = .returned (.int .i64 ((Lib.ctz 64 c : Nat) : Int)) ∧ w = w' := by
  have := firstp_any c hc w hT
  rwa [fst_pos h0] at this

set_option maxRecDepth 100000 in
theorem lo_word (k : Nat) (hk : k ≤ 63) : IntKind.u64.wrap (IntKind.u64.wrap (2 ^ k) - 1) = ((lo k : Nat) : Int) := by
  rw [pow_word k (by omega)]
  have h := (b2_u64 (k := k) (by omega)).lt
  have h0 : 0 < 2 ^ k := Nat.pow_pos (by decide)
  unfold b2 at h ⊢
  unfold lo
  rw [IntKind.wrap_u64]; omega
end Go.Proofs.YtpoocenooomghaaDoor

/- packet: a header's block. -/
namespace Go.Proofs.YtpoocenooomghaaDoor
open Go.RowKit Bs
set_option maxRecDepth 100000 in
theorem World.lt_of_row' {w : World} {b : Nat} {o : Obj} (h : w.heap[b]? = some o) : b < w.heap.size := (Array.getElem?_eq_some_iff.1 h).1
def pcells (P : Pk) : Array Value := #[.int .i64 P.mode, .int .i64 P.sub, .int .i64 P.set, .int .i64 P.len, .int .i64 P.ttl, .int .i64 P.ent, .int .i64 P.ing, .int .i64 P.pro, .int .u64 (P.bits : Int), .string P.pay]
def zcells : Array Value := #[.int .i64 0, .int .i64 0, .int .i64 0, .int .i64 0, .int .i64 0, .int .i64 0, .int .i64 0, .int .i64 0, .int .i64 0, .int .u64 0, .string ⟨#[]⟩, .int .i64 0, .int .i64 0]
/-- A stream of these bits is returned. -/
def BP (B : List Bool) (w : World) (e : Ending) (w' : World) : Prop := ∃ p c, e = .returned (.agg #[.slice p (pk B).length c, .int .i64 (B.length : Int)]) ∧ Rd w' (w.heap.size ≤ ·) (.slice p (pk B).length c) ((pk B).map nv) ∧ (p = none → c = 0) ∧ w.grownBy w' none
section
variable {W w w1 : World} {P : Pk} {h g S : Nat} {B B2 : List Bool}
set_option maxRecDepth 100000 in
theorem Rd.weaken {q q' : Nat → Prop} {v : Value} {vs : List Value} (h : Rd w q v vs) (hq : ∀ b, q b → b < w.heap.size → q' b) : Rd w q' v vs := by
  obtain ⟨p, c, hv, hc⟩ := h
  refine ⟨p, c, hv, fun hne => ?_⟩
  obtain ⟨b, off, hp, hb, hx⟩ := hc hne
  refine ⟨b, off, hp, hq b hb ?_, hx⟩
  cases vs with
  | nil => exact absurd rfl hne
  | cons y r => exact World.block_lt_of_cell? w ⟨b, off + 0, none⟩ (hx 0 y rfl)
set_option maxRecDepth 100000 in
theorem Rd.bound {w : World} {q : Nat → Prop} {v : Value} {vs : List Value} (h : Rd w q v vs) : Rd w (· < w.heap.size) v vs := by
  obtain ⟨p, c, hv, hc⟩ := h
  refine ⟨p, c, hv, fun hne => ?_⟩
  obtain ⟨b, off, hp, _, hx⟩ := hc hne
  refine ⟨b, off, hp, ?_, hx⟩
  cases vs with
  | nil => exact absurd rfl hne
  | cons y r => exact World.block_lt_of_cell? w ⟨b, off + 0, none⟩ (hx 0 y rfl)
set_option maxRecDepth 100000 in
/-- What Append gives to a list of bits. -/
theorem append_bits {p : Option Addr} {c v k : Nat} {q : Nat → Prop} (hk : k ≤ 64) (hv : v < 2 ^ k) (hl : B.length + k ≤ 8192) (hR : Rd w q (.slice p (pk B).length c) ((pk B).map nv)) :
    Calls Tryd.prog 46 #[.agg #[.slice p (pk B).length c, .int .i64 (B.length : Int)], .int .u64 (v : Int), .int .i64 (k : Int)] w fun e w' =>
      ∃ p2 c2, e = .returned (.tuple #[.agg #[.slice p2 (pk (B ++ nb v k)).length c2, .int .i64 ((B ++ nb v k).length : Int)], .int .i64 0]) ∧ Rd w' (w.heap.size ≤ ·) (.slice p2 (pk (B ++ nb v k)).length c2) ((pk (B ++ nb v k)).map nv) ∧ (p2 = none → c2 = 0) ∧ w.grownBy w' none := by
  have hvU : U64 v := Nat.lt_of_lt_of_le hv (Nat.pow_le_pow_right (n := 2) (by decide) hk)
  refine (appendp_any (pk B) (B.length : Int) v (k : Int) _ p c (pk_by B) hvU w (fun _ h => h) hR.bound).mono fun e w' hp => ?_
  rw [apV_pk B v k hk hv hl] at hp
  obtain ⟨u, he, ⟨p2, c2, rfl, h1, h2, _⟩, hg⟩ := hp
  exact ⟨p2, c2, he, h1, h2, hg⟩
end
end Go.Proofs.YtpoocenooomghaaDoor

/- packet: the calls of bitio over lists of bits. -/
namespace Go.Proofs.YtpoocenooomghaaDoor
open Go.RowKit Bs
section
variable {w : World} {B : List Bool} {p : Option Addr} {c : Nat} {q : Nat → Prop}
/-- A stream of these bits and no error are returned. -/
def BT (B : List Bool) (w : World) (e : Ending) (w' : World) : Prop :=
  ∃ p2 c2, e = .returned (.tuple #[.agg #[.slice p2 (pk B).length c2, .int .i64 (B.length : Int)], .int .i64 0]) ∧ Rd w' (w.heap.size ≤ ·) (.slice p2 (pk B).length c2) ((pk B).map nv) ∧ (p2 = none → c2 = 0) ∧ w.grownBy w' none
set_option maxRecDepth 100000 in
theorem chk_same {f g : Nat → Bool} : ∀ k, (∀ i, i < k → f i = g i) → crcB f k = crcB g k
  | 0, _ => rfl
  | k + 1, h => by
    unfold crcB
    rw [chk_same k fun i hi => h i (by omega), h k (by omega)]
set_option maxRecDepth 100000 in
theorem check_bits (h : B.length ≤ 8192) (hR : Rd w q (.slice p (pk B).length c) ((pk B).map nv)) :
    Calls Tryd.prog 45 #[.agg #[.slice p (pk B).length c, .int .i64 (B.length : Int)]] w fun e w' => e = .returned (.tuple #[.int .u64 ((ck B : Nat) : Int), .int .i64 0]) ∧ w.grownBy w' none := by
  refine (checkp_any (pk B) (B.length : Int) _ p c (pk_by B) w hR.bound).mono fun e w' hp => ?_
  obtain ⟨he, hg⟩ := hp
  rw [chkV_ok (pk_vs B h)] at he
  rw [show ck B = crcB (bt (pk B)) B.length from (chk_same _ fun i hi => bt_pk B i (by omega)).symm]
  exact ⟨he, hg⟩
set_option maxRecDepth 100000 in
theorem align_bits (h : B.length ≤ 8192) (hR : Rd w q (.slice p (pk B).length c) ((pk B).map nv)) :
    Calls Tryd.prog 47 #[.agg #[.slice p (pk B).length c, .int .i64 (B.length : Int)]] w fun e w' =>
      ∃ p2 c2, e = .returned (.tuple #[.agg #[.slice p2 (pk B).length c2, .int .i64 ((8 * (pk B).length : Nat) : Int)], .int .i64 0]) ∧ Rd w' (w.heap.size ≤ ·) (.slice p2 (pk B).length c2) ((pk B).map nv) ∧ (p2 = none → c2 = 0) ∧ w.grownBy w' none := by
  refine (alignp_any (pk B) (B.length : Int) _ p c (pk_by B) w hR.bound).mono fun e w' hp => ?_
  rw [alV_pk B h] at hp
  obtain ⟨u, he, ⟨p2, c2, rfl, h1, h2, _⟩, hg⟩ := hp
  exact ⟨p2, c2, he, h1, h2, hg⟩
set_option maxRecDepth 100000 in
theorem bw_grown (w : World) (e : TypeId) (s : ByteArray) : w.grownBy (Lib.bytesWorld w e s) none :=
  ⟨rfl, rfl, rfl, by rw [Lib.bytesWorld_size]; omega, fun j hj _ => Lib.bytesWorld_at_old w e s j hj⟩
set_option maxRecDepth 100000 in
theorem bw_rd (w : World) (e : TypeId) (s : ByteArray) (c : Nat) : Rd (Lib.bytesWorld w e s) (· = w.heap.size) (.slice (some ⟨w.heap.size, 0, none⟩) (byl s).length c) ((byl s).map nv) := by
  refine ⟨_, c, by rw [List.length_map], fun _ => ⟨w.heap.size, 0, rfl, rfl, fun j x hj => ?_⟩⟩
  have hl : j < s.size := by
    have := (List.getElem?_eq_some_iff.1 hj).1
    rw [List.length_map, byl_len] at this; exact this
  rw [Nat.zero_add, Lib.bytesWorld_cell w e s j hl]
  unfold byl at hj
  rw [List.map_map, List.getElem?_map] at hj
  have hd : j < s.data.toList.length := by rw [Array.length_toList]; exact hl
  rw [List.getElem?_eq_getElem hd] at hj
  rw [List.getD_eq_getElem?_getD, List.getElem?_eq_getElem hd]
  exact hj
end
end Go.Proofs.YtpoocenooomghaaDoor

/- advert.write: what its closure does to the stream. -/
namespace Go.Proofs.YtpoocenooomghaaDoor
open Go.RowKit Bs
/-- The stream in the box S has the bits B. -/
structure SB (w : World) (S : Nat) (B : List Bool) (p : Option Addr) (c : Nat) : Prop where
  bx : w.heap[S]? = some (.cells #[.slice p (pk B).length c, .int .i64 (B.length : Int)] 47 (0, 0))
  rd : Rd w (· ≠ S) (.slice p (pk B).length c) ((pk B).map nv)
set_option maxRecDepth 100000 in
theorem SB.keep {w w' : World} {S : Nat} {B : List Bool} {p : Option Addr} {c : Nat} (h : SB w S B p c) (g : w.grownBy w' none) : SB w' S B p c := ⟨kept_row h.bx g (by simp), h.rd.grown g (fun _ _ => by simp)⟩
set_option maxRecDepth 100000 in
theorem store2c {w : World} {b : Nat} {t : TypeId} {z0 z1 : Value} (u0 u1 : Value) (h : w.heap[b]? = some (.cells #[z0, z1] t (0, 0))) :
    ((w.setCell ⟨b, 0, none⟩ u0).setCell ⟨b, 1, none⟩ u1).heap[b]? = some (.cells #[u0, u1] t (0, 0)) ∧ w.grownBy ((w.setCell ⟨b, 0, none⟩ u0).setCell ⟨b, 1, none⟩ u1) (some b) := ⟨store2 h, grown_store2 w b u0 u1⟩
set_option maxRecDepth 100000 in
set_option maxHeartbeats 1600000 in
theorem aput_any (B : List Bool) (n k S : Nat) (p : Option Addr) (c : Nat) (w : World) (h : SB w S B p c) (hk : k ≤ 64) (hn : n < 2 ^ k) (hl : B.length + k ≤ 8192) :
    Calls Tryd.prog 82 #[.int .i64 (n : Int), .int .i64 (k : Int), .pointer (some ⟨S, 0, none⟩)] w fun e w' => ∃ p2 c2, e = .returned (.tuple #[]) ∧ SB w' S (B ++ nb n k) p2 c2 ∧ w.grownBy w' (some S) := by
  have HB := Lib.hid h
  obtain ⟨c0, c1⟩ := row_cells h.bx
  have hn64 : (n : Int) < 18446744073709551616 := by
    have h1 : 2 ^ k ≤ 2 ^ 64 := Nat.pow_le_pow_right (by decide) hk
    have h2 : (2 : Nat) ^ 64 = 18446744073709551616 := by decide
    omega
  have HN := Lib.hid (And.intro hn hl)
  clear h hn hl
  go_enter Tryd.func82, Tryd.ntmps82
  go_wp2_with fail
  refine (append_bits (B := B) (v := n) (k := k) (p := p) (c := c) hk HN.out.1 HN.out.2 HB.out.rd).mono ?_
  rintro e w1 ⟨p2, c2, rfl, hr, hp, hg⟩
  have hS : S < w.heap.size := by
    rcases Nat.lt_or_ge S w.heap.size with h | h
    · exact h
    · have := HB.out.bx; rw [Array.getElem?_eq_none h] at this; cases this
  have hb1 := kept_row HB.out.bx hg (by simp)
  obtain ⟨B2, hB2⟩ : ∃ B2, B ++ nb n k = B2 := ⟨_, rfl⟩
  rw [hB2] at hr ⊢
  have HB2 := Lib.hid hB2
  clear hB2
  obtain ⟨t1, t2⟩ := store2c (.slice p2 (pk B2).length c2) (.int .i64 (B2.length : Int)) hb1
  have HO : Hid (SB _ S B2 p2 c2 ∧ w.grownBy _ (some S)) := Lib.hid ⟨⟨t1, (hr.grown t2 (fun b hb e => by have := Option.some.inj e; omega)).mono (fun b hb e => by omega)⟩, grown_trans (grown_none hg _) t2⟩
  have HB1 := Lib.hid hb1
  obtain ⟨d0, d1⟩ := row_cells hb1
  have f0 := frozen_of_row _ _ 0 _ _ hb1
  have f1 := frozen_of_row _ _ 1 _ _ hb1
  clear hr hp hg hb1 t1 t2 c0 c1
  go_wp2_with fail
  go_end0
  refine ⟨p2, c2, rfl, ?_⟩
  rw [HB2.out]
  exact HO.out
end Go.Proofs.YtpoocenooomghaaDoor

/- packet: the header of a packet is read. -/
namespace Go.Proofs.YtpoocenooomghaaDoor
open Go.RowKit Bs
/-- A header's cells behind k fields. -/
def hdc (V : Nat → Nat) (k : Nat) (n : Int) : Array Value := #[.int .i64 ((if 0 < k then V 0 else 0 : Nat) : Int), .int .i64 ((if 1 < k then V 1 else 0 : Nat) : Int), .int .i64 ((if 2 < k then V 2 else 0 : Nat) : Int), .int .i64 ((if 3 < k then V 3 else 0 : Nat) : Int), .int .i64 n, .int .i64 ((if 5 < k then V 5 else 0 : Nat) : Int), .int .i64 ((if 6 < k then V 6 else 0 : Nat) : Int), .int .i64 ((if 7 < k then V 7 else 0 : Nat) : Int), .int .i64 ((if 8 < k then V 8 else 0 : Nat) : Int), .int .u64 0, .string ⟨#[]⟩, .int .i64 ((if 4 < k then V 4 else 0 : Nat) : Int), .int .i64 ((if 9 < k then V 9 else 0 : Nat) : Int)]
def wids : List Nat := [2, 2, 3, 5, 2, 6, 10, 9, 3, 7]
def offs : List Nat := [0, 2, 4, 7, 12, 14, 20, 30, 39, 42, 49]
/-- The number in field k of these bytes. -/
def fv (l : List Nat) (k : Nat) : Nat := num (bt l) (offs.getD k 0) (wids.getD k 0)
set_option maxRecDepth 100000 in
theorem read_at (V : Nat → Nat) (h k : Nat) (hk : k < 10) : ∃ o : Nat, (fcells h)[k * 2]? = some (.pointer (some ⟨h, o, none⟩)) ∧ (fcells h)[k * 2 + 1]? = some (.int .i64 ((wids.getD k 0 : Nat) : Int)) ∧ (hdc V k 0)[o]? = some (.int .i64 0) ∧ (hdc V k 0).setIfInBounds o (.int .i64 ((V k : Nat) : Int)) = hdc V (k + 1) 0 ∧
    offs.getD (k + 1) 0 = offs.getD k 0 + wids.getD k 0 ∧ wids.getD k 0 ≤ 10 ∧ offs.getD k 0 + wids.getD k 0 ≤ 49 := by
  rcases (show k = 0 ∨ k = 1 ∨ k = 2 ∨ k = 3 ∨ k = 4 ∨ k = 5 ∨ k = 6 ∨ k = 7 ∨ k = 8 ∨ k = 9 by omega) with rfl | rfl | rfl | rfl | rfl | rfl | rfl | rfl | rfl | rfl
  · exact ⟨0, rfl, rfl, rfl, rfl, rfl, by decide, by decide⟩
  · exact ⟨1, rfl, rfl, rfl, rfl, rfl, by decide, by decide⟩
  · exact ⟨2, rfl, rfl, rfl, rfl, rfl, by decide, by decide⟩
  · exact ⟨3, rfl, rfl, rfl, rfl, rfl, by decide, by decide⟩
  · exact ⟨11, rfl, rfl, rfl, rfl, rfl, by decide, by decide⟩
  · exact ⟨5, rfl, rfl, rfl, rfl, rfl, by decide, by decide⟩
  · exact ⟨6, rfl, rfl, rfl, rfl, rfl, by decide, by decide⟩
  · exact ⟨7, rfl, rfl, rfl, rfl, rfl, by decide, by decide⟩
  · exact ⟨8, rfl, rfl, rfl, rfl, rfl, by decide, by decide⟩
  · exact ⟨12, rfl, rfl, rfl, rfl, rfl, by decide, by decide⟩
set_option maxRecDepth 100000 in
theorem vs_whole {l : List Nat} (h : 8 * l.length ≤ 8192) : vs l ((8 * l.length : Nat) : Int) = true := vs_iff.2 ⟨h, by omega, fun i h1 h2 => absurd h2 (by omega)⟩
section
variable {W w w1 : World} {l : List Nat} {p : Option Addr} {c : Nat} {V : Nat → Nat} {g k : Nat}
end
end Go.Proofs.YtpoocenooomghaaDoor
