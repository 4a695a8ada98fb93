/- The program's check number. -/
import Derived.Test.YtnfgkakhdgiepaaDoorIoTake
import Derived.WalkMore
namespace Go.Proofs.YtnfgkakhdgiepaaDoor
open Go.RowKit Bs
namespace Bs
/-- The register behind one bit. -/
def stp (r : Nat) (b : Bool) : Nat := if (r.testBit 15 != b) = true then (2 * r % 65536) ^^^ 4129 else 2 * r % 65536
/-- The register behind k bits. -/
def chk (f : Nat → Bool) : Nat → Nat
  | 0 => 65535
  | k + 1 => stp (chk f k) (f k)
set_option maxRecDepth 100000 in
theorem stp_lt (r : Nat) (b : Bool) : stp r b < 65536 := by
  have h : 2 * r % 65536 < 65536 := Nat.mod_lt _ (by decide)
  unfold stp
  split
  · exact Nat.xor_lt_two_pow (n := 16) h (by decide)
  · exact h
set_option maxRecDepth 100000 in
theorem chk_lt (f : Nat → Bool) : ∀ k, chk f k < 65536
  | 0 => by simp [chk]
  | k + 1 => stp_lt _ _
set_option maxRecDepth 100000 in
theorem stp_diff {r : Nat} {b : Bool} (h : (r.testBit 15 != b) = true) : stp r b = (2 * r % 65536) ^^^ 4129 := by unfold stp; rw [if_pos h]
set_option maxRecDepth 100000 in
theorem stp_same {r : Nat} {b : Bool} (h : (r.testBit 15 != b) = false) : stp r b = 2 * r % 65536 := by unfold stp; rw [if_neg (by simp [h])]
set_option maxRecDepth 100000 in
theorem bit15 {r : Nat} (h : r < 65536) : r / 32768 = (r.testBit 15).toNat := by
  rw [Nat.toNat_testBit, show (2 : Nat) ^ 15 = 32768 from rfl]; omega
end Bs
/-- What Check returns. -/
def chkV (l : List Nat) (n : Int) : Nat × Int := if vs l n = false then (0, 1) else (chk (bt l) n.toNat, 0)
set_option maxRecDepth 100000 in
theorem chkV_inv {l : List Nat} {n : Int} (h : vs l n = false) : chkV l n = (0, 1) := by unfold chkV; rw [if_pos h]
set_option maxRecDepth 100000 in
theorem chkV_ok {l : List Nat} {N : Nat} (h : vs l (N : Int) = true) : chkV l (N : Int) = (chk (bt l) N, 0) := by unfold chkV; rw [if_neg (by simp [h]), Int.toNat_natCast]
def CheckPost (l : List Nat) (n : Int) (w : World) (e : Ending) (w' : World) : Prop := e = .returned (.tuple #[.int .u64 (((chkV l n).1 : Nat) : Int), .int .i64 (chkV l n).2]) ∧ w.grownBy w' none
set_option maxRecDepth 100000 in
theorem check_end {l : List Nat} {n : Int} {x : Nat} {y : Int} {w w' : World} (h : chkV l n = (x, y)) (g : w.grownBy w' none) : CheckPost l n w (.returned (.tuple #[.int .u64 (x : Int), .int .i64 y])) w' := ⟨by rw [h], g⟩
set_option maxRecDepth 100000 in
theorem ne_bits (a b : Bool) : ((((a.toNat : Nat) : Int)) != ((b.toNat : Nat) : Int)) = (a != b) := by cases a <;> cases b <;> rfl
set_option maxRecDepth 100000 in
theorem diff_word {r x s : Nat} (hr : r < 65536) (hx : x < 256) : ((r : Int) / 32768 != bits .and .u8 ((x : Int) / 2 ^ s) 1) = (r.testBit 15 != x.testBit s) := by
  have e1 : ((r : Int) / 32768) = (((r.testBit 15).toNat : Nat) : Int) := by rw [← bit15 hr]; omega
  have h2 : x / 2 ^ s ≤ x := Nat.div_le_self _ _
  have e2 : bits .and .u8 ((x : Int) / 2 ^ s) 1 = (((x.testBit s).toNat : Nat) : Int) := by
    rw [shrW, show (1 : Int) = ((1 : Nat) : Int) from rfl, u8_and_nat _ 1 (by omega) (by omega), nat_mask1, Nat.toNat_testBit]
  rw [e1, e2, ne_bits]
set_option maxRecDepth 100000 in
theorem shift16 {r : Nat} (hr : r < 65536) : IntKind.u16.wrap ((r : Int) * 2) = ((2 * r % 65536 : Nat) : Int) := by rw [IntKind.wrap_u16]; omega
set_option maxRecDepth 100000 in
theorem xor16 {r : Nat} (hr : r < 65536) : bits .xor .u16 (IntKind.u16.wrap ((r : Int) * 2)) 4129 = (((2 * r % 65536) ^^^ 4129 : Nat) : Int) := by
  rw [shift16 hr, show (4129 : Int) = ((4129 : Nat) : Int) from rfl, u16_xor_nat _ _ (Nat.mod_lt _ (by decide)) (by decide)]
set_option maxRecDepth 100000 in
set_option maxHeartbeats 3200000 in
theorem checkp_any (l : List Nat) (n : Int) (q : Nat → Prop) (p : Option Addr) (c : Nat) (hl : By l) (w : World) (hR : Rd w q (.slice p l.length c) (l.map nv)) :
    Calls Tryd.prog 71 #[.agg #[.slice p l.length c, .int .i64 n]] w fun e w' => CheckPost l n w e w' := by
  obtain ⟨k1, k2⟩ := one_box w #[.slice p l.length c, .int .i64 n] 91
  have H0 := Lib.hid (And.intro k1 k2)
  have hR1 := hR.keep k2
  clear k1 k2 hR
  go_enter Tryd.func71, Tryd.ntmps71
  go_wp2_with fail
  generalize w.alloc (.cells #[.slice p l.length c, .int .i64 n] 91) = w1 at *
  obtain ⟨c0, c1⟩ := row_cells H0.out.1
  go_step3
  go_wp2_with fail
  refine (validp_any l n q p c hl _ hR1).mono ?_
  rintro e w2 ⟨rfl, hg⟩
  have hrow := kept_row H0.out.1 hg (by simp)
  clear c0 c1
  obtain ⟨c0, c1⟩ := row_cells hrow
  have HG := Lib.hid (grown_trans H0.out.2 hg)
  have hR2 := hR1.keep hg
  clear hrow hg hR1 H0
  by_cases hv : vs l n = true
  · obtain ⟨N, rfl⟩ := vs_nat hv
    obtain ⟨hN, hlen⟩ := vs_bits hv
    rw [hv]
    have V := Lib.hid (chkV_ok hv)
    have HLEN := Lib.hid hlen
    have hl2 : l.length ≤ 1024 := by omega
    have hr0 := chk_lt (bt l) 0
    clear hv hlen
    go_wp2_with fail
    go_step3
    go_wp2_with fail
    go_loop [4, 5, 18] (fun r x i => ∃ j y : Nat, j ≤ l.length ∧ i = .int .i64 (j : Int) ∧ x = .int .i64 (y : Int) ∧ y + 8 * j = N ∧ r = .int .u16 ((chk (bt l) (8 * j) : Nat) : Int)) (fun _ _ i => (l.length - (intOf i).toNat))
    case atStart => exact ⟨0, N, Nat.zero_le _, rfl, rfl, rfl, rfl⟩
    case round =>
      obtain ⟨j, y, hj, rfl, rfl, hy, rfl⟩ := hrel
      have HY := Lib.hid hy
      clear hy
      by_cases hlt : j < l.length
      · obtain ⟨g, off, rfl, _, hcell⟩ := hR2.at_ (nv_at hlt)
        have hx := hl.at_ hlt
        generalize hX : l.getD j 0 = x at *
        have HX := Lib.hid hX
        clear hX
        go_wp2_with fail
        go_loop [4, 5, 8] (fun r z k => ∃ t y : Nat, t ≤ 8 ∧ k = .int .i64 (7 - (t : Int)) ∧ z = .int .i64 (y : Int) ∧ y + (8 * j + t) = N ∧ r = .int .u16 ((chk (bt l) (8 * j + t) : Nat) : Int)) (fun _ _ k => (intOf k + 1).toNat)
        case atStart => exact ⟨0, y, by omega, rfl, rfl, by have := HY.out; omega, rfl⟩
        case round =>
          obtain ⟨t, y', ht, rfl, rfl, hy', rfl⟩ := hrel
          have HY2 := Lib.hid hy'
          clear hy'
          have hrlt := chk_lt (bt l) (8 * j + t)
          generalize hrr : chk (bt l) (8 * j + t) = r at *
          have HRR := Lib.hid hrr
          clear hrr
          by_cases ht8 : t < 8
          · obtain ⟨s, hs⟩ : ∃ s : Nat, s = 7 - t := ⟨_, rfl⟩
            have hsi : 7 - (t : Int) = (s : Int) := by omega
            rw [hsi]
            by_cases hy0 : y' = 0
            · subst hy0
              clear hs
              go_wp2_with fail
              go_ret2
              exact check_end (by rw [V.out, ← HRR.out]; have := HY2.out; rw [show 8 * j + t = N by omega]) HG.out
            · have hy1 : ((y' : Int) == 0) = false := by simp; omega
              have hs8 : s < 8 := by omega
              have hy9 : y' ≤ 8192 := by have := HY2.out; omega
              have D := diff_word (s := s) hrlt hx
              have hb : bt l (8 * j + t) = x.testBit s := by
                unfold bt
                rw [show (8 * j + t) / 8 = j by omega, HX.out, show 7 - (8 * j + t) % 8 = s by omega]
              have HC : Hid (chk (bt l) (8 * j + (t + 1)) = stp r (x.testBit s)) := by
                show chk (bt l) ((8 * j + t) + 1) = _
                rw [chk, HRR.out, hb]
              have HS := Lib.hid hs
              have HSI := Lib.hid hsi
              clear hs hb hsi
              by_cases hd : (r.testBit 15 != x.testBit s) = true
              · rw [hd] at D
                have S : Hid (bits .xor .u16 (IntKind.u16.wrap ((r : Int) * 2)) 4129 = ((chk (bt l) (8 * j + (t + 1)) : Nat) : Int)) := by
                  show _ = _
                  rw [HC.out, stp_diff hd, xor16 hrlt]
                go_wp2_with fail
                go_round
                case rel => exact ⟨t + 1, y' - 1, by omega, by congr 1; have := HS.out; omega, by congr 1; omega, by have := HY2.out; omega, by rw [S.out]⟩
                case measure => have := HS.out; simp [intOf] <;> omega
              · have hd0 : (r.testBit 15 != x.testBit s) = false := by simpa using hd
                rw [hd0] at D
                have S : Hid (IntKind.u16.wrap ((r : Int) * 2) = ((chk (bt l) (8 * j + (t + 1)) : Nat) : Int)) := by
                  show _ = _
                  rw [HC.out, stp_same hd0, shift16 hrlt]
                clear hd
                go_wp2_with fail
                go_round
                case rel => exact ⟨t + 1, y' - 1, by omega, by congr 1; have := HS.out; omega, by congr 1; omega, by have := HY2.out; omega, by rw [S.out]⟩
                case measure => have := HS.out; simp [intOf] <;> omega
          · obtain rfl : t = 8 := by omega
            go_wp2_with fail
            go_round
            case rel => exact ⟨j + 1, y', by omega, by go_num, rfl, by have := HY2.out; omega, by rw [← HRR.out]; rfl⟩
            case measure => simp [intOf]; omega
      · obtain rfl : j = l.length := by omega
        have hr := chk_lt (bt l) (8 * l.length)
        have HE : Hid (8 * l.length = N) := by have := HY.out; have := HLEN.out; show 8 * l.length = N; omega
        rw [HE.out] at hr ⊢
        generalize hrr : chk (bt l) N = r at *
        have HRR := Lib.hid hrr
        clear hrr
        go_wp2_with fail
        go_ret2
        exact check_end V.out HG.out
  · have hv0 : vs l n = false := by simpa using hv
    have V := Lib.hid (chkV_inv hv0)
    rw [hv0]
    go_wp2_with fail
    go_ret2
    exact check_end V.out HG.out
end Go.Proofs.YtnfgkakhdgiepaaDoor
