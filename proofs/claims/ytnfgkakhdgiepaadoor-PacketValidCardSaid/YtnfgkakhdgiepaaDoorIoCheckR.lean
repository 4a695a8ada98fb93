/- The reference's check number; Same. -/
import Derived.Test.YtnfgkakhdgiepaaDoorIoCheck
import Derived.Lib.BufferRead
namespace Go.Proofs.YtnfgkakhdgiepaaDoor
open Go.RowKit Bs
set_option maxRecDepth 100000 in
theorem diff64 {r : Nat} {b : Bool} (hr : r < 65536) : ((r : Int) / 32768 != ((b.toNat : Nat) : Int)) = (r.testBit 15 != b) := by
  have e1 : ((r : Int) / 32768) = (((r.testBit 15).toNat : Nat) : Int) := by rw [← bit15 hr]; omega
  rw [e1, ne_bits]
set_option maxRecDepth 100000 in
theorem shift64 {r : Nat} (hr : r < 65536) : bits .and .u64 ((r : Int) * 2) 65535 = ((2 * r % 65536 : Nat) : Int) := by
  rw [show ((r : Int) * 2) = ((2 * r : Nat) : Int) by omega, show (65535 : Int) = ((2 ^ 16 - 1 : Nat) : Int) from rfl, andU _ _ (u64_mk (by omega)) (u64_mk (by decide)), Nat.and_two_pow_sub_one_eq_mod]
set_option maxRecDepth 100000 in
theorem xor64 {r : Nat} (hr : r < 65536) : bits .xor .u64 (bits .and .u64 ((r : Int) * 2) 65535) 4129 = (((2 * r % 65536) ^^^ 4129 : Nat) : Int) := by
  rw [shift64 hr, show (4129 : Int) = ((4129 : Nat) : Int) from rfl, u64_xor_nat _ _ (by omega) (by decide)]
set_option maxRecDepth 100000 in
set_option maxHeartbeats 3200000 in
theorem checkr_any (l : List Nat) (n : Int) (q : Nat → Prop) (p : Option Addr) (c : Nat) (hl : By l) (w : World) (hq : ∀ b, q b → b < w.heap.size) (hR : Rd w q (.slice p l.length c) (l.map nv)) :
    Calls Tryd.prog 76 #[.agg #[.slice p l.length c, .int .i64 n]] w fun e w' => CheckPost l n w e w' := by
  obtain ⟨k1, k2⟩ := one_box w #[.slice p l.length c, .int .i64 n] 91
  have H0 := Lib.hid (And.intro k1 k2)
  have hR1 := hR.keep k2
  have hq1 : ∀ b, q b → b < (w.alloc (.cells #[.slice p l.length c, .int .i64 n] 91)).heap.size := fun b hb => Nat.lt_of_lt_of_le (hq b hb) k2.size
  clear k1 k2 hR
  go_enter Tryd.func76, Tryd.ntmps76
  go_wp2_with fail
  generalize w.alloc (.cells #[.slice p l.length c, .int .i64 n] 91) = w1 at *
  refine (validr_any l n q p c hl _ hq1 hR1).mono ?_
  rintro e w2 ⟨rfl, hg⟩
  have hrow := kept_row H0.out.1 hg (by simp)
  obtain ⟨c0, c1⟩ := row_cells hrow
  have HG := Lib.hid (grown_trans H0.out.2 hg)
  have hR2 := hR1.keep hg
  clear hrow hg hR1 H0 hq1
  by_cases hv : vs l n = true
  · obtain ⟨N, rfl⟩ := vs_nat hv
    obtain ⟨hN, hlen⟩ := vs_bits hv
    rw [hv]
    have V := Lib.hid (chkV_ok hv)
    have HLEN := Lib.hid hlen
    clear hv hlen
    go_wp2_with fail
    go_loop [4, 5] (fun r i => ∃ j : Nat, j ≤ N ∧ i = .int .i64 (j : Int) ∧ r = .int .u64 ((chk (bt l) j : Nat) : Int)) (fun _ i => (N - (intOf i).toNat))
    case atStart => exact ⟨0, Nat.zero_le _, rfl, rfl⟩
    case round =>
      obtain ⟨j, hj, rfl, rfl⟩ := hrel
      have hrlt := chk_lt (bt l) j
      generalize hrr : chk (bt l) j = r at *
      have HRR := Lib.hid hrr
      clear hrr
      by_cases hlt : j < N
      · have C := bitr_any l j q p c hl (by have := HLEN.out; omega) (by omega) w2 hR2
        unfold bw at C
        have D := diff64 (b := bt l j) hrlt
        have HC : Hid (chk (bt l) (j + 1) = stp r (bt l j)) := by
          show chk (bt l) (j + 1) = _
          rw [chk, HRR.out]
        have H1 := Lib.hid C
        clear C
        generalize hbb : bt l j = b at *
        clear hbb
        by_cases hd : (r.testBit 15 != b) = true
        · rw [hd] at D
          have S : Hid (bits .xor .u64 (bits .and .u64 ((r : Int) * 2) 65535) 4129 = ((chk (bt l) (j + 1) : Nat) : Int)) := by
            show _ = _
            rw [HC.out, stp_diff hd, xor64 hrlt]
          generalize b.toNat = bn at *
          go_wp2_with (go_at_call 118; refine H1.out.mono ?_; rintro e w' ⟨rfl, rfl⟩)
          go_round
          case rel => exact ⟨j + 1, by omega, by go_num, by rw [S.out]⟩
          case measure => simp [intOf]; omega
        · have hd0 : (r.testBit 15 != b) = false := by simpa using hd
          rw [hd0] at D
          have S : Hid (bits .and .u64 ((r : Int) * 2) 65535 = ((chk (bt l) (j + 1) : Nat) : Int)) := by
            show _ = _
            rw [HC.out, stp_same hd0, shift64 hrlt]
          clear hd
          generalize b.toNat = bn at *
          go_wp2_with (go_at_call 118; refine H1.out.mono ?_; rintro e w' ⟨rfl, rfl⟩)
          go_round
          case rel => exact ⟨j + 1, by omega, by go_num, by rw [S.out]⟩
          case measure => simp [intOf]; omega
      · obtain rfl : j = N := by omega
        go_wp2_with fail
        go_ret2
        exact check_end (by rw [V.out, HRR.out]) HG.out
  · have hv0 : vs l n = false := by simpa using hv
    have V := Lib.hid (chkV_inv hv0)
    rw [hv0]
    go_wp2_with fail
    go_ret2
    exact check_end V.out HG.out
/-- Bytes as a string of the model. -/
def bs (l : List Nat) : ByteArray := ⟨(l.map fun x => UInt8.ofNat x).toArray⟩
set_option maxRecDepth 100000 in
theorem conv_nv {w : World} {q : Nat → Prop} {p : Option Addr} {k c : Nat} {l : List Nat} (hl : By l) (hk : k = l.length) (hR : Rd w q (.slice p k c) (l.map nv)) (hpc : p = none → c = 0) :
    (convert 34 9 (.slice p k c)).run Tryd.prog w = .ok (.string (bs l)) w := by
  subst hk
  have hmap : ∀ x ∈ l, nv x = .int .u8 (((UInt8.ofNat x).toNat : Nat) : Int) := by
    intro x hx
    have := hl x hx
    unfold nv
    rw [UInt8.toNat_ofNat', Nat.mod_eq_of_lt this]
  cases p with
  | none =>
    obtain rfl := hpc rfl
    obtain rfl : l = [] := by
      obtain ⟨p1, c1, e1, hx⟩ := hR
      injection e1 with a1 a2 a3
      subst a1
      cases l with
      | nil => rfl
      | cons y r => obtain ⟨b, off, hp, _⟩ := hx (by simp); cases hp
    exact Lib.run_convert_nil_bytes (P := Tryd.prog) w 34 9 5 0 Tryd.underlying34 Tryd.underlying5 Tryd.underlying9
  | some ad =>
    have e : l.length = (l.map fun x => UInt8.ofNat x).length := by simp
    rw [e]
    refine run_convert_bytes_back (P := Tryd.prog) w 34 9 5 ad c (l.map fun x => UInt8.ofNat x) Tryd.underlying34 Tryd.underlying5 Tryd.underlying9 (fun j hj => ?_)
    have hj' : j < l.length := by simpa using hj
    have := hR.news j (nv (l[j])) (by rw [List.getElem?_map, List.getElem?_eq_getElem hj']; rfl)
    rw [this, hmap _ (List.getElem_mem hj')]
    simp
/-- Whether two streams are one. -/
def same (l : List Nat) (n : Int) (l' : List Nat) (n' : Int) : Bool := n == n' && (bs l).toList == (bs l').toList
set_option maxRecDepth 100000 in
theorem same_self (l : List Nat) (n : Int) : same l n l n = true := by unfold same; simp
end Go.Proofs.YtnfgkakhdgiepaaDoor
