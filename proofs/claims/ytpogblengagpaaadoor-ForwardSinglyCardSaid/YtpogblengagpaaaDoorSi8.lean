/- Parts of the proof, packed: Full, PkBits, PkFields, Funs, Ref, Draw, FwM, FwForM, IoCheckR, PkText, PkHead, PkCalls, PkRd, PkRes, PkRead, PkValid, PkMis. -/
import Derived.Test.YtpogblengagpaaaDoorSi1
import Derived.Test.YtpogblengagpaaaDoorSi7
import Derived.Deep.LoopGhost
import Derived.OwnWalk
import Derived.Test.YtpogblengagpaaaDoorSi5
import Derived.Lib.BufferRead
import Derived.Lib.ConvBytes
import Derived.Deep.CutRange
/- Full, Valid, Count, First, Rank of the program; Full, Valid of the reference. -/
namespace Go.Proofs.YtpogblengagpaaaDoor
set_option maxRecDepth 100000
open Go.RowKit Bs

def full (n : Int) : Nat := if vl n then lo n.toNat else 0
theorem full_val : full 8 = 255 ∧ full 16 = 65535 ∧ full 32 = 4294967295 ∧ full 64 = 18446744073709551615 := by decide +kernel
theorem full_false {n : Int} (h : vl n = false) : full n = 0 := by unfold full; rw [h]; rfl
theorem full_true {n : Int} (h : vl n = true) : full n = lo n.toNat := by unfold full; rw [h]; rfl
theorem full_u64 (n : Int) : U64 (full n) := by
 by_cases h : vl n = true
 ·rcases vl_cases h with rfl | rfl | rfl | rfl <;> (unfold U64; decide +kernel)
 ·rw [full_false (by simpa using h)]; unfold U64; decide
set_option maxHeartbeats 400000 in
theorem fullp_any (n : Int) (w : World) :
  Calls Tryd.prog 79 #[.int .i64 n] w fun e w' => e = .returned (.int .u64 ((full n : Nat) : Int)) ∧ w = w' := by
 by_cases h : vl n = true
 ·obtain ⟨v1, v2, v3, v4⟩ := full_val
  rcases vl_cases h with rfl | rfl | rfl | rfl
  all_goals clear h
  ·have V := Lib.hid v1; clear v1 v2 v3 v4
   go_enter Tryd.func79, Tryd.ntmps79
   go_wp2
   go_ret
   exact ⟨ret_int (by rw [V.out]; rfl), rfl⟩
  ·have V := Lib.hid v2; clear v1 v2 v3 v4
   go_enter Tryd.func79, Tryd.ntmps79
   go_wp2
   go_ret
   exact ⟨ret_int (by rw [V.out]; rfl), rfl⟩
  ·have V := Lib.hid v3; clear v1 v2 v3 v4
   go_enter Tryd.func79, Tryd.ntmps79
   go_wp2
   go_ret
   exact ⟨ret_int (by rw [V.out]; rfl), rfl⟩
  ·have V := Lib.hid v4; clear v1 v2 v3 v4
   go_enter Tryd.func79, Tryd.ntmps79
   go_wp2
   go_ret
   exact ⟨ret_int (by rw [V.out]; rfl), rfl⟩
 ·have hv : vl n = false := by simpa using h
  have V := Lib.hid (full_false hv)
  clear h
  go_enter Tryd.func79, Tryd.ntmps79
  go_wp2_with (go_at_call 78; refine (vlp_any _ _).mono ?_; rintro e w' ⟨rfl, rfl⟩)
  go_ret
  exact ⟨ret_int (by rw [V.out]; rfl), rfl⟩

set_option maxHeartbeats 400000 in
theorem fullr_any (n : Int) (w : World) :
  Calls Tryd.prog 53 #[.int .i64 n] w fun e w' => e = .returned (.int .u64 ((full n : Nat) : Int)) ∧ w = w' := by
 by_cases h : vl n = true
 ·have hv := h
  obtain ⟨N, rfl⟩ : ∃ N : Nat, n = (N : Int) := ⟨n.toNat, by rcases vl_cases h with rfl | rfl | rfl | rfl <;> rfl⟩
  have hN : N ≤ 64 := by rcases vl_cases h with h | h | h | h <;> omega
  have V := Lib.hid (full_true h)
  clear h
  go_enter Tryd.func53, Tryd.ntmps53
  go_wp2_with (go_at_call 51; refine (vlr_any _ _).mono ?_; rintro e w' ⟨rfl, rfl⟩)
  go_loop [3, 4] (fun b k => ∃ j : Nat, j ≤ N ∧ k = .int .i64 (j : Int) ∧ b = .int .u64 ((lo j : Nat) : Int)) (fun _ k => N - (RowKit.intOf k).toNat)
  case atStart => exact ⟨0, Nat.zero_le _, rfl, rfl⟩
  case round =>
   obtain ⟨j, hj, rfl, rfl⟩ := hrel
   by_cases hlt : j < N
   ·have hj64 : j < 64 := by omega
    have O := Lib.hid (or_lo j hj64)
    go_wp2_with (go_at_call 13; refine (bit_any _ hj64 _).mono ?_; rintro e w' ⟨rfl, rfl⟩)
    go_round
    case rel => exact ⟨j + 1, by omega, by go_num, by rw [O.out]⟩
    case measure => simp [RowKit.intOf]; omega
   ·go_wp2_with fail
    go_ret
    have hjN : j = N := by omega
    exact ⟨ret_int (by rw [V.out, hjN]; rfl), rfl⟩
 ·have hv : vl n = false := by simpa using h
  have V := Lib.hid (full_false hv)
  clear h
  go_enter Tryd.func53, Tryd.ntmps53
  go_wp2_with (go_at_call 51; refine (vlr_any _ _).mono ?_; rintro e w' ⟨rfl, rfl⟩)
  go_ret
  exact ⟨ret_int (by rw [V.out]; rfl), rfl⟩

def vb (b : Nat) (n : Int) : Bool := vl n && b &&& (18446744073709551615 - full n) == 0
set_option maxHeartbeats 400000 in
theorem bvalidp_any (b : Nat) (n : Int) (hb : U64 b) (w : World) :
  Calls Tryd.prog 63 #[.int .u64 (b : Int), .int .i64 n] w fun e w' => e = .returned (.bool (vb b n)) ∧ w = w' := by
 by_cases h : vl n = true
 ·have hv := h
  clear h
  go_enter Tryd.func63, Tryd.ntmps63
  go_wp2_with (first | (go_at_call 78; refine (vlp_any _ _).mono ?_; rintro e w' ⟨rfl, rfl⟩) | (go_at_call 79; refine (fullp_any _ _).mono ?_; rintro e w' ⟨rfl, rfl⟩))
  go_ret
  exact ⟨ret_bool (by unfold vb; rw [hv]; exact andNot_zero b _ hb (full_u64 n)), rfl⟩
 ·have hv : vl n = false := by simpa using h
  clear h
  go_enter Tryd.func63, Tryd.ntmps63
  go_wp2_with (go_at_call 78; refine (vlp_any _ _).mono ?_; rintro e w' ⟨rfl, rfl⟩)
  go_ret
  exact ⟨ret_bool (by unfold vb; rw [hv]; rfl), rfl⟩
set_option maxHeartbeats 400000 in
theorem bvalidr_any (b : Nat) (n : Int) (hb : U64 b) (w : World) :
  Calls Tryd.prog 49 #[.int .u64 (b : Int), .int .i64 n] w fun e w' => e = .returned (.bool (vb b n)) ∧ w = w' := by
 by_cases h : vl n = true
 ·have hv := h
  clear h
  go_enter Tryd.func49, Tryd.ntmps49
  go_wp2_with (first | (go_at_call 51; refine (vlr_any _ _).mono ?_; rintro e w' ⟨rfl, rfl⟩) | (go_at_call 53; refine (fullr_any _ _).mono ?_; rintro e w' ⟨rfl, rfl⟩))
  go_ret
  exact ⟨ret_bool (by unfold vb; rw [hv]; exact andNot_zero b _ hb (full_u64 n)), rfl⟩
 ·have hv : vl n = false := by simpa using h
  clear h
  go_enter Tryd.func49, Tryd.ntmps49
  go_wp2_with (go_at_call 51; refine (vlr_any _ _).mono ?_; rintro e w' ⟨rfl, rfl⟩)
  go_ret
  exact ⟨ret_bool (by unfold vb; rw [hv]; rfl), rfl⟩

def fst (b : Nat) : Int := if b = 0 then -1 else ((Lib.ctz 64 b : Nat) : Int)
set_option maxHeartbeats 400000 in
theorem firstp_any (b : Nat) (hb : U64 b) (w : World) (hT : Tb w) :
  Calls Tryd.prog 26 #[.int .u64 (b : Int)] w fun e w' => e = .returned (.int .i64 (fst b)) ∧ w = w' := by
 by_cases h0 : b = 0
 ·subst h0
  go_enter Tryd.func26, Tryd.ntmps26
  go_wp2
  go_ret
  exact ⟨rfl, rfl⟩
 ·have hz : ((b : Int) == 0) = false := by simp; omega
  have F : Hid (fst b = ((Lib.ctz 64 b : Nat) : Int)) := by show fst b = _; unfold fst; rw [if_neg h0]
  clear h0
  go_enter Tryd.func26, Tryd.ntmps26
  go_wp2_with (go_at_call 46; refine (tz_any _ hb _ hT).mono ?_; rintro e w' ⟨rfl, rfl⟩)
  go_ret
  exact ⟨ret_int (by rw [F.out]), rfl⟩
end Go.Proofs.YtpogblengagpaaaDoor

/- Streams as lists of bits; the encoding of a packet as a list of bits. -/
namespace Go.Proofs.YtpogblengagpaaaDoor
set_option maxRecDepth 100000
open Go.RowKit Bs
def nb (v k : Nat) : List Bool := (List.range k).map fun t => v.testBit (k - 1 - t)
def bf (B : List Bool) (i : Nat) : Bool := B.getD i false
def pk (B : List Bool) : List Nat := pz (bf B) B.length ((B.length + 7) / 8)
def pb (l : List Nat) : List Bool := (List.range (8 * l.length)).map (bt l)
structure Pk where
 mode : Int
 sub : Int
 set : Int
 len : Int
 ttl : Int
 ent : Int
 ing : Int
 pro : Int
 bits : Nat
 pay : ByteArray
def Pk.val (P : Pk) : Value := .agg #[.int .i64 P.mode, .int .i64 P.sub, .int .i64 P.set, .int .i64 P.len, .int .i64 P.ttl, .int .i64 P.ent, .int .i64 P.ing, .int .i64 P.pro, .int .u64 (P.bits : Int), .string P.pay]
structure Pk.Wf (P : Pk) : Prop where
 mode : I64 P.mode
 sub : I64 P.sub
 set : I64 P.set
 len : I64 P.len
 ttl : I64 P.ttl
 ent : I64 P.ent
 ing : I64 P.ing
 pro : I64 P.pro
 bits : U64 P.bits
 pay : P.pay.size ≤ maxLen
def vpk (P : Pk) : Bool := decide ((1 ≤ P.mode ∧ P.mode ≤ 3) ∧ (0 ≤ P.sub ∧ P.sub ≤ 7) ∧ (0 ≤ P.set ∧ P.set ≤ 31) ∧ (0 ≤ P.ttl ∧ P.ttl ≤ 63) ∧ (0 ≤ P.ent ∧ P.ent ≤ 1023) ∧ (0 ≤ P.ing ∧ P.ing ≤ 256) ∧ (0 ≤ P.pro ∧ P.pro ≤ 7) ∧ P.pay.size ≤ 64 ∧ vb P.bits P.len = true)
def lcode (n : Int) : Nat := if n = 8 then 0 else if n = 16 then 1 else if n = 32 then 2 else 3
def fl (P : Pk) : List (Nat × Nat) := [(2, 2), (P.mode.toNat, 2), (P.sub.toNat, 3), (P.set.toNat, 5), (lcode P.len, 2), (P.ttl.toNat, 6), (P.ent.toNat, 10), (P.ing.toNat, 9), (P.pro.toNat, 3), (P.pay.size, 7)]
def flb (f : List (Nat × Nat)) : List Bool := f.flatMap fun x => nb x.1 x.2
def byl (s : ByteArray) : List Nat := s.data.toList.map fun b => b.toNat
def body (P : Pk) : List Bool := flb (fl P) ++ nb P.bits P.len.toNat ++ pb (byl P.pay)
def ck (B : List Bool) : Nat := crcB (bf B) B.length
def enc (P : Pk) : List Nat := pk (body P ++ nb (ck (body P)) 16)
end Go.Proofs.YtpogblengagpaaaDoor

/- packet: the table of the fields. -/
namespace Go.Proofs.YtpogblengagpaaaDoor
set_option maxRecDepth 100000
open Go.RowKit Bs
theorem vpk_parts {P : Pk} (h : vpk P = true) : ((1 ≤ P.mode ∧ P.mode ≤ 3) ∧ (0 ≤ P.sub ∧ P.sub ≤ 7) ∧ (0 ≤ P.set ∧ P.set ≤ 31) ∧ (0 ≤ P.ttl ∧ P.ttl ≤ 63) ∧ (0 ≤ P.ent ∧ P.ent ≤ 1023) ∧ (0 ≤ P.ing ∧ P.ing ≤ 256) ∧ (0 ≤ P.pro ∧ P.pro ≤ 7) ∧ P.pay.size ≤ 64 ∧ vb P.bits P.len = true) := of_decide_eq_true h
theorem vb_vl {b : Nat} {n : Int} (h : vb b n = true) : vl n = true := by
 unfold vb at h
 exact (Bool.and_eq_true _ _ ▸ h).1
end Go.Proofs.YtpogblengagpaaaDoor

/- The program's functions on bits: List, Nth, Rank, Spread, Gather. -/
namespace Go.Proofs.YtpogblengagpaaaDoor
set_option maxRecDepth 100000
open Go.RowKit Bs

theorem Tb.grown {w w' : World} {r : Option Nat} (h : Tb w) (g : w.grownBy w' r) (hr : r ≠ some 0) : Tb w' := by
 intro j hj
 exact g.cell (h j hj) (fun e => hr e.symm)
theorem Tb.keep {w w' : World} (h : Tb w) (g : w.grownBy w' none) : Tb w' := h.grown g (by simp)

end Go.Proofs.YtpogblengagpaaaDoor

/- The reference's functions on bits: Count, Nth, First, Rank, Spread, Gather. -/
namespace Go.Proofs.YtpogblengagpaaaDoor
set_option maxRecDepth 100000
open Go.RowKit Bs

theorem Rd.at1_ {w : World} {q : Nat → Prop} {p : Option Addr} {n c : Nat} {vs : List Value} {i : Nat} {x : Value} (h : Rd w q (.slice p n c) vs) (hi : vs[i]? = some x) :
  ∃ b off, p = some ⟨b, off, none⟩ ∧ w.cell? ⟨b, off + i, none⟩ = some x := by
 obtain ⟨p', c', hv, hc⟩ := h
 injection hv with e1 e2 e3
 subst e1
 obtain ⟨b, off, hp, _, hx⟩ := hc (by intro e; rw [e] at hi; simp at hi)
 exact ⟨b, off, hp, hx i x hi⟩
end Go.Proofs.YtpogblengagpaaaDoor

/- The tape's bit strings. -/
namespace Go.Proofs.YtpogblengagpaaaDoor
set_option maxRecDepth 100000
open Go.RowKit Bs

theorem vb_full {n : Int} (h : vl n = true) (z : Nat) : vb (z &&& full n) n = true := by
 unfold vb
 rw [h, and_compl z (full_u64 n)]; rfl
def BitsPost (n : Int) (a : Nat) (w : World) (e : Ending) (w' : World) : Prop := ∃ x : Nat, e = .returned (.int .u64 (x : Int)) ∧ U64 x ∧ vb x n = true ∧ St a w w'
theorem bits_end {n : Int} (h : vl n = true) (z : Nat) (hz : U64 z) : ∃ x : Nat, bits .and .u64 (z : Int) ((full n : Nat) : Int) = (x : Int) ∧ U64 x ∧ vb x n = true :=
 ⟨z &&& full n, andU z _ hz (full_u64 n), u64_and_le z _ hz, vb_full h z⟩
theorem all_ones : (18446744073709551615 : Int) = ((lo 64 : Nat) : Int) := by decide +kernel
set_option maxHeartbeats 800000 in
theorem bits_any (a : Nat) (n : Int) (hn : vl n = true) (w : World) (hT : Tp w a) :
  Calls Tryd.prog 40 #[.pointer (some ⟨a, 0, none⟩), .int .i64 n] w fun e w' => BitsPost n a w e w' := by
 have hn1 : 1 ≤ n := by rcases vl_cases hn with h | h | h | h <;> omega
 have hn2 : n ≤ 64 := by rcases vl_cases hn with h | h | h | h <;> omega
 have HV := Lib.hid hn
 clear hn
 go_enter Tryd.func40, Tryd.ntmps40
 go_wp2_with fail
 refine (raw_any a _ hT).mono ?_
 rintro e w1 ⟨x1, rfl, hx1, hs1⟩
 go_wp2_with fail
 refine (raw_any a _ hs1.2).mono ?_
 rintro e w2 ⟨x2, rfl, hx2, hs2⟩
 have h12 := hs1.trans hs2
 clear hx1 hx2 hs1 hs2
 go_wp2_with fail
 generalize hB : bits BinOp.xor IntKind.u64 _ _ = B
 obtain ⟨z, hz, hzB⟩ : ∃ z : Nat, U64 z ∧ B = (z : Int) := by rw [← hB]; exact bitsU _ _ _
 subst hzB
 clear hB
 refine (next_any a 6 (by unfold I64; omega) _ h12.2).mono ?_
 rintro e w3 ⟨r, rfl, hr, hs3⟩
 have h13 := h12.trans hs3
 have hr0 : 0 ≤ r := hr.1
 have hr1 : r < 6 := hr.2.1 (by omega)
 clear hr h12 hs3
 by_cases c0 : r = 0
 ·subst c0
  obtain ⟨y, hy, hyu, hyv⟩ := bits_end HV.out 0 (by unfold U64; decide)
  have HY := Lib.hid hy
  clear hy
  go_wp2_with (go_at_call 53; refine (fullr_any _ _).mono ?_; rintro e w' ⟨rfl, rfl⟩)
  go_ret
  exact ⟨y, ret_int HY.out, hyu, hyv, h13⟩
 ·by_cases c1 : r = 1
  ·subst c1
   clear c0
   go_wp2_with fail
   refine (next_any a n (by unfold I64; omega) _ h13.2).mono ?_
   rintro e w4 ⟨k, rfl, hk, hs4⟩
   have h14 := h13.trans hs4
   obtain ⟨K, rfl⟩ := Int.eq_ofNat_of_zero_le hk.1
   have hK : K < 64 := by have := hk.2.1 hn1; omega
   clear hk hs4
   obtain ⟨y, hy, hyu, hyv⟩ := bits_end HV.out (b2 K) (b2_u64 hK)
   have HY := Lib.hid hy
   clear hy
   go_wp2_with (first
    | (go_at_call 13; refine (bit_any K hK _).mono ?_; rintro e w' ⟨rfl, rfl⟩)
    | (go_at_call 53; refine (fullr_any _ _).mono ?_; rintro e w' ⟨rfl, rfl⟩))
   go_ret
   exact ⟨y, ret_int HY.out, hyu, hyv, h14⟩
  ·by_cases c2 : r = 2
   ·subst c2
    clear c0 c1
    obtain ⟨y, hy, hyu, hyv⟩ := bits_end HV.out (lo 64) (lo_u64 (by omega))
    rw [← all_ones] at hy
    have HY := Lib.hid hy
    clear hy
    go_wp2_with (go_at_call 53; refine (fullr_any _ _).mono ?_; rintro e w' ⟨rfl, rfl⟩)
    go_ret
    exact ⟨y, ret_int HY.out, hyu, hyv, h13⟩
   ·have b0 : (r == 0) = false := by simpa using c0
    have b1 : (r == 1) = false := by simpa using c1
    have b2' : (r == 2) = false := by simpa using c2
    clear c0 c1 c2
    obtain ⟨y, hy, hyu, hyv⟩ := bits_end HV.out z hz
    have HY := Lib.hid hy
    clear hy
    go_wp2_with (go_at_call 53; refine (fullr_any _ _).mono ?_; rintro e w' ⟨rfl, rfl⟩)
    go_ret
    exact ⟨y, ret_int HY.out, hyu, hyv, h13⟩
end Go.Proofs.YtpogblengagpaaaDoor

/- forward, the mathematics: what a walk over the bits of a packet leaves, whether it takes the own bits one by one or at once. -/
namespace Go.Proofs.YtpogblengagpaaaDoor
set_option maxRecDepth 100000
open Go.RowKit Bs
def selB (P : Nat → Bool) : Nat → Nat
 | 0 => 0
 | n + 1 => if P n = true then selB P n ||| 2 ^ n else selB P n
theorem selB_bit (P : Nat → Bool) : ∀ n j, (selB P n).testBit j = (decide (j < n) && P j)
 | 0, j => by simp [selB]
 | n + 1, j => by
  have ih := selB_bit P n j
  unfold selB
  rcases Nat.lt_trichotomy j n with h | rfl | h
  ·have h1 : decide (j < n + 1) = true := decide_eq_true (by omega)
   have h2 : decide (j < n) = true := decide_eq_true h
   split
   ·rw [Nat.testBit_or, ih, Nat.testBit_two_pow, h1, h2, decide_eq_false (by omega : ¬ n = j)]
    simp
   ·rw [ih, h1, h2]
  ·have h1 : decide (j < j + 1) = true := decide_eq_true (by omega)
   have h2 : decide (j < j) = false := decide_eq_false (by omega)
   split
   ·rename_i hp
    rw [Nat.testBit_or, ih, Nat.testBit_two_pow, h1, h2, hp]
    simp
   ·rename_i hp
    rw [ih, h1, h2]
    simpa using hp
  ·have h1 : decide (j < n + 1) = false := decide_eq_false (by omega)
   have h2 : decide (j < n) = false := decide_eq_false (by omega)
   split
   ·rw [Nat.testBit_or, ih, Nat.testBit_two_pow, h1, h2, decide_eq_false (by omega : ¬ n = j)]
    simp
   ·rw [ih, h1, h2]
def fltB (P : Nat → Bool) (x : Nat) : Nat := selB (fun j => x.testBit j && P j) 64
theorem u64_bit {x : Nat} (h : U64 x) {j : Nat} (hj : x.testBit j = true) : j < 64 := by
 rcases Nat.lt_or_ge j 64 with h1 | h1
 ·exact h1
 ·rw [Nat.testBit_lt_two_pow (Nat.lt_of_lt_of_le h (Nat.pow_le_pow_right (n := 2) (by decide) h1))] at hj
  cases hj
theorem fltB_bit {x : Nat} (h : U64 x) (P : Nat → Bool) (j : Nat) : (fltB P x).testBit j = (x.testBit j && P j) := by
 unfold fltB
 rw [selB_bit]
 by_cases h1 : j < 64
 ·simp [h1]
 ·have : x.testBit j = false := by
   cases hx : x.testBit j with
   | false => rfl
   | true => exact absurd (u64_bit h hx) h1
  simp [h1, this]
structure Lst (x j : Nat) : Prop where
 on : x.testBit j = true
 le : ∀ i, x.testBit i = true → j ≤ i
def lstB (x : Nat) : Nat := ((List.range 64).find? (fun j => x.testBit j)).getD 0
theorem lstB_eq {x j : Nat} (hx : U64 x) (h : Lst x j) : lstB x = j := by
 unfold lstB
 cases e : (List.range 64).find? (fun j => x.testBit j) with
 | none =>
  have := List.find?_eq_none.1 e j (List.mem_range.2 (u64_bit hx h.on))
  exact absurd h.on this
 | some i =>
  obtain ⟨h1, us, vs, h2, h3⟩ := List.find?_eq_some_iff_append.1 e
  show i = j
  have hij := h.le i (by simpa using h1)
  refine Nat.le_antisymm ?_ hij
  rcases Nat.lt_or_ge j i with hlt | hge
  ·have hi : us.length = i := by
    have hl : (List.range 64)[us.length]? = some i := by rw [h2]; simp
    rw [List.getElem?_range] at hl
    ·exact Option.some.inj hl
    ·have := congrArg List.length h2
     simp at this
     omega
   have hj : (List.range 64)[j]? = some j := List.getElem?_range (u64_bit hx h.on)
   rw [h2, List.getElem?_append_left (by omega)] at hj
   have := h3 j (List.mem_of_getElem? hj)
   rw [h.on] at this
   simp at this
  ·exact hge
def ntB (a b : Nat) : Nat := a &&& (18446744073709551615 - b)
theorem ntB_bit {a b : Nat} (ha : U64 a) (hb : U64 b) (j : Nat) : (ntB a b).testBit j = (a.testBit j && !b.testBit j) := by
 unfold ntB
 have e : 18446744073709551615 - b = 2 ^ 64 - (b + 1) := by
  show _ = 18446744073709551616 - (b + 1)
  omega
 rw [Nat.testBit_and, e, Nat.testBit_two_pow_sub_succ hb]
 by_cases h1 : j < 64
 ·simp [h1]
 ·have : a.testBit j = false := by
   cases hx : a.testBit j with
   | false => rfl
   | true => exact absurd (u64_bit ha hx) h1
  simp [this]
theorem ntB_u {a b : Nat} (ha : U64 a) : U64 (ntB a b) := Nat.lt_of_le_of_lt Nat.and_le_left ha
def cpF (M : Int → Nat) (h : Nat → Int) : Nat → Nat → List (Int × Nat)
 | 0, _ => []
 | n + 1, x => if x = 0 then [] else (h (lstB x), x &&& M (h (lstB x))) :: cpF M h n (ntB x (M (h (lstB x))))
def cpB (M : Int → Nat) (h : Nat → Int) (x : Nat) : List (Int × Nat) := cpF M h (x + 1) x
def Ms (M : Int → Nat) (h : Nat → Int) : Prop := ∀ u, u ≠ 0 → U64 (M u) ∧ ∀ j, (M u).testBit j = true ↔ (h j = u ∧ j < 64)
theorem ntB_lt {a b j : Nat} (ha : U64 a) (hb : U64 b) (h1 : a.testBit j = true) (h2 : b.testBit j = true) : ntB a b < a := by
 refine Nat.lt_of_le_of_ne Nat.and_le_left (fun e => ?_)
 have := ntB_bit ha hb j
 rw [show ntB a b = a from e, h1, h2] at this
 cases this
theorem u64_some {x : Nat} (h : x ≠ 0) : ∃ j, Lst x j := by
 obtain ⟨j, hj⟩ : ∃ j, x.testBit j = true := by
  rcases Classical.em (∃ j, x.testBit j = true) with h1 | h1
  ·exact h1
  ·refine absurd (Nat.eq_of_testBit_eq (fun j => ?_)) h
   rw [Nat.zero_testBit]
   cases hx : x.testBit j with
   | false => rfl
   | true => exact absurd ⟨j, hx⟩ h1
 have step : ∀ n, (∃ i, i ≤ n ∧ x.testBit i = true) → ∃ j, Lst x j := by
  intro n
  induction n with
  | zero =>
   rintro ⟨i, hi, h1⟩
   obtain rfl : i = 0 := by omega
   exact ⟨0, h1, fun i _ => Nat.zero_le i⟩
  | succ n ih =>
   rintro ⟨i, hi, h1⟩
   rcases Classical.em (∃ i, i ≤ n ∧ x.testBit i = true) with h2 | h2
   ·exact ih h2
   ·refine ⟨i, h1, fun k hk => ?_⟩
    rcases Nat.lt_or_ge k i with h3 | h3
    ·exact absurd ⟨k, by omega, hk⟩ h2
    ·exact h3
 exact step j ⟨j, Nat.le_refl _, hj⟩
theorem cpF_fuel {M : Int → Nat} {h : Nat → Int} (hM : Ms M h) : ∀ n m x, U64 x → (∀ j, x.testBit j = true → h j ≠ 0) → x < n → x < m → cpF M h n x = cpF M h m x := by
 intro n
 induction n with
 | zero => intro m x _ _ h1; omega
 | succ n ih =>
  intro m x hu hz h1 h2
  obtain ⟨m, rfl⟩ : ∃ k, m = k + 1 := ⟨m - 1, by omega⟩
  unfold cpF
  by_cases h0 : x = 0
  ·rw [if_pos h0, if_pos h0]
  ·rw [if_neg h0, if_neg h0]
   obtain ⟨j, hj⟩ := u64_some h0
   rw [lstB_eq hu hj]
   have hne := hz j hj.on
   have hlt := ntB_lt hu (hM _ hne).1 hj.on (((hM _ hne).2 j).2 ⟨rfl, u64_bit hu hj.on⟩)
   rw [ih m _ (ntB_u hu) (fun i hi => hz i (by rw [ntB_bit hu (hM _ hne).1] at hi; simp at hi; exact hi.1)) (by omega) (by omega)]
theorem cpB_step {M : Int → Nat} {h : Nat → Int} (hM : Ms M h) {x j : Nat} (hu : U64 x) (hz : ∀ j, x.testBit j = true → h j ≠ 0) (hj : Lst x j) : cpB M h x = (h j, x &&& M (h j)) :: cpB M h (ntB x (M (h j))) := by
 have hne := hz j hj.on
 have hlt := ntB_lt hu (hM _ hne).1 hj.on (((hM _ hne).2 j).2 ⟨rfl, u64_bit hu hj.on⟩)
 have h0 : x ≠ 0 := fun e => by
  have := hj.on
  rw [e, Nat.zero_testBit] at this
  cases this
 have hf := cpF_fuel hM x (ntB x (M (h j)) + 1) _ (ntB_u (b := M (h j)) hu) (fun i hi => hz i (by rw [ntB_bit hu (hM _ hne).1] at hi; simp at hi; exact hi.1)) hlt (by omega)
 unfold cpB
 rw [cpF, if_neg h0, lstB_eq hu hj, hf]
def lzB (h : Nat → Int) (r : Int) (t : Bool) (j : Nat) : Bool := decide (h j = 0) || (t && !decide (h j = r))
def czB (h : Nat → Int) (r : Int) (t : Bool) (j : Nat) : Bool := !t && !decide (h j = 0) && !decide (h j = r)
structure FwI (M : Int → Nat) (h : Nat → Int) (r : Int) (t : Bool) (P left loc lost : Nat) (cs : List (Int × Nat)) : Prop where
 hu : U64 left ∧ U64 loc ∧ U64 lost
 sub : ∀ j, left.testBit j = true → P.testBit j = true
 whole : ∀ i j, h i = h j → h i ≠ 0 → h i ≠ r → P.testBit i = true → left.testBit j = true → left.testBit i = true
 hloc : ∀ j, (loc.testBit j || (left.testBit j && decide (h j = r))) = (P.testBit j && decide (h j = r))
 hlost : ∀ j, (lost.testBit j || (left.testBit j && lzB h r t j)) = (P.testBit j && lzB h r t j)
 hcs : cs ++ cpB M h (fltB (czB h r t) left) = cpB M h (fltB (czB h r t) P)
variable {M : Int → Nat} {h : Nat → Int} {r : Int} {t : Bool} {P left loc lost : Nat} {cs : List (Int × Nat)}
theorem u64_zero : U64 0 := by
 unfold U64
 decide
theorem fwI_start (hP : U64 P) : FwI M h r t P P 0 0 [] :=
 ⟨⟨hP, u64_zero, u64_zero⟩, fun _ h => h, fun _ _ _ _ _ h _ => h, fun j => by rw [Nat.zero_testBit, Bool.false_or], fun j => by rw [Nat.zero_testBit, Bool.false_or], rfl⟩
theorem fltB_u (P : Nat → Bool) {x : Nat} (hx : U64 x) : U64 (fltB P x) := by
 have : fltB P x ≤ x := by
  have e : fltB P x = fltB P x &&& x := Nat.eq_of_testBit_eq (fun j => by rw [Nat.testBit_and, fltB_bit hx]; cases x.testBit j <;> simp)
  rw [e]
  exact Nat.and_le_right
 exact Nat.lt_of_le_of_lt this hx
theorem fltB_same (Q : Nat → Bool) {x y : Nat} (hx : U64 x) (hy : U64 y) (he : ∀ j, Q j = true → x.testBit j = y.testBit j) : fltB Q x = fltB Q y := Nat.eq_of_testBit_eq (fun j => by
 rw [fltB_bit hx, fltB_bit hy]
 cases hq : Q j with
 | false => simp
 | true => rw [he j hq])
theorem FwI.done (I : FwI M h r t P 0 loc lost cs) : (∀ j, loc.testBit j = (P.testBit j && decide (h j = r))) ∧ (∀ j, lost.testBit j = (P.testBit j && lzB h r t j)) ∧ cs = cpB M h (fltB (czB h r t) P) := by
 refine ⟨fun j => ?_, fun j => ?_, ?_⟩
 ·have := I.hloc j
  rwa [Nat.zero_testBit, Bool.false_and, Bool.or_false] at this
 ·have := I.hlost j
  rwa [Nat.zero_testBit, Bool.false_and, Bool.or_false] at this
 ·have := I.hcs
  have e : fltB (czB h r t) 0 = 0 := Nat.eq_of_testBit_eq (fun j => by rw [fltB_bit u64_zero, Nat.zero_testBit, Bool.false_and])
  rw [e] at this
  have e2 : cpB M h 0 = [] := rfl
  rw [e2, List.append_nil] at this
  exact this
theorem u64_two {j : Nat} (hj : j < 64) : U64 (2 ^ j) := Nat.pow_lt_pow_right (n := 64) (by decide) hj
theorem u64_andl (a b : Nat) (h : U64 a) : U64 (a &&& b) := Nat.lt_of_le_of_lt Nat.and_le_left h
theorem u64_orl (a b : Nat) (h : U64 a) (k : U64 b) : U64 (a ||| b) := Nat.or_lt_two_pow (n := 64) h k
theorem FwI.same (I : FwI M h r t P left loc lost cs) (hM : Ms M h) {j : Nat} (hj : Lst left j) (h0 : h j ≠ 0) (h1 : h j ≠ r) : P &&& M (h j) = left &&& M (h j) := Nat.eq_of_testBit_eq (fun i => by
 rw [Nat.testBit_and, Nat.testBit_and]
 cases hm : (M (h j)).testBit i with
 | false => simp
 | true =>
  have hi := (((hM _ h0).2 i).1 hm).1
  rw [Bool.and_true, Bool.and_true]
  rw [Bool.eq_iff_iff]
  exact ⟨fun hp => I.whole i j hi (hi ▸ h0) (hi ▸ h1) hp hj.on, I.sub i⟩)
theorem FwI.step (I : FwI M h r t P left loc lost cs) {X loc' lost' : Nat} {cs' : List (Int × Nat)} (hX : U64 X) (hl : U64 loc') (hl2 : U64 lost')
  (hw : ∀ i k, i < 64 → k < 64 → h i = h k → h i ≠ 0 → h i ≠ r → X.testBit i = X.testBit k)
  (h1 : ∀ j, (loc'.testBit j || (left.testBit j && !X.testBit j && decide (h j = r))) = (loc.testBit j || (left.testBit j && decide (h j = r))))
  (h2 : ∀ j, (lost'.testBit j || (left.testBit j && !X.testBit j && lzB h r t j)) = (lost.testBit j || (left.testBit j && lzB h r t j)))
  (h3 : cs' ++ cpB M h (fltB (czB h r t) (ntB left X)) = cs ++ cpB M h (fltB (czB h r t) left)) (hP : U64 P) :
  FwI M h r t P (ntB left X) loc' lost' cs' := by
 refine ⟨⟨ntB_u I.hu.1, hl, hl2⟩, fun j hj => ?_, fun i k e e0 e1 hp hk => ?_, fun j => ?_, fun j => ?_, h3.trans I.hcs⟩
 ·rw [ntB_bit I.hu.1 hX] at hj
  simp at hj
  exact I.sub j hj.1
 ·rw [ntB_bit I.hu.1 hX] at hk ⊢
  simp at hk ⊢
  have hli := I.whole i k e e0 e1 hp hk.1
  exact ⟨hli, (hw i k (u64_bit hP hp) (u64_bit I.hu.1 hk.1) e e0 e1).trans hk.2⟩
 ·rw [ntB_bit I.hu.1 hX, h1, I.hloc]
 ·rw [ntB_bit I.hu.1 hX, h2, I.hlost]
theorem FwI.skip (I : FwI M h r t P left loc lost cs) {X : Nat} (hX : U64 X) (hz : ∀ j, X.testBit j = true → left.testBit j = true → czB h r t j = false) : fltB (czB h r t) (ntB left X) = fltB (czB h r t) left :=
 fltB_same _ (ntB_u I.hu.1) I.hu.1 (fun j hq => by
  rw [ntB_bit I.hu.1 hX]
  cases hx : X.testBit j with
  | false => simp
  | true =>
   cases hl : left.testBit j with
   | false => rfl
   | true =>
    rw [hz j hx hl] at hq
    cases hq)
theorem FwI.oneLoc (I : FwI M h r t P left loc lost cs) (hP : U64 P) (hr : r ≠ 0) {j : Nat} (hj : Lst left j) (e : h j = r) : FwI M h r t P (ntB left (2 ^ j)) (loc ||| 2 ^ j) lost cs := by
 have h64 := u64_bit I.hu.1 hj.on
 refine I.step (u64_two h64) (u64_orl _ _ I.hu.2.1 (u64_two h64)) I.hu.2.2 (fun i k _ _ e2 _ e1 => ?_) (fun i => ?_) (fun i => ?_) ?_ hP
 ·rw [Nat.testBit_two_pow, Nat.testBit_two_pow, decide_eq_false (fun x : j = i => e1 (x ▸ e)), decide_eq_false (fun x : j = k => e1 (e2.trans (x ▸ e)))]
 ·rw [Nat.testBit_or, Nat.testBit_two_pow]
  by_cases x : j = i
  ·subst x
   simp [hj.on, e]
  ·simp [x]
 ·rw [Nat.testBit_two_pow]
  by_cases x : j = i
  ·subst x
   have : lzB h r t j = false := by unfold lzB; simp [e, hr]
   simp [this]
  ·simp [x]
 ·rw [I.skip (u64_two h64) (fun i hi _ => by
   rw [Nat.testBit_two_pow] at hi
   obtain rfl : j = i := by simpa using hi
   unfold czB
   simp [e])]
theorem FwI.allLoc (I : FwI M h r t P left loc lost cs) (hM : Ms M h) (hP : U64 P) (hr : r ≠ 0) : FwI M h r t P (ntB left (M r)) (loc ||| (P &&& M r)) lost cs := by
 obtain ⟨hu, hb⟩ := hM r hr
 have hb2 : ∀ i, i < 64 → (M r).testBit i = decide (h i = r) := fun i hi => by
  rw [Bool.eq_iff_iff, hb i]
  simp [hi]
 refine I.step hu (u64_orl _ _ I.hu.2.1 (u64_andl _ _ hP)) I.hu.2.2 (fun i k hi hk e2 _ e1 => ?_) (fun i => ?_) (fun i => ?_) ?_ hP
 ·rw [hb2 i hi, hb2 k hk, e2]
 ·have hL := I.hloc i
  have hS := I.sub i
  rw [Nat.testBit_or, Nat.testBit_and]
  by_cases h64 : i < 64
  ·rw [hb2 i h64]
   revert hL hS
   cases P.testBit i <;> cases left.testBit i <;> cases loc.testBit i <;> cases decide (h i = r) <;> simp
  ·have h1 : P.testBit i = false := by
    cases x : P.testBit i with
    | false => rfl
    | true => exact absurd (u64_bit hP x) h64
   have h2 : left.testBit i = false := by
    cases x : left.testBit i with
    | false => rfl
    | true => exact absurd (u64_bit I.hu.1 x) h64
   simp [h1, h2]
 ·by_cases h64 : i < 64
  ·rw [hb2 i h64]
   by_cases x : h i = r
   ·have : lzB h r t i = false := by unfold lzB; simp [x, hr]
    simp [this]
   ·simp [x]
  ·have h2 : left.testBit i = false := by
    cases x : left.testBit i with
    | false => rfl
    | true => exact absurd (u64_bit I.hu.1 x) h64
   simp [h2]
 ·rw [I.skip hu (fun i hi _ => by
   have := ((hb i).1 hi).1
   unfold czB
   simp [this])]
theorem FwI.oneLost (I : FwI M h r t P left loc lost cs) (hP : U64 P) (hr : r ≠ 0) {j : Nat} (hj : Lst left j) (e : h j = 0) : FwI M h r t P (ntB left (2 ^ j)) loc (lost ||| 2 ^ j) cs := by
 have h64 := u64_bit I.hu.1 hj.on
 refine I.step (u64_two h64) I.hu.2.1 (u64_orl _ _ I.hu.2.2 (u64_two h64)) (fun i k _ _ e2 e0 _ => ?_) (fun i => ?_) (fun i => ?_) ?_ hP
 ·rw [Nat.testBit_two_pow, Nat.testBit_two_pow, decide_eq_false (fun x : j = i => e0 (x ▸ e)), decide_eq_false (fun x : j = k => e0 (e2.trans (x ▸ e)))]
 ·rw [Nat.testBit_two_pow]
  by_cases x : j = i
  ·subst x
   simp [e, Ne.symm hr]
  ·simp [x]
 ·rw [Nat.testBit_or, Nat.testBit_two_pow]
  by_cases x : j = i
  ·subst x
   have : lzB h r t j = true := by unfold lzB; simp [e]
   simp [this, hj.on]
  ·simp [x]
 ·rw [I.skip (u64_two h64) (fun i hi _ => by
   rw [Nat.testBit_two_pow] at hi
   obtain rfl : j = i := by simpa using hi
   unfold czB
   simp [e])]
theorem FwI.allLost (I : FwI M h r true P left loc lost cs) (hM : Ms M h) (hP : U64 P) {u : Int} (h0 : u ≠ 0) (h1 : u ≠ r) : FwI M h r true P (ntB left (M u)) loc (lost ||| (left &&& M u)) cs := by
 obtain ⟨hu, hb⟩ := hM u h0
 have hb2 : ∀ i, i < 64 → (M u).testBit i = decide (h i = u) := fun i hi => by
  rw [Bool.eq_iff_iff, hb i]
  simp [hi]
 refine I.step hu I.hu.2.1 (u64_orl _ _ I.hu.2.2 (u64_andl _ _ I.hu.1)) (fun i k hi hk e2 _ _ => ?_) (fun i => ?_) (fun i => ?_) ?_ hP
 ·rw [hb2 i hi, hb2 k hk, e2]
 ·cases hm : (M u).testBit i with
  | false => simp
  | true =>
   have := ((hb i).1 hm).1
   simp [this, h1]
 ·rw [Nat.testBit_or, Nat.testBit_and]
  cases hm : (M u).testBit i with
  | false => simp
  | true =>
   have h2 := ((hb i).1 hm).1
   have : lzB h r true i = true := by unfold lzB; simp [h2, h1]
   simp [this]
 ·rw [I.skip hu (fun i _ _ => by unfold czB; simp)]
theorem FwI.copy (I : FwI M h r false P left loc lost cs) (hM : Ms M h) (hP : U64 P) {j : Nat} (hj : Lst left j) (h0 : h j ≠ 0) (h1 : h j ≠ r) : FwI M h r false P (ntB left (M (h j))) loc lost (cs ++ [(h j, left &&& M (h j))]) := by
 obtain ⟨hu, hb⟩ := hM _ h0
 have hcz : ∀ i, (M (h j)).testBit i = true → czB h r false i = true := fun i hi => by
  have h2 := ((hb i).1 hi).1
  unfold czB
  simp [h2, h0, h1]
 refine I.step hu I.hu.2.1 I.hu.2.2 (fun i k hi hk e2 _ _ => ?_) (fun i => ?_) (fun i => ?_) ?_ hP
 ·rw [Bool.eq_iff_iff, hb i, hb k, e2]
  simp [hi, hk]
 ·cases hm : (M (h j)).testBit i with
  | false => simp
  | true =>
   have := ((hb i).1 hm).1
   simp [this, h1]
 ·cases hm : (M (h j)).testBit i with
  | false => simp
  | true =>
   have h2 := ((hb i).1 hm).1
   have : lzB h r false i = false := by unfold lzB; simp [h2, h0]
   simp [this]
 ·have hLs : Lst (fltB (czB h r false) left) j := ⟨by
    rw [fltB_bit I.hu.1, hj.on, Bool.true_and]
    exact hcz j ((hb j).2 ⟨rfl, u64_bit I.hu.1 hj.on⟩), fun i hi => hj.le i (by
    rw [fltB_bit I.hu.1] at hi
    simp at hi
    exact hi.1)⟩
  rw [cpB_step hM (fltB_u _ I.hu.1) (fun i hi => by
   rw [fltB_bit I.hu.1] at hi
   unfold czB at hi
   simp at hi
   exact hi.2.1) hLs]
  have e1 : fltB (czB h r false) left &&& M (h j) = left &&& M (h j) := Nat.eq_of_testBit_eq (fun i => by
   rw [Nat.testBit_and, Nat.testBit_and, fltB_bit I.hu.1]
   cases hm : (M (h j)).testBit i with
   | false => simp
   | true => simp [hcz i hm])
  have e2 : ntB (fltB (czB h r false) left) (M (h j)) = fltB (czB h r false) (ntB left (M (h j))) := Nat.eq_of_testBit_eq (fun i => by
   rw [ntB_bit (fltB_u _ I.hu.1) hu, fltB_bit I.hu.1, fltB_bit (ntB_u I.hu.1), ntB_bit I.hu.1 hu]
   cases left.testBit i <;> cases (M (h j)).testBit i <;> simp)
  rw [e1, e2, List.append_assoc]
  rfl
theorem FwI.both {loc2 lost2 : Nat} {cs2 : List (Int × Nat)} (I : FwI M h r t P 0 loc lost cs) (K : FwI M h r t P 0 loc2 lost2 cs2) : loc = loc2 ∧ lost = lost2 ∧ cs = cs2 := by
 obtain ⟨a1, a2, a3⟩ := I.done
 obtain ⟨b1, b2, b3⟩ := K.done
 exact ⟨Nat.eq_of_testBit_eq (fun j => (a1 j).trans (b1 j).symm), Nat.eq_of_testBit_eq (fun j => (a2 j).trans (b2 j).symm), a3.trans b3.symm⟩
theorem cpB_zero (M : Int → Nat) (h : Nat → Int) : cpB M h 0 = [] := rfl
theorem cpB_mem (hM : Ms M h) : ∀ x, U64 x → (∀ j, x.testBit j = true → h j ≠ 0) → ∀ y ∈ cpB M h x, y.2 = x &&& M y.1 ∧ ∃ j, x.testBit j = true ∧ h j = y.1 := by
 intro x
 induction x using Nat.strongRecOn with
 | ind x ih =>
  intro hu hz y hy
  by_cases h0 : x = 0
  ·subst h0
   rw [cpB_zero] at hy
   cases hy
  ·obtain ⟨j, hj⟩ := u64_some h0
   have hne := hz j hj.on
   obtain ⟨hmu, hmb⟩ := hM _ hne
   rw [cpB_step hM hu hz hj] at hy
   rcases List.mem_cons.1 hy with rfl | hy
   ·exact ⟨rfl, j, hj.on, rfl⟩
   ·have hb := fun i => ntB_bit (j := i) hu hmu
    obtain ⟨h1, i, h2, h3⟩ := ih _ (ntB_lt hu hmu hj.on ((hmb j).2 ⟨rfl, u64_bit hu hj.on⟩)) (ntB_u hu) (fun i hi => hz i (by
     rw [hb i] at hi
     simp at hi
     exact hi.1)) y hy
    rw [hb i] at h2
    simp only [Bool.and_eq_true, Bool.not_eq_true'] at h2
    have hd : y.1 ≠ h j := fun e => by
     have := (hmb i).2 ⟨h3.trans e, u64_bit hu h2.1⟩
     rw [h2.2] at this
     cases this
    have hy0 : y.1 ≠ 0 := fun e => hz i h2.1 (h3.trans e)
    refine ⟨h1.trans (Nat.eq_of_testBit_eq (fun k => ?_)), i, h2.1, h3⟩
    rw [Nat.testBit_and, Nat.testBit_and, hb k]
    cases hk : (M y.1).testBit k with
    | false => simp
    | true =>
     have e1 := (((hM _ hy0).2 k).1 hk).1
     have e2 : (M (h j)).testBit k = false := by
      cases x2 : (M (h j)).testBit k with
      | false => rfl
      | true => exact absurd (e1.symm.trans ((hmb k).1 x2).1) hd
     rw [e2]
     simp
theorem cpB_once (hM : Ms M h) : ∀ x, U64 x → (∀ j, x.testBit j = true → h j ≠ 0) → (cpB M h x).Pairwise (fun y z => y.1 ≠ z.1) := by
 intro x
 induction x using Nat.strongRecOn with
 | ind x ih =>
  intro hu hz
  by_cases h0 : x = 0
  ·subst h0
   rw [cpB_zero]
   exact List.Pairwise.nil
  ·obtain ⟨j, hj⟩ := u64_some h0
   have hne := hz j hj.on
   obtain ⟨hmu, hmb⟩ := hM _ hne
   have hb := fun i => ntB_bit (j := i) hu hmu
   have hz2 : ∀ i, (ntB x (M (h j))).testBit i = true → h i ≠ 0 := fun i hi => hz i (by
    rw [hb i] at hi
    simp at hi
    exact hi.1)
   rw [cpB_step hM hu hz hj]
   refine List.Pairwise.cons (fun z hz3 e => ?_) (ih _ (ntB_lt hu hmu hj.on ((hmb j).2 ⟨rfl, u64_bit hu hj.on⟩)) (ntB_u hu) hz2)
   obtain ⟨-, i, h2, h3⟩ := cpB_mem hM _ (ntB_u hu) hz2 z hz3
   rw [hb i] at h2
   simp only [Bool.and_eq_true, Bool.not_eq_true'] at h2
   have := (hmb i).2 ⟨h3.trans e.symm, u64_bit hu h2.1⟩
   rw [h2.2] at this
   cases this
theorem cpB_full (hM : Ms M h) : ∀ x, U64 x → (∀ j, x.testBit j = true → h j ≠ 0) → ∀ j, x.testBit j = true → (h j, x &&& M (h j)) ∈ cpB M h x := by
 intro x
 induction x using Nat.strongRecOn with
 | ind x ih =>
  intro hu hz i hi
  obtain ⟨j, hj⟩ := u64_some (x := x) (fun e => by
   rw [e, Nat.zero_testBit] at hi
   cases hi)
  have hne := hz j hj.on
  obtain ⟨hmu, hmb⟩ := hM _ hne
  have hb := fun i => ntB_bit (j := i) hu hmu
  rw [cpB_step hM hu hz hj]
  by_cases e : h i = h j
  ·rw [e]
   exact List.mem_cons_self
  ·have hm : (M (h j)).testBit i = false := by
    cases x2 : (M (h j)).testBit i with
    | false => rfl
    | true => exact absurd ((hmb i).1 x2).1 e
   have h1 := ih _ (ntB_lt hu hmu hj.on ((hmb j).2 ⟨rfl, u64_bit hu hj.on⟩)) (ntB_u hu) (fun k hk => hz k (by
    rw [hb k] at hk
    simp at hk
    exact hk.1)) i (by rw [hb i, hi, hm]; rfl)
   have e2 : ntB x (M (h j)) &&& M (h i) = x &&& M (h i) := Nat.eq_of_testBit_eq (fun k => by
    rw [Nat.testBit_and, Nat.testBit_and, hb k]
    cases hk : (M (h i)).testBit k with
    | false => simp
    | true =>
     have e1 := (((hM _ (hz i hi)).2 k).1 hk).1
     have e3 : (M (h j)).testBit k = false := by
      cases x2 : (M (h j)).testBit k with
      | false => rfl
      | true => exact absurd (e1.symm.trans ((hmb k).1 x2).1) e
     rw [e3]
     simp)
   rw [e2] at h1
   exact List.mem_cons_of_mem _ h1
theorem lst_two (j : Nat) : Lst (2 ^ j) j := ⟨Nat.testBit_two_pow_self, fun i hi => by
 rw [Nat.testBit_two_pow] at hi
 have : j = i := by simpa using hi
 omega⟩
theorem two_bit {j k : Nat} (hk : (2 ^ j).testBit k = true) : j = k := by
 rw [Nat.testBit_two_pow] at hk
 simpa using hk
theorem cpB_one (hM : Ms M h) {j : Nat} (hj : j < 64) (h0 : h j ≠ 0) : cpB M h (2 ^ j) = [(h j, 2 ^ j)] := by
 obtain ⟨hmu, hmb⟩ := hM _ h0
 have hm := (hmb j).2 ⟨rfl, hj⟩
 rw [cpB_step hM (u64_two hj) (fun k hk => two_bit hk ▸ h0) (lst_two j)]
 have e1 : 2 ^ j &&& M (h j) = 2 ^ j := Nat.eq_of_testBit_eq (fun k => by
  rw [Nat.testBit_and]
  cases hk : (2 ^ j).testBit k with
  | false => rfl
  | true =>
   obtain rfl := two_bit hk
   exact hm)
 have e2 : ntB (2 ^ j) (M (h j)) = 0 := Nat.eq_of_testBit_eq (fun k => by
  rw [ntB_bit (u64_two hj) hmu, Nat.zero_testBit]
  cases hk : (2 ^ j).testBit k with
  | false => rfl
  | true =>
   obtain rfl := two_bit hk
   rw [hm]
   rfl)
 rw [e1, e2, cpB_zero]
theorem flt_one (Q : Nat → Bool) {j : Nat} (hj : j < 64) : fltB Q (2 ^ j) = if Q j = true then 2 ^ j else 0 := Nat.eq_of_testBit_eq (fun k => by
 rw [fltB_bit (u64_two hj)]
 cases hk : (2 ^ j).testBit k with
 | false =>
  split
  ·rw [hk]; rfl
  ·rw [Nat.zero_testBit]; rfl
 | true =>
  obtain rfl := two_bit hk
  split
  ·rename_i hq
   rw [hk, hq]; rfl
  ·rename_i hq
   rw [Nat.zero_testBit]
   simpa using hq)
end Go.Proofs.YtpogblengagpaaaDoor

/- The tape's For: what is known of its packet. -/
namespace Go.Proofs.YtpogblengagpaaaDoor
set_option maxRecDepth 100000
open Go.RowKit Bs
structure ForOk (s n : Int) (Q : Pk) : Prop where
 v : vpk Q = true
 mode : Q.mode = 1
 sub : Q.sub = s
 len : Q.len = n
 wf : Q.Wf
theorem vb_or {a b : Nat} {n : Int} (h : vb a n = true) (k : vb b n = true) : vb (a ||| b) n = true := by
 unfold vb at h k ⊢
 simp only [Bool.and_eq_true, beq_iff_eq] at h k ⊢
 refine ⟨h.1, ?_⟩
 rw [Nat.and_or_distrib_right, h.2, k.2]
 rfl
theorem vb_zero {n : Int} (h : vl n = true) : vb 0 n = true := by
 unfold vb
 rw [h, Nat.zero_and]
 rfl
theorem vb_pl {id n : Int} (h : plOk id n = true) : 0 ≤ plB id n ∧ plB id n < 64 ∧ vb (b2 (plB id n).toNat) n = true := by
 obtain ⟨hl, h1, h2⟩ := pl_fields h
 have hn : 0 < n := by omega
 have e : plB id n = (id - 1) % n := by unfold plB; rw [if_pos h]
 have h3 : 0 ≤ plB id n := by rw [e]; exact Int.emod_nonneg _ (by omega)
 have h4 : plB id n < n := by rw [e]; exact Int.emod_lt_of_pos _ hn
 refine ⟨h3, by omega, ?_⟩
 obtain ⟨k, hk⟩ := Int.eq_ofNat_of_zero_le h3
 rw [hk] at h4 ⊢
 rw [Int.toNat_natCast]
 unfold vb
 rcases hl with rfl | rfl | rfl | rfl
 ·rw [show vl 8 = true by decide, show full 8 = 255 from full_val.1]
  have : k < 8 := by omega
  clear hk h4 e h3 hn
  revert k
  decide
 ·rw [show vl 16 = true by decide, show full 16 = 65535 from full_val.2.1]
  have : k < 16 := by omega
  clear hk h4 e h3 hn
  revert k
  decide
 ·rw [show vl 32 = true by decide, show full 32 = 4294967295 from full_val.2.2.1]
  have : k < 32 := by omega
  clear hk h4 e h3 hn
  revert k
  decide
 ·rw [show vl 64 = true by decide, show full 64 = 18446744073709551615 from full_val.2.2.2]
  simp
theorem ForOk.bits {s n : Int} {Q : Pk} (h : ForOk s n Q) {b : Nat} (hu : U64 b) (hb : vb b n = true) : ForOk s n { Q with bits := b } := by
 have hw := h.wf
 refine ⟨?_, h.mode, h.sub, h.len, ⟨hw.mode, hw.sub, hw.set, hw.len, hw.ttl, hw.ent, hw.ing, hw.pro, hu, hw.pay⟩⟩
 have hv := h.v
 unfold vpk at hv ⊢
 simp only [decide_eq_true_eq] at hv ⊢
 have hl := h.len
 exact ⟨hv.1, hv.2.1, hv.2.2.1, hv.2.2.2.1, hv.2.2.2.2.1, hv.2.2.2.2.2.1, hv.2.2.2.2.2.2.1, hv.2.2.2.2.2.2.2.1, by rw [hl]; exact hb⟩
theorem ForOk.set_ {s n : Int} {Q : Pk} (h : ForOk s n Q) {x : Int} (hx : 0 ≤ x ∧ x ≤ 31) : ForOk s n { Q with set := x } := by
 have hw := h.wf
 refine ⟨?_, h.mode, h.sub, h.len, ⟨hw.mode, hw.sub, by show I64 x; unfold I64; omega, hw.len, hw.ttl, hw.ent, hw.ing, hw.pro, hw.bits, hw.pay⟩⟩
 have hv := h.v
 unfold vpk at hv ⊢
 simp only [decide_eq_true_eq] at hv ⊢
 exact ⟨hv.1, hv.2.1, hx, hv.2.2.2⟩
theorem ForOk.ttl_ {s n : Int} {Q : Pk} (h : ForOk s n Q) {x : Int} (hx : 0 ≤ x ∧ x ≤ 63) : ForOk s n { Q with ttl := x } := by
 have hw := h.wf
 refine ⟨?_, h.mode, h.sub, h.len, ⟨hw.mode, hw.sub, hw.set, hw.len, by show I64 x; unfold I64; omega, hw.ent, hw.ing, hw.pro, hw.bits, hw.pay⟩⟩
 have hv := h.v
 unfold vpk at hv ⊢
 simp only [decide_eq_true_eq] at hv ⊢
 exact ⟨hv.1, hv.2.1, hv.2.2.1, hx, hv.2.2.2.2⟩
theorem forOk_start {s n : Int} {Q : Pk} (hv : vpk Q = true) (hw : Q.Wf) (hs : 0 ≤ s ∧ s ≤ 7) (hn : vl n = true) : ForOk s n { Q with mode := 1, sub := s, len := n, set := 0, bits := 0 } := by
 have hl : 0 ≤ n ∧ n ≤ 64 := by rcases vl_cases hn with rfl | rfl | rfl | rfl <;> omega
 refine ⟨?_, rfl, rfl, rfl, ⟨by show I64 1; unfold I64; omega, by show I64 s; unfold I64; omega, by show I64 0; unfold I64; omega, by show I64 n; unfold I64; omega, hw.ttl, hw.ent, hw.ing, hw.pro, u64_zero, hw.pay⟩⟩
 unfold vpk at hv ⊢
 simp only [decide_eq_true_eq] at hv ⊢
 exact ⟨by omega, hs, by omega, hv.2.2.2.1, hv.2.2.2.2.1, hv.2.2.2.2.2.1, hv.2.2.2.2.2.2.1, hv.2.2.2.2.2.2.2.1, vb_zero hn⟩
theorem plS_inF {id n : Int} : 0 ≤ plS id n ∧ plS id n ≤ 31 := by
 unfold plS
 split
 ·rename_i h
  obtain ⟨hl, h1, h2⟩ := pl_fields h
  rw [Int.tdiv_eq_ediv_of_nonneg (by omega)]
  rcases hl with rfl | rfl | rfl | rfl <;> omega
 ·omega
end Go.Proofs.YtpogblengagpaaaDoor

/- The reference's check number; Same. -/
namespace Go.Proofs.YtpogblengagpaaaDoor
set_option maxRecDepth 100000
open Go.RowKit Bs
def bs (l : List Nat) : ByteArray := ⟨(l.map fun x => UInt8.ofNat x).toArray⟩
def same (l : List Nat) (n : Int) (l' : List Nat) (n' : Int) : Bool := n == n' && (bs l).toList == (bs l').toList
end Go.Proofs.YtpogblengagpaaaDoor

/- The tape's texts. -/
namespace Go.Proofs.YtpogblengagpaaaDoor
set_option maxRecDepth 100000
open Go.RowKit Bs
def bval (x : UInt8) : Value := .int .u8 (x.toNat : Int)
theorem conv_bytes {w : World} {q : Nat → Prop} {v : Value} {l : List UInt8} (hR : Rd w q v (l.map bval)) (h0 : l = [] → v = .slice none 0 0) :
  (convert 84 9 v).run Tryd.prog w = .ok (.string ⟨l.toArray⟩) w := by
 by_cases hl : l = []
 ·rw [h0 hl, hl]
  exact Lib.run_convert_nil_bytes (P := Tryd.prog) w 84 9 5 0 Tryd.underlying84 Tryd.underlying5 Tryd.underlying9
 ·obtain ⟨p, c, rfl, hc⟩ := hR
  obtain ⟨b, off, rfl, _, hcell⟩ := hc (by simpa using hl)
  rw [List.length_map]
  refine run_convert_bytes_back (P := Tryd.prog) w 84 9 5 ⟨b, off, none⟩ c l Tryd.underlying84 Tryd.underlying5 Tryd.underlying9 (fun j hj => ?_)
  have hadd : (⟨b, off, none⟩ : Addr).add j = ⟨b, off + j, none⟩ := by unfold Addr.add; split <;> simp_all
  rw [hadd]
  exact hcell j _ (by rw [List.getElem?_map, List.getElem?_eq_getElem hj]; rfl)
def TextRel (a most : Nat) (w : World) (v : Value) (k : Nat) (wr : World) : Prop :=
 ∃ l : List UInt8, l.length + k ≤ most ∧ wr.ownsRow w.heap.size 5 1 v l.length (l.map bval) ∧ (l = [] → v = .slice none 0 0) ∧ St a w wr
theorem TextRel.open_ {a most k : Nat} {w wr : World} {v : Value} (h : TextRel a most w v k wr) : ∃ l : List UInt8, l.length + k ≤ most ∧ wr.ownsRow w.heap.size 5 1 v l.length (l.map bval) ∧ (l = [] → v = .slice none 0 0) ∧ St a w wr := h
def TextPost (a most : Nat) (w : World) (e : Ending) (w' : World) : Prop := ∃ s : ByteArray, e = .returned (.string s) ∧ s.size ≤ most ∧ St a w w'
set_option maxHeartbeats 1600000 in
theorem text_any (a : Nat) (most : Nat) (hm : most ≤ 1000) (w : World) (hT : Tp w a) :
  Calls Tryd.prog 15 #[.pointer (some ⟨a, 0, none⟩), .int .i64 (most : Int)] w fun e w' => TextPost a most w e w' := by
 obtain ⟨i0, hi, hz0, hz1, hz2⟩ := info_parts info_u8
 have ha := hT.lt
 go_enter Tryd.func15, Tryd.ntmps15
 go_wp2_with fail
 refine (range_any a 0 (most : Int) (by omega) (by omega) (by omega) (by omega) _ hT).mono ?_
 rintro e w1 ⟨r, rfl, hr, hs1⟩
 obtain ⟨K, rfl⟩ := Int.eq_ofNat_of_zero_le hr.1
 have hK : K ≤ most := by unfold RangeOf at hr; omega
 have L0 : Hid (TextRel a most w (.slice none 0 0) K w1) :=
  Lib.hid ⟨[], by simpa using hK, World.ownsRow_nil _ _ _ _, fun _ => rfl, hs1⟩
 clear hr hs1
 go_wp2_with fail
 go_loopw [5, 6] (fun v i wr => ∃ k : Nat, k ≤ most ∧ i = .int .i64 (k : Int) ∧ TextRel a most w v k wr) (fun _ i _ => (RowKit.intOf i).toNat)
 case atStart => exact ⟨K, hK, rfl, L0.out⟩
 case round =>
  obtain ⟨k, hk, rfl, hL⟩ := hrel
  obtain ⟨l, hlk, hown0, hnil, hs⟩ := hL.open_
  clear hL L0
  by_cases hk1 : 1 ≤ k
  ·clear hnil
   go_wp2_with fail
   refine (next_any a 256 (by unfold I64; omega) _ hs.2).mono ?_
   rintro e w2 ⟨x, rfl, hx, hs2⟩
   obtain ⟨X, rfl⟩ := Int.eq_ofNat_of_zero_le hx.1
   have hX : X < 256 := by have := hx.2.1 (by omega); omega
   have hown := own_kept ha hown0 hs2.1
   have HS := Lib.hid (hs.trans hs2)
   have HO := Lib.hid hown
   have hsz := HS.out.1.size
   have hll : l.length ≤ 1000 := by omega
   have HLK := Lib.hid hlk
   clear hx hs hs2 hown0
   go_wp2_with (at_builtin; refine wpList_append_own _ rfl _ _ 84 rfl w.heap.size 5 i0 (.int .u8 0) 1 1 Tryd.underlying84 hi hz0 hz1 hz2 rfl (by decide) _ _ _ rfl (hown.alloc _) ⟨w2.heap.size, 0, none⟩ 1 1 [.int .u8 (X : Int)] rfl rfl ?c1 ?c2 ?c3 ?c4 ?c5 ?_)
   case c1 => exact cell_one _ _ _
   case c2 => intro u hu; simp at hu; subst hu; rfl
   case c3 => unfold maxLen; omega
   case c4 => omega
   case c5 => simp; omega
   intro v' w3 hown' hg _
   have R : Hid (TextRel a most w v' (k - 1) w3) := by
    have e1 := st_append HS.out ha HO.out hg
    have ex : bval (UInt8.ofNat X) = .int .u8 (X : Int) := by
     show Value.int .u8 (((UInt8.ofNat X).toNat : Nat) : Int) = _
     rw [UInt8.toNat_ofNat', Nat.mod_eq_of_lt hX]
    exact Lib.hid ⟨l ++ [UInt8.ofNat X], by rw [List.length_append]; have := HLK.out; simp; omega, by rw [List.length_append, List.map_append, List.map_cons, List.map_nil, ex]; exact hown', fun e => by simp at e, e1⟩
   clear hown' hg hown
   go_wp2_with fail
   go_roundw
   case rel => exact ⟨k - 1, by omega, by congr 1; omega, R.out⟩
   case measure => simp [RowKit.intOf]; omega
  ·obtain rfl : k = 0 := by omega
   have hconv := conv_bytes (rd_of_own hown0) hnil
   have HS := Lib.hid hs
   have HL := Lib.hid hlk
   clear hown0 hnil hs hlk
   go_wp2_with fail
   go_ret
   exact ⟨_, rfl, by have := HL.out; show l.toArray.size ≤ most; simp; omega, HS.out⟩
end Go.Proofs.YtpogblengagpaaaDoor

/- packet: a header's block. -/
namespace Go.Proofs.YtpogblengagpaaaDoor
set_option maxRecDepth 100000
open Go.RowKit Bs
def pcells (P : Pk) : Array Value := #[.int .i64 P.mode, .int .i64 P.sub, .int .i64 P.set, .int .i64 P.len, .int .i64 P.ttl, .int .i64 P.ent, .int .i64 P.ing, .int .i64 P.pro, .int .u64 (P.bits : Int), .string P.pay]
theorem p_facts {w : World} {b : Nat} {P : Pk} (h : w.heap[b]? = some (.cells (pcells P) 30 (0, 0))) :
  w.cell? ⟨b, 0, none⟩ = some (.int .i64 P.mode) ∧ w.cell? ⟨b, 1, none⟩ = some (.int .i64 P.sub) ∧ w.cell? ⟨b, 2, none⟩ = some (.int .i64 P.set) ∧ w.cell? ⟨b, 3, none⟩ = some (.int .i64 P.len) ∧ w.cell? ⟨b, 4, none⟩ = some (.int .i64 P.ttl) ∧ w.cell? ⟨b, 5, none⟩ = some (.int .i64 P.ent) ∧ w.cell? ⟨b, 6, none⟩ = some (.int .i64 P.ing) ∧ w.cell? ⟨b, 7, none⟩ = some (.int .i64 P.pro) ∧ w.cell? ⟨b, 8, none⟩ = some (.int .u64 (P.bits : Int)) ∧ w.cell? ⟨b, 9, none⟩ = some (.string P.pay) :=
 ⟨cell_of_row _ _ _ _ _ _ h, cell_of_row _ _ _ _ _ _ h, cell_of_row _ _ _ _ _ _ h, cell_of_row _ _ _ _ _ _ h, cell_of_row _ _ _ _ _ _ h, cell_of_row _ _ _ _ _ _ h, cell_of_row _ _ _ _ _ _ h, cell_of_row _ _ _ _ _ _ h, cell_of_row _ _ _ _ _ _ h, cell_of_row _ _ _ _ _ _ h⟩
section
variable {W w w1 : World} {P : Pk} {h g S : Nat} {B B2 : List Bool}
end
end Go.Proofs.YtpogblengagpaaaDoor

/- empty -/
namespace Go.Proofs.YtpogblengagpaaaDoor
set_option maxRecDepth 100000
end Go.Proofs.YtpogblengagpaaaDoor

/- packet: the header of a packet is read. -/
namespace Go.Proofs.YtpogblengagpaaaDoor
set_option maxRecDepth 100000
open Go.RowKit Bs
def hdc (V : Nat → Nat) (k : Nat) (n : Int) : Array Value := #[.int .i64 ((if 0 < k then V 0 else 0 : Nat) : Int), .int .i64 ((if 1 < k then V 1 else 0 : Nat) : Int), .int .i64 ((if 2 < k then V 2 else 0 : Nat) : Int), .int .i64 ((if 3 < k then V 3 else 0 : Nat) : Int), .int .i64 n, .int .i64 ((if 5 < k then V 5 else 0 : Nat) : Int), .int .i64 ((if 6 < k then V 6 else 0 : Nat) : Int), .int .i64 ((if 7 < k then V 7 else 0 : Nat) : Int), .int .i64 ((if 8 < k then V 8 else 0 : Nat) : Int), .int .u64 0, .string ⟨#[]⟩, .int .i64 ((if 4 < k then V 4 else 0 : Nat) : Int), .int .i64 ((if 9 < k then V 9 else 0 : Nat) : Int)]
section
variable {W w w1 : World} {l : List Nat} {p : Option Addr} {c : Nat} {V : Nat → Nat} {g k : Nat}
end
end Go.Proofs.YtpogblengagpaaaDoor

/- packet: a header's value comes back. -/
namespace Go.Proofs.YtpogblengagpaaaDoor
set_option maxRecDepth 100000
open Go.RowKit Bs
def hval (V : Nat → Nat) (n : Int) : Value := .agg (hdc V 10 n)
end Go.Proofs.YtpogblengagpaaaDoor

/- empty -/
namespace Go.Proofs.YtpogblengagpaaaDoor
set_option maxRecDepth 100000
end Go.Proofs.YtpogblengagpaaaDoor

/- packet: Valid. -/
namespace Go.Proofs.YtpogblengagpaaaDoor
set_option maxRecDepth 100000
open Go.RowKit Bs
def vrows (P : Pk) : List (Int × Int × Int) := [(P.mode, 1, 3), (P.sub, 0, 7), (P.set, 0, 31), (P.ttl, 0, 63), (P.ent, 0, 1023), (P.ing, 0, 256), (P.pro, 0, 7), ((P.pay.size : Int), 0, 64)]
def vcells (P : Pk) : Array Value := #[.int .i64 P.mode, .int .i64 1, .int .i64 3, .int .i64 P.sub, .int .i64 0, .int .i64 7, .int .i64 P.set, .int .i64 0, .int .i64 31, .int .i64 P.ttl, .int .i64 0, .int .i64 63,
 .int .i64 P.ent, .int .i64 0, .int .i64 1023, .int .i64 P.ing, .int .i64 0, .int .i64 256, .int .i64 P.pro, .int .i64 0, .int .i64 7, .int .i64 (P.pay.size : Int), .int .i64 0, .int .i64 64]
theorem vrow_at (P : Pk) (k : Nat) (hk : k < 8) : ∃ x lo hi : Int, (vcells P)[k * 3]? = some (.int .i64 x) ∧ (vcells P)[k * 3 + 1]? = some (.int .i64 lo) ∧ (vcells P)[k * 3 + 2]? = some (.int .i64 hi) ∧ (vrows P)[k]? = some (x, lo, hi) := by
 rcases (show k = 0 ∨ k = 1 ∨ k = 2 ∨ k = 3 ∨ k = 4 ∨ k = 5 ∨ k = 6 ∨ k = 7 by omega) with rfl | rfl | rfl | rfl | rfl | rfl | rfl | rfl <;> exact ⟨_, _, _, rfl, rfl, rfl, rfl⟩
def Kept (P : Pk) (k : Nat) : Prop := ∀ j x lo hi, j < k → (vrows P)[j]? = some (x, lo, hi) → lo ≤ x ∧ x ≤ hi
theorem vpk_kept {P : Pk} (h : Kept P 8) : vpk P = vb P.bits P.len := by
 have h0 := h 0 _ _ _ (by decide) rfl
 have h1 := h 1 _ _ _ (by decide) rfl
 have h2 := h 2 _ _ _ (by decide) rfl
 have h3 := h 3 _ _ _ (by decide) rfl
 have h4 := h 4 _ _ _ (by decide) rfl
 have h5 := h 5 _ _ _ (by decide) rfl
 have h6 := h 6 _ _ _ (by decide) rfl
 have h7 := h 7 _ _ _ (by decide) rfl
 unfold vpk
 by_cases hb : vb P.bits P.len = true
 ·rw [hb]; exact decide_eq_true ⟨h0, h1, h2, h3, h4, h5, h6, by omega, rfl⟩
 ·rw [Bool.not_eq_true] at hb
  rw [hb]; exact decide_eq_false fun h => by cases h.2.2.2.2.2.2.2.2
theorem vpk_row {P : Pk} (h : vpk P = true) {k : Nat} {x lo hi : Int} (hk : k < 8) (hr : (vrows P)[k]? = some (x, lo, hi)) : lo ≤ x ∧ x ≤ hi := by
 obtain ⟨h0, h1, h2, h3, h4, h5, h6, h7, _⟩ := vpk_parts h
 rcases (show k = 0 ∨ k = 1 ∨ k = 2 ∨ k = 3 ∨ k = 4 ∨ k = 5 ∨ k = 6 ∨ k = 7 by omega) with rfl | rfl | rfl | rfl | rfl | rfl | rfl | rfl <;> cases hr
 ·exact h0
 ·exact h1
 ·exact h2
 ·exact h3
 ·exact h4
 ·exact h5
 ·exact h6
 ·exact ⟨by omega, by omega⟩
theorem vpk_not {P : Pk} {k : Nat} {x lo hi : Int} (hk : k < 8) (hr : (vrows P)[k]? = some (x, lo, hi)) (hn : ¬ (lo ≤ x ∧ x ≤ hi)) : vpk P = false := by
 cases h : vpk P with
 | false => rfl
 | true => exact absurd (vpk_row h hk hr) hn
set_option maxHeartbeats 3200000 in
theorem pvalid_any (P : Pk) (hP : P.Wf) (w : World) :
  Calls Tryd.prog 42 #[P.val] w fun e w' => e = .returned (.bool (vpk P)) ∧ w.grownBy w' none := by
 unfold Pk.val
 go_enter Tryd.func42, Tryd.ntmps42
 go_wp2_with fail
 obtain ⟨k1, k2, k3, k4⟩ := two_boxes w (pcells P) (vcells P) 30 113
 have HA := Lib.hid (And.intro k1 (And.intro k2 k3))
 clear k1 k2 k3 k4
 unfold pcells vcells at HA
 generalize ((w.alloc (.cells #[.int .i64 P.mode, .int .i64 P.sub, .int .i64 P.set, .int .i64 P.len, .int .i64 P.ttl, .int .i64 P.ent, .int .i64 P.ing, .int .i64 P.pro, .int .u64 (P.bits : Int), .string P.pay] 30)).alloc _) = wa at *
 change Hid (wa.heap[w.heap.size]? = some (.cells (pcells P) 30 (0, 0)) ∧ wa.heap[w.heap.size + 1]? = some (.cells (vcells P) 113 (0, 0)) ∧ w.grownBy wa none) at HA
 have hK0 : Hid (Kept P 0) := Lib.hid fun j x lo hi hj => absurd hj (Nat.not_lt_zero j)
 go_loopw [32] (fun i wr => ∃ k : Nat, k ≤ 8 ∧ i = .int .i64 (k : Int) ∧ Hid (Kept P k) ∧ Hid (wa.grownBy wr none)) (fun i _ => (8 - (RowKit.intOf i).toNat))
 case atStart => exact ⟨0, Nat.zero_le _, rfl, hK0, Lib.hid (grown_refl _ _)⟩
 case round =>
  obtain ⟨k, hk, rfl, hK, hG⟩ := hrel
  clear hK0
  have GE := Lib.hid (grown_trans HA.out.2.2 hG.out)
  by_cases hk2 : k < 8
  ·obtain ⟨x, lo, hi, c0, c1, c2, hr⟩ := vrow_at P k hk2
   have hrow := kept_row HA.out.2.1 hG.out (by simp)
   have d0 := (cell_of_row _ _ _ _ _ _ hrow).trans c0
   have d1 := (cell_of_row _ _ _ _ _ _ hrow).trans c1
   have d2 := (cell_of_row _ _ _ _ _ _ hrow).trans c2
   have HR := Lib.hid hr
   clear c0 c1 c2 hr hrow
   by_cases h1 : x < lo
   ·have hn := Lib.hid (vpk_not hk2 HR.out (by omega))
    go_wp2_with fail
    go_ret
    exact ⟨by rw [hn.out]; rfl, grown_trans GE.out (World.grownBy_alloc _ _ none)⟩
   ·by_cases h2 : hi < x
    ·have hn := Lib.hid (vpk_not hk2 HR.out (by omega))
     go_wp2_with fail
     go_ret
     exact ⟨by rw [hn.out]; rfl, grown_trans GE.out (World.grownBy_alloc _ _ none)⟩
    ·go_wp2_with fail
     go_roundw
     case rel =>
      refine ⟨k + 1, by omega, by go_num, Lib.hid fun j y lo' hi' hj hr => ?_, Lib.hid (grown_trans hG.out (World.grownBy_alloc _ _ none))⟩
      by_cases hjk : j < k
      ·exact hK.out j y lo' hi' hjk hr
      ·obtain rfl : j = k := by omega
       rw [HR.out] at hr
       cases hr
       exact ⟨by omega, by omega⟩
     case measure => simp [RowKit.intOf]; omega
  ·obtain rfl : k = 8 := by omega
   obtain ⟨a0, a1, a2, a3, a4, a5, a6, a7, a8, a9⟩ := p_facts (kept_row HA.out.1 hG.out (by simp))
   have hv := Lib.hid (vpk_kept hK.out)
   go_wp2_with fail
   refine (bvalidp_any P.bits P.len hP.bits _).mono ?_
   rintro e w9 ⟨rfl, rfl⟩
   go_wp2_with fail
   go_ret
   exact ⟨by rw [hv.out]; rfl, GE.out⟩
end Go.Proofs.YtpogblengagpaaaDoor

/- empty -/
namespace Go.Proofs.YtpogblengagpaaaDoor
set_option maxRecDepth 100000
end Go.Proofs.YtpogblengagpaaaDoor
