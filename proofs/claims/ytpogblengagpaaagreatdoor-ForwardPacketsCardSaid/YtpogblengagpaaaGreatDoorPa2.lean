/- Parts of the proof, packed: Full, PkBits, PkOpn, FwOpn, IoRows, ToMath, ToMem, ToLeaf, ToFuns, ToSeek, ToRow, ToJoin, ToCheck, ToNear, ToHop. -/
import Derived.Test.YtpogblengagpaaaGreatDoorPa1
import Derived.Deep.LoopGhost
import Derived.Shelf.Abstract
import Derived.Deep.CutRange
import Derived.Deep.RegionHeld3
import Derived.Deep.QuietTactic
import Derived.BigQuiet
import Derived.IntWalk
import Derived.Lib.SmallJoins
/- Full, Valid, Count, First, Rank of the program; Full, Valid of the reference. -/
namespace Go.Proofs.YtpogblengagpaaaGreatDoor
set_option maxRecDepth 100000
open Go.RowKit Bs

def full (n : Int) : Nat := if vl n then lo n.toNat else 0
theorem full_val : full 8 = 255 ∧ full 16 = 65535 ∧ full 32 = 4294967295 ∧ full 64 = 18446744073709551615 := by decide +kernel
theorem full_false {n : Int} (h : vl n = false) : full n = 0 := by unfold full; rw [h]; rfl
theorem full_true {n : Int} (h : vl n = true) : full n = lo n.toNat := by unfold full; rw [h]; rfl
theorem full_u64 (n : Int) : U64 (full n) := by
 by_cases h : vl n = true
 ·rcases vl_cases h with rfl | rfl | rfl | rfl <;> (unfold U64; decide +kernel)
 ·rw [full_false (by simpa using h)]; unfold U64; decide
set_option maxHeartbeats 400000 in
theorem fullp_any (n : Int) (w : World) :
  Calls Tryz.prog 124 #[.int .i64 n] w fun e w' => e = .returned (.int .u64 ((full n : Nat) : Int)) ∧ w = w' := by
 by_cases h : vl n = true
 ·obtain ⟨v1, v2, v3, v4⟩ := full_val
  rcases vl_cases h with rfl | rfl | rfl | rfl
  all_goals clear h
  ·have V := Lib.hid v1; clear v1 v2 v3 v4
   go_enter Tryz.func124, Tryz.ntmps124
   go_wp2
   go_ret
   exact ⟨ret_int (by rw [V.out]; rfl), rfl⟩
  ·have V := Lib.hid v2; clear v1 v2 v3 v4
   go_enter Tryz.func124, Tryz.ntmps124
   go_wp2
   go_ret
   exact ⟨ret_int (by rw [V.out]; rfl), rfl⟩
  ·have V := Lib.hid v3; clear v1 v2 v3 v4
   go_enter Tryz.func124, Tryz.ntmps124
   go_wp2
   go_ret
   exact ⟨ret_int (by rw [V.out]; rfl), rfl⟩
  ·have V := Lib.hid v4; clear v1 v2 v3 v4
   go_enter Tryz.func124, Tryz.ntmps124
   go_wp2
   go_ret
   exact ⟨ret_int (by rw [V.out]; rfl), rfl⟩
 ·have hv : vl n = false := by simpa using h
  have V := Lib.hid (full_false hv)
  clear h
  go_enter Tryz.func124, Tryz.ntmps124
  go_wp2_with (go_at_call 111; refine (vlp_any _ _).mono ?_; rintro e w' ⟨rfl, rfl⟩)
  go_ret
  exact ⟨ret_int (by rw [V.out]; rfl), rfl⟩

set_option maxHeartbeats 400000 in
theorem fullr_any (n : Int) (w : World) :
  Calls Tryz.prog 49 #[.int .i64 n] w fun e w' => e = .returned (.int .u64 ((full n : Nat) : Int)) ∧ w = w' := by
 by_cases h : vl n = true
 ·have hv := h
  obtain ⟨N, rfl⟩ : ∃ N : Nat, n = (N : Int) := ⟨n.toNat, by rcases vl_cases h with rfl | rfl | rfl | rfl <;> rfl⟩
  have hN : N ≤ 64 := by rcases vl_cases h with h | h | h | h <;> omega
  have V := Lib.hid (full_true h)
  clear h
  go_enter Tryz.func49, Tryz.ntmps49
  go_wp2_with (go_at_call 72; refine (vlr_any _ _).mono ?_; rintro e w' ⟨rfl, rfl⟩)
  go_loop [3, 4] (fun b k => ∃ j : Nat, j ≤ N ∧ k = .int .i64 (j : Int) ∧ b = .int .u64 ((lo j : Nat) : Int)) (fun _ k => N - (RowKit.intOf k).toNat)
  case atStart => exact ⟨0, Nat.zero_le _, rfl, rfl⟩
  case round =>
   obtain ⟨j, hj, rfl, rfl⟩ := hrel
   by_cases hlt : j < N
   ·have hj64 : j < 64 := by omega
    have O := Lib.hid (or_lo j hj64)
    go_wp2_with (go_at_call 48; refine (bit_any _ hj64 _).mono ?_; rintro e w' ⟨rfl, rfl⟩)
    go_round
    case rel => exact ⟨j + 1, by omega, by go_num, by rw [O.out]⟩
    case measure => simp [RowKit.intOf]; omega
   ·go_wp2_with fail
    go_ret
    have hjN : j = N := by omega
    exact ⟨ret_int (by rw [V.out, hjN]; rfl), rfl⟩
 ·have hv : vl n = false := by simpa using h
  have V := Lib.hid (full_false hv)
  clear h
  go_enter Tryz.func49, Tryz.ntmps49
  go_wp2_with (go_at_call 72; refine (vlr_any _ _).mono ?_; rintro e w' ⟨rfl, rfl⟩)
  go_ret
  exact ⟨ret_int (by rw [V.out]; rfl), rfl⟩

def vb (b : Nat) (n : Int) : Bool := vl n && b &&& (18446744073709551615 - full n) == 0
set_option maxHeartbeats 400000 in
theorem bvalidp_any (b : Nat) (n : Int) (hb : U64 b) (w : World) :
  Calls Tryz.prog 101 #[.int .u64 (b : Int), .int .i64 n] w fun e w' => e = .returned (.bool (vb b n)) ∧ w = w' := by
 by_cases h : vl n = true
 ·have hv := h
  clear h
  go_enter Tryz.func101, Tryz.ntmps101
  go_wp2_with (first | (go_at_call 111; refine (vlp_any _ _).mono ?_; rintro e w' ⟨rfl, rfl⟩) | (go_at_call 124; refine (fullp_any _ _).mono ?_; rintro e w' ⟨rfl, rfl⟩))
  go_ret
  exact ⟨ret_bool (by unfold vb; rw [hv]; exact andNot_zero b _ hb (full_u64 n)), rfl⟩
 ·have hv : vl n = false := by simpa using h
  clear h
  go_enter Tryz.func101, Tryz.ntmps101
  go_wp2_with (go_at_call 111; refine (vlp_any _ _).mono ?_; rintro e w' ⟨rfl, rfl⟩)
  go_ret
  exact ⟨ret_bool (by unfold vb; rw [hv]; rfl), rfl⟩
set_option maxHeartbeats 400000 in
theorem bvalidr_any (b : Nat) (n : Int) (hb : U64 b) (w : World) :
  Calls Tryz.prog 75 #[.int .u64 (b : Int), .int .i64 n] w fun e w' => e = .returned (.bool (vb b n)) ∧ w = w' := by
 by_cases h : vl n = true
 ·have hv := h
  clear h
  go_enter Tryz.func75, Tryz.ntmps75
  go_wp2_with (first | (go_at_call 72; refine (vlr_any _ _).mono ?_; rintro e w' ⟨rfl, rfl⟩) | (go_at_call 49; refine (fullr_any _ _).mono ?_; rintro e w' ⟨rfl, rfl⟩))
  go_ret
  exact ⟨ret_bool (by unfold vb; rw [hv]; exact andNot_zero b _ hb (full_u64 n)), rfl⟩
 ·have hv : vl n = false := by simpa using h
  clear h
  go_enter Tryz.func75, Tryz.ntmps75
  go_wp2_with (go_at_call 72; refine (vlr_any _ _).mono ?_; rintro e w' ⟨rfl, rfl⟩)
  go_ret
  exact ⟨ret_bool (by unfold vb; rw [hv]; rfl), rfl⟩

def fst (b : Nat) : Int := if b = 0 then -1 else ((Lib.ctz 64 b : Nat) : Int)
set_option maxHeartbeats 400000 in
theorem firstp_any (b : Nat) (hb : U64 b) (w : World) (hT : Tb w) :
  Calls Tryz.prog 40 #[.int .u64 (b : Int)] w fun e w' => e = .returned (.int .i64 (fst b)) ∧ w = w' := by
 by_cases h0 : b = 0
 ·subst h0
  go_enter Tryz.func40, Tryz.ntmps40
  go_wp2
  go_ret
  exact ⟨rfl, rfl⟩
 ·have hz : ((b : Int) == 0) = false := by simp; omega
  have F : Hid (fst b = ((Lib.ctz 64 b : Nat) : Int)) := by show fst b = _; unfold fst; rw [if_neg h0]
  clear h0
  go_enter Tryz.func40, Tryz.ntmps40
  go_wp2_with (go_at_call 69; refine (tz_any _ hb _ hT).mono ?_; rintro e w' ⟨rfl, rfl⟩)
  go_ret
  exact ⟨ret_int (by rw [F.out]), rfl⟩
end Go.Proofs.YtpogblengagpaaaGreatDoor

/- Streams as lists of bits; the encoding of a packet as a list of bits. -/
namespace Go.Proofs.YtpogblengagpaaaGreatDoor
set_option maxRecDepth 100000
open Go.RowKit Bs
def nb (v k : Nat) : List Bool := (List.range k).map fun t => v.testBit (k - 1 - t)
def bf (B : List Bool) (i : Nat) : Bool := B.getD i false
def pk (B : List Bool) : List Nat := pz (bf B) B.length ((B.length + 7) / 8)
def pb (l : List Nat) : List Bool := (List.range (8 * l.length)).map (bt l)
structure Pk where
 mode : Int
 sub : Int
 set : Int
 len : Int
 ttl : Int
 ent : Int
 ing : Int
 pro : Int
 bits : Nat
 pay : ByteArray
def Pk.val (P : Pk) : Value := .agg #[.int .i64 P.mode, .int .i64 P.sub, .int .i64 P.set, .int .i64 P.len, .int .i64 P.ttl, .int .i64 P.ent, .int .i64 P.ing, .int .i64 P.pro, .int .u64 (P.bits : Int), .string P.pay]
structure Pk.Wf (P : Pk) : Prop where
 mode : I64 P.mode
 sub : I64 P.sub
 set : I64 P.set
 len : I64 P.len
 ttl : I64 P.ttl
 ent : I64 P.ent
 ing : I64 P.ing
 pro : I64 P.pro
 bits : U64 P.bits
 pay : P.pay.size ≤ maxLen
def vpk (P : Pk) : Bool := decide ((1 ≤ P.mode ∧ P.mode ≤ 3) ∧ (0 ≤ P.sub ∧ P.sub ≤ 7) ∧ (0 ≤ P.set ∧ P.set ≤ 31) ∧ (0 ≤ P.ttl ∧ P.ttl ≤ 63) ∧ (0 ≤ P.ent ∧ P.ent ≤ 1023) ∧ (0 ≤ P.ing ∧ P.ing ≤ 256) ∧ (0 ≤ P.pro ∧ P.pro ≤ 7) ∧ P.pay.size ≤ 64 ∧ vb P.bits P.len = true)
def lcode (n : Int) : Nat := if n = 8 then 0 else if n = 16 then 1 else if n = 32 then 2 else 3
def fl (P : Pk) : List (Nat × Nat) := [(2, 2), (P.mode.toNat, 2), (P.sub.toNat, 3), (P.set.toNat, 5), (lcode P.len, 2), (P.ttl.toNat, 6), (P.ent.toNat, 10), (P.ing.toNat, 9), (P.pro.toNat, 3), (P.pay.size, 7)]
def flb (f : List (Nat × Nat)) : List Bool := f.flatMap fun x => nb x.1 x.2
def byl (s : ByteArray) : List Nat := s.data.toList.map fun b => b.toNat
def body (P : Pk) : List Bool := flb (fl P) ++ nb P.bits P.len.toNat ++ pb (byl P.pay)
def ck (B : List Bool) : Nat := crcB (bf B) B.length
def enc (P : Pk) : List Nat := pk (body P ++ nb (ck (body P)) 16)
end Go.Proofs.YtpogblengagpaaaGreatDoor

/- A packet that comes in as an argument. -/
namespace Go.Proofs.YtpogblengagpaaaGreatDoor
set_option maxRecDepth 100000
open Go.ChangeShapes Go.WideShapes Go.ChangeAt Go.RowKit Go.Joins Bs
theorem array10 {xs : Array Value} (h : xs.size = 10) : ∃ c0 c1 c2 c3 c4 c5 c6 c7 c8 c9, xs = #[c0, c1, c2, c3, c4, c5, c6, c7, c8, c9] := by
 obtain ⟨l⟩ := xs
 match l, h with
 | [c0, c1, c2, c3, c4, c5, c6, c7, c8, c9], _ => exact ⟨c0, c1, c2, c3, c4, c5, c6, c7, c8, c9, rfl⟩
theorem list10 {A : Type} {xs : List A} (h : xs.length = 10) : ∃ x0 x1 x2 x3 x4 x5 x6 x7 x8 x9, xs = [x0, x1, x2, x3, x4, x5, x6, x7, x8, x9] := by
 match xs, h with
 | [x0, x1, x2, x3, x4, x5, x6, x7, x8, x9], _ => exact ⟨x0, x1, x2, x3, x4, x5, x6, x7, x8, x9, rfl⟩
theorem kit_cellsStr : Tryz.prog.cellsOf 9 = 1 := by kernel_rfl
section
variable {H : Type} {enc : TypeId × Value → H} {W : World} {base : Nat} {v : Value} {d : DataW H} {ps : List MemPlace}
theorem opn_packet (hval : Value.okWide Tryz.prog W .any base 28 v) (h : DataW.Trod enc Tryz.prog W 0 (fun _ => true) true 28 v d ps) : ∃ P : Pk, v = P.val ∧ P.Wf := by
 have hs := Tryz.underlying28
 obtain ⟨cs, rfl, hsz⟩ := okWide_struct hs hval
 obtain ⟨c0, c1, c2, c3, c4, c5, c6, c7, c8, c9, rfl⟩ := array10 (hsz.trans (by kernel_rfl))
 obtain ⟨fuel, hf⟩ := h
 obtain ⟨xs, n, _, _, hl, hlen, hf⟩ := DataW.trod_struct hs hf
 obtain ⟨x0, x1, x2, x3, x4, x5, x6, x7, x8, x9, rfl⟩ := list10 hlen
 have h0 : DataW.trod enc Tryz.prog W 0 (fun _ => true) true n 3 [c0] = some x0 := by simpa [Value.cells, kit_cellsInt] using hf 0 _ rfl
 have h1 : DataW.trod enc Tryz.prog W 0 (fun _ => true) true n 3 [c1] = some x1 := by simpa [Value.cells, kit_cellsInt] using hf 1 _ rfl
 have h2 : DataW.trod enc Tryz.prog W 0 (fun _ => true) true n 3 [c2] = some x2 := by simpa [Value.cells, kit_cellsInt] using hf 2 _ rfl
 have h3 : DataW.trod enc Tryz.prog W 0 (fun _ => true) true n 3 [c3] = some x3 := by simpa [Value.cells, kit_cellsInt] using hf 3 _ rfl
 have h4 : DataW.trod enc Tryz.prog W 0 (fun _ => true) true n 3 [c4] = some x4 := by simpa [Value.cells, kit_cellsInt] using hf 4 _ rfl
 have h5 : DataW.trod enc Tryz.prog W 0 (fun _ => true) true n 3 [c5] = some x5 := by simpa [Value.cells, kit_cellsInt] using hf 5 _ rfl
 have h6 : DataW.trod enc Tryz.prog W 0 (fun _ => true) true n 3 [c6] = some x6 := by simpa [Value.cells, kit_cellsInt] using hf 6 _ rfl
 have h7 : DataW.trod enc Tryz.prog W 0 (fun _ => true) true n 3 [c7] = some x7 := by simpa [Value.cells, kit_cellsInt] using hf 7 _ rfl
 have h8 : DataW.trod enc Tryz.prog W 0 (fun _ => true) true n 26 [c8] = some x8 := by simpa [Value.cells, kit_cellsU64] using hf 8 _ rfl
 have h9 : DataW.trod enc Tryz.prog W 0 (fun _ => true) true n 9 [c9] = some x9 := by simpa [Value.cells, kit_cellsStr] using hf 9 _ rfl
 obtain ⟨m0, e0, _, w0⟩ := DataW.trod_int Tryz.underlying3 h0
 obtain rfl : c0 = .int .i64 m0 := by simpa using e0
 obtain ⟨m1, e1, _, w1⟩ := DataW.trod_int Tryz.underlying3 h1
 obtain rfl : c1 = .int .i64 m1 := by simpa using e1
 obtain ⟨m2, e2, _, w2⟩ := DataW.trod_int Tryz.underlying3 h2
 obtain rfl : c2 = .int .i64 m2 := by simpa using e2
 obtain ⟨m3, e3, _, w3⟩ := DataW.trod_int Tryz.underlying3 h3
 obtain rfl : c3 = .int .i64 m3 := by simpa using e3
 obtain ⟨m4, e4, _, w4⟩ := DataW.trod_int Tryz.underlying3 h4
 obtain rfl : c4 = .int .i64 m4 := by simpa using e4
 obtain ⟨m5, e5, _, w5⟩ := DataW.trod_int Tryz.underlying3 h5
 obtain rfl : c5 = .int .i64 m5 := by simpa using e5
 obtain ⟨m6, e6, _, w6⟩ := DataW.trod_int Tryz.underlying3 h6
 obtain rfl : c6 = .int .i64 m6 := by simpa using e6
 obtain ⟨m7, e7, _, w7⟩ := DataW.trod_int Tryz.underlying3 h7
 obtain rfl : c7 = .int .i64 m7 := by simpa using e7
 obtain ⟨m8, e8, _, w8⟩ := DataW.trod_int Tryz.underlying26 h8
 obtain rfl : c8 = .int .u64 m8 := by simpa using e8
 obtain ⟨s9, e9, _, w9⟩ := DataW.trod_string Tryz.underlying9 h9
 obtain rfl : c9 = .string s9 := by simpa using e9
 have hb : 0 ≤ m8 ∧ m8 < 18446744073709551616 := by
  simp [Lit.wf, IntKind.min, IntKind.max, IntKind.bits, IntKind.signed] at w8
  omega
 obtain ⟨b, rfl⟩ := Int.eq_ofNat_of_zero_le hb.1
 exact ⟨⟨m0, m1, m2, m3, m4, m5, m6, m7, b, s9⟩, rfl, ⟨i64_wf w0, i64_wf w1, i64_wf w2, i64_wf w3, i64_wf w4, i64_wf w5, i64_wf w6, i64_wf w7, (show U64 b by unfold U64; omega), w9⟩⟩
end
end Go.Proofs.YtpogblengagpaaaGreatDoor

/- An outcome that comes in as an argument. -/
namespace Go.Proofs.YtpogblengagpaaaGreatDoor
set_option maxRecDepth 100000
open Go.ChangeShapes Go.WideShapes Go.ChangeAt Go.RowKit Go.Joins Bs
section
variable {H : Type} {enc : TypeId × Value → H} {W : World} {base : Nat} {v : Value} {d : DataW H} {ps : List MemPlace}
end
end Go.Proofs.YtpogblengagpaaaGreatDoor

/- Rows of the call's own that grow apart. -/
namespace Go.Proofs.YtpogblengagpaaaGreatDoor
set_option maxRecDepth 100000
open Go.RowKit Bs
def zv (x : Nat) : Value := .int .i64 (x : Int)
theorem zv_one {l : List Nat} : ∀ u ∈ l.map zv, u.oneCell' = true := by
 intro u hu
 obtain ⟨x, _, rfl⟩ := List.mem_map.1 hu
 rfl
theorem wpList_append_ints {w : World} {ops : Array Oper} {rest : List Oper} {o : Oper} {a : Act} {Q : Exit → Act → World → Prop} (hgd : o.guard = none) (s x : Operand)
  (ho : o.op = .call { callee := .builtin .append, args := #[s, x], argTypes := #[22, 22] }) (base : Nat) (v : Value) (n : Nat) (l : List Nat) (hs : a.eval s = v) (hown : w.ownsRow base 3 1 v n (l.map zv))
  (p : Option Addr) (k c : Nat) (r : List Nat) (hx : a.eval x = .slice p k c) (hk : k = r.length) (hn0 : p = none → c = 0 ∧ k = 0) (hnews : ∀ ad, p = some ad → ∀ j u, (r.map zv)[j]? = some u → w.cell? (ad.add j) = some u) (h63 : n + r.length ≤ 100000) (hbase : base ≤ w.heap.size)
  (h : ∀ v' w', w'.ownsRow base 3 1 v' (n + r.length) ((l ++ r).map zv) → w.grownBy w' v.ownBlock → wpList Tryz.prog ops Q rest (a.put o.dst v') w') : wpList Tryz.prog ops Q (o :: rest) a w := by
 obtain ⟨i0, hi, hz0, hz1, hz2⟩ := info_parts info_int
 subst hk
 cases p with
 | none =>
  obtain ⟨rfl, hr⟩ := hn0 rfl
  obtain rfl := List.eq_nil_of_length_eq_zero hr
  refine wpList_append_own_none hgd s x 22 ho base 3 i0 1 Tryz.underlying22 hi v n (l.map zv) hs hown hx ?_
  refine h v w ?_ (grown_refl _ _)
  rw [List.append_nil]; exact hown
 | some ad =>
  refine wpList_append_own w hgd s x 22 ho base 3 i0 (.int .i64 0) 1 8 Tryz.underlying22 hi hz0 hz1 hz2 rfl (by decide) v n (l.map zv) hs hown ad r.length c (r.map zv) hx (by simp) (hnews ad rfl) zv_one (by unfold maxLen; omega) (by omega) hbase ?_
  intro v' w' h1 h2 _
  refine h v' w' ?_ h2
  rw [List.map_append]; exact h1
theorem tp_new2 {w1 w2 : World} {a b : Nat} (h : Tp w1 a) (k : w1.grownBy w2 (some b)) (hb : a < b) : Tp w2 a := by
 have hlt := h.lt
 obtain ⟨v, n, i, T⟩ := h
 have hb' : w2.heap[a]? = w1.heap[a]? := k.block a hlt (by intro e; have := Option.some.inj e; omega)
 refine ⟨v, n, i, (World.cell?_of_block (a := ⟨a, 0, none⟩) hb').trans T.l, (World.cell?_of_block (a := ⟨a, 1, none⟩) hb').trans T.p, (World.frozen?_of_block (a := ⟨a, 1, none⟩) hb').trans T.fr, ?_, T.le, T.len⟩
 obtain ⟨p, c, hv, hc⟩ := T.ints
 refine ⟨p, c, hv, fun hn => ?_⟩
 obtain ⟨g, off, hp, hg, hx⟩ := hc hn
 exact ⟨g, off, hp, hg, fun i hi => by obtain ⟨x, hx, hcell⟩ := hx i hi; exact ⟨x, hx, k.cell hcell (by intro e; have e2 : g = b := Option.some.inj e; omega)⟩⟩
theorem own_cap {w : World} {base n g cap : Nat} {e : TypeId} {xs : List Value} (h : w.ownsRow base e 1 (.slice (some ⟨g, 0, none⟩) n cap) n xs) : n ≤ cap ∧ cap ≤ maxLen := by
 rcases h.2 with ⟨h0, _⟩ | ⟨g', cap', cur, hv, _, _, hn, hc, _⟩
 ·cases h0
 ·injection hv with _ _ h3
  subst h3
  exact ⟨hn, hc⟩
theorem own_apart {w w1 : World} {base base2 g n cap : Nat} {e : TypeId} {v : Value} {m : Nat} {e2 : TypeId} {xs ys : List Value} (h : w.ownsRow base e 1 (.slice (some ⟨g, 0, none⟩) n cap) n xs) (hv : w.ownsRow base2 e2 1 v m ys) (hg : g < base2) (k : w.grownBy w1 v.ownBlock) : w1.ownsRow base e 1 (.slice (some ⟨g, 0, none⟩) n cap) n xs :=
 h.kept k (.inr (own_ne hv hg))
theorem St.own_grow {a base n : Nat} {W w w1 : World} {e : TypeId} {v : Value} {xs : List Value} (h : St a W w) (ho : w.ownsRow base e 1 v n xs) (hb : W.heap.size ≤ base) (ha : a < W.heap.size) (k : w.grownBy w1 v.ownBlock) : St a W w1 := by
 have g : W.grownBy w1 (some a) := ⟨k.os.trans h.1.os, k.tape.trans h.1.tape, k.output.trans h.1.output, Nat.le_trans h.1.size k.size, fun i hi hia => (k.block i (Nat.lt_of_lt_of_le hi h.1.size) (own_ne ho (by omega))).trans (h.1.block i hi hia)⟩
 refine ⟨g, ?_⟩
 cases hv : v.ownBlock with
 | none => rw [hv] at k; exact h.2.keep k
 | some b =>
  rw [hv] at k
  exact tp_new2 h.2 k (by have := (ho.lt b hv).1; omega)
theorem St.none_ {a : Nat} {W w w1 : World} (h : St a W w) (g : w.grownBy w1 none) : St a W w1 := ⟨grown_trans h.1 (grown_none g _), h.2.keep g⟩
end Go.Proofs.YtpogblengagpaaaGreatDoor

/- Topologies: the mathematics. -/
namespace Go.Proofs.YtpogblengagpaaaGreatDoor
set_option maxRecDepth 100000
open Go.RowKit Bs
structure Rt where
 id : Int
 cap : Bool
structure Lk where
 a : Int
 b : Int
 ca : Int
 cb : Int
 cp : Int
def rtC (r : Rt) : List Value := [.int .i64 r.id, .bool r.cap]
def lkC (l : Lk) : List Value := [.int .i64 l.a, .int .i64 l.b, .int .i64 l.ca, .int .i64 l.cb, .int .i64 l.cp]
def wrId (r : Rt) : Bool := !decide (1 ≤ r.id ∧ r.id ≤ 99)
def wrNum (l : Lk) : Bool := !decide ((1 ≤ l.ca ∧ l.ca ≤ 1000) ∧ (1 ≤ l.cb ∧ l.cb ≤ 1000) ∧ (0 ≤ l.cp ∧ l.cp ≤ 1000))
def hasR (R : List Rt) (x : Int) : Bool := R.any fun r => decide (r.id = x)
def unk (R : List Rt) (l : Lk) : Bool := !hasR R l.a || !hasR R l.b
def wrEnd (l : Lk) : Bool := decide (l.b ≤ l.a)
def ltR (r s : Rt) : Bool := decide (r.id < s.id)
def ltL (l m : Lk) : Bool := decide (l.a < m.a ∨ (l.a = m.a ∧ l.b < m.b))
def ascB {α : Type} (f : α → α → Bool) : List α → Bool
 | a :: b :: t => f a b && ascB f (b :: t)
 | _ => true
theorem ascB_iff {α : Type} (f : α → α → Bool) : ∀ l : List α, ascB f l = true ↔ ∀ i x y, l[i]? = some x → l[i + 1]? = some y → f x y = true
 | [] => by simp [ascB]
 | [a] => by simp [ascB]
 | a :: b :: t => by
  rw [ascB, Bool.and_eq_true, ascB_iff f (b :: t)]
  constructor
  ·rintro ⟨h1, h2⟩ i x y hx hy
   cases i with
   | zero => simp at hx hy; subst hx; subst hy; exact h1
   | succ i => exact h2 i x y (by simpa using hx) (by simpa using hy)
  ·intro h
   exact ⟨h 0 a b rfl rfl, fun i x y hx hy => h (i + 1) x y (by simpa using hx) (by simpa using hy)⟩
def chk (R : List Rt) (L : List Lk) : Int :=
 if 24 < R.length ∨ 60 < L.length then 3
 else if R.any wrId then 2
 else if !ascB ltR R then 25
 else if L.any wrNum then 2
 else if L.any (unk R) then 4
 else if L.any wrEnd then 8
 else if !ascB ltL L then 25 else 0
theorem any_take {α : Type} {p : α → Bool} {l : List α} {k : Nat} {x : α} (h : (l.take k).any p = false) (hx : l[k]? = some x) (hp : p x = false) : (l.take (k + 1)).any p = false := by
 rw [List.take_add_one, List.any_append, h, hx]
 simpa using hp
theorem any_at {α : Type} {p : α → Bool} {l : List α} {k : Nat} {x : α} (hx : l[k]? = some x) (hp : p x = true) : l.any p = true :=
 List.any_eq_true.2 ⟨x, List.mem_of_getElem? hx, hp⟩
theorem any_end {α : Type} {p : α → Bool} {l : List α} {k : Nat} (h : (l.take k).any p = false) (hk : l.length ≤ k) : l.any p = false := by
 rwa [List.take_of_length_le hk] at h
theorem flat_at {α : Type} (f : α → List Value) (n : Nat) (hf : ∀ x, (f x).length = n) : ∀ (l : List α) (i j : Nat) (x : α), l[i]? = some x → j < n → (l.flatMap f)[i * n + j]? = (f x)[j]?
 | [], i, j, x, h, _ => by simp at h
 | m :: l, 0, j, x, h, hj => by
  obtain rfl : m = x := by simpa using h
  rw [List.flatMap_cons, Nat.zero_mul, Nat.zero_add, List.getElem?_append_left (by rw [hf]; exact hj)]
 | m :: l, i + 1, j, x, h, hj => by
  rw [List.flatMap_cons, List.getElem?_append_right (by rw [hf, Nat.add_mul]; omega), show (i + 1) * n + j - (f m).length = i * n + j by rw [hf, Nat.add_mul]; omega]
  exact flat_at f n hf l i j x (by simpa using h) hj
theorem flat_len {α : Type} (f : α → List Value) (n : Nat) (hf : ∀ x, (f x).length = n) : ∀ (l : List α), (l.flatMap f).length = l.length * n
 | [] => by simp
 | m :: l => by rw [List.flatMap_cons, List.length_append, hf, flat_len f n hf l, List.length_cons, Nat.add_mul]; omega
end Go.Proofs.YtpogblengagpaaaGreatDoor

/- Topologies in memory. -/
namespace Go.Proofs.YtpogblengagpaaaGreatDoor
set_option maxRecDepth 100000
open Go.RowKit Bs
theorem tone_box (w : World) (A : Array Value) (t : TypeId) : (w.alloc (.cells A t)).heap[w.heap.size]? = some (.cells A t (0, 0)) ∧ w.grownBy (w.alloc (.cells A t)) none :=
 ⟨heap_alloc_new w _, World.grownBy_alloc w _ _⟩
def RdF (w : World) (q : Nat → Prop) (v : Value) (n : Nat) (xs : List Value) : Prop :=
 ∃ p c, v = .slice p n c ∧ (xs ≠ [] → ∃ b off, p = some ⟨b, off, none⟩ ∧ q b ∧ ∀ i x, xs[i]? = some x → w.cell? ⟨b, off + i, none⟩ = some x)
theorem RdF.grown {w w' : World} {q : Nat → Prop} {v : Value} {n : Nat} {xs : List Value} {r : Option Nat} (h : RdF w q v n xs) (g : w.grownBy w' r) (hq : ∀ b, q b → some b ≠ r) : RdF w' q v n xs := by
 obtain ⟨p, c, hv, hc⟩ := h
 refine ⟨p, c, hv, fun hne => ?_⟩
 obtain ⟨b, off, hp, hb, hx⟩ := hc hne
 exact ⟨b, off, hp, hb, fun i x hi => g.cell (hx i x hi) (hq b hb)⟩
theorem RdF.keep {w w' : World} {q : Nat → Prop} {v : Value} {n : Nat} {xs : List Value} (h : RdF w q v n xs) (g : w.grownBy w' none) : RdF w' q v n xs := h.grown g (fun _ _ => by simp)
theorem RdF.mono {w : World} {q q' : Nat → Prop} {v : Value} {n : Nat} {xs : List Value} (h : RdF w q v n xs) (hq : ∀ b, q b → q' b) : RdF w q' v n xs := by
 obtain ⟨p, c, hv, hc⟩ := h
 refine ⟨p, c, hv, fun hne => ?_⟩
 obtain ⟨b, off, hp, hb, hx⟩ := hc hne
 exact ⟨b, off, hp, hq b hb, hx⟩
theorem rdf_nil (w : World) (q : Nat → Prop) (p : Option Addr) (c : Nat) : RdF w q (.slice p 0 c) 0 [] := ⟨p, c, rfl, fun h => absurd rfl h⟩
theorem rdf_of_own {w : World} {base size : Nat} {e : TypeId} {v : Value} {n : Nat} {xs : List Value} (h : w.ownsRow base e size v n xs) : RdF w (base ≤ ·) v n xs := by
 rcases h.2 with ⟨rfl, h0⟩ | ⟨g, cap, cur, rfl, hb, hg, _⟩
 ·subst h0
  have hl : xs = [] := List.eq_nil_of_length_eq_zero (by have := h.1; omega)
  exact ⟨none, 0, rfl, fun hne => absurd hl hne⟩
 ·refine ⟨some ⟨g, 0, none⟩, cap, rfl, fun _ => ⟨g, 0, rfl, hb, fun i x hi => ?_⟩⟩
  have := h.cells (g := g) rfl i x hi
  have hadd : (⟨g, 0, none⟩ : Addr).add i = ⟨g, 0 + i, none⟩ := by unfold Addr.add; split <;> simp_all
  rw [hadd] at this
  exact this
theorem RdF.cells {α : Type} {f : α → List Value} {k : Nat} (hf : ∀ x, (f x).length = k) (hk : 0 < k) {w : World} {q : Nat → Prop} {p : Option Addr} {n c : Nat} {l : List α} (h : RdF w q (.slice p n c) l.length (l.flatMap f)) (hn : 0 < l.length) :
  n = l.length ∧ ∃ b off, p = some ⟨b, off, none⟩ ∧ q b ∧ ∀ i x, l[i]? = some x → ∀ j y, (f x)[j]? = some y → w.cell? ⟨b, off + i * k + j, none⟩ = some y := by
 obtain ⟨p1, c1, e1, hx⟩ := h
 injection e1 with a1 a2 a3
 subst a1
 have hne : l.flatMap f ≠ [] := by
  intro e
  have h2 := flat_len f k hf l
  rw [e, List.length_nil] at h2
  have := Nat.mul_pos hn hk
  omega
 obtain ⟨b, off, hp, hq, hc⟩ := hx hne
 refine ⟨a2, b, off, hp, hq, fun i x hi j y hj => ?_⟩
 have hjk : j < k := by
  have := (List.getElem?_eq_some_iff.1 hj).1
  rw [hf] at this
  exact this
 rw [Nat.add_assoc]
 exact hc _ _ ((flat_at f k hf l i j x hi hjk).trans hj)
abbrev RdR (w : World) (q : Nat → Prop) (v : Value) (R : List Rt) : Prop := RdF w q v R.length (R.flatMap rtC)
abbrev RdL5 (w : World) (q : Nat → Prop) (v : Value) (L : List Lk) : Prop := RdF w q v L.length (L.flatMap lkC)
theorem rdr_cells {w : World} {q : Nat → Prop} {p : Option Addr} {n c : Nat} {R : List Rt} (h : RdR w q (.slice p n c) R) (hn : 0 < R.length) :
  n = R.length ∧ ∃ b off, p = some ⟨b, off, none⟩ ∧ q b ∧ ∀ i x, R[i]? = some x → w.cell? ⟨b, off + i * 2, none⟩ = some (.int .i64 x.id) ∧ w.cell? ⟨b, off + i * 2 + 1, none⟩ = some (.bool x.cap) := by
 obtain ⟨h0, b, off, hp, hq, hc⟩ := RdF.cells (f := rtC) (k := 2) (fun _ => rfl) (by decide) h hn
 exact ⟨h0, b, off, hp, hq, fun i x hi => ⟨hc i x hi 0 _ rfl, hc i x hi 1 _ rfl⟩⟩
theorem rdl_cells {w : World} {q : Nat → Prop} {p : Option Addr} {n c : Nat} {L : List Lk} (h : RdL5 w q (.slice p n c) L) (hn : 0 < L.length) :
  n = L.length ∧ ∃ b off, p = some ⟨b, off, none⟩ ∧ q b ∧ ∀ i x, L[i]? = some x → w.cell? ⟨b, off + i * 5, none⟩ = some (.int .i64 x.a) ∧ w.cell? ⟨b, off + i * 5 + 1, none⟩ = some (.int .i64 x.b) ∧ w.cell? ⟨b, off + i * 5 + 2, none⟩ = some (.int .i64 x.ca) ∧ w.cell? ⟨b, off + i * 5 + 3, none⟩ = some (.int .i64 x.cb) ∧ w.cell? ⟨b, off + i * 5 + 4, none⟩ = some (.int .i64 x.cp) := by
 obtain ⟨h0, b, off, hp, hq, hc⟩ := RdF.cells (f := lkC) (k := 5) (fun _ => rfl) (by decide) h hn
 exact ⟨h0, b, off, hp, hq, fun i x hi => ⟨hc i x hi 0 _ rfl, hc i x hi 1 _ rfl, hc i x hi 2 _ rfl, hc i x hi 3 _ rfl, hc i x hi 4 _ rfl⟩⟩
structure Tg where
 R : List Rt
 L : List Lk
 pR : Option Addr
 cR : Nat
 pL : Option Addr
 cL : Nat
def Tg.vR (T : Tg) : Value := .slice T.pR T.R.length T.cR
def Tg.vL (T : Tg) : Value := .slice T.pL T.L.length T.cL
structure TgOk (w : World) (q : Nat → Prop) (T : Tg) : Prop where
 r : RdR w q (.slice T.pR T.R.length T.cR) T.R
 l : RdL5 w q (.slice T.pL T.L.length T.cL) T.L
 cr : T.R.length ≤ T.cR ∧ T.cR ≤ 9223372036854775807
 cl : T.L.length ≤ T.cL ∧ T.cL ≤ 9223372036854775807
theorem TgOk.keep {w w' : World} {q : Nat → Prop} {T : Tg} (h : TgOk w q T) (g : w.grownBy w' none) : TgOk w' q T := ⟨h.r.keep g, h.l.keep g, h.cr, h.cl⟩
theorem TgOk.grown {w w' : World} {q : Nat → Prop} {T : Tg} {r : Option Nat} (h : TgOk w q T) (g : w.grownBy w' r) (hq : ∀ b, q b → some b ≠ r) : TgOk w' q T := ⟨h.r.grown g hq, h.l.grown g hq, h.cr, h.cl⟩
theorem TgOk.mono {w : World} {q q' : Nat → Prop} {T : Tg} (h : TgOk w q T) (hq : ∀ b, q b → q' b) : TgOk w q' T := ⟨h.r.mono hq, h.l.mono hq, h.cr, h.cl⟩
end Go.Proofs.YtpogblengagpaaaGreatDoor

/- topology: within, wrongID, wrongNumbers, the comparisons. -/
namespace Go.Proofs.YtpogblengagpaaaGreatDoor
set_option maxRecDepth 100000
open Go.RowKit Bs
theorem lk_facts {w : World} {b : Nat} {l : Lk} (h : w.heap[b]? = some (.cells #[.int .i64 l.a, .int .i64 l.b, .int .i64 l.ca, .int .i64 l.cb, .int .i64 l.cp] 135 (0, 0))) :
  w.cell? ⟨b, 0, none⟩ = some (.int .i64 l.a) ∧ w.cell? ⟨b, 1, none⟩ = some (.int .i64 l.b) ∧ w.cell? ⟨b, 2, none⟩ = some (.int .i64 l.ca) ∧ w.cell? ⟨b, 3, none⟩ = some (.int .i64 l.cb) ∧ w.cell? ⟨b, 4, none⟩ = some (.int .i64 l.cp) :=
 ⟨cell_of_row _ _ _ _ _ _ h, cell_of_row _ _ _ _ _ _ h, cell_of_row _ _ _ _ _ _ h, cell_of_row _ _ _ _ _ _ h, cell_of_row _ _ _ _ _ _ h⟩
end Go.Proofs.YtpogblengagpaaaGreatDoor

/- topology: lists that are searched by functions; what is ascending. -/
namespace Go.Proofs.YtpogblengagpaaaGreatDoor
set_option maxRecDepth 100000
open Go.RowKit Bs
theorem rdi_at {w : World} {q : Nat → Prop} {p : Option Addr} {n c : Nat} {r : List Int} (h : Rd w q (.slice p n c) (r.map (fun z => Value.int .i64 z))) (hn : 0 < r.length) :
  n = r.length ∧ ∃ b off, p = some ⟨b, off, none⟩ ∧ q b ∧ ∀ i x, r[i]? = some x → w.cell? ⟨b, off + i, none⟩ = some (.int .i64 x) := by
 obtain ⟨p1, c1, e1, hx⟩ := h
 injection e1 with a1 a2 a3
 subst a1
 obtain ⟨b, off, hp, hq, hc⟩ := hx (by intro e; have := congrArg List.length e; simp only [List.length_map, List.length_nil] at this; omega)
 refine ⟨by rw [a2, List.length_map], b, off, hp, hq, fun i x hi => hc i _ ?_⟩
 rw [List.getElem?_map, hi]; rfl
end Go.Proofs.YtpogblengagpaaaGreatDoor

/- topology: IndexFunc, ContainsFunc and ascending at routers and at links. -/
namespace Go.Proofs.YtpogblengagpaaaGreatDoor
set_option maxRecDepth 100000
open Go.RowKit Bs
abbrev EnterF (g : Nat) : Prop := ∀ (args : Array Value) (w : World), (callFunc g args).run Tryz.prog w = .ok (.enter g args) w

theorem ascR_end {R : List Rt} (h : ∀ i x y, i + 1 < R.length → R[i]? = some x → R[i + 1]? = some y → ltR x y = true) : ascB ltR R = true :=
 (ascB_iff _ _).2 fun i x y hx hy => h i x y ((List.getElem?_eq_some_iff.1 hy).1) hx hy
theorem ascR_hit {R : List Rt} {i : Nat} {x y : Rt} (hx : R[i]? = some x) (hy : R[i + 1]? = some y) (h : ltR x y = false) : ascB ltR R = false := by
 rw [Bool.eq_false_iff]
 intro h2
 have := (ascB_iff _ _).1 h2 i x y hx hy
 rw [h] at this; cases this
theorem ascL_end {R : List Lk} (h : ∀ i x y, i + 1 < R.length → R[i]? = some x → R[i + 1]? = some y → ltL x y = true) : ascB ltL R = true :=
 (ascB_iff _ _).2 fun i x y hx hy => h i x y ((List.getElem?_eq_some_iff.1 hy).1) hx hy
theorem ascL_hit {R : List Lk} {i : Nat} {x y : Lk} (hx : R[i]? = some x) (hy : R[i + 1]? = some y) (h : ltL x y = false) : ascB ltL R = false := by
 rw [Bool.eq_false_iff]
 intro h2
 have := (ascB_iff _ _).1 h2 i x y hx hy
 rw [h] at this; cases this
end Go.Proofs.YtpogblengagpaaaGreatDoor

/- Blocks that a call fills; the array of the routers that are known. -/
namespace Go.Proofs.YtpogblengagpaaaGreatDoor
set_option maxRecDepth 100000
open Go.RowKit Bs
def TRow (w : World) (g : Nat) (t : TypeId) (xs : List Value) : Prop := w.heap[g]? = some (.cells xs.toArray t (0, 0))
theorem TRow.set {w : World} {g : Nat} {t : TypeId} {xs : List Value} (h : TRow w g t xs) (j : Nat) (v : Value) : TRow (w.setCell ⟨g, j, none⟩ v) g t (xs.set j v) := by
 have := heap_setCell_same w g j _ _ v h
 rw [List.setIfInBounds_toArray] at this
 exact this
theorem TRow.cell {w : World} {g : Nat} {t : TypeId} {xs : List Value} (h : TRow w g t xs) {j : Nat} {x : Value} (hj : xs[j]? = some x) : w.cell? ⟨g, j, none⟩ = some x := by
 rw [cell_of_row _ _ _ _ _ _ h]
 simpa using hj
theorem TRow.frozen {w : World} {g : Nat} {t : TypeId} {xs : List Value} (h : TRow w g t xs) (j : Nat) : w.frozen? ⟨g, j, none⟩ = false := frozen_of_row _ _ _ _ _ h
theorem TRow.kept {w w' : World} {g : Nat} {t : TypeId} {xs : List Value} {r : Option Nat} (h : TRow w g t xs) (k : w.grownBy w' r) (hr : some g ≠ r) : TRow w' g t xs := kept_row h k hr
theorem TRow.lt {w : World} {g : Nat} {t : TypeId} {xs : List Value} (h : TRow w g t xs) : g < w.heap.size := by
 unfold TRow at h
 rcases Nat.lt_or_ge g w.heap.size with h1 | h1
 ·exact h1
 ·rw [Array.getElem?_eq_none h1] at h; cases h
theorem hasR_range {R : List Rt} {x : Int} (hid : R.any wrId = false) (h : hasR R x = true) : 1 ≤ x ∧ x ≤ 99 := by
 obtain ⟨r, hr, e⟩ := List.any_eq_true.1 h
 rw [decide_eq_true_eq] at e
 subst e
 have := List.any_eq_false.1 hid r hr
 unfold wrId at this
 simpa using this
end Go.Proofs.YtpogblengagpaaaGreatDoor

/- empty -/
namespace Go.Proofs.YtpogblengagpaaaGreatDoor
set_option maxRecDepth 100000
end Go.Proofs.YtpogblengagpaaaGreatDoor

/- topology: Check, valid. -/
namespace Go.Proofs.YtpogblengagpaaaGreatDoor
set_option maxRecDepth 100000
open Go.RowKit Bs
structure CK (w : World) (T : Tg) (wr : World) : Prop where
 box : wr.heap[w.heap.size]? = some (.cells #[.slice T.pR T.R.length T.cR, .slice T.pL T.L.length T.cL] 68 (0, 0))
 gr : w.grownBy wr none
 ok : TgOk wr (fun _ => True) T
theorem CK.keep {w wr w' : World} {T : Tg} (h : CK w T wr) (g : wr.grownBy w' none) : CK w T w' := ⟨kept_row h.box g (by simp), grown_trans h.gr g, h.ok.keep g⟩
theorem CK.start {w : World} {q : Nat → Prop} {T : Tg} (h : TgOk w q T) : CK w T (w.alloc (.cells #[.slice T.pR T.R.length T.cR, .slice T.pL T.L.length T.cL] 68)) :=
 have k := World.grownBy_alloc w (.cells #[.slice T.pR T.R.length T.cR, .slice T.pL T.L.length T.cL] 68) none
 ⟨heap_alloc_new w _, k, (h.mono fun _ _ => trivial).keep k⟩
def okT (R : List Rt) (L : List Lk) : Bool := chk R L == 0
end Go.Proofs.YtpogblengagpaaaGreatDoor

/- topology: neighbours. -/
namespace Go.Proofs.YtpogblengagpaaaGreatDoor
set_option maxRecDepth 100000
open Go.RowKit Bs
def tv (z : Int) : Value := .int .i64 z
def nb1 (x : Int) (l : Lk) : List Int := (if l.b = x then [l.a] else []) ++ (if l.a = x then [l.b] else [])
def nbL (L : List Lk) (x : Int) : List Int := L.flatMap (nb1 x)
structure NK (w : World) (v : Value) (l : List Int) (wr : World) : Prop where
 own : wr.ownsRow w.heap.size 3 1 v l.length (l.map tv)
 gr : w.grownBy wr none
theorem NK.keep {w wr w' : World} {v : Value} {l : List Int} (h : NK w v l wr) (g : wr.grownBy w' none) : NK w v l w' :=
 ⟨h.own.kept g (by cases hv : v.ownBlock <;> simp), grown_trans h.gr g⟩
theorem NK.more {w wr wy w1 : World} {v v' : Value} {l : List Int} {x : Int} {o : Obj} (h : NK w v l wr) (g : wr.grownBy wy none) (hown' : w1.ownsRow w.heap.size 3 1 v' (l.length + 1) (l.map tv ++ [.int .i64 x])) (hg : (wy.alloc o).grownBy w1 v.ownBlock) :
  NK w v' (l ++ [x]) w1 ∧ (∀ b ob, wr.heap.size ≤ b → wy.heap[b]? = some ob → w1.heap[b]? = some ob) := by
 have hy := h.keep g
 refine ⟨⟨?_, own_step hy.gr hy.own hg⟩, fun b ob hb he => ?_⟩
 ·rw [List.length_append, List.map_append]; exact hown'
 ·have k0 := World.grownBy_alloc wy o none
  refine kept_row (kept_row he k0 (by simp)) hg (fun e => ?_)
  have := (h.own.lt b e.symm).2
  omega
def TRet (l : List Int) (w : World) (e : Ending) (w' : World) : Prop := ∃ p c, e = .returned (.slice p l.length c) ∧ Rd w' (w.heap.size ≤ ·) (.slice p l.length c) (l.map tv) ∧ (l.length ≤ c ∧ c ≤ 9223372036854775807) ∧ (p = none → c = 0) ∧ w.grownBy w' none
theorem NK.ret {w wr : World} {v : Value} {l : List Int} (h : NK w v l wr) : ∃ p c, v = .slice p l.length c ∧ Rd wr (w.heap.size ≤ ·) (.slice p l.length c) (l.map tv) ∧ (l.length ≤ c ∧ c ≤ 9223372036854775807) ∧ (p = none → c = 0) ∧ w.grownBy wr none := by
 have hr := rd_of_own h.own
 rcases Joins.ownsRow_forms h.own with ⟨e, e0⟩ | ⟨g, cap, e⟩
 ·subst e
  obtain rfl := List.eq_nil_of_length_eq_zero e0
  exact ⟨none, 0, rfl, hr, ⟨Nat.le_refl _, by omega⟩, fun _ => rfl, h.gr⟩
 ·subst e
  have := own_cap h.own
  unfold maxLen at this
  exact ⟨_, cap, rfl, hr, ⟨this.1, by omega⟩, (fun e => by cases e), h.gr⟩
end Go.Proofs.YtpogblengagpaaaGreatDoor

/- topology: Contains of numbers and of hops; the closures of Without. -/
namespace Go.Proofs.YtpogblengagpaaaGreatDoor
set_option maxRecDepth 100000
open Go.RowKit Bs
structure Hp where
 f : Int
 t : Int
def hasI (X : List Int) (x : Int) : Bool := X.any fun y => decide (y = x)
end Go.Proofs.YtpogblengagpaaaGreatDoor
