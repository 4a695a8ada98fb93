/- Parts of the proof, packed: PkRefs2, IoCheckR, PkText, PkBox, Ref, Draw, PkTape, Fmt, Of, PkOnly, PkRest, PkMask, MaPln, MaLay, MaSrt, MaAll, ToCpy, ToBs. -/
import Derived.Test.YtpogblengagpaaaGreatDoorLo6
import Derived.Test.YtpogblengagpaaaGreatDoorLo2
import Derived.Lib.BufferRead
import Derived.Test.YtpogblengagpaaaGreatDoorLo1
import Derived.Test.YtpogblengagpaaaGreatDoorLo3
import Derived.Lib.SlBytesRow
import Derived.Laws.IdiomStrings
import Derived.Deep.CutRange
import Derived.Shelf.SlIterI.Sorted
import Derived.Shelf.SlLaysM
import Derived.Shelf.SortM.Plain
import Derived.Shelf.SortM.SortNone
import Derived.Deep.AppendLies
import Derived.Test.YtpogblengagpaaaGreatDoorLo4
import Derived.ArgAppend
import Derived.Laws.IdiomCopy
import Derived.Laws.BitsLemmas
import Derived.Deep.CutBlock
/- packet: the reference's Size and Plane. -/
namespace Go.Proofs.YtpogblengagpaaaGreatDoor
set_option maxRecDepth 100000
open Go.RowKit Bs
end Go.Proofs.YtpogblengagpaaaGreatDoor

/- The reference's check number; Same. -/
namespace Go.Proofs.YtpogblengagpaaaGreatDoor
set_option maxRecDepth 100000
open Go.RowKit Bs
def bs (l : List Nat) : ByteArray := ⟨(l.map fun x => UInt8.ofNat x).toArray⟩
def same (l : List Nat) (n : Int) (l' : List Nat) (n' : Int) : Bool := n == n' && (bs l).toList == (bs l').toList
end Go.Proofs.YtpogblengagpaaaGreatDoor

/- The tape's texts. -/
namespace Go.Proofs.YtpogblengagpaaaGreatDoor
set_option maxRecDepth 100000
open Go.RowKit Bs
def bval (x : UInt8) : Value := .int .u8 (x.toNat : Int)
theorem conv_bytes {w : World} {q : Nat → Prop} {v : Value} {l : List UInt8} (hR : Rd w q v (l.map bval)) (h0 : l = [] → v = .slice none 0 0) :
  (convert 109 9 v).run Tryz.prog w = .ok (.string ⟨l.toArray⟩) w := by
 by_cases hl : l = []
 ·rw [h0 hl, hl]
  exact Lib.run_convert_nil_bytes (P := Tryz.prog) w 109 9 5 0 Tryz.underlying109 Tryz.underlying5 Tryz.underlying9
 ·obtain ⟨p, c, rfl, hc⟩ := hR
  obtain ⟨b, off, rfl, _, hcell⟩ := hc (by simpa using hl)
  rw [List.length_map]
  refine run_convert_bytes_back (P := Tryz.prog) w 109 9 5 ⟨b, off, none⟩ c l Tryz.underlying109 Tryz.underlying5 Tryz.underlying9 (fun j hj => ?_)
  have hadd : (⟨b, off, none⟩ : Addr).add j = ⟨b, off + j, none⟩ := by unfold Addr.add; split <;> simp_all
  rw [hadd]
  exact hcell j _ (by rw [List.getElem?_map, List.getElem?_eq_getElem hj]; rfl)
def TextRel (a most : Nat) (w : World) (v : Value) (k : Nat) (wr : World) : Prop :=
 ∃ l : List UInt8, l.length + k ≤ most ∧ wr.ownsRow w.heap.size 5 1 v l.length (l.map bval) ∧ (l = [] → v = .slice none 0 0) ∧ St a w wr
theorem TextRel.open_ {a most k : Nat} {w wr : World} {v : Value} (h : TextRel a most w v k wr) : ∃ l : List UInt8, l.length + k ≤ most ∧ wr.ownsRow w.heap.size 5 1 v l.length (l.map bval) ∧ (l = [] → v = .slice none 0 0) ∧ St a w wr := h
def TextPost (a most : Nat) (w : World) (e : Ending) (w' : World) : Prop := ∃ s : ByteArray, e = .returned (.string s) ∧ s.size ≤ most ∧ St a w w'
set_option maxHeartbeats 1600000 in
theorem text_any (a : Nat) (most : Nat) (hm : most ≤ 1000) (w : World) (hT : Tp w a) :
  Calls Tryz.prog 32 #[.pointer (some ⟨a, 0, none⟩), .int .i64 (most : Int)] w fun e w' => TextPost a most w e w' := by
 obtain ⟨i0, hi, hz0, hz1, hz2⟩ := info_parts info_u8
 have ha := hT.lt
 go_enter Tryz.func32, Tryz.ntmps32
 go_wp2_with fail
 refine (range_any a 0 (most : Int) (by omega) (by omega) (by omega) (by omega) _ hT).mono ?_
 rintro e w1 ⟨r, rfl, hr, hs1⟩
 obtain ⟨K, rfl⟩ := Int.eq_ofNat_of_zero_le hr.1
 have hK : K ≤ most := by unfold RangeOf at hr; omega
 have L0 : Hid (TextRel a most w (.slice none 0 0) K w1) :=
  Lib.hid ⟨[], by simpa using hK, World.ownsRow_nil _ _ _ _, fun _ => rfl, hs1⟩
 clear hr hs1
 go_wp2_with fail
 go_loopw [5, 6] (fun v i wr => ∃ k : Nat, k ≤ most ∧ i = .int .i64 (k : Int) ∧ TextRel a most w v k wr) (fun _ i _ => (RowKit.intOf i).toNat)
 case atStart => exact ⟨K, hK, rfl, L0.out⟩
 case round =>
  obtain ⟨k, hk, rfl, hL⟩ := hrel
  obtain ⟨l, hlk, hown0, hnil, hs⟩ := hL.open_
  clear hL L0
  by_cases hk1 : 1 ≤ k
  ·clear hnil
   go_wp2_with fail
   refine (next_any a 256 (by unfold I64; omega) _ hs.2).mono ?_
   rintro e w2 ⟨x, rfl, hx, hs2⟩
   obtain ⟨X, rfl⟩ := Int.eq_ofNat_of_zero_le hx.1
   have hX : X < 256 := by have := hx.2.1 (by omega); omega
   have hown := own_kept ha hown0 hs2.1
   have HS := Lib.hid (hs.trans hs2)
   have HO := Lib.hid hown
   have hsz := HS.out.1.size
   have hll : l.length ≤ 1000 := by omega
   have HLK := Lib.hid hlk
   clear hx hs hs2 hown0
   go_wp2_with (at_builtin; refine wpList_append_own _ rfl _ _ 109 rfl w.heap.size 5 i0 (.int .u8 0) 1 1 Tryz.underlying109 hi hz0 hz1 hz2 rfl (by decide) _ _ _ rfl (hown.alloc _) ⟨w2.heap.size, 0, none⟩ 1 1 [.int .u8 (X : Int)] rfl rfl ?c1 ?c2 ?c3 ?c4 ?c5 ?_)
   case c1 => exact cell_one _ _ _
   case c2 => intro u hu; simp at hu; subst hu; rfl
   case c3 => unfold maxLen; omega
   case c4 => omega
   case c5 => simp; omega
   intro v' w3 hown' hg _
   have R : Hid (TextRel a most w v' (k - 1) w3) := by
    have e1 := st_append HS.out ha HO.out hg
    have ex : bval (UInt8.ofNat X) = .int .u8 (X : Int) := by
     show Value.int .u8 (((UInt8.ofNat X).toNat : Nat) : Int) = _
     rw [UInt8.toNat_ofNat', Nat.mod_eq_of_lt hX]
    exact Lib.hid ⟨l ++ [UInt8.ofNat X], by rw [List.length_append]; have := HLK.out; simp; omega, by rw [List.length_append, List.map_append, List.map_cons, List.map_nil, ex]; exact hown', fun e => by simp at e, e1⟩
   clear hown' hg hown
   go_wp2_with fail
   go_roundw
   case rel => exact ⟨k - 1, by omega, by congr 1; omega, R.out⟩
   case measure => simp [RowKit.intOf]; omega
  ·obtain rfl : k = 0 := by omega
   have hconv := conv_bytes (rd_of_own hown0) hnil
   have HS := Lib.hid hs
   have HL := Lib.hid hlk
   clear hown0 hnil hs hlk
   go_wp2_with fail
   go_ret
   exact ⟨_, rfl, by have := HL.out; show l.toArray.size ≤ most; simp; omega, HS.out⟩
end Go.Proofs.YtpogblengagpaaaGreatDoor

/- packet: a packet's block. -/
namespace Go.Proofs.YtpogblengagpaaaGreatDoor
set_option maxRecDepth 100000
open Go.RowKit Bs
def zpk : Array Value := #[.int .i64 0, .int .i64 0, .int .i64 0, .int .i64 0, .int .i64 0, .int .i64 0, .int .i64 0, .int .i64 0, .int .u64 0, .string ⟨#[]⟩]
theorem pput_row {w : World} {h : Nat} (v0 v1 v2 v3 v4 v5 v6 v7 v8 v9 : Value) (hr : w.heap[h]? = some (.cells zpk 28 (0, 0))) :
  ((((((((((w.setCell ⟨h, 0, none⟩ v0).setCell ⟨h, 1, none⟩ v1).setCell ⟨h, 2, none⟩ v2).setCell ⟨h, 3, none⟩ v3).setCell ⟨h, 4, none⟩ v4).setCell ⟨h, 5, none⟩ v5).setCell ⟨h, 6, none⟩ v6).setCell ⟨h, 7, none⟩ v7).setCell ⟨h, 8, none⟩ v8).setCell ⟨h, 9, none⟩ v9).heap[h]? = some (.cells #[v0, v1, v2, v3, v4, v5, v6, v7, v8, v9] 28 (0, 0)) := by
 have e0 := heap_setCell_same _ h 0 _ _ v0 hr
 generalize w.setCell ⟨h, 0, none⟩ v0 = w0 at *
 replace e0 : w0.heap[h]? = some (.cells #[v0, .int .i64 0, .int .i64 0, .int .i64 0, .int .i64 0, .int .i64 0, .int .i64 0, .int .i64 0, .int .u64 0, .string ⟨#[]⟩] 28 (0, 0)) := e0
 have e1 := heap_setCell_same _ h 1 _ _ v1 e0
 generalize w0.setCell ⟨h, 1, none⟩ v1 = w1 at *
 replace e1 : w1.heap[h]? = some (.cells #[v0, v1, .int .i64 0, .int .i64 0, .int .i64 0, .int .i64 0, .int .i64 0, .int .i64 0, .int .u64 0, .string ⟨#[]⟩] 28 (0, 0)) := e1
 have e2 := heap_setCell_same _ h 2 _ _ v2 e1
 generalize w1.setCell ⟨h, 2, none⟩ v2 = w2 at *
 replace e2 : w2.heap[h]? = some (.cells #[v0, v1, v2, .int .i64 0, .int .i64 0, .int .i64 0, .int .i64 0, .int .i64 0, .int .u64 0, .string ⟨#[]⟩] 28 (0, 0)) := e2
 have e3 := heap_setCell_same _ h 3 _ _ v3 e2
 generalize w2.setCell ⟨h, 3, none⟩ v3 = w3 at *
 replace e3 : w3.heap[h]? = some (.cells #[v0, v1, v2, v3, .int .i64 0, .int .i64 0, .int .i64 0, .int .i64 0, .int .u64 0, .string ⟨#[]⟩] 28 (0, 0)) := e3
 have e4 := heap_setCell_same _ h 4 _ _ v4 e3
 generalize w3.setCell ⟨h, 4, none⟩ v4 = w4 at *
 replace e4 : w4.heap[h]? = some (.cells #[v0, v1, v2, v3, v4, .int .i64 0, .int .i64 0, .int .i64 0, .int .u64 0, .string ⟨#[]⟩] 28 (0, 0)) := e4
 have e5 := heap_setCell_same _ h 5 _ _ v5 e4
 generalize w4.setCell ⟨h, 5, none⟩ v5 = w5 at *
 replace e5 : w5.heap[h]? = some (.cells #[v0, v1, v2, v3, v4, v5, .int .i64 0, .int .i64 0, .int .u64 0, .string ⟨#[]⟩] 28 (0, 0)) := e5
 have e6 := heap_setCell_same _ h 6 _ _ v6 e5
 generalize w5.setCell ⟨h, 6, none⟩ v6 = w6 at *
 replace e6 : w6.heap[h]? = some (.cells #[v0, v1, v2, v3, v4, v5, v6, .int .i64 0, .int .u64 0, .string ⟨#[]⟩] 28 (0, 0)) := e6
 have e7 := heap_setCell_same _ h 7 _ _ v7 e6
 generalize w6.setCell ⟨h, 7, none⟩ v7 = w7 at *
 replace e7 : w7.heap[h]? = some (.cells #[v0, v1, v2, v3, v4, v5, v6, v7, .int .u64 0, .string ⟨#[]⟩] 28 (0, 0)) := e7
 have e8 := heap_setCell_same _ h 8 _ _ v8 e7
 generalize w7.setCell ⟨h, 8, none⟩ v8 = w8 at *
 replace e8 : w8.heap[h]? = some (.cells #[v0, v1, v2, v3, v4, v5, v6, v7, v8, .string ⟨#[]⟩] 28 (0, 0)) := e8
 have e9 := heap_setCell_same _ h 9 _ _ v9 e8
 generalize w8.setCell ⟨h, 9, none⟩ v9 = w9 at *
 replace e9 : w9.heap[h]? = some (.cells #[v0, v1, v2, v3, v4, v5, v6, v7, v8, v9] 28 (0, 0)) := e9
 exact e9
theorem pput_grown (w : World) (h : Nat) (v0 v1 v2 v3 v4 v5 v6 v7 v8 v9 : Value) : w.grownBy ((((((((((w.setCell ⟨h, 0, none⟩ v0).setCell ⟨h, 1, none⟩ v1).setCell ⟨h, 2, none⟩ v2).setCell ⟨h, 3, none⟩ v3).setCell ⟨h, 4, none⟩ v4).setCell ⟨h, 5, none⟩ v5).setCell ⟨h, 6, none⟩ v6).setCell ⟨h, 7, none⟩ v7).setCell ⟨h, 8, none⟩ v8).setCell ⟨h, 9, none⟩ v9) (some h) := by
 exact grown_trans (grown_trans (grown_trans (grown_trans (grown_trans (grown_trans (grown_trans (grown_trans (grown_trans (grown_setCell _ ⟨h, 0, none⟩ _) (grown_setCell _ ⟨h, 1, none⟩ _)) (grown_setCell _ ⟨h, 2, none⟩ _)) (grown_setCell _ ⟨h, 3, none⟩ _)) (grown_setCell _ ⟨h, 4, none⟩ _)) (grown_setCell _ ⟨h, 5, none⟩ _)) (grown_setCell _ ⟨h, 6, none⟩ _)) (grown_setCell _ ⟨h, 7, none⟩ _)) (grown_setCell _ ⟨h, 8, none⟩ _)) (grown_setCell _ ⟨h, 9, none⟩ _)
theorem zp_cells {w : World} {h : Nat} (hr : w.heap[h]? = some (.cells zpk 28 (0, 0))) :
  (w.cell? ⟨h, 0, none⟩ = some (.int .i64 0) ∧ w.cell? ⟨h, 1, none⟩ = some (.int .i64 0) ∧ w.cell? ⟨h, 2, none⟩ = some (.int .i64 0) ∧ w.cell? ⟨h, 3, none⟩ = some (.int .i64 0) ∧ w.cell? ⟨h, 4, none⟩ = some (.int .i64 0) ∧ w.cell? ⟨h, 5, none⟩ = some (.int .i64 0) ∧ w.cell? ⟨h, 6, none⟩ = some (.int .i64 0) ∧ w.cell? ⟨h, 7, none⟩ = some (.int .i64 0) ∧ w.cell? ⟨h, 8, none⟩ = some (.int .u64 0) ∧ w.cell? ⟨h, 9, none⟩ = some (.string ⟨#[]⟩)) ∧ w.frozen? ⟨h, 0, none⟩ = false ∧ w.frozen? ⟨h, 1, none⟩ = false ∧ w.frozen? ⟨h, 2, none⟩ = false ∧ w.frozen? ⟨h, 3, none⟩ = false ∧ w.frozen? ⟨h, 4, none⟩ = false ∧ w.frozen? ⟨h, 5, none⟩ = false ∧ w.frozen? ⟨h, 6, none⟩ = false ∧ w.frozen? ⟨h, 7, none⟩ = false ∧ w.frozen? ⟨h, 8, none⟩ = false ∧ w.frozen? ⟨h, 9, none⟩ = false :=
 ⟨⟨cell_of_row _ _ _ _ _ _ hr, cell_of_row _ _ _ _ _ _ hr, cell_of_row _ _ _ _ _ _ hr, cell_of_row _ _ _ _ _ _ hr, cell_of_row _ _ _ _ _ _ hr, cell_of_row _ _ _ _ _ _ hr, cell_of_row _ _ _ _ _ _ hr, cell_of_row _ _ _ _ _ _ hr, cell_of_row _ _ _ _ _ _ hr, cell_of_row _ _ _ _ _ _ hr⟩, frozen_of_row _ _ _ _ _ hr, frozen_of_row _ _ _ _ _ hr, frozen_of_row _ _ _ _ _ hr, frozen_of_row _ _ _ _ _ hr, frozen_of_row _ _ _ _ _ hr, frozen_of_row _ _ _ _ _ hr, frozen_of_row _ _ _ _ _ hr, frozen_of_row _ _ _ _ _ hr, frozen_of_row _ _ _ _ _ hr, frozen_of_row _ _ _ _ _ hr⟩
theorem packet_size : (Tryz.prog.info? 28).map (·.size) = some 10 := by kernel_rfl
end Go.Proofs.YtpogblengagpaaaGreatDoor

/- The reference's functions on bits: Count, Nth, First, Rank, Spread, Gather. -/
namespace Go.Proofs.YtpogblengagpaaaGreatDoor
set_option maxRecDepth 100000
open Go.RowKit Bs

theorem Rd.form {w : World} {q : Nat → Prop} {v : Value} {vs : List Value} {n : Nat} (h : Rd w q v vs) (hn : vs.length = n) : ∃ p c, v = .slice p n c := by
 obtain ⟨p, c, hv, _⟩ := h
 exact ⟨p, c, by rw [hv, hn]⟩
theorem Rd.at1_ {w : World} {q : Nat → Prop} {p : Option Addr} {n c : Nat} {vs : List Value} {i : Nat} {x : Value} (h : Rd w q (.slice p n c) vs) (hi : vs[i]? = some x) :
  ∃ b off, p = some ⟨b, off, none⟩ ∧ w.cell? ⟨b, off + i, none⟩ = some x := by
 obtain ⟨p', c', hv, hc⟩ := h
 injection hv with e1 e2 e3
 subst e1
 obtain ⟨b, off, hp, _, hx⟩ := hc (by intro e; rw [e] at hi; simp at hi)
 exact ⟨b, off, hp, hx i x hi⟩
end Go.Proofs.YtpogblengagpaaaGreatDoor

/- The tape's bit strings. -/
namespace Go.Proofs.YtpogblengagpaaaGreatDoor
set_option maxRecDepth 100000
open Go.RowKit Bs

theorem vb_full {n : Int} (h : vl n = true) (z : Nat) : vb (z &&& full n) n = true := by
 unfold vb
 rw [h, and_compl z (full_u64 n)]; rfl
def BitsPost (n : Int) (a : Nat) (w : World) (e : Ending) (w' : World) : Prop := ∃ x : Nat, e = .returned (.int .u64 (x : Int)) ∧ U64 x ∧ vb x n = true ∧ St a w w'
theorem bits_end {n : Int} (h : vl n = true) (z : Nat) (hz : U64 z) : ∃ x : Nat, bits .and .u64 (z : Int) ((full n : Nat) : Int) = (x : Int) ∧ U64 x ∧ vb x n = true :=
 ⟨z &&& full n, andU z _ hz (full_u64 n), u64_and_le z _ hz, vb_full h z⟩
theorem all_ones : (18446744073709551615 : Int) = ((lo 64 : Nat) : Int) := by decide +kernel
set_option maxHeartbeats 800000 in
theorem bits_any (a : Nat) (n : Int) (hn : vl n = true) (w : World) (hT : Tp w a) :
  Calls Tryz.prog 17 #[.pointer (some ⟨a, 0, none⟩), .int .i64 n] w fun e w' => BitsPost n a w e w' := by
 have hn1 : 1 ≤ n := by rcases vl_cases hn with h | h | h | h <;> omega
 have hn2 : n ≤ 64 := by rcases vl_cases hn with h | h | h | h <;> omega
 have HV := Lib.hid hn
 clear hn
 go_enter Tryz.func17, Tryz.ntmps17
 go_wp2_with fail
 refine (raw_any a _ hT).mono ?_
 rintro e w1 ⟨x1, rfl, hx1, hs1⟩
 go_wp2_with fail
 refine (raw_any a _ hs1.2).mono ?_
 rintro e w2 ⟨x2, rfl, hx2, hs2⟩
 have h12 := hs1.trans hs2
 clear hx1 hx2 hs1 hs2
 go_wp2_with fail
 generalize hB : bits BinOp.xor IntKind.u64 _ _ = B
 obtain ⟨z, hz, hzB⟩ : ∃ z : Nat, U64 z ∧ B = (z : Int) := by rw [← hB]; exact bitsU _ _ _
 subst hzB
 clear hB
 refine (next_any a 6 (by unfold I64; omega) _ h12.2).mono ?_
 rintro e w3 ⟨r, rfl, hr, hs3⟩
 have h13 := h12.trans hs3
 have hr0 : 0 ≤ r := hr.1
 have hr1 : r < 6 := hr.2.1 (by omega)
 clear hr h12 hs3
 by_cases c0 : r = 0
 ·subst c0
  obtain ⟨y, hy, hyu, hyv⟩ := bits_end HV.out 0 (by unfold U64; decide)
  have HY := Lib.hid hy
  clear hy
  go_wp2_with (go_at_call 49; refine (fullr_any _ _).mono ?_; rintro e w' ⟨rfl, rfl⟩)
  go_ret
  exact ⟨y, ret_int HY.out, hyu, hyv, h13⟩
 ·by_cases c1 : r = 1
  ·subst c1
   clear c0
   go_wp2_with fail
   refine (next_any a n (by unfold I64; omega) _ h13.2).mono ?_
   rintro e w4 ⟨k, rfl, hk, hs4⟩
   have h14 := h13.trans hs4
   obtain ⟨K, rfl⟩ := Int.eq_ofNat_of_zero_le hk.1
   have hK : K < 64 := by have := hk.2.1 hn1; omega
   clear hk hs4
   obtain ⟨y, hy, hyu, hyv⟩ := bits_end HV.out (b2 K) (b2_u64 hK)
   have HY := Lib.hid hy
   clear hy
   go_wp2_with (first
    | (go_at_call 48; refine (bit_any K hK _).mono ?_; rintro e w' ⟨rfl, rfl⟩)
    | (go_at_call 49; refine (fullr_any _ _).mono ?_; rintro e w' ⟨rfl, rfl⟩))
   go_ret
   exact ⟨y, ret_int HY.out, hyu, hyv, h14⟩
  ·by_cases c2 : r = 2
   ·subst c2
    clear c0 c1
    obtain ⟨y, hy, hyu, hyv⟩ := bits_end HV.out (lo 64) (lo_u64 (by omega))
    rw [← all_ones] at hy
    have HY := Lib.hid hy
    clear hy
    go_wp2_with (go_at_call 49; refine (fullr_any _ _).mono ?_; rintro e w' ⟨rfl, rfl⟩)
    go_ret
    exact ⟨y, ret_int HY.out, hyu, hyv, h13⟩
   ·have b0 : (r == 0) = false := by simpa using c0
    have b1 : (r == 1) = false := by simpa using c1
    have b2' : (r == 2) = false := by simpa using c2
    clear c0 c1 c2
    obtain ⟨y, hy, hyu, hyv⟩ := bits_end HV.out z hz
    have HY := Lib.hid hy
    clear hy
    go_wp2_with (go_at_call 49; refine (fullr_any _ _).mono ?_; rintro e w' ⟨rfl, rfl⟩)
    go_ret
    exact ⟨y, ret_int HY.out, hyu, hyv, h13⟩
end Go.Proofs.YtpogblengagpaaaGreatDoor

/- The tape's packets. -/
namespace Go.Proofs.YtpogblengagpaaaGreatDoor
set_option maxRecDepth 100000
open Go.RowKit Bs
theorem tp_store {w1 w2 : World} {a b : Nat} (h : Tp w1 a) (k : w1.grownBy w2 (some b)) (hb : a < b) : Tp w2 a := tp_new2 h k hb
theorem St.store {a b : Nat} {W w w1 : World} (h : St a W w) (k : w.grownBy w1 (some b)) (hb : W.heap.size ≤ b) (ha : a < W.heap.size) : St a W w1 :=
 ⟨⟨k.os.trans h.1.os, k.tape.trans h.1.tape, k.output.trans h.1.output, Nat.le_trans h.1.size k.size, fun i hi hia => (k.block i (Nat.lt_of_lt_of_le hi h.1.size) (fun e => by have := Option.some.inj e; omega)).trans (h.1.block i hi hia)⟩, by
  exact tp_store h.2 k (by omega)⟩
theorem res_packet {fn : Func} {p : Tmp} (h : fn.results = #[.cell p 28]) (tmps : Array Value) (w : World) (g : Nat) (xs : Array Value) (hp : tmps.getD p undef = .pointer (some ⟨g, 0, none⟩)) (hn : xs.size = 10) (hg : w.heap[g]? = some (.cells xs 28 (0, 0))) :
  (results fn tmps).run Tryz.prog w = .ok (.agg xs) w := by
 exact results_cell_row h tmps w g _ _ _ _ hp hg Tryz.underlying28 rfl (by rw [hn]; exact packet_size)
theorem i64_small {x : Int} (h1 : -2000 ≤ x) (h2 : x ≤ 2000) : I64 x := by unfold I64; omega
end Go.Proofs.YtpogblengagpaaaGreatDoor

/- The program's Format. -/
namespace Go.Proofs.YtpogblengagpaaaGreatDoor
set_option maxRecDepth 100000
open Go.RowKit Bs

end Go.Proofs.YtpogblengagpaaaGreatDoor

/- Of, of the program and of the reference. -/
namespace Go.Proofs.YtpogblengagpaaaGreatDoor
set_option maxRecDepth 100000
open Go.RowKit Bs

def zval (z : Int) : Value := .int .i64 z
def ofr (l : List Int) : Nat → Option Nat
 | 0 => some 0
 | j + 1 => match ofr l j with
  | none => none
  | some b => if b.testBit (l.getD j 0).toNat then none else some (b ||| b2 (l.getD j 0).toNat)
theorem ofr_none (l : List Int) (j : Nat) (h : ofr l j = none) : ∀ d, ofr l (j + d) = none
 | 0 => h
 | d + 1 => by rw [show j + (d + 1) = (j + d) + 1 by omega, ofr, ofr_none l j h d]
theorem ofr_hit {l : List Int} {j b K : Nat} (h : ofr l j = some b) (hx : l.getD j 0 = (K : Int)) (ht : b.testBit K = true) : ofr l (j + 1) = none := by
 rw [ofr, h, hx]
 show (if b.testBit ((K : Nat) : Int).toNat then none else _) = none
 rw [Int.toNat_natCast, if_pos ht]
theorem ofr_miss {l : List Int} {j b K : Nat} (h : ofr l j = some b) (hx : l.getD j 0 = (K : Int)) (ht : b.testBit K = false) : ofr l (j + 1) = some (b ||| b2 K) := by
 rw [ofr, h, hx]
 show (if b.testBit ((K : Nat) : Int).toNat then none else some (b ||| b2 ((K : Nat) : Int).toNat)) = _
 rw [Int.toNat_natCast, if_neg (by simpa using ht)]
def ofV (l : List Int) (n : Int) : Nat × Int :=
 if vl n = false then (0, 1) else if l.all (fun x => decide (0 ≤ x ∧ x < n)) = false then (0, 2) else match ofr l l.length with
  | none => (0, 5)
  | some b => (b, 0)
theorem ofV_len {l : List Int} {n : Int} (h : vl n = false) : ofV l n = (0, 1) := by unfold ofV; rw [if_pos h]
theorem ofV_range {l : List Int} {n : Int} (h : vl n = true) {j : Nat} (hj : j < l.length) (hb : ¬ (0 ≤ l.getD j 0 ∧ l.getD j 0 < n)) : ofV l n = (0, 2) := by
 unfold ofV
 rw [if_neg (by simp [h]), if_pos]
 rw [List.all_eq_false]
 refine ⟨l[j], List.getElem_mem hj, ?_⟩
 rw [List.getD_eq_getElem?_getD, List.getElem?_eq_getElem hj] at hb
 simpa using hb
theorem ofV_good {l : List Int} {n : Int} (h : vl n = true) (hg : ∀ j, j < l.length → 0 ≤ l.getD j 0 ∧ l.getD j 0 < n) : ofV l n = match ofr l l.length with
  | none => (0, 5)
  | some b => (b, 0) := by
 unfold ofV
 rw [if_neg (by simp [h]), if_neg]
 rw [Bool.not_eq_false, List.all_eq_true]
 intro x hx
 obtain ⟨j, hj, rfl⟩ := List.mem_iff_getElem.1 hx
 have := hg j hj
 rw [List.getD_eq_getElem?_getD, List.getElem?_eq_getElem hj] at this
 simpa using this
theorem ofV_dup {l : List Int} {n : Int} (h : vl n = true) (hg : ∀ j, j < l.length → 0 ≤ l.getD j 0 ∧ l.getD j 0 < n) {j : Nat} (hj : j < l.length) (hn : ofr l (j + 1) = none) : ofV l n = (0, 5) := by
 rw [ofV_good h hg]
 have := ofr_none l (j + 1) hn (l.length - (j + 1))
 rw [show j + 1 + (l.length - (j + 1)) = l.length by omega] at this
 rw [this]
theorem ofV_ok {l : List Int} {n : Int} (h : vl n = true) (hg : ∀ j, j < l.length → 0 ≤ l.getD j 0 ∧ l.getD j 0 < n) {b : Nat} (hn : ofr l l.length = some b) : ofV l n = (b, 0) := by
 rw [ofV_good h hg, hn]
def OfPost (l : List Int) (n : Int) (w : World) (e : Ending) (w' : World) : Prop := e = .returned (.tuple #[.int .u64 (((ofV l n).1 : Nat) : Int), .int .i64 (ofV l n).2]) ∧ w = w'
theorem zv_at {l : List Int} {j : Nat} (h : j < l.length) : (l.map zval)[j]? = some (.int .i64 (l.getD j 0)) := by
 rw [List.getElem?_map, List.getElem?_eq_getElem h, List.getD_eq_getElem?_getD, List.getElem?_eq_getElem h]; rfl
theorem of_or (b K : Nat) (hb : U64 b) (hK : K < 64) : bits .or .u64 (b : Int) (IntKind.u64.wrap (2 ^ K)) = ((b ||| b2 K : Nat) : Int) := by
 rw [pow_word K hK]; exact orU b _ hb (b2_u64 hK)
set_option maxHeartbeats 1600000 in
theorem ofp_any (l : List Int) (n : Int) (q : Nat → Prop) (p : Option Addr) (c : Nat) (hl : l.length ≤ 9223372036854775807) (w : World) (hR : Rd w q (.slice p l.length c) (l.map zval)) :
  Calls Tryz.prog 83 #[.slice p l.length c, .int .i64 n] w fun e w' => OfPost l n w e w' := by
 by_cases hv : vl n = true
 ·have hn64 : n ≤ 64 := by rcases vl_cases hv with h | h | h | h <;> omega
  go_enter Tryz.func83, Tryz.ntmps83
  go_wp2_with (go_at_call 111; refine (vlp_any _ _).mono ?_; rintro e w' ⟨rfl, rfl⟩)
  go_loop [16] (fun i => ∃ j : Nat, j ≤ l.length ∧ i = .int .i64 (j : Int) ∧ ∀ k, k < j → 0 ≤ l.getD k 0 ∧ l.getD k 0 < n) (fun i => l.length - (RowKit.intOf i).toNat)
  case atStart => exact ⟨0, Nat.zero_le _, rfl, fun k hk => by omega⟩
  case round =>
   obtain ⟨j, hj, rfl, hg⟩ := hrel
   have HG := Lib.hid hg
   clear hg
   by_cases hlt : j < l.length
   ·obtain ⟨g, off, rfl, hcell⟩ := hR.at1_ (zv_at hlt)
    by_cases hneg : l.getD j 0 < 0
    ·have V := Lib.hid (ofV_range hv hlt (by omega))
     generalize l.getD j 0 = x at *
     go_wp2_with fail
     go_ret2
     exact ⟨by rw [V.out]; rfl, rfl⟩
    ·by_cases hbig : n ≤ l.getD j 0
     ·have V := Lib.hid (ofV_range hv hlt (by omega))
      generalize l.getD j 0 = x at *
      go_wp2_with fail
      go_ret2
      exact ⟨by rw [V.out]; rfl, rfl⟩
     ·have HN : Hid (∀ k, k < j + 1 → 0 ≤ l.getD k 0 ∧ l.getD k 0 < n) := by
       show ∀ k, k < j + 1 → 0 ≤ l.getD k 0 ∧ l.getD k 0 < n
       intro k hk
       rcases Nat.lt_or_ge k j with h | h
       ·exact HG.out k h
       ·obtain rfl : k = j := by omega
        omega
      generalize l.getD j 0 = x at *
      go_wp2_with fail
      go_round
      case rel => exact ⟨j + 1, by omega, by go_num, HN.out⟩
      case measure => simp [RowKit.intOf]; omega
   ·obtain rfl : j = l.length := by omega
    go_wp2_with fail
    go_loop [8, 30] (fun bv i => ∃ j b : Nat, j ≤ l.length ∧ i = .int .i64 (j : Int) ∧ bv = .int .u64 (b : Int) ∧ U64 b ∧ Hid (ofr l j = some b)) (fun _ i => l.length - (RowKit.intOf i).toNat)
    case atStart => exact ⟨0, 0, Nat.zero_le _, rfl, rfl, by unfold U64; decide, Lib.hid rfl⟩
    case round =>
     obtain ⟨j, b, hj, rfl, rfl, hb, hO⟩ := hrel
     by_cases hlt2 : j < l.length
     ·obtain ⟨g, off, rfl, hcell⟩ := hR.at1_ (zv_at hlt2)
      have hx := HG.out j hlt2
      obtain ⟨K, hK⟩ := Int.eq_ofNat_of_zero_le hx.1
      have hK64 : K < 64 := by omega
      rw [hK] at hcell
      by_cases ht : b.testBit K = true
      ·have V := Lib.hid (ofV_dup hv HG.out hlt2 (ofr_hit hO.out hK ht))
       have T : (bits .and .u64 ((b : Int) / 2 ^ K) 1 == 1) = true := by rw [testW b K hb, ht]
       clear hx hK ht
       go_wp2_with fail
       go_ret2
       exact ⟨by rw [V.out]; rfl, rfl⟩
      ·have ht0 : b.testBit K = false := by simpa using ht
       have HM := Lib.hid (ofr_miss hO.out hK ht0)
       have T : (bits .and .u64 ((b : Int) / 2 ^ K) 1 == 1) = false := by rw [testW b K hb, ht0]
       have W1 := Lib.hid (of_or b K hb hK64)
       clear hx hK ht ht0
       go_wp2_with fail
       go_round
       case rel => exact ⟨j + 1, _, by omega, by go_num, by rw [W1.out], Bs.u64_or _ _ hb (b2_u64 hK64), HM⟩
       case measure => simp [RowKit.intOf]; omega
     ·obtain rfl : j = l.length := by omega
      have V := Lib.hid (ofV_ok hv HG.out hO.out)
      go_wp2_with fail
      go_ret2
      exact ⟨by rw [V.out]; rfl, rfl⟩
 ·have hv0 : vl n = false := by simpa using hv
  have V := Lib.hid (ofV_len (l := l) hv0)
  clear hv
  go_enter Tryz.func83, Tryz.ntmps83
  go_wp2_with (go_at_call 111; refine (vlp_any _ _).mono ?_; rintro e w' ⟨rfl, rfl⟩)
  go_ret2
  exact ⟨by rw [V.out]; rfl, rfl⟩
end Go.Proofs.YtpogblengagpaaaGreatDoor

/- packet: Only and Masked, of the program and of the reference. -/
namespace Go.Proofs.YtpogblengagpaaaGreatDoor
set_option maxRecDepth 100000
open Go.RowKit Bs
def zP : Pk := ⟨0, 0, 0, 0, 0, 0, 0, 0, 0, ⟨#[]⟩⟩
def onlyP (P : Pk) (k : Int) : Pk := if vpk P = true ∧ 0 ≤ k ∧ k < 64 ∧ P.bits.testBit k.toNat = true then { P with bits := b2 k.toNat } else zP
def mskP (P : Pk) (m : Nat) : Pk × Bool := if vpk P = true ∧ P.ttl ≠ 0 ∧ P.bits &&& m ≠ 0 then ({ P with bits := P.bits &&& m, ttl := P.ttl - 1 }, true) else (zP, false)
structure TB (W : World) (P : Pk) (w : World) : Prop where
 pb : w.heap[W.heap.size]? = some (.cells (pcells P) 28 (0, 0))
 zb : w.heap[W.heap.size + 1]? = some (.cells zpk 28 (0, 0))
 gr : W.grownBy w none
theorem TB.keep {W w w1 : World} {P : Pk} (H : TB W P w) (g : w.grownBy w1 none) : TB W P w1 := ⟨kept_row H.pb g (by simp), kept_row H.zb g (by simp), grown_trans H.gr g⟩
theorem TB.at_bits {W w : World} {P : Pk} (H : TB W P w) (b : Nat) : TB W { P with bits := b } (w.setCell ⟨W.heap.size, 8, none⟩ (.int .u64 (b : Int))) := by
 have j := grown_setCell w ⟨W.heap.size, 8, none⟩ (.int .u64 (b : Int))
 refine ⟨heap_setCell_same w _ 8 _ _ _ H.pb, kept_row H.zb j (fun e => by have : W.heap.size + 1 = W.heap.size := Option.some.inj e; omega), grown_new H.gr j (Nat.le_refl _)⟩
theorem TB.at_ttl {W w : World} {P : Pk} (H : TB W P w) (x : Int) : TB W { P with ttl := x } (w.setCell ⟨W.heap.size, 4, none⟩ (.int .i64 x)) := by
 have j := grown_setCell w ⟨W.heap.size, 4, none⟩ (.int .i64 x)
 refine ⟨heap_setCell_same w _ 4 _ _ _ H.pb, kept_row H.zb j (fun e => by have : W.heap.size + 1 = W.heap.size := Option.some.inj e; omega), grown_new H.gr j (Nat.le_refl _)⟩
set_option maxHeartbeats 400000 in
theorem hasz_any (b : Nat) (k : Int) (hk : ¬ (0 ≤ k ∧ k < 64)) (w : World) :
  Calls Tryz.prog 84 #[.int .u64 (b : Int), .int .i64 k] w fun e w' => e = .returned (.bool false) ∧ w = w' := by
 by_cases h0 : 0 ≤ k
 ·have h1 : 64 ≤ k := by omega
  go_enter Tryz.func84, Tryz.ntmps84
  go_wp2
  go_ret
  exact ⟨rfl, rfl⟩
 ·have h1 : k < 0 := by omega
  go_enter Tryz.func84, Tryz.ntmps84
  go_wp2
  go_ret
  exact ⟨rfl, rfl⟩
set_option maxHeartbeats 800000 in
theorem hasi_any (b : Nat) (k : Int) (hb : U64 b) (w : World) :
  Calls Tryz.prog 84 #[.int .u64 (b : Int), .int .i64 k] w fun e w' => e = .returned (.bool (decide (0 ≤ k ∧ k < 64 ∧ b.testBit k.toNat = true))) ∧ w = w' := by
 by_cases hk : 0 ≤ k ∧ k < 64
 ·have h := has_any b k.toNat (by omega) hb w
  rw [show ((k.toNat : Nat) : Int) = k by omega] at h
  refine h.mono ?_
  rintro e w' ⟨rfl, rfl⟩
  exact ⟨ret_bool (by rw [Bool.eq_iff_iff]; simp [hk]), rfl⟩
 ·refine (hasz_any b k hk w).mono ?_
  rintro e w' ⟨rfl, rfl⟩
  exact ⟨ret_bool (by rw [Bool.eq_iff_iff]; simp; omega), rfl⟩
set_option maxHeartbeats 3200000 in
theorem onlyr_any (P : Pk) (hP : P.Wf) (k : Int) (w : World) :
  Calls Tryz.prog 53 #[P.val, .int .i64 k] w fun e w' => e = .returned (onlyP P k).val ∧ w.grownBy w' none := by
 have hval : P.val = .agg #[.int .i64 P.mode, .int .i64 P.sub, .int .i64 P.set, .int .i64 P.len, .int .i64 P.ttl, .int .i64 P.ent, .int .i64 P.ing, .int .i64 P.pro, .int .u64 (P.bits : Int), .string P.pay] := rfl
 rw [hval]
 go_enter Tryz.func53, Tryz.ntmps53
 go_wp2_with fail
 obtain ⟨k1, k2, k3, _⟩ := two_boxes w (pcells P) zpk 28 28
 have H0 := Lib.hid (TB.mk k1 k2 k3)
 clear k1 k2 k3
 unfold pcells zpk at H0
 generalize (w.alloc _).alloc _ = wa at *
 rw [← hval]
 refine (rvalid_any P hP _).mono ?_
 rintro e w1 ⟨rfl, hg⟩
 have H1 := Lib.hid (H0.out.keep hg)
 clear H0 hg
 obtain ⟨a0, a1, a2, a3, a4, a5, a6, a7, a8, a9⟩ := p_facts H1.out.pb
 obtain ⟨⟨z0, z1, z2, z3, z4, z5, z6, z7, z8, z9⟩, f0, f1, f2, f3, f4, f5, f6, f7, f8, f9⟩ := zp_cells H1.out.zb
 obtain ⟨q, hq⟩ : ∃ q, q = vpk P := ⟨_, rfl⟩
 rw [← hq]
 have HQ := Lib.hid hq
 clear hq
 cases q with
 | false =>
  have hE : Hid (onlyP P k = zP) := Lib.hid (by unfold onlyP; rw [if_neg (by simp [← HQ.out])])
  go_wp2_with fail
  refine bodyPost_ret (res_packet rfl _ _ (w.heap.size + 1) _ rfl rfl (pput_row _ _ _ _ _ _ _ _ _ _ H1.out.zb)) rfl ?_
  exact ⟨by rw [hE.out]; rfl, grown_new H1.out.gr (pput_grown _ (w.heap.size + 1) _ _ _ _ _ _ _ _ _ _) (Nat.le_succ _)⟩
 | true =>
  go_wp2_with fail
  refine (hasi_any P.bits k hP.bits _).mono ?_
  rintro e w' ⟨rfl, rfl⟩
  obtain ⟨r, hr⟩ : ∃ r, r = decide (0 ≤ k ∧ k < 64 ∧ P.bits.testBit k.toNat = true) := ⟨_, rfl⟩
  rw [← hr]
  have HR := Lib.hid hr
  clear hr
  cases r with
  | false =>
   have hE : Hid (onlyP P k = zP) := Lib.hid (by unfold onlyP; rw [if_neg (by have := HR.out; simp at this; intro h; have := this h.2.1 h.2.2.1; simp [h.2.2.2] at this)])
   go_wp2_with fail
   refine bodyPost_ret (res_packet rfl _ _ (w.heap.size + 1) _ rfl rfl (pput_row _ _ _ _ _ _ _ _ _ _ H1.out.zb)) rfl ?_
   exact ⟨by rw [hE.out]; rfl, grown_new H1.out.gr (pput_grown _ (w.heap.size + 1) _ _ _ _ _ _ _ _ _ _) (Nat.le_succ _)⟩
  | true =>
   have hk3 : 0 ≤ k ∧ k < 64 ∧ P.bits.testBit k.toNat = true := by have := HR.out; simpa using this.symm
   have hE : Hid (onlyP P k = { P with bits := b2 k.toNat }) := Lib.hid (by unfold onlyP; rw [if_pos ⟨HQ.out.symm, hk3⟩])
   have hB := bit_any k.toNat (by omega) w1
   rw [show ((k.toNat : Nat) : Int) = k by omega] at hB
   have HB := Lib.hid hB
   clear hB hk3
   obtain ⟨b, hb⟩ : ∃ b, b = b2 k.toNat := ⟨_, rfl⟩
   rw [← hb] at HB hE
   clear hb
   go_wp2_with fail
   refine HB.out.mono ?_
   rintro e w' ⟨rfl, rfl⟩
   have H2 := Lib.hid (H1.out.at_bits b)
   have c8 := frozen_of_row _ _ 8 _ _ H1.out.pb
   go_upto_region 4 with fail
   clear a0 a1 a2 a3 a4 a5 a6 a7 a8 a9 z0 z1 z2 z3 z4 z5 z6 z7 z8 z9 f0 f1 f2 f3 f4 f5 f6 f7 f8 f9 c8 H1
   generalize w1.setCell _ _ = w2 at *
   obtain ⟨a0, a1, a2, a3, a4, a5, a6, a7, a8, a9⟩ := p_facts H2.out.pb
   obtain ⟨⟨z0, z1, z2, z3, z4, z5, z6, z7, z8, z9⟩, f0, f1, f2, f3, f4, f5, f6, f7, f8, f9⟩ := zp_cells H2.out.zb
   go_wp2_with fail
   refine bodyPost_ret (res_packet rfl _ _ (w.heap.size + 1) _ rfl rfl (pput_row _ _ _ _ _ _ _ _ _ _ H2.out.zb)) rfl ?_
   exact ⟨by rw [hE.out]; rfl, grown_new H2.out.gr (pput_grown _ (w.heap.size + 1) _ _ _ _ _ _ _ _ _ _) (Nat.le_succ _)⟩
end Go.Proofs.YtpogblengagpaaaGreatDoor

/- packet: the rest of a packet is read. -/
namespace Go.Proofs.YtpogblengagpaaaGreatDoor
set_option maxRecDepth 100000
open Go.RowKit Bs
theorem res_packet_err {fn : Func} {p u : Tmp} (h : fn.results = #[.cell p 28, .tmp u]) (tmps : Array Value) (w : World) (g : Nat) (xs : Array Value) (hp : tmps.getD p undef = .pointer (some ⟨g, 0, none⟩)) (hn : xs.size = 10) (hg : w.heap[g]? = some (.cells xs 28 (0, 0))) :
  (results fn tmps).run Tryz.prog w = .ok (.tuple #[.agg xs, tmps.getD u undef]) w := by
 have hp' : tmps[p]?.getD undef = .pointer (some ⟨g, 0, none⟩) := by simpa using hp
 rw [results_cell_tmp h]
 simp [hp', asAddr, run_loadVar_row w g _ _ _ _ _ hg Tryz.underlying28 rfl (by rw [hn]; exact packet_size), Result.andThen]
section
variable {W w w1 : World} {V : Nat → Nat} {n b : Nat} {s : ByteArray} {l : List Nat} {p : Option Addr} {c : Nat}
end
section
variable {w : World} {q : Nat → Prop} {l : List Nat} {p : Option Addr} {c : Nat}
end
end Go.Proofs.YtpogblengagpaaaGreatDoor

/- packet: Masked, of the program and of the reference. -/
namespace Go.Proofs.YtpogblengagpaaaGreatDoor
set_option maxRecDepth 100000
open Go.RowKit Bs
set_option maxHeartbeats 3200000 in
theorem maskp_any (P : Pk) (hP : P.Wf) (m : Nat) (hm : U64 m) (w : World) :
  Calls Tryz.prog 70 #[P.val, .int .u64 (m : Int)] w fun e w' => e = .returned (.tuple #[(mskP P m).1.val, .bool (mskP P m).2]) ∧ w.grownBy w' none := by
 have hval : P.val = .agg #[.int .i64 P.mode, .int .i64 P.sub, .int .i64 P.set, .int .i64 P.len, .int .i64 P.ttl, .int .i64 P.ent, .int .i64 P.ing, .int .i64 P.pro, .int .u64 (P.bits : Int), .string P.pay] := rfl
 rw [hval]
 go_enter Tryz.func70, Tryz.ntmps70
 go_wp2_with fail
 obtain ⟨k1, k2, k3, _⟩ := two_boxes w (pcells P) zpk 28 28
 have H0 := Lib.hid (TB.mk k1 k2 k3)
 clear k1 k2 k3
 unfold pcells zpk at H0
 generalize (w.alloc _).alloc _ = wa at *
 rw [← hval]
 refine (pvalid_any P hP _).mono ?_
 rintro e w1 ⟨rfl, hg⟩
 have H1 := Lib.hid (H0.out.keep hg)
 clear H0 hg
 obtain ⟨a0, a1, a2, a3, a4, a5, a6, a7, a8, a9⟩ := p_facts H1.out.pb
 obtain ⟨⟨z0, z1, z2, z3, z4, z5, z6, z7, z8, z9⟩, f0, f1, f2, f3, f4, f5, f6, f7, f8, f9⟩ := zp_cells H1.out.zb
 by_cases hv : vpk P = true
 ·rw [hv]
  by_cases ht : P.ttl = 0
  ·have hE : Hid (mskP P m = (zP, false)) := Lib.hid (by unfold mskP; rw [if_neg (fun h => h.2.1 ht)])
   clear hv hval
   go_wp2_with fail
   refine bodyPost_ret (res_packet_err rfl _ _ (w.heap.size + 1) _ rfl rfl (pput_row _ _ _ _ _ _ _ _ _ _ H1.out.zb)) rfl ?_
   exact ⟨by rw [hE.out]; rfl, grown_new H1.out.gr (pput_grown _ (w.heap.size + 1) _ _ _ _ _ _ _ _ _ _) (Nat.le_succ _)⟩
  ·have hand := andU P.bits m hP.bits hm
   by_cases hb : P.bits &&& m = 0
   ·have hE : Hid (mskP P m = (zP, false)) := Lib.hid (by unfold mskP; rw [if_neg (fun h => h.2.2 hb)])
    rw [hb] at hand
    clear hv hval hb
    go_wp2_with fail
    refine bodyPost_ret (res_packet_err rfl _ _ (w.heap.size + 1) _ rfl rfl (pput_row _ _ _ _ _ _ _ _ _ _ H1.out.zb)) rfl ?_
    exact ⟨by rw [hE.out]; rfl, grown_new H1.out.gr (pput_grown _ (w.heap.size + 1) _ _ _ _ _ _ _ _ _ _) (Nat.le_succ _)⟩
   ·have hE : Hid (mskP P m = ({ P with bits := P.bits &&& m, ttl := P.ttl - 1 }, true)) := Lib.hid (by unfold mskP; rw [if_pos ⟨hv, ht, hb⟩])
    have hne : ((P.bits &&& m : Nat) : Int) ≠ 0 := by omega
    have hw : IntKind.i64.wrap (P.ttl - 1) = P.ttl - 1 := by
     have h1 := (vpk_parts hv).2.2.2.1
     exact IntWalk.i64_in _ (by omega)
    generalize P.bits &&& m = b at *
    have e1 : (P.ttl == 0) = false := by simp [ht]
    have e2 : ((b : Int) == 0) = false := by simpa using hne
    have H2 := Lib.hid (H1.out.at_bits b)
    have c8 := frozen_of_row _ _ 8 _ _ H1.out.pb
    clear hv hval hb
    go_upto_region 4 with fail
    clear a0 a1 a2 a3 a4 a5 a6 a7 a8 a9 z0 z1 z2 z3 z4 z5 z6 z7 z8 z9 f0 f1 f2 f3 f4 f5 f6 f7 f8 f9 c8 H1 hand hne e1 e2 ht
    generalize w1.setCell _ _ = w2 at *
    have a4 : w2.cell? ⟨w.heap.size, 4, none⟩ = some (.int .i64 P.ttl) := cell_of_row _ _ _ _ _ _ H2.out.pb
    have c4 := frozen_of_row _ _ 4 _ _ H2.out.pb
    have H3 := Lib.hid (H2.out.at_ttl (P.ttl - 1))
    go_upto_region 5 with fail
    clear H2 a4 c4
    generalize w2.setCell _ _ = w3 at *
    obtain ⟨a0, a1, a2, a3, a4, a5, a6, a7, a8, a9⟩ := p_facts H3.out.pb
    obtain ⟨⟨z0, z1, z2, z3, z4, z5, z6, z7, z8, z9⟩, f0, f1, f2, f3, f4, f5, f6, f7, f8, f9⟩ := zp_cells H3.out.zb
    go_wp2_with fail
    refine bodyPost_ret (res_packet_err rfl _ _ (w.heap.size + 1) _ rfl rfl (pput_row _ _ _ _ _ _ _ _ _ _ H3.out.zb)) rfl ?_
    exact ⟨by rw [hE.out]; rfl, grown_new H3.out.gr (pput_grown _ (w.heap.size + 1) _ _ _ _ _ _ _ _ _ _) (Nat.le_succ _)⟩
 ·have hE : Hid (mskP P m = (zP, false)) := Lib.hid (by unfold mskP; rw [if_neg (fun h => hv h.1)])
  have hf : vpk P = false := by simpa using hv
  rw [hf]
  clear hv hf hval
  go_wp2_with fail
  refine bodyPost_ret (res_packet_err rfl _ _ (w.heap.size + 1) _ rfl rfl (pput_row _ _ _ _ _ _ _ _ _ _ H1.out.zb)) rfl ?_
  exact ⟨by rw [hE.out]; rfl, grown_new H1.out.gr (pput_grown _ (w.heap.size + 1) _ _ _ _ _ _ _ _ _ _) (Nat.le_succ _)⟩
end Go.Proofs.YtpogblengagpaaaGreatDoor

/- empty -/
namespace Go.Proofs.YtpogblengagpaaaGreatDoor
set_option maxRecDepth 100000
end Go.Proofs.YtpogblengagpaaaGreatDoor

/- The library's contracts on maps.Keys, slices.Sorted and slices.Sort, laid at this program. -/
namespace Go.Proofs.YtpogblengagpaaaGreatDoor
set_option maxRecDepth 100000
open Go.Shelf
def keysU_ren : Go.Shelf.Ren := ⟨fun | 7 => 68 | 10 => 107 | n => n, fun | 23 => 114 | 26 => 3 | 3 => 26 | 28 => 118 | 0 => 0 | 27 => 117 | 33 => 33 | 4 => 4 | n => n, fun | n => n⟩
theorem keysU : Go.Proofs.SlLaysZI.n7 Tryz.prog keysU_ren where
 mixed := by kernel_rfl
 f7 := ⟨ "maps.Keys[map[int]uint64,int,uint64]", by decide, Tryz.func68.trans (congrArg some (by kernel_rfl))⟩
 f10 := ⟨ "maps.Keys[map[int]uint64,int,uint64]$1", by decide, Tryz.func107.trans (congrArg some (by kernel_rfl))⟩
 t0 := Tryz.underlying0
 a0 := Tryz.isAgg0
 z0 := Tryz.sizeOf0
 v0 := Tryz.zeroValue0
 t4 := Tryz.underlying4
 a4 := Tryz.isAgg4
 z4 := Tryz.sizeOf4
 v4 := Tryz.zeroValue4
 t23 := Tryz.underlying114
 a23 := Tryz.isAgg114
 z23 := Tryz.sizeOf114
 v23 := Tryz.zeroValue114
 t26 := Tryz.underlying3
 a26 := Tryz.isAgg3
 z26 := Tryz.sizeOf3
 v26 := Tryz.zeroValue3
 t27 := Tryz.underlying117
 a27 := Tryz.isAgg117
 z27 := Tryz.sizeOf117
 v27 := Tryz.zeroValue117
 t28 := Tryz.underlying118
 a28 := Tryz.isAgg118
 z28 := Tryz.sizeOf118
 v28 := Tryz.zeroValue118
 t33 := Tryz.underlying33
 a33 := Tryz.isAgg33
 z33 := Tryz.sizeOf33
 v33 := Tryz.zeroValue33
def sortedU_ren : Go.Shelf.Ren := ⟨fun | 6 => 67 | 8 => 105 | 9 => 106 | 11 => 126 | 13 => 128 | 12 => 127 | 23 => 143 | 24 => 144 | 14 => 134 | 15 => 135 | 16 => 136 | 17 => 137 | 18 => 138 | 19 => 139 | 20 => 140 | 21 => 141 | 22 => 142 | 25 => 145 | 26 => 146 | 27 => 147 | 28 => 148 | 29 => 149 | 30 => 150 | 31 => 151 | n => n, fun | 26 => 3 | 28 => 118 | 24 => 22 | 0 => 0 | 3 => 3 | 37 => 130 | 48 => 174 | 50 => 26 | 4 => 4 | 40 => 168 | 39 => 167 | 45 => 126 | 5 => 5 | 9 => 9 | 51 => 175 | 55 => 179 | 57 => 181 | 58 => 182 | 33 => 33 | n => n, fun | n => n⟩
theorem sortedU : Go.Proofs.SlLaysZI.n6 Tryz.prog sortedU_ren where
 mixed := by kernel_rfl
 f6 := ⟨ "slices.Sorted[int]", by decide, Tryz.func67.trans (congrArg some (by kernel_rfl))⟩
 f8 := ⟨ "slices.Collect[int]", by decide, Tryz.func105.trans (congrArg some (by kernel_rfl))⟩
 f11 := ⟨ "slices.AppendSeq[[]int,int]", by decide, Tryz.func126.trans (congrArg some (by kernel_rfl))⟩
 t0 := Tryz.underlying0
 a0 := Tryz.isAgg0
 z0 := Tryz.sizeOf0
 v0 := Tryz.zeroValue0
 t24 := Tryz.underlying22
 a24 := Tryz.isAgg22
 z24 := Tryz.sizeOf22
 v24 := Tryz.zeroValue22
 t26 := Tryz.underlying3
 a26 := Tryz.isAgg3
 z26 := Tryz.sizeOf3
 v26 := Tryz.zeroValue3
 t28 := Tryz.underlying118
 a28 := Tryz.isAgg118
 z28 := Tryz.sizeOf118
 v28 := Tryz.zeroValue118
 i26 := by kernel_rfl
def sortU_ren : Go.Shelf.Ren := ⟨fun | 5 => 106 | 8 => 128 | 7 => 127 | 19 => 143 | 20 => 144 | 10 => 134 | 11 => 135 | 12 => 136 | 13 => 137 | 14 => 138 | 15 => 139 | 16 => 140 | 17 => 141 | 18 => 142 | 30 => 145 | 31 => 146 | 32 => 147 | 33 => 148 | 34 => 149 | 35 => 150 | 40 => 151 | n => n, fun | 23 => 22 | 25 => 3 | 3 => 3 | 32 => 130 | 22 => 22 | 0 => 0 | 44 => 174 | 46 => 26 | 4 => 4 | 36 => 168 | 35 => 167 | 41 => 126 | 5 => 5 | 9 => 9 | 53 => 175 | 57 => 179 | 63 => 181 | 64 => 182 | n => n, fun | n => n⟩
theorem sortU : Go.Proofs.SlLaysM.n5 Tryz.prog sortU_ren where
 mixed := by kernel_rfl
 f5 := ⟨ "slices.Sort[[]int,int]", by decide, Tryz.func106.trans (congrArg some (by kernel_rfl))⟩
 f7 := ⟨ "slices.pdqsortOrdered[int]", by decide, Tryz.func127.trans (congrArg some (by kernel_rfl))⟩
 f8 := Tryz.func128.trans (congrArg some (by kernel_rfl))
 f10 := ⟨ "slices.insertionSortOrdered[int]", by decide, Tryz.func134.trans (congrArg some (by kernel_rfl))⟩
 f11 := ⟨ "slices.heapSortOrdered[int]", by decide, Tryz.func135.trans (congrArg some (by kernel_rfl))⟩
 f12 := ⟨ "slices.breakPatternsOrdered[int]", by decide, Tryz.func136.trans (congrArg some (by kernel_rfl))⟩
 f13 := ⟨ "slices.choosePivotOrdered[int]", by decide, Tryz.func137.trans (congrArg some (by kernel_rfl))⟩
 f14 := ⟨ "slices.reverseRangeOrdered[int]", by decide, Tryz.func138.trans (congrArg some (by kernel_rfl))⟩
 f15 := ⟨ "slices.partialInsertionSortOrdered[int]", by decide, Tryz.func139.trans (congrArg some (by kernel_rfl))⟩
 f16 := ⟨ "cmp.Less[int]", by decide, Tryz.func140.trans (congrArg some (by kernel_rfl))⟩
 f17 := ⟨ "slices.partitionEqualOrdered[int]", by decide, Tryz.func141.trans (congrArg some (by kernel_rfl))⟩
 f18 := ⟨ "slices.partitionOrdered[int]", by decide, Tryz.func142.trans (congrArg some (by kernel_rfl))⟩
 f19 := Tryz.func143.trans (congrArg some (by kernel_rfl))
 f20 := Tryz.func144.trans (congrArg some (by kernel_rfl))
 f30 := ⟨ "slices.siftDownOrdered[int]", by decide, Tryz.func145.trans (congrArg some (by kernel_rfl))⟩
 f31 := Tryz.func146.trans (congrArg some (by kernel_rfl))
 f32 := Tryz.func147.trans (congrArg some (by kernel_rfl))
 f33 := ⟨ "slices.medianAdjacentOrdered[int]", by decide, Tryz.func148.trans (congrArg some (by kernel_rfl))⟩
 f34 := ⟨ "slices.medianOrdered[int]", by decide, Tryz.func149.trans (congrArg some (by kernel_rfl))⟩
 f35 := ⟨ "cmp.isNaN[int]", by decide, Tryz.func150.trans (congrArg some (by kernel_rfl))⟩
 f40 := ⟨ "slices.order2Ordered[int]", by decide, Tryz.func151.trans (congrArg some (by kernel_rfl))⟩
 t0 := Tryz.underlying0
 a0 := Tryz.isAgg0
 z0 := Tryz.sizeOf0
 v0 := Tryz.zeroValue0
 t3 := Tryz.underlying3
 a3 := Tryz.isAgg3
 z3 := Tryz.sizeOf3
 v3 := Tryz.zeroValue3
 t4 := Tryz.underlying4
 a4 := Tryz.isAgg4
 z4 := Tryz.sizeOf4
 v4 := Tryz.zeroValue4
 t5 := Tryz.underlying5
 a5 := Tryz.isAgg5
 z5 := Tryz.sizeOf5
 v5 := Tryz.zeroValue5
 t9 := Tryz.underlying9
 a9 := Tryz.isAgg9
 z9 := Tryz.sizeOf9
 v9 := Tryz.zeroValue9
 t22 := Tryz.underlying22
 a22 := Tryz.isAgg22
 z22 := Tryz.sizeOf22
 v22 := Tryz.zeroValue22
 t23 := Tryz.underlying22
 a23 := Tryz.isAgg22
 z23 := Tryz.sizeOf22
 v23 := Tryz.zeroValue22
 t25 := Tryz.underlying3
 a25 := Tryz.isAgg3
 z25 := Tryz.sizeOf3
 v25 := Tryz.zeroValue3
 t32 := Tryz.underlying130
 a32 := Tryz.isAgg130
 z32 := Tryz.sizeOf130
 v32 := Tryz.zeroValue130
 t35 := Tryz.underlying167
 a35 := Tryz.isAgg167
 z35 := Tryz.sizeOf167
 v35 := Tryz.zeroValue167
 t36 := Tryz.underlying168
 a36 := Tryz.isAgg168
 z36 := Tryz.sizeOf168
 v36 := Tryz.zeroValue168
 t41 := Tryz.underlying126
 a41 := Tryz.isAgg126
 z41 := Tryz.sizeOf126
 v41 := Tryz.zeroValue126
 t44 := Tryz.underlying174
 a44 := Tryz.isAgg174
 z44 := Tryz.sizeOf174
 v44 := Tryz.zeroValue174
 t46 := Tryz.underlying26
 a46 := Tryz.isAgg26
 z46 := Tryz.sizeOf26
 v46 := Tryz.zeroValue26
 t53 := Tryz.underlying175
 a53 := Tryz.isAgg175
 z53 := Tryz.sizeOf175
 v53 := Tryz.zeroValue175
 t57 := Tryz.underlying179
 a57 := Tryz.isAgg179
 z57 := Tryz.sizeOf179
 v57 := Tryz.zeroValue179
 t63 := Tryz.underlying181
 a63 := Tryz.isAgg181
 z63 := Tryz.sizeOf181
 v63 := Tryz.zeroValue181
 t64 := Tryz.underlying182
 a64 := Tryz.isAgg182
 z64 := Tryz.sizeOf182
 v64 := Tryz.zeroValue182
end Go.Proofs.YtpogblengagpaaaGreatDoor

/- slices.Sorted(maps.Keys(masks)). -/
namespace Go.Proofs.YtpogblengagpaaaGreatDoor
set_option maxRecDepth 100000
open Go.RowKit Go.Maps Bs
theorem sortsU (m : Nat) : AnyZI.SortsIn Tryz.prog sortedU_ren Fence.wide m :=
 ⟨fun blk off cap ss W hH hblk hsz => callsIn_wide.2 (AnyM.slices_Sort_int sortU blk off cap ss W hH hblk hsz),
  fun p cap W => callsIn_wide.2 (AnyM.slices_Sort_int_none sortU p cap W)⟩
structure AscM (f : Int → Option Nat) (ts : List Int) : Prop where
 asc : ts.Pairwise (· < ·)
 mem : ∀ x, x ∈ ts ↔ (f x).isSome = true
theorem ascM_of {ss : List Int} (h : ss.Nodup) : (ss.mergeSort (fun x y => decide (x ≤ y))).Pairwise (· < ·) := by
 have h1 : (ss.mergeSort (fun x y => decide (x ≤ y))).Pairwise (fun x y => decide (x ≤ y) = true) :=
  List.pairwise_mergeSort (fun a b c h1 h2 => by have := of_decide_eq_true h1; have := of_decide_eq_true h2; exact decide_eq_true (by omega)) (fun a b => by
   by_cases hab : a ≤ b
   ·simp [hab]
   ·have : b ≤ a := by omega
    simp [this]) ss
 have h2 : (ss.mergeSort (fun x y => decide (x ≤ y))).Nodup := (List.mergeSort_perm ss _).nodup_iff.2 h
 have h3 := List.Pairwise.and h1 h2
 exact h3.imp (fun {a b} h => by have := of_decide_eq_true h.1; have := h.2; omega)
theorem below_grownU {w w' : World} (h : Go.RowKit.Below w.heap.size w w') : w.grownBy w' none := ⟨h.os, h.tape, h.output, h.size, fun b hb _ => h.block b hb⟩
theorem mkeys_any (mb : Option Nat) (w : World) :
  Calls Tryz.prog 68 #[.map mb] w fun e w' => e = .returned (.func (.func 107) #[] #[.pointer (some ⟨w.heap.size, 0, none⟩)]) ∧ w' = w.alloc (.cells #[.map mb] 114) :=
 callsIn_wide.1 (AnyZI.keys_in keysU Fence.wide 5 trivial rfl mb w)
set_option maxHeartbeats 1600000 in
theorem mkz_any (f : Int → Option Nat) (b n : Nat) (hn : n ≤ 1000000) (Bk : Nat) (w : World) (hk : w.cell? ⟨Bk, 0, none⟩ = some (.map (some b))) (hBk : Bk < w.heap.size) (hm : OMu w b n f) :
  Calls Tryz.prog 67 #[.func (.func 107) #[] #[.pointer (some ⟨Bk, 0, none⟩)]] w fun e w' =>
   ∃ v ts, e = .returned v ∧ AscM f ts ∧ w'.ownsRow w.heap.size 3 1 v ts.length (ts.map tv) ∧ w.grownBy w' none := by
 obtain ⟨D, hown, hmf⟩ := hm
 have hsz := hown.size_le
 have hseq := AnyZI.keys_gives (ρ := keysU_ren) { keysU with } Fence.wide 2 trivial rfl (by omega) Bk b n D w hBk hk hown
 have cS := callsIn_wide.1 (AnyZI.sorted_in sortedU Fence.wide 5 trivial trivial trivial trivial rfl (by omega) (sortsU _) (enters_of Tryz.func106 (by kernel_rfl) rfl) 107 #[.pointer (some ⟨Bk, 0, none⟩)] trivial (enters_of Tryz.func107 (by kernel_rfl) rfl) _ (Maps.size D) (by unfold maxLen; omega) (by omega) w hseq)
 change Calls Tryz.prog 67 _ _ _ at cS
 refine cS.mono ?_
 rintro e w1 ⟨v, ss, rfl, hS, hrow, hnil, hb⟩
 obtain ⟨hnd, hmem⟩ := OMu.keys hown hmf hS
 refine ⟨v, ss.mergeSort (fun x y => decide (x ≤ y)), rfl, ⟨ascM_of hnd, fun x => ?_⟩, ?_, below_grownU hb⟩
 ·rw [(List.mergeSort_perm ss _).mem_iff]
  exact hmem x
 ·rw [List.length_mergeSort]
  exact hrow
end Go.Proofs.YtpogblengagpaaaGreatDoor

/- masks: All, Mask, Local. -/
namespace Go.Proofs.YtpogblengagpaaaGreatDoor
set_option maxRecDepth 100000
open Go.RowKit Go.Maps Bs
structure Md where
 x : Int
 b : Nat
def mdC (m : Md) : List Value := [.int .i64 m.x, .int .u64 (m.b : Int)]
theorem md_one (m : Md) : ∀ u ∈ mdC m, u.oneCell' = true := by
 intro u hu
 simp [mdC] at hu
 rcases hu with rfl | rfl <;> rfl
def mdL (f : Int → Option Nat) (ts : List Int) : List Md := ts.map fun x => ⟨x, (f x).getD 0⟩
def mdK (f : Int → Option Nat) (ts : List Int) (k : Nat) : List Md := mdL f (ts.take k)
theorem mdK_next {f : Int → Option Nat} {ts : List Int} {k : Nat} {x : Int} (h : ts[k]? = some x) : mdK f ts (k + 1) = mdK f ts k ++ [⟨x, (f x).getD 0⟩] := by
 unfold mdK mdL
 rw [List.take_add_one, h, List.map_append]; rfl
theorem mdK_end (f : Int → Option Nat) (ts : List Int) : mdK f ts ts.length = mdL f ts := by unfold mdK; rw [List.take_length]
theorem mdK_len (f : Int → Option Nat) (ts : List Int) (k : Nat) : (mdK f ts k).length ≤ ts.length := by unfold mdK mdL; rw [List.length_map, List.length_take]; omega
theorem mdL_len (f : Int → Option Nat) (ts : List Int) : (mdL f ts).length = ts.length := by unfold mdL; rw [List.length_map]
theorem asc_len99 : ∀ (ts : List Int) (lo : Int), ts.Pairwise (· < ·) → (∀ x ∈ ts, lo < x ∧ x ≤ 99) → lo ≤ 99 → (ts.length : Int) + lo ≤ 99
 | [], lo, _, _, h => by simpa using h
 | a :: t, lo, hp, hr, h => by
  obtain ⟨h1, h2⟩ := List.pairwise_cons.1 hp
  have ha := hr a (List.mem_cons_self ..)
  have := asc_len99 t a h2 (fun x hx => ⟨h1 x hx, (hr x (List.mem_cons_of_mem _ hx)).2⟩) ha.2
  simp only [List.length_cons]
  omega
theorem ascM_len {f : Int → Option Nat} {ts : List Int} (h : AscM f ts) (ho : ColOk f) : ts.length ≤ 99 := by
 have := asc_len99 ts 0 h.asc (fun x hx => by
  obtain ⟨d, hd⟩ := Option.isSome_iff_exists.1 ((h.mem x).1 hx)
  have := (ho.u x d hd).2
  omega) (by omega)
 omega
theorem info_md : (Tryz.prog.info? 94).map (fun i => (i.zero, i.size, i.bytes)) = some (some (.agg #[.int .i64 0, .int .u64 0]), 2, 16) := by kernel_rfl
theorem md_row (w : World) (x : Int) (b : Nat) (t : TypeId) : ∀ j u, [Value.int .i64 x, .int .u64 (b : Int)][j]? = some u → (w.alloc (.cells #[.int .i64 x, .int .u64 (b : Int)] t)).cell? ((⟨w.heap.size, 0, none⟩ : Addr).add j) = some u := by
 intro j u hu
 rw [add_plain]
 have hb := heap_alloc_new w (.cells #[.int .i64 x, .int .u64 (b : Int)] t)
 rcases j with _ | _ | j
 ·cases hu; exact cell_of_row _ _ _ _ _ _ hb
 ·cases hu; exact cell_of_row _ _ _ _ _ _ hb
 ·simp at hu
structure AL (W : World) (Mb N : Nat) (f : Int → Option Nat) (ts : List Int) (ps : Option Addr) (cs C : Nat) (v : Value) (M : List Md) (w : World) : Prop where
 mp : OMu w Mb N f
 rt : Rd w (fun b => b < C) (.slice ps ts.length cs) (ts.map tv)
 own : w.ownsRow C 94 2 v M.length (M.flatMap mdC)
 gr : W.grownBy w none
 lo : Mb < C ∧ C ≤ w.heap.size ∧ W.heap.size ≤ C
theorem AL.keep {W w w1 : World} {Mb N : Nat} {f : Int → Option Nat} {ts : List Int} {ps : Option Addr} {cs C : Nat} {v : Value} {M : List Md} (h : AL W Mb N f ts ps cs C v M w) (g : w.grownBy w1 none) : AL W Mb N f ts ps cs C v M w1 :=
 ⟨h.mp.kept g (by simp), h.rt.keep g, h.own.kept g (by cases v.ownBlock <;> simp), grown_trans h.gr g, h.lo.1, Nat.le_trans h.lo.2.1 g.size, h.lo.2.2⟩
theorem AL.put {W w w1 : World} {Mb N : Nat} {f : Int → Option Nat} {ts : List Int} {ps : Option Addr} {cs C : Nat} {v v' : Value} {M M2 : List Md} (h : AL W Mb N f ts ps cs C v M w) (hown : w1.ownsRow C 94 2 v' M2.length (M2.flatMap mdC)) (g : w.grownBy w1 v.ownBlock) : AL W Mb N f ts ps cs C v' M2 w1 := by
 have hlo := h.lo
 have hne : ∀ b, b < C → some b ≠ v.ownBlock := fun b hb e => by have := (h.own.lt b e.symm).1; omega
 exact ⟨h.mp.kept g (hne _ hlo.1), h.rt.grown g hne, hown, grown_any h.gr g (fun b hb => hne b (by omega)), h.lo.1, Nat.le_trans h.lo.2.1 g.size, h.lo.2.2⟩
def AllPost (r s n : Int) (L : List Rw) (pl set : Int) (w : World) (e : Ending) (w' : World) : Prop :=
 ∃ (ts : List Int) (p : Option Addr) (c : Nat), e = .returned (.slice p (mdL (coF r s n L pl set) ts).length c) ∧ AscM (coF r s n L pl set) ts ∧ w'.ownsRow w.heap.size 94 2 (.slice p (mdL (coF r s n L pl set) ts).length c) (mdL (coF r s n L pl set) ts).length ((mdL (coF r s n L pl set) ts).flatMap mdC) ∧ w.grownBy w' none
set_option maxHeartbeats 6400000 in
theorem mall_any (r s n : Int) (p : Option Addr) (c : Nat) (L : List Rw) (pl set : Int) (w : World) (hR : RdW w (· < w.heap.size) p c L) (hm : L.length ≤ 9223372036854775807) :
  Calls Tryz.prog 38 #[.agg #[.int .i64 r, .int .i64 s, .int .i64 n, .slice p L.length c], .int .i64 pl, .int .i64 set] w fun e w' => AllPost r s n L pl set w e w' := by
 obtain ⟨ie, hie, he0, he1, he2⟩ := info_parts info_md
 obtain ⟨k1, k2⟩ := tone_box w #[.int .i64 r, .int .i64 s, .int .i64 n, .slice p L.length c] 25
 have H0 := Lib.hid (And.intro k1 (And.intro k2 (And.intro ((hR.keep k2).mono (q' := (· < (w.alloc (.cells #[.int .i64 r, .int .i64 s, .int .i64 n, .slice p L.length c] 25)).heap.size)) (fun b (hb : b < w.heap.size) => by show b < _; simp; omega)) (show w.heap.size < (w.alloc (.cells #[.int .i64 r, .int .i64 s, .int .i64 n, .slice p L.length c] 25)).heap.size by simp))))
 clear k1 k2 hR
 go_enter Tryz.func38, Tryz.ntmps38
 go_upto_region 1 with fail
 generalize w.alloc _ = w1 at *
 obtain ⟨d0, d1, d2, d3⟩ := row4T H0.out.1
 go_wp2_with fail
 refine (mcollect_any r s n p c L pl set w1 H0.out.2.2.1 hm).mono ?_
 rintro e w2 ⟨rfl, ⟨N, hN, hmp⟩, hg⟩
 have H2 := Lib.hid (And.intro hmp (grown_trans H0.out.2.1 hg))
 have hzz : w.heap.size < w1.heap.size := H0.out.2.2.2
 clear hmp hg H0 d0 d1 d2 d3
 obtain ⟨f, hf⟩ : ∃ f, coF r s n L pl set = f := ⟨_, rfl⟩
 have HF := Lib.hid hf
 have HOK : Hid (ColOk f) := Lib.hid (by rw [← hf]; exact coF_ok r s n L pl set)
 rw [hf] at H2
 clear hf
 generalize w1.heap.size + 1 = Mb at *
 go_wp2_with fail
 refine (mkeys_any (some Mb) w2).mono ?_
 rintro e w4 ⟨rfl, hw4⟩
 have hb4 := heap_alloc_new w2 (.cells #[.map (some Mb)] 114)
 have hg4 := World.grownBy_alloc w2 (.cells #[.map (some Mb)] 114) none
 rw [← hw4] at hb4 hg4
 have hz4 : w2.heap.size < w4.heap.size := by rw [hw4]; simp
 have HW4 := Lib.hid (And.intro hb4 (And.intro hg4 hz4))
 clear hw4 hb4 hg4 hz4
 go_wp2_with fail
 refine (mkz_any f Mb N (by omega) w2.heap.size w4 (by rw [cell_of_row _ _ _ _ _ _ HW4.out.1]; rfl) HW4.out.2.2 (H2.out.1.kept HW4.out.2.1 (by simp))).mono ?_
 rintro e w5 ⟨vs, ts, rfl, hS, hrow, hg5⟩
 obtain ⟨ps, cs, rfl, hcs1, hcs2⟩ := own_shape hrow
 have hlen := ascM_len hS HOK.out
 have HTS := Lib.hid hS
 have g25 := grown_trans HW4.out.2.1 hg5
 have A0 : Hid (AL w Mb N f ts ps cs w5.heap.size (.slice none 0 0) (mdK f ts 0) w5) := Lib.hid ⟨H2.out.1.kept g25 (by simp), (rd_of_own hrow).old, World.ownsRow_nil _ _ _ _, grown_trans H2.out.2 g25, Nat.lt_of_lt_of_le H2.out.1.lt g25.size, Nat.le_refl _, Nat.le_trans H2.out.2.size g25.size⟩
 clear hS hrow hg5 HW4 H2 g25
 generalize w5.heap.size = C at *
 go_wp2_with fail
 go_loopw [8, 19] (fun vo a wr => ∃ (k : Nat) (po : Option Addr) (co : Nat), k ≤ ts.length ∧ a = .int .i64 (k : Int) ∧ vo = .slice po (mdK f ts k).length co ∧ Hid (AL w Mb N f ts ps cs C (.slice po (mdK f ts k).length co) (mdK f ts k) wr)) (fun _ a _ => ts.length - (RowKit.intOf a).toNat)
 case atStart => exact ⟨0, none, 0, Nat.zero_le _, rfl, rfl, A0⟩
 case round =>
 clear A0
 obtain ⟨k, po, co, hk, rfl, rfl, A1⟩ := hrel
 obtain ⟨w6, hw6⟩ : ∃ w6, w6 = wr := ⟨_, rfl⟩
 rw [← hw6] at A1 ⊢
 clear hw6
 by_cases hlt : k < ts.length
 case neg =>
  obtain rfl : k = ts.length := by omega
  have hnl : ¬ (ts.length : Int) < (ts.length : Int) := by omega
  rw [mdK_end] at A1 ⊢
  go_wp2_with fail
  go_ret
  exact ⟨ts, po, co, by rw [HF.out]; rfl, by rw [HF.out]; exact HTS.out, by rw [HF.out]; exact A1.out.own.mono A1.out.lo.2.2, A1.out.gr⟩
 case pos =>
 have hlt' : (k : Int) < (ts.length : Int) := by omega
 obtain ⟨x, hx⟩ : ∃ x, ts[k]? = some x := ⟨_, List.getElem?_eq_getElem hlt⟩
 obtain ⟨-, b, off, rfl, hq, hc⟩ := tvT_at A1.out.rt hx
 have d0 := hc k x hx
 obtain ⟨d, hd⟩ := Option.isSome_iff_exists.1 ((HTS.out.mem x).1 (List.mem_of_getElem? hx))
 have hdb := HOK.out.u x d hd
 have hx1 := hdb.2
 have q1 := (A1.out.mp.look (x := x) (by unfold I64; omega)).1
 rw [hd] at q1
 simp only [Option.getD_some] at q1
 have HS : Hid (mdK f ts (k + 1) = mdK f ts k ++ [⟨x, d⟩]) := Lib.hid (by have := mdK_next (f := f) hx; rw [hd] at this; exact this)
 have hMl := mdK_len f ts k
 obtain ⟨M, hM⟩ : ∃ M, mdK f ts k = M := ⟨_, rfl⟩
 obtain ⟨M2, hM2⟩ : ∃ M2, mdK f ts (k + 1) = M2 := ⟨_, rfl⟩
 rw [hM] at A1 HS hMl ⊢
 rw [hM2] at HS
 have HM2 := Lib.hid hM2
 have HO2 := Lib.hid A1.out.own
 have hsz : C ≤ w6.heap.size := A1.out.lo.2.1
 clear hc hx hd hM hM2 hdb hx1
 go_wp2_with (at_builtin; refine hold_on ?_)
 refine Lib.hid ?_
 refine wpList_append_lies _ rfl _ _ 90 rfl C 94 ie (.agg #[.int .i64 0, .int .u64 0]) 2 16 Tryz.underlying90 hie he0 he1 he2 rfl (by decide) (.slice po M.length co) M.length (M.flatMap mdC) rfl (HO2.out.alloc _) ⟨w6.heap.size, 0, none⟩ 1 1 [.int .i64 x, .int .u64 (d : Int)] rfl rfl (md_row w6 x d _) (md_one ⟨x, d⟩) (by decide) (by unfold maxLen; omega) (by omega) (by simp; omega) _ rfl ?_
 intro g cap w8 hown hgrow hat hlt8
 have A2 := Lib.hid ((A1.out.keep (World.grownBy_alloc _ _ none)).put (M2 := M ++ [(⟨x, d⟩ : Md)]) (by rw [List.length_append, List.flatMap_append]; simpa [mdC] using hown) hgrow)
 rw [← HS.out] at A2
 have HL : Hid (M.length + 1 = M2.length) := Lib.hid (by rw [HS.out, List.length_append]; rfl)
 rw [HL.out] at A2 ⊢
 clear hown hgrow hat hlt8 HO2 A1 hsz HL HS q1 d0 hMl
 go_wp2_with fail
 exact ⟨⟨k + 1, some ⟨g, 0, none⟩, cap, by omega, congrArg _ (by omega), by rw [HM2.out], by rw [HM2.out]; exact A2⟩, by simp only [RowKit.intOf]; omega⟩
end Go.Proofs.YtpogblengagpaaaGreatDoor

/- empty -/
namespace Go.Proofs.YtpogblengagpaaaGreatDoor
set_option maxRecDepth 100000
end Go.Proofs.YtpogblengagpaaaGreatDoor

/- empty -/
namespace Go.Proofs.YtpogblengagpaaaGreatDoor
set_option maxRecDepth 100000
end Go.Proofs.YtpogblengagpaaaGreatDoor
