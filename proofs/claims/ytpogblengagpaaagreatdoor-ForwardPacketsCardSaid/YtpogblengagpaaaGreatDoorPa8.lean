/- Parts of the proof, packed: PkCalls, PkRd, PkRes, PkRead, PkMis, PkSize, PkRefs, PkRefs2, IoCheckR, PkText, PkBox, Ref, Draw, PkTape, Fmt, Of, PkOnly, PkRest, PkMask, MaPln, MaLay, MaSrt. -/
import Derived.Test.YtpogblengagpaaaGreatDoorPa7
import Derived.Lib.ConvBytes
import Derived.Deep.CutRange
import Derived.Test.YtpogblengagpaaaGreatDoorPa1
import Derived.Lib.BufferRead
import Derived.Test.YtpogblengagpaaaGreatDoorPa2
import Derived.Lib.SlBytesRow
import Derived.Laws.IdiomStrings
import Derived.Test.YtpogblengagpaaaGreatDoorPa5
import Derived.Shelf.SlIterI.Sorted
import Derived.Shelf.SlLaysM
import Derived.Shelf.SortM.Plain
import Derived.Shelf.SortM.SortNone
/- empty -/
namespace Go.Proofs.YtpogblengagpaaaGreatDoor
set_option maxRecDepth 100000
end Go.Proofs.YtpogblengagpaaaGreatDoor

/- packet: the header of a packet is read. -/
namespace Go.Proofs.YtpogblengagpaaaGreatDoor
set_option maxRecDepth 100000
open Go.RowKit Bs
def hdc (V : Nat → Nat) (k : Nat) (n : Int) : Array Value := #[.int .i64 ((if 0 < k then V 0 else 0 : Nat) : Int), .int .i64 ((if 1 < k then V 1 else 0 : Nat) : Int), .int .i64 ((if 2 < k then V 2 else 0 : Nat) : Int), .int .i64 ((if 3 < k then V 3 else 0 : Nat) : Int), .int .i64 n, .int .i64 ((if 5 < k then V 5 else 0 : Nat) : Int), .int .i64 ((if 6 < k then V 6 else 0 : Nat) : Int), .int .i64 ((if 7 < k then V 7 else 0 : Nat) : Int), .int .i64 ((if 8 < k then V 8 else 0 : Nat) : Int), .int .u64 0, .string ⟨#[]⟩, .int .i64 ((if 4 < k then V 4 else 0 : Nat) : Int), .int .i64 ((if 9 < k then V 9 else 0 : Nat) : Int)]
section
variable {W w w1 : World} {l : List Nat} {p : Option Addr} {c : Nat} {V : Nat → Nat} {g k : Nat}
end
end Go.Proofs.YtpogblengagpaaaGreatDoor

/- packet: a header's value comes back. -/
namespace Go.Proofs.YtpogblengagpaaaGreatDoor
set_option maxRecDepth 100000
open Go.RowKit Bs
def hval (V : Nat → Nat) (n : Int) : Value := .agg (hdc V 10 n)
end Go.Proofs.YtpogblengagpaaaGreatDoor

/- empty -/
namespace Go.Proofs.YtpogblengagpaaaGreatDoor
set_option maxRecDepth 100000
end Go.Proofs.YtpogblengagpaaaGreatDoor

/- empty -/
namespace Go.Proofs.YtpogblengagpaaaGreatDoor
set_option maxRecDepth 100000
end Go.Proofs.YtpogblengagpaaaGreatDoor

/- packet: Size and Plane. -/
namespace Go.Proofs.YtpogblengagpaaaGreatDoor
set_option maxRecDepth 100000
open Go.RowKit Bs
def planeV (P : Pk) : Int := if vpk P = true then P.ent % 8 else 0
theorem vpk_len {P : Pk} (h : vpk P = true) : P.len = ((P.len.toNat : Nat) : Int) ∧ P.len.toNat ≤ 64 := by
 rcases vl_cases (vb_vl (vpk_parts h).2.2.2.2.2.2.2.2) with h | h | h | h <;> rw [h] <;> decide
theorem pplane_any (P : Pk) (hP : P.Wf) (w : World) :
  Calls Tryz.prog 39 #[P.val] w fun e w' => e = .returned (.int .i64 (planeV P)) ∧ w.grownBy w' none := by
 have hval : P.val = .agg #[.int .i64 P.mode, .int .i64 P.sub, .int .i64 P.set, .int .i64 P.len, .int .i64 P.ttl, .int .i64 P.ent, .int .i64 P.ing, .int .i64 P.pro, .int .u64 (P.bits : Int), .string P.pay] := rfl
 rw [hval]
 go_enter Tryz.func39, Tryz.ntmps39
 go_wp2_with fail
 obtain ⟨k1, k2⟩ := one_box w (pcells P) 28
 have HP := Lib.hid (And.intro k1 k2)
 clear k1 k2
 unfold pcells at HP
 generalize w.alloc _ = wa at *
 change Hid (wa.heap[w.heap.size]? = some (.cells (pcells P) 28 (0, 0)) ∧ w.grownBy wa none) at HP
 rw [← hval]
 refine (pvalid_any P hP _).mono ?_
 rintro e w1 ⟨rfl, hg⟩
 have HQ := Lib.hid (And.intro (kept_row HP.out.1 hg (by simp)) (grown_trans HP.out.2 hg))
 clear hg HP
 by_cases hv : vpk P = true
 ·have hE : Hid (planeV P = P.ent % 8) := Lib.hid (by unfold planeV; rw [if_pos hv])
  have he := (vpk_parts hv).2.2.2.2.1
  obtain ⟨he1, he2⟩ := he
  rw [hv]
  clear hv
  obtain ⟨_, _, _, _, _, a5, _⟩ := p_facts HQ.out.1
  go_wp2_with fail
  go_ret
  exact ⟨by rw [hE.out]; rfl, HQ.out.2⟩
 ·have hf : vpk P = false := by simpa using hv
  have hE : Hid (planeV P = 0) := Lib.hid (by unfold planeV; rw [if_neg hv])
  rw [hf]
  clear hf hv
  go_wp2_with fail
  go_ret
  exact ⟨by rw [hE.out]; rfl, HQ.out.2⟩
end Go.Proofs.YtpogblengagpaaaGreatDoor

/- packet: the reference's Valid, Size, Plane. -/
namespace Go.Proofs.YtpogblengagpaaaGreatDoor
set_option maxRecDepth 100000
open Go.RowKit Bs
def ins (n m : Int) : Bool := decide (0 ≤ n ∧ n ≤ m)
theorem inside_any (n m : Int) (w : World) :
  Calls Tryz.prog 74 #[.int .i64 n, .int .i64 m] w fun e w' => e = .returned (.bool (ins n m)) ∧ w = w' := by
 by_cases h : 0 ≤ n
 ·by_cases h2 : n ≤ m
  ·have hi : Hid (ins n m = true) := Lib.hid (decide_eq_true ⟨h, h2⟩)
   go_enter Tryz.func74, Tryz.ntmps74
   go_wp2
   all_goals (go_ret; exact ⟨by rw [hi.out]; first | rfl | (simp; omega), rfl⟩)
  ·have hi : Hid (ins n m = false) := Lib.hid (decide_eq_false (by omega))
   go_enter Tryz.func74, Tryz.ntmps74
   go_wp2
   all_goals (go_ret; exact ⟨by rw [hi.out]; first | rfl | (simp; omega), rfl⟩)
 ·have hi : Hid (ins n m = false) := Lib.hid (decide_eq_false (by omega))
  go_enter Tryz.func74, Tryz.ntmps74
  go_wp2
  all_goals (go_ret; exact ⟨by rw [hi.out]; first | rfl | (simp; omega), rfl⟩)
theorem vpk_iff (P : Pk) : vpk P = (decide (1 ≤ P.mode) && (decide (P.mode ≤ 3) && (ins P.sub 7 && (ins P.set 31 && (vb P.bits P.len && (ins P.ttl 63 && (ins P.ent 1023 && (ins P.ing 256 && (ins P.pro 7 && decide (P.pay.size ≤ 64)))))))))) := by
 unfold vpk ins
 rw [Bool.eq_iff_iff]
 simp only [decide_eq_true_eq, Bool.and_eq_true]
 constructor
 ·rintro ⟨⟨h1, h2⟩, h3, h4, h5, h6, h7, h8, h9, h10⟩
  exact ⟨h1, h2, h3, h4, h10, h5, h6, h7, h8, h9⟩
 ·rintro ⟨h1, h2, h3, h4, h10, h5, h6, h7, h8, h9⟩
  exact ⟨⟨h1, h2⟩, h3, h4, h5, h6, h7, h8, h9, h10⟩
set_option maxHeartbeats 3200000 in
theorem rvalid_any (P : Pk) (hP : P.Wf) (w : World) :
  Calls Tryz.prog 43 #[P.val] w fun e w' => e = .returned (.bool (vpk P)) ∧ w.grownBy w' none := by
 have hval : P.val = .agg #[.int .i64 P.mode, .int .i64 P.sub, .int .i64 P.set, .int .i64 P.len, .int .i64 P.ttl, .int .i64 P.ent, .int .i64 P.ing, .int .i64 P.pro, .int .u64 (P.bits : Int), .string P.pay] := rfl
 rw [hval]
 go_enter Tryz.func43, Tryz.ntmps43
 obtain ⟨k1, k2⟩ := one_box w (pcells P) 28
 have HA := Lib.hid (And.intro k1 k2)
 unfold pcells at HA
 clear k1 k2
 by_cases hs : P.pay.size ≤ 64
 ·have hsi : ((P.pay.size : Nat) : Int) ≤ 64 := by omega
  go_wp2_with (first
   | (go_at_call 74; refine (inside_any _ _ _).mono ?_; rintro e w' ⟨rfl, rfl⟩)
   | (go_at_call 75; refine (bvalidr_any P.bits P.len hP.bits _).mono ?_; rintro e w' ⟨rfl, rfl⟩))
  all_goals
   go_ret
   refine ⟨?_, HA.out.2⟩
   first
    | (rw [show vpk P = false by (rw [vpk_iff]; first | (simp [*]; done) | (rw [decide_eq_false (show ¬ 1 ≤ P.mode by omega)]; rfl) | (rw [decide_eq_false (show ¬ P.mode ≤ 3 by omega), Bool.false_and, Bool.and_false]))]; rfl)
    | (rw [show vpk P = true by rw [vpk_iff]; simp [*]]; rfl)
 ·have hsi : ¬ ((P.pay.size : Nat) : Int) ≤ 64 := by omega
  go_wp2_with (first
   | (go_at_call 74; refine (inside_any _ _ _).mono ?_; rintro e w' ⟨rfl, rfl⟩)
   | (go_at_call 75; refine (bvalidr_any P.bits P.len hP.bits _).mono ?_; rintro e w' ⟨rfl, rfl⟩))
  all_goals
   go_ret
   refine ⟨?_, HA.out.2⟩
   first
    | (rw [show vpk P = false by (rw [vpk_iff]; first | (simp [*]; done) | (rw [decide_eq_false (show ¬ 1 ≤ P.mode by omega)]; rfl) | (rw [decide_eq_false (show ¬ P.mode ≤ 3 by omega), Bool.false_and, Bool.and_false]))]; rfl)
    | (rw [show vpk P = false by (rw [vpk_iff]; simp [*]), decide_eq_false (show ¬ ((P.pay.size : Nat) : Int) ≤ 64 by omega)]; rfl)
end Go.Proofs.YtpogblengagpaaaGreatDoor

/- packet: the reference's Size and Plane. -/
namespace Go.Proofs.YtpogblengagpaaaGreatDoor
set_option maxRecDepth 100000
open Go.RowKit Bs
theorem rplane_any (P : Pk) (hP : P.Wf) (w : World) :
  Calls Tryz.prog 21 #[P.val] w fun e w' => e = .returned (.int .i64 (planeV P)) ∧ w.grownBy w' none := by
 have hval : P.val = .agg #[.int .i64 P.mode, .int .i64 P.sub, .int .i64 P.set, .int .i64 P.len, .int .i64 P.ttl, .int .i64 P.ent, .int .i64 P.ing, .int .i64 P.pro, .int .u64 (P.bits : Int), .string P.pay] := rfl
 rw [hval]
 go_enter Tryz.func21, Tryz.ntmps21
 go_wp2_with fail
 obtain ⟨k1, k2⟩ := one_box w (pcells P) 28
 have HP := Lib.hid (And.intro k1 k2)
 clear k1 k2
 unfold pcells at HP
 generalize w.alloc _ = wa at *
 change Hid (wa.heap[w.heap.size]? = some (.cells (pcells P) 28 (0, 0)) ∧ w.grownBy wa none) at HP
 rw [← hval]
 refine (rvalid_any P hP _).mono ?_
 rintro e w1 ⟨rfl, hg⟩
 have HQ := Lib.hid (And.intro (kept_row HP.out.1 hg (by simp)) (grown_trans HP.out.2 hg))
 clear hg HP
 by_cases hv : vpk P = true
 ·have hE : Hid (planeV P = P.ent % 8) := Lib.hid (by unfold planeV; rw [if_pos hv])
  have he := (vpk_parts hv).2.2.2.2.1
  obtain ⟨he1, he2⟩ := he
  rw [hv]
  clear hv
  obtain ⟨_, _, _, _, _, a5, _⟩ := p_facts HQ.out.1
  go_wp2_with fail
  go_ret
  exact ⟨by rw [hE.out]; rfl, HQ.out.2⟩
 ·have hf : vpk P = false := by simpa using hv
  have hE : Hid (planeV P = 0) := Lib.hid (by unfold planeV; rw [if_neg hv])
  rw [hf]
  clear hf hv
  go_wp2_with fail
  go_ret
  exact ⟨by rw [hE.out]; rfl, HQ.out.2⟩
end Go.Proofs.YtpogblengagpaaaGreatDoor

/- The reference's check number; Same. -/
namespace Go.Proofs.YtpogblengagpaaaGreatDoor
set_option maxRecDepth 100000
open Go.RowKit Bs
def bs (l : List Nat) : ByteArray := ⟨(l.map fun x => UInt8.ofNat x).toArray⟩
def same (l : List Nat) (n : Int) (l' : List Nat) (n' : Int) : Bool := n == n' && (bs l).toList == (bs l').toList
end Go.Proofs.YtpogblengagpaaaGreatDoor

/- The tape's texts. -/
namespace Go.Proofs.YtpogblengagpaaaGreatDoor
set_option maxRecDepth 100000
open Go.RowKit Bs
def bval (x : UInt8) : Value := .int .u8 (x.toNat : Int)
theorem conv_bytes {w : World} {q : Nat → Prop} {v : Value} {l : List UInt8} (hR : Rd w q v (l.map bval)) (h0 : l = [] → v = .slice none 0 0) :
  (convert 109 9 v).run Tryz.prog w = .ok (.string ⟨l.toArray⟩) w := by
 by_cases hl : l = []
 ·rw [h0 hl, hl]
  exact Lib.run_convert_nil_bytes (P := Tryz.prog) w 109 9 5 0 Tryz.underlying109 Tryz.underlying5 Tryz.underlying9
 ·obtain ⟨p, c, rfl, hc⟩ := hR
  obtain ⟨b, off, rfl, _, hcell⟩ := hc (by simpa using hl)
  rw [List.length_map]
  refine run_convert_bytes_back (P := Tryz.prog) w 109 9 5 ⟨b, off, none⟩ c l Tryz.underlying109 Tryz.underlying5 Tryz.underlying9 (fun j hj => ?_)
  have hadd : (⟨b, off, none⟩ : Addr).add j = ⟨b, off + j, none⟩ := by unfold Addr.add; split <;> simp_all
  rw [hadd]
  exact hcell j _ (by rw [List.getElem?_map, List.getElem?_eq_getElem hj]; rfl)
def TextRel (a most : Nat) (w : World) (v : Value) (k : Nat) (wr : World) : Prop :=
 ∃ l : List UInt8, l.length + k ≤ most ∧ wr.ownsRow w.heap.size 5 1 v l.length (l.map bval) ∧ (l = [] → v = .slice none 0 0) ∧ St a w wr
theorem TextRel.open_ {a most k : Nat} {w wr : World} {v : Value} (h : TextRel a most w v k wr) : ∃ l : List UInt8, l.length + k ≤ most ∧ wr.ownsRow w.heap.size 5 1 v l.length (l.map bval) ∧ (l = [] → v = .slice none 0 0) ∧ St a w wr := h
def TextPost (a most : Nat) (w : World) (e : Ending) (w' : World) : Prop := ∃ s : ByteArray, e = .returned (.string s) ∧ s.size ≤ most ∧ St a w w'
set_option maxHeartbeats 1600000 in
theorem text_any (a : Nat) (most : Nat) (hm : most ≤ 1000) (w : World) (hT : Tp w a) :
  Calls Tryz.prog 32 #[.pointer (some ⟨a, 0, none⟩), .int .i64 (most : Int)] w fun e w' => TextPost a most w e w' := by
 obtain ⟨i0, hi, hz0, hz1, hz2⟩ := info_parts info_u8
 have ha := hT.lt
 go_enter Tryz.func32, Tryz.ntmps32
 go_wp2_with fail
 refine (range_any a 0 (most : Int) (by omega) (by omega) (by omega) (by omega) _ hT).mono ?_
 rintro e w1 ⟨r, rfl, hr, hs1⟩
 obtain ⟨K, rfl⟩ := Int.eq_ofNat_of_zero_le hr.1
 have hK : K ≤ most := by unfold RangeOf at hr; omega
 have L0 : Hid (TextRel a most w (.slice none 0 0) K w1) :=
  Lib.hid ⟨[], by simpa using hK, World.ownsRow_nil _ _ _ _, fun _ => rfl, hs1⟩
 clear hr hs1
 go_wp2_with fail
 go_loopw [5, 6] (fun v i wr => ∃ k : Nat, k ≤ most ∧ i = .int .i64 (k : Int) ∧ TextRel a most w v k wr) (fun _ i _ => (RowKit.intOf i).toNat)
 case atStart => exact ⟨K, hK, rfl, L0.out⟩
 case round =>
  obtain ⟨k, hk, rfl, hL⟩ := hrel
  obtain ⟨l, hlk, hown0, hnil, hs⟩ := hL.open_
  clear hL L0
  by_cases hk1 : 1 ≤ k
  ·clear hnil
   go_wp2_with fail
   refine (next_any a 256 (by unfold I64; omega) _ hs.2).mono ?_
   rintro e w2 ⟨x, rfl, hx, hs2⟩
   obtain ⟨X, rfl⟩ := Int.eq_ofNat_of_zero_le hx.1
   have hX : X < 256 := by have := hx.2.1 (by omega); omega
   have hown := own_kept ha hown0 hs2.1
   have HS := Lib.hid (hs.trans hs2)
   have HO := Lib.hid hown
   have hsz := HS.out.1.size
   have hll : l.length ≤ 1000 := by omega
   have HLK := Lib.hid hlk
   clear hx hs hs2 hown0
   go_wp2_with (at_builtin; refine wpList_append_own _ rfl _ _ 109 rfl w.heap.size 5 i0 (.int .u8 0) 1 1 Tryz.underlying109 hi hz0 hz1 hz2 rfl (by decide) _ _ _ rfl (hown.alloc _) ⟨w2.heap.size, 0, none⟩ 1 1 [.int .u8 (X : Int)] rfl rfl ?c1 ?c2 ?c3 ?c4 ?c5 ?_)
   case c1 => exact cell_one _ _ _
   case c2 => intro u hu; simp at hu; subst hu; rfl
   case c3 => unfold maxLen; omega
   case c4 => omega
   case c5 => simp; omega
   intro v' w3 hown' hg _
   have R : Hid (TextRel a most w v' (k - 1) w3) := by
    have e1 := st_append HS.out ha HO.out hg
    have ex : bval (UInt8.ofNat X) = .int .u8 (X : Int) := by
     show Value.int .u8 (((UInt8.ofNat X).toNat : Nat) : Int) = _
     rw [UInt8.toNat_ofNat', Nat.mod_eq_of_lt hX]
    exact Lib.hid ⟨l ++ [UInt8.ofNat X], by rw [List.length_append]; have := HLK.out; simp; omega, by rw [List.length_append, List.map_append, List.map_cons, List.map_nil, ex]; exact hown', fun e => by simp at e, e1⟩
   clear hown' hg hown
   go_wp2_with fail
   go_roundw
   case rel => exact ⟨k - 1, by omega, by congr 1; omega, R.out⟩
   case measure => simp [RowKit.intOf]; omega
  ·obtain rfl : k = 0 := by omega
   have hconv := conv_bytes (rd_of_own hown0) hnil
   have HS := Lib.hid hs
   have HL := Lib.hid hlk
   clear hown0 hnil hs hlk
   go_wp2_with fail
   go_ret
   exact ⟨_, rfl, by have := HL.out; show l.toArray.size ≤ most; simp; omega, HS.out⟩
end Go.Proofs.YtpogblengagpaaaGreatDoor

/- packet: a packet's block. -/
namespace Go.Proofs.YtpogblengagpaaaGreatDoor
set_option maxRecDepth 100000
open Go.RowKit Bs
def zpk : Array Value := #[.int .i64 0, .int .i64 0, .int .i64 0, .int .i64 0, .int .i64 0, .int .i64 0, .int .i64 0, .int .i64 0, .int .u64 0, .string ⟨#[]⟩]
theorem pput_row {w : World} {h : Nat} (v0 v1 v2 v3 v4 v5 v6 v7 v8 v9 : Value) (hr : w.heap[h]? = some (.cells zpk 28 (0, 0))) :
  ((((((((((w.setCell ⟨h, 0, none⟩ v0).setCell ⟨h, 1, none⟩ v1).setCell ⟨h, 2, none⟩ v2).setCell ⟨h, 3, none⟩ v3).setCell ⟨h, 4, none⟩ v4).setCell ⟨h, 5, none⟩ v5).setCell ⟨h, 6, none⟩ v6).setCell ⟨h, 7, none⟩ v7).setCell ⟨h, 8, none⟩ v8).setCell ⟨h, 9, none⟩ v9).heap[h]? = some (.cells #[v0, v1, v2, v3, v4, v5, v6, v7, v8, v9] 28 (0, 0)) := by
 have e0 := heap_setCell_same _ h 0 _ _ v0 hr
 generalize w.setCell ⟨h, 0, none⟩ v0 = w0 at *
 replace e0 : w0.heap[h]? = some (.cells #[v0, .int .i64 0, .int .i64 0, .int .i64 0, .int .i64 0, .int .i64 0, .int .i64 0, .int .i64 0, .int .u64 0, .string ⟨#[]⟩] 28 (0, 0)) := e0
 have e1 := heap_setCell_same _ h 1 _ _ v1 e0
 generalize w0.setCell ⟨h, 1, none⟩ v1 = w1 at *
 replace e1 : w1.heap[h]? = some (.cells #[v0, v1, .int .i64 0, .int .i64 0, .int .i64 0, .int .i64 0, .int .i64 0, .int .i64 0, .int .u64 0, .string ⟨#[]⟩] 28 (0, 0)) := e1
 have e2 := heap_setCell_same _ h 2 _ _ v2 e1
 generalize w1.setCell ⟨h, 2, none⟩ v2 = w2 at *
 replace e2 : w2.heap[h]? = some (.cells #[v0, v1, v2, .int .i64 0, .int .i64 0, .int .i64 0, .int .i64 0, .int .i64 0, .int .u64 0, .string ⟨#[]⟩] 28 (0, 0)) := e2
 have e3 := heap_setCell_same _ h 3 _ _ v3 e2
 generalize w2.setCell ⟨h, 3, none⟩ v3 = w3 at *
 replace e3 : w3.heap[h]? = some (.cells #[v0, v1, v2, v3, .int .i64 0, .int .i64 0, .int .i64 0, .int .i64 0, .int .u64 0, .string ⟨#[]⟩] 28 (0, 0)) := e3
 have e4 := heap_setCell_same _ h 4 _ _ v4 e3
 generalize w3.setCell ⟨h, 4, none⟩ v4 = w4 at *
 replace e4 : w4.heap[h]? = some (.cells #[v0, v1, v2, v3, v4, .int .i64 0, .int .i64 0, .int .i64 0, .int .u64 0, .string ⟨#[]⟩] 28 (0, 0)) := e4
 have e5 := heap_setCell_same _ h 5 _ _ v5 e4
 generalize w4.setCell ⟨h, 5, none⟩ v5 = w5 at *
 replace e5 : w5.heap[h]? = some (.cells #[v0, v1, v2, v3, v4, v5, .int .i64 0, .int .i64 0, .int .u64 0, .string ⟨#[]⟩] 28 (0, 0)) := e5
 have e6 := heap_setCell_same _ h 6 _ _ v6 e5
 generalize w5.setCell ⟨h, 6, none⟩ v6 = w6 at *
 replace e6 : w6.heap[h]? = some (.cells #[v0, v1, v2, v3, v4, v5, v6, .int .i64 0, .int .u64 0, .string ⟨#[]⟩] 28 (0, 0)) := e6
 have e7 := heap_setCell_same _ h 7 _ _ v7 e6
 generalize w6.setCell ⟨h, 7, none⟩ v7 = w7 at *
 replace e7 : w7.heap[h]? = some (.cells #[v0, v1, v2, v3, v4, v5, v6, v7, .int .u64 0, .string ⟨#[]⟩] 28 (0, 0)) := e7
 have e8 := heap_setCell_same _ h 8 _ _ v8 e7
 generalize w7.setCell ⟨h, 8, none⟩ v8 = w8 at *
 replace e8 : w8.heap[h]? = some (.cells #[v0, v1, v2, v3, v4, v5, v6, v7, v8, .string ⟨#[]⟩] 28 (0, 0)) := e8
 have e9 := heap_setCell_same _ h 9 _ _ v9 e8
 generalize w8.setCell ⟨h, 9, none⟩ v9 = w9 at *
 replace e9 : w9.heap[h]? = some (.cells #[v0, v1, v2, v3, v4, v5, v6, v7, v8, v9] 28 (0, 0)) := e9
 exact e9
theorem pput_grown (w : World) (h : Nat) (v0 v1 v2 v3 v4 v5 v6 v7 v8 v9 : Value) : w.grownBy ((((((((((w.setCell ⟨h, 0, none⟩ v0).setCell ⟨h, 1, none⟩ v1).setCell ⟨h, 2, none⟩ v2).setCell ⟨h, 3, none⟩ v3).setCell ⟨h, 4, none⟩ v4).setCell ⟨h, 5, none⟩ v5).setCell ⟨h, 6, none⟩ v6).setCell ⟨h, 7, none⟩ v7).setCell ⟨h, 8, none⟩ v8).setCell ⟨h, 9, none⟩ v9) (some h) := by
 exact grown_trans (grown_trans (grown_trans (grown_trans (grown_trans (grown_trans (grown_trans (grown_trans (grown_trans (grown_setCell _ ⟨h, 0, none⟩ _) (grown_setCell _ ⟨h, 1, none⟩ _)) (grown_setCell _ ⟨h, 2, none⟩ _)) (grown_setCell _ ⟨h, 3, none⟩ _)) (grown_setCell _ ⟨h, 4, none⟩ _)) (grown_setCell _ ⟨h, 5, none⟩ _)) (grown_setCell _ ⟨h, 6, none⟩ _)) (grown_setCell _ ⟨h, 7, none⟩ _)) (grown_setCell _ ⟨h, 8, none⟩ _)) (grown_setCell _ ⟨h, 9, none⟩ _)
theorem zp_cells {w : World} {h : Nat} (hr : w.heap[h]? = some (.cells zpk 28 (0, 0))) :
  (w.cell? ⟨h, 0, none⟩ = some (.int .i64 0) ∧ w.cell? ⟨h, 1, none⟩ = some (.int .i64 0) ∧ w.cell? ⟨h, 2, none⟩ = some (.int .i64 0) ∧ w.cell? ⟨h, 3, none⟩ = some (.int .i64 0) ∧ w.cell? ⟨h, 4, none⟩ = some (.int .i64 0) ∧ w.cell? ⟨h, 5, none⟩ = some (.int .i64 0) ∧ w.cell? ⟨h, 6, none⟩ = some (.int .i64 0) ∧ w.cell? ⟨h, 7, none⟩ = some (.int .i64 0) ∧ w.cell? ⟨h, 8, none⟩ = some (.int .u64 0) ∧ w.cell? ⟨h, 9, none⟩ = some (.string ⟨#[]⟩)) ∧ w.frozen? ⟨h, 0, none⟩ = false ∧ w.frozen? ⟨h, 1, none⟩ = false ∧ w.frozen? ⟨h, 2, none⟩ = false ∧ w.frozen? ⟨h, 3, none⟩ = false ∧ w.frozen? ⟨h, 4, none⟩ = false ∧ w.frozen? ⟨h, 5, none⟩ = false ∧ w.frozen? ⟨h, 6, none⟩ = false ∧ w.frozen? ⟨h, 7, none⟩ = false ∧ w.frozen? ⟨h, 8, none⟩ = false ∧ w.frozen? ⟨h, 9, none⟩ = false :=
 ⟨⟨cell_of_row _ _ _ _ _ _ hr, cell_of_row _ _ _ _ _ _ hr, cell_of_row _ _ _ _ _ _ hr, cell_of_row _ _ _ _ _ _ hr, cell_of_row _ _ _ _ _ _ hr, cell_of_row _ _ _ _ _ _ hr, cell_of_row _ _ _ _ _ _ hr, cell_of_row _ _ _ _ _ _ hr, cell_of_row _ _ _ _ _ _ hr, cell_of_row _ _ _ _ _ _ hr⟩, frozen_of_row _ _ _ _ _ hr, frozen_of_row _ _ _ _ _ hr, frozen_of_row _ _ _ _ _ hr, frozen_of_row _ _ _ _ _ hr, frozen_of_row _ _ _ _ _ hr, frozen_of_row _ _ _ _ _ hr, frozen_of_row _ _ _ _ _ hr, frozen_of_row _ _ _ _ _ hr, frozen_of_row _ _ _ _ _ hr, frozen_of_row _ _ _ _ _ hr⟩
theorem packet_size : (Tryz.prog.info? 28).map (·.size) = some 10 := by kernel_rfl
end Go.Proofs.YtpogblengagpaaaGreatDoor

/- The reference's functions on bits: Count, Nth, First, Rank, Spread, Gather. -/
namespace Go.Proofs.YtpogblengagpaaaGreatDoor
set_option maxRecDepth 100000
open Go.RowKit Bs

def Nw (v : Value) (w : World) (e : Ending) (w' : World) : Prop := e = .returned v ∧ w.grownBy w' none
theorem Rd.form {w : World} {q : Nat → Prop} {v : Value} {vs : List Value} {n : Nat} (h : Rd w q v vs) (hn : vs.length = n) : ∃ p c, v = .slice p n c := by
 obtain ⟨p, c, hv, _⟩ := h
 exact ⟨p, c, by rw [hv, hn]⟩
theorem Rd.at1_ {w : World} {q : Nat → Prop} {p : Option Addr} {n c : Nat} {vs : List Value} {i : Nat} {x : Value} (h : Rd w q (.slice p n c) vs) (hi : vs[i]? = some x) :
  ∃ b off, p = some ⟨b, off, none⟩ ∧ w.cell? ⟨b, off + i, none⟩ = some x := by
 obtain ⟨p', c', hv, hc⟩ := h
 injection hv with e1 e2 e3
 subst e1
 obtain ⟨b, off, hp, _, hx⟩ := hc (by intro e; rw [e] at hi; simp at hi)
 exact ⟨b, off, hp, hx i x hi⟩
theorem bl_map_len (b : Nat) : ((bl b).map ival).length = cnt b := by rw [List.length_map]; rfl
theorem bl_map_at {b i k : Nat} (h : (bl b)[i]? = some k) : ((bl b).map ival)[i]? = some (.int .i64 (k : Int)) := by rw [List.getElem?_map, h]; rfl
theorem bl_at {b i : Nat} (h : i < cnt b) : ∃ k, (bl b)[i]? = some k ∧ k < 64 := by
 have h' : i < (bl b).length := h
 exact ⟨(bl b)[i], List.getElem?_eq_getElem h', bl_lt (List.getElem_mem h')⟩

set_option maxHeartbeats 400000 in
theorem nthr_any (b : Nat) (n : Int) (hb : U64 b) (w : World) :
  Calls Tryz.prog 108 #[.int .u64 (b : Int), .int .i64 n] w fun e w' => Nw (.int .i64 (nth b n)) w e w' := by
 have hc64 := cnt_le b
 by_cases hneg : n < 0
 ·have V := Lib.hid (nth_neg (b := b) hneg)
  go_enter Tryz.func108, Tryz.ntmps108
  go_wp2_with fail
  refine (listr_any b hb _).mono ?_
  rintro e w1 ⟨v, rfl, hR, hg⟩
  obtain ⟨p, c, rfl⟩ := hR.form (bl_map_len b)
  go_wp2_with fail
  go_ret
  exact ⟨ret_int (by rw [V.out]), hg⟩
 ·by_cases hfar : (cnt b : Int) ≤ n
  ·have V := Lib.hid (nth_far hfar)
   go_enter Tryz.func108, Tryz.ntmps108
   go_wp2_with fail
   refine (listr_any b hb _).mono ?_
   rintro e w1 ⟨v, rfl, hR, hg⟩
   obtain ⟨p, c, rfl⟩ := hR.form (bl_map_len b)
   go_wp2_with fail
   go_ret
   exact ⟨ret_int (by rw [V.out]), hg⟩
  ·obtain ⟨N, rfl⟩ := Int.eq_ofNat_of_zero_le (show 0 ≤ n by omega)
   have hN : N < cnt b := by omega
   obtain ⟨k, hk, _⟩ := bl_at hN
   have V := Lib.hid (nth_at hk)
   have n1 : decide ((N : Int) < 0) = false := by simp
   have n2 : decide (cnt b ≤ N) = false := by simp; omega
   clear hfar hneg
   go_enter Tryz.func108, Tryz.ntmps108
   go_wp2_with fail
   refine (listr_any b hb _).mono ?_
   rintro e w1 ⟨v, rfl, hR, hg⟩
   obtain ⟨p, c, rfl⟩ := hR.form (bl_map_len b)
   obtain ⟨g, off, rfl, hcell⟩ := hR.at1_ (bl_map_at hk)
   go_wp2_with fail
   go_ret
   exact ⟨ret_int (by rw [V.out]), hg⟩

theorem nth_zero (b : Nat) (hb : U64 b) : nth b 0 = fst b := by
 by_cases h0 : b = 0
 ·subst h0; decide +kernel
 ·rw [fst_pos h0]; exact nth_at (bl_head h0 hb.lt)
set_option maxHeartbeats 400000 in
theorem firstr_any (b : Nat) (hb : U64 b) (w : World) :
  Calls Tryz.prog 76 #[.int .u64 (b : Int)] w fun e w' => Nw (.int .i64 (fst b)) w e w' := by
 have V := Lib.hid (nth_zero b hb)
 go_enter Tryz.func76, Tryz.ntmps76
 go_wp2_with fail
 refine (nthr_any b 0 hb _).mono ?_
 rintro e w1 ⟨rfl, hg⟩
 go_wp2_with fail
 go_ret
 exact ⟨ret_int (by rw [V.out]), hg⟩

end Go.Proofs.YtpogblengagpaaaGreatDoor

/- The tape's bit strings. -/
namespace Go.Proofs.YtpogblengagpaaaGreatDoor
set_option maxRecDepth 100000
open Go.RowKit Bs

theorem vb_full {n : Int} (h : vl n = true) (z : Nat) : vb (z &&& full n) n = true := by
 unfold vb
 rw [h, and_compl z (full_u64 n)]; rfl
def BitsPost (n : Int) (a : Nat) (w : World) (e : Ending) (w' : World) : Prop := ∃ x : Nat, e = .returned (.int .u64 (x : Int)) ∧ U64 x ∧ vb x n = true ∧ St a w w'
theorem bits_end {n : Int} (h : vl n = true) (z : Nat) (hz : U64 z) : ∃ x : Nat, bits .and .u64 (z : Int) ((full n : Nat) : Int) = (x : Int) ∧ U64 x ∧ vb x n = true :=
 ⟨z &&& full n, andU z _ hz (full_u64 n), u64_and_le z _ hz, vb_full h z⟩
theorem all_ones : (18446744073709551615 : Int) = ((lo 64 : Nat) : Int) := by decide +kernel
set_option maxHeartbeats 800000 in
theorem bits_any (a : Nat) (n : Int) (hn : vl n = true) (w : World) (hT : Tp w a) :
  Calls Tryz.prog 17 #[.pointer (some ⟨a, 0, none⟩), .int .i64 n] w fun e w' => BitsPost n a w e w' := by
 have hn1 : 1 ≤ n := by rcases vl_cases hn with h | h | h | h <;> omega
 have hn2 : n ≤ 64 := by rcases vl_cases hn with h | h | h | h <;> omega
 have HV := Lib.hid hn
 clear hn
 go_enter Tryz.func17, Tryz.ntmps17
 go_wp2_with fail
 refine (raw_any a _ hT).mono ?_
 rintro e w1 ⟨x1, rfl, hx1, hs1⟩
 go_wp2_with fail
 refine (raw_any a _ hs1.2).mono ?_
 rintro e w2 ⟨x2, rfl, hx2, hs2⟩
 have h12 := hs1.trans hs2
 clear hx1 hx2 hs1 hs2
 go_wp2_with fail
 generalize hB : bits BinOp.xor IntKind.u64 _ _ = B
 obtain ⟨z, hz, hzB⟩ : ∃ z : Nat, U64 z ∧ B = (z : Int) := by rw [← hB]; exact bitsU _ _ _
 subst hzB
 clear hB
 refine (next_any a 6 (by unfold I64; omega) _ h12.2).mono ?_
 rintro e w3 ⟨r, rfl, hr, hs3⟩
 have h13 := h12.trans hs3
 have hr0 : 0 ≤ r := hr.1
 have hr1 : r < 6 := hr.2.1 (by omega)
 clear hr h12 hs3
 by_cases c0 : r = 0
 ·subst c0
  obtain ⟨y, hy, hyu, hyv⟩ := bits_end HV.out 0 (by unfold U64; decide)
  have HY := Lib.hid hy
  clear hy
  go_wp2_with (go_at_call 49; refine (fullr_any _ _).mono ?_; rintro e w' ⟨rfl, rfl⟩)
  go_ret
  exact ⟨y, ret_int HY.out, hyu, hyv, h13⟩
 ·by_cases c1 : r = 1
  ·subst c1
   clear c0
   go_wp2_with fail
   refine (next_any a n (by unfold I64; omega) _ h13.2).mono ?_
   rintro e w4 ⟨k, rfl, hk, hs4⟩
   have h14 := h13.trans hs4
   obtain ⟨K, rfl⟩ := Int.eq_ofNat_of_zero_le hk.1
   have hK : K < 64 := by have := hk.2.1 hn1; omega
   clear hk hs4
   obtain ⟨y, hy, hyu, hyv⟩ := bits_end HV.out (b2 K) (b2_u64 hK)
   have HY := Lib.hid hy
   clear hy
   go_wp2_with (first
    | (go_at_call 48; refine (bit_any K hK _).mono ?_; rintro e w' ⟨rfl, rfl⟩)
    | (go_at_call 49; refine (fullr_any _ _).mono ?_; rintro e w' ⟨rfl, rfl⟩))
   go_ret
   exact ⟨y, ret_int HY.out, hyu, hyv, h14⟩
  ·by_cases c2 : r = 2
   ·subst c2
    clear c0 c1
    obtain ⟨y, hy, hyu, hyv⟩ := bits_end HV.out (lo 64) (lo_u64 (by omega))
    rw [← all_ones] at hy
    have HY := Lib.hid hy
    clear hy
    go_wp2_with (go_at_call 49; refine (fullr_any _ _).mono ?_; rintro e w' ⟨rfl, rfl⟩)
    go_ret
    exact ⟨y, ret_int HY.out, hyu, hyv, h13⟩
   ·have b0 : (r == 0) = false := by simpa using c0
    have b1 : (r == 1) = false := by simpa using c1
    have b2' : (r == 2) = false := by simpa using c2
    clear c0 c1 c2
    obtain ⟨y, hy, hyu, hyv⟩ := bits_end HV.out z hz
    have HY := Lib.hid hy
    clear hy
    go_wp2_with (go_at_call 49; refine (fullr_any _ _).mono ?_; rintro e w' ⟨rfl, rfl⟩)
    go_ret
    exact ⟨y, ret_int HY.out, hyu, hyv, h13⟩
end Go.Proofs.YtpogblengagpaaaGreatDoor

/- The tape's packets. -/
namespace Go.Proofs.YtpogblengagpaaaGreatDoor
set_option maxRecDepth 100000
open Go.RowKit Bs
def PacketPost (a : Nat) (w : World) (e : Ending) (w' : World) : Prop := ∃ P : Pk, e = .returned P.val ∧ P.Wf ∧ vpk P = true ∧ St a w w'
theorem tp_store {w1 w2 : World} {a b : Nat} (h : Tp w1 a) (k : w1.grownBy w2 (some b)) (hb : a < b) : Tp w2 a := tp_new2 h k hb
theorem St.store {a b : Nat} {W w w1 : World} (h : St a W w) (k : w.grownBy w1 (some b)) (hb : W.heap.size ≤ b) (ha : a < W.heap.size) : St a W w1 :=
 ⟨⟨k.os.trans h.1.os, k.tape.trans h.1.tape, k.output.trans h.1.output, Nat.le_trans h.1.size k.size, fun i hi hia => (k.block i (Nat.lt_of_lt_of_le hi h.1.size) (fun e => by have := Option.some.inj e; omega)).trans (h.1.block i hi hia)⟩, by
  exact tp_store h.2 k (by omega)⟩
theorem res_packet {fn : Func} {p : Tmp} (h : fn.results = #[.cell p 28]) (tmps : Array Value) (w : World) (g : Nat) (xs : Array Value) (hp : tmps.getD p undef = .pointer (some ⟨g, 0, none⟩)) (hn : xs.size = 10) (hg : w.heap[g]? = some (.cells xs 28 (0, 0))) :
  (results fn tmps).run Tryz.prog w = .ok (.agg xs) w := by
 exact results_cell_row h tmps w g _ _ _ _ hp hg Tryz.underlying28 rfl (by rw [hn]; exact packet_size)
theorem i64_small {x : Int} (h1 : -2000 ≤ x) (h2 : x ≤ 2000) : I64 x := by unfold I64; omega
set_option maxHeartbeats 3200000 in
theorem packet0_any (a : Nat) (w : World) (hT : Tp w a) :
  Calls Tryz.prog 9 #[.pointer (some ⟨a, 0, none⟩), .int .i64 0] w fun e w' => PacketPost a w e w' := by
 have ha := hT.lt
 obtain ⟨k1, k2⟩ := one_box w zpk 28
 have HB := Lib.hid k1
 have S0 : St a w (w.alloc (.cells zpk 28)) := ⟨grown_none k2 _, hT.keep k2⟩
 clear k1 k2
 unfold zpk at HB S0
 go_enter Tryz.func9, Tryz.ntmps9
 go_wp2_with fail
 generalize w.alloc _ = wa at *
 change Hid (wa.heap[w.heap.size]? = some (.cells zpk 28 (0, 0))) at HB
 refine (length_any a _ S0.2).mono ?_
 rintro e w1 ⟨len, rfl, hlen, hs1⟩
 have S1 := S0.trans hs1
 go_wp2_with fail
 refine (range_any a 1 3 (by decide) (by decide) (by decide) (by decide) _ S1.2).mono ?_
 rintro e w2 ⟨mode, rfl, hmode, hs2⟩
 go_wp2_with fail
 refine (range_any a 0 7 (by decide) (by decide) (by decide) (by decide) _ hs2.2).mono ?_
 rintro e w3 ⟨sub, rfl, hsub, hs3⟩
 go_wp2_with fail
 refine (pick_any (fun r => 0 ≤ r ∧ r ≤ 31) a _ 0 5 5 (by omega) (by omega) _ (hs3.2.alloc _) (among_list _ w3 a [0, 0, 1, 2, 31] _ _ hs3.2.lt rfl (by decide))).mono ?_
 rintro e w4 ⟨set, rfl, hset, hs4⟩
 go_wp2_with fail
 refine (pick_any (fun r => 0 ≤ r ∧ r ≤ 63) a _ 0 5 5 (by omega) (by omega) _ (hs4.2.alloc _) (among_list _ w4 a [0, 1, 2, 5, 63] _ _ hs4.2.lt rfl (by decide))).mono ?_
 rintro e w5 ⟨ttl, rfl, httl, hs5⟩
 go_wp2_with fail
 refine (next_any a 1024 (by unfold I64; omega) _ hs5.2).mono ?_
 rintro e w6 ⟨ent, rfl, hent, hs6⟩
 go_wp2_with fail
 refine (pick_any (fun r => 0 ≤ r ∧ r ≤ 256) a _ 0 5 5 (by omega) (by omega) _ (hs6.2.alloc _) (among_list _ w6 a [0, 1, 8, 255, 256] _ _ hs6.2.lt rfl (by decide))).mono ?_
 rintro e w7 ⟨ing, rfl, hing, hs7⟩
 go_wp2_with fail
 refine (next_any a 8 (by unfold I64; omega) _ hs7.2).mono ?_
 rintro e w8 ⟨pro, rfl, hpro, hs8⟩
 go_wp2_with fail
 refine (bits_any a len hlen _ hs8.2).mono ?_
 rintro e w9 ⟨bits, rfl, hbu, hbv, hs9⟩
 go_wp2_with fail
 refine (text_any a 6 (by decide) _ hs9.2).mono ?_
 rintro e w10 ⟨pay, rfl, hpay, hs10⟩
 have S' := ((((((((hs1.trans hs2).trans hs3).trans hs4.alloc_left).trans hs5.alloc_left).trans hs6).trans hs7.alloc_left).trans hs8).trans hs9).trans hs10
 have S := Lib.hid (S0.trans S')
 have HR := Lib.hid (kept_row HB.out S'.1 (fun e => by have := Option.some.inj e; omega))
 have hV : Hid (vpk ⟨mode, sub, set, len, ttl, ent, ing, pro, bits, pay⟩ = true ∧ (⟨mode, sub, set, len, ttl, ent, ing, pro, bits, pay⟩ : Pk).Wf) := by
  have r1 := hmode.1
  have r2 := hmode.2.1 (by decide)
  have r3 := hsub.1
  have r4 := hsub.2.1 (by decide)
  have r5 := hent.1
  have r6 := hent.2.1 (by decide)
  have r7 := hpro.1
  have r8 := hpro.2.1 (by decide)
  refine Lib.hid ⟨decide_eq_true ⟨⟨r1, r2⟩, ⟨r3, r4⟩, hset, httl, ⟨r5, by show ent ≤ 1023; omega⟩, hing, ⟨r7, by show pro ≤ 7; omega⟩, Nat.le_trans hpay (by decide), hbv⟩, ?_⟩
  have hl : I64 len := by rcases vl_cases hlen with h | h | h | h <;> rw [h] <;> (unfold I64; decide)
  obtain ⟨q1, q2⟩ := hset
  obtain ⟨q3, q4⟩ := httl
  obtain ⟨q5, q6⟩ := hing
  exact ⟨i64_small (x := mode) (by omega) (by omega), i64_small (x := sub) (by omega) (by omega), i64_small (x := set) (by omega) (by omega), hl, i64_small (x := ttl) (by omega) (by omega), i64_small (x := ent) (by omega) (by omega), i64_small (x := ing) (by omega) (by omega), i64_small (x := pro) (by omega) (by omega), hbu, Nat.le_trans hpay (by decide)⟩
 have g11 := World.grownBy_alloc w10 (.cells #[.int .i64 mode, .int .i64 sub, .int .i64 set, .int .i64 len, .int .i64 ttl, .int .i64 ent, .int .i64 ing, .int .i64 pro, .int .u64 (bits : Int), .string pay] 28) none
 have HR2 := Lib.hid (kept_row HR.out g11 (by simp))
 have S2 := Lib.hid (S.out.none_ g11)
 obtain ⟨⟨r0, r1, r2, r3, r4, r5, r6, r7, r8, r9⟩, f0, f1, f2, f3, f4, f5, f6, f7, f8, f9⟩ := zp_cells HR2.out
 clear S' S HR HB S0 S1 hs1 hs2 hs3 hs4 hs5 hs6 hs7 hs8 hs9 hs10 hmode hsub hset httl hent hing hpro hbu hbv hpay hlen g11
 go_wp2_with fail
 refine bodyPost_ret (res_packet rfl _ _ w.heap.size _ rfl rfl (pput_row _ _ _ _ _ _ _ _ _ _ HR2.out)) rfl ?_
 exact ⟨⟨mode, sub, set, len, ttl, ent, ing, pro, bits, pay⟩, rfl, hV.out.2, hV.out.1, S2.out.store (pput_grown _ w.heap.size _ _ _ _ _ _ _ _ _ _) (Nat.le_refl _) ha⟩
end Go.Proofs.YtpogblengagpaaaGreatDoor

/- The program's Format. -/
namespace Go.Proofs.YtpogblengagpaaaGreatDoor
set_option maxRecDepth 100000
open Go.RowKit Bs

end Go.Proofs.YtpogblengagpaaaGreatDoor

/- Of, of the program and of the reference. -/
namespace Go.Proofs.YtpogblengagpaaaGreatDoor
set_option maxRecDepth 100000
open Go.RowKit Bs

end Go.Proofs.YtpogblengagpaaaGreatDoor

/- packet: Only and Masked, of the program and of the reference. -/
namespace Go.Proofs.YtpogblengagpaaaGreatDoor
set_option maxRecDepth 100000
open Go.RowKit Bs
def zP : Pk := ⟨0, 0, 0, 0, 0, 0, 0, 0, 0, ⟨#[]⟩⟩
def mskP (P : Pk) (m : Nat) : Pk × Bool := if vpk P = true ∧ P.ttl ≠ 0 ∧ P.bits &&& m ≠ 0 then ({ P with bits := P.bits &&& m, ttl := P.ttl - 1 }, true) else (zP, false)
structure TB (W : World) (P : Pk) (w : World) : Prop where
 pb : w.heap[W.heap.size]? = some (.cells (pcells P) 28 (0, 0))
 zb : w.heap[W.heap.size + 1]? = some (.cells zpk 28 (0, 0))
 gr : W.grownBy w none
theorem TB.keep {W w w1 : World} {P : Pk} (H : TB W P w) (g : w.grownBy w1 none) : TB W P w1 := ⟨kept_row H.pb g (by simp), kept_row H.zb g (by simp), grown_trans H.gr g⟩
theorem TB.at_bits {W w : World} {P : Pk} (H : TB W P w) (b : Nat) : TB W { P with bits := b } (w.setCell ⟨W.heap.size, 8, none⟩ (.int .u64 (b : Int))) := by
 have j := grown_setCell w ⟨W.heap.size, 8, none⟩ (.int .u64 (b : Int))
 refine ⟨heap_setCell_same w _ 8 _ _ _ H.pb, kept_row H.zb j (fun e => by have : W.heap.size + 1 = W.heap.size := Option.some.inj e; omega), grown_new H.gr j (Nat.le_refl _)⟩
theorem TB.at_ttl {W w : World} {P : Pk} (H : TB W P w) (x : Int) : TB W { P with ttl := x } (w.setCell ⟨W.heap.size, 4, none⟩ (.int .i64 x)) := by
 have j := grown_setCell w ⟨W.heap.size, 4, none⟩ (.int .i64 x)
 refine ⟨heap_setCell_same w _ 4 _ _ _ H.pb, kept_row H.zb j (fun e => by have : W.heap.size + 1 = W.heap.size := Option.some.inj e; omega), grown_new H.gr j (Nat.le_refl _)⟩
end Go.Proofs.YtpogblengagpaaaGreatDoor

/- packet: the rest of a packet is read. -/
namespace Go.Proofs.YtpogblengagpaaaGreatDoor
set_option maxRecDepth 100000
open Go.RowKit Bs
theorem res_packet_err {fn : Func} {p u : Tmp} (h : fn.results = #[.cell p 28, .tmp u]) (tmps : Array Value) (w : World) (g : Nat) (xs : Array Value) (hp : tmps.getD p undef = .pointer (some ⟨g, 0, none⟩)) (hn : xs.size = 10) (hg : w.heap[g]? = some (.cells xs 28 (0, 0))) :
  (results fn tmps).run Tryz.prog w = .ok (.tuple #[.agg xs, tmps.getD u undef]) w := by
 have hp' : tmps[p]?.getD undef = .pointer (some ⟨g, 0, none⟩) := by simpa using hp
 rw [results_cell_tmp h]
 simp [hp', asAddr, run_loadVar_row w g _ _ _ _ _ hg Tryz.underlying28 rfl (by rw [hn]; exact packet_size), Result.andThen]
section
variable {W w w1 : World} {V : Nat → Nat} {n b : Nat} {s : ByteArray} {l : List Nat} {p : Option Addr} {c : Nat}
end
section
variable {w : World} {q : Nat → Prop} {l : List Nat} {p : Option Addr} {c : Nat}
end
end Go.Proofs.YtpogblengagpaaaGreatDoor

/- packet: Masked, of the program and of the reference. -/
namespace Go.Proofs.YtpogblengagpaaaGreatDoor
set_option maxRecDepth 100000
open Go.RowKit Bs
set_option maxHeartbeats 3200000 in
theorem maskr_any (P : Pk) (hP : P.Wf) (m : Nat) (hm : U64 m) (w : World) :
  Calls Tryz.prog 79 #[P.val, .int .u64 (m : Int)] w fun e w' => e = .returned (.tuple #[(mskP P m).1.val, .bool (mskP P m).2]) ∧ w.grownBy w' none := by
 have hval : P.val = .agg #[.int .i64 P.mode, .int .i64 P.sub, .int .i64 P.set, .int .i64 P.len, .int .i64 P.ttl, .int .i64 P.ent, .int .i64 P.ing, .int .i64 P.pro, .int .u64 (P.bits : Int), .string P.pay] := rfl
 rw [hval]
 go_enter Tryz.func79, Tryz.ntmps79
 go_wp2_with fail
 obtain ⟨k1, k2, k3, _⟩ := two_boxes w (pcells P) zpk 28 28
 have H0 := Lib.hid (TB.mk k1 k2 k3)
 clear k1 k2 k3
 unfold pcells zpk at H0
 generalize (w.alloc _).alloc _ = wa at *
 rw [← hval]
 refine (rvalid_any P hP _).mono ?_
 rintro e w1 ⟨rfl, hg⟩
 have H1 := Lib.hid (H0.out.keep hg)
 clear H0 hg
 obtain ⟨a0, a1, a2, a3, a4, a5, a6, a7, a8, a9⟩ := p_facts H1.out.pb
 obtain ⟨⟨z0, z1, z2, z3, z4, z5, z6, z7, z8, z9⟩, f0, f1, f2, f3, f4, f5, f6, f7, f8, f9⟩ := zp_cells H1.out.zb
 by_cases hv : vpk P = true
 ·rw [hv]
  by_cases ht : P.ttl = 0
  ·have hE : Hid (mskP P m = (zP, false)) := Lib.hid (by unfold mskP; rw [if_neg (fun h => h.2.1 ht)])
   clear hv hval
   go_wp2_with fail
   refine bodyPost_ret (res_packet_err rfl _ _ (w.heap.size + 1) _ rfl rfl (pput_row _ _ _ _ _ _ _ _ _ _ H1.out.zb)) rfl ?_
   exact ⟨by rw [hE.out]; rfl, grown_new H1.out.gr (pput_grown _ (w.heap.size + 1) _ _ _ _ _ _ _ _ _ _) (Nat.le_succ _)⟩
  ·have hand := andU P.bits m hP.bits hm
   by_cases hb : P.bits &&& m = 0
   ·have hE : Hid (mskP P m = (zP, false)) := Lib.hid (by unfold mskP; rw [if_neg (fun h => h.2.2 hb)])
    rw [hb] at hand
    clear hv hval hb
    go_wp2_with fail
    refine bodyPost_ret (res_packet_err rfl _ _ (w.heap.size + 1) _ rfl rfl (pput_row _ _ _ _ _ _ _ _ _ _ H1.out.zb)) rfl ?_
    exact ⟨by rw [hE.out]; rfl, grown_new H1.out.gr (pput_grown _ (w.heap.size + 1) _ _ _ _ _ _ _ _ _ _) (Nat.le_succ _)⟩
   ·have hE : Hid (mskP P m = ({ P with bits := P.bits &&& m, ttl := P.ttl - 1 }, true)) := Lib.hid (by unfold mskP; rw [if_pos ⟨hv, ht, hb⟩])
    have hne : ((P.bits &&& m : Nat) : Int) ≠ 0 := by omega
    have hw : IntKind.i64.wrap (P.ttl - 1) = P.ttl - 1 := by
     have h1 := (vpk_parts hv).2.2.2.1
     exact IntWalk.i64_in _ (by omega)
    generalize P.bits &&& m = b at *
    have e1 : (P.ttl == 0) = false := by simp [ht]
    have e2 : ((b : Int) == 0) = false := by simpa using hne
    have H2 := Lib.hid (H1.out.at_bits b)
    have c8 := frozen_of_row _ _ 8 _ _ H1.out.pb
    clear hv hval hb
    go_upto_region 4 with fail
    clear a0 a1 a2 a3 a4 a5 a6 a7 a8 a9 z0 z1 z2 z3 z4 z5 z6 z7 z8 z9 f0 f1 f2 f3 f4 f5 f6 f7 f8 f9 c8 H1 hand hne e1 e2 ht
    generalize w1.setCell _ _ = w2 at *
    have a4 : w2.cell? ⟨w.heap.size, 4, none⟩ = some (.int .i64 P.ttl) := cell_of_row _ _ _ _ _ _ H2.out.pb
    have c4 := frozen_of_row _ _ 4 _ _ H2.out.pb
    have H3 := Lib.hid (H2.out.at_ttl (P.ttl - 1))
    go_upto_region 5 with fail
    clear H2 a4 c4
    generalize w2.setCell _ _ = w3 at *
    obtain ⟨a0, a1, a2, a3, a4, a5, a6, a7, a8, a9⟩ := p_facts H3.out.pb
    obtain ⟨⟨z0, z1, z2, z3, z4, z5, z6, z7, z8, z9⟩, f0, f1, f2, f3, f4, f5, f6, f7, f8, f9⟩ := zp_cells H3.out.zb
    go_wp2_with fail
    refine bodyPost_ret (res_packet_err rfl _ _ (w.heap.size + 1) _ rfl rfl (pput_row _ _ _ _ _ _ _ _ _ _ H3.out.zb)) rfl ?_
    exact ⟨by rw [hE.out]; rfl, grown_new H3.out.gr (pput_grown _ (w.heap.size + 1) _ _ _ _ _ _ _ _ _ _) (Nat.le_succ _)⟩
 ·have hE : Hid (mskP P m = (zP, false)) := Lib.hid (by unfold mskP; rw [if_neg (fun h => hv h.1)])
  have hf : vpk P = false := by simpa using hv
  rw [hf]
  clear hv hf hval
  go_wp2_with fail
  refine bodyPost_ret (res_packet_err rfl _ _ (w.heap.size + 1) _ rfl rfl (pput_row _ _ _ _ _ _ _ _ _ _ H1.out.zb)) rfl ?_
  exact ⟨by rw [hE.out]; rfl, grown_new H1.out.gr (pput_grown _ (w.heap.size + 1) _ _ _ _ _ _ _ _ _ _) (Nat.le_succ _)⟩
set_option maxHeartbeats 3200000 in
theorem maskp_any (P : Pk) (hP : P.Wf) (m : Nat) (hm : U64 m) (w : World) :
  Calls Tryz.prog 70 #[P.val, .int .u64 (m : Int)] w fun e w' => e = .returned (.tuple #[(mskP P m).1.val, .bool (mskP P m).2]) ∧ w.grownBy w' none := by
 have hval : P.val = .agg #[.int .i64 P.mode, .int .i64 P.sub, .int .i64 P.set, .int .i64 P.len, .int .i64 P.ttl, .int .i64 P.ent, .int .i64 P.ing, .int .i64 P.pro, .int .u64 (P.bits : Int), .string P.pay] := rfl
 rw [hval]
 go_enter Tryz.func70, Tryz.ntmps70
 go_wp2_with fail
 obtain ⟨k1, k2, k3, _⟩ := two_boxes w (pcells P) zpk 28 28
 have H0 := Lib.hid (TB.mk k1 k2 k3)
 clear k1 k2 k3
 unfold pcells zpk at H0
 generalize (w.alloc _).alloc _ = wa at *
 rw [← hval]
 refine (pvalid_any P hP _).mono ?_
 rintro e w1 ⟨rfl, hg⟩
 have H1 := Lib.hid (H0.out.keep hg)
 clear H0 hg
 obtain ⟨a0, a1, a2, a3, a4, a5, a6, a7, a8, a9⟩ := p_facts H1.out.pb
 obtain ⟨⟨z0, z1, z2, z3, z4, z5, z6, z7, z8, z9⟩, f0, f1, f2, f3, f4, f5, f6, f7, f8, f9⟩ := zp_cells H1.out.zb
 by_cases hv : vpk P = true
 ·rw [hv]
  by_cases ht : P.ttl = 0
  ·have hE : Hid (mskP P m = (zP, false)) := Lib.hid (by unfold mskP; rw [if_neg (fun h => h.2.1 ht)])
   clear hv hval
   go_wp2_with fail
   refine bodyPost_ret (res_packet_err rfl _ _ (w.heap.size + 1) _ rfl rfl (pput_row _ _ _ _ _ _ _ _ _ _ H1.out.zb)) rfl ?_
   exact ⟨by rw [hE.out]; rfl, grown_new H1.out.gr (pput_grown _ (w.heap.size + 1) _ _ _ _ _ _ _ _ _ _) (Nat.le_succ _)⟩
  ·have hand := andU P.bits m hP.bits hm
   by_cases hb : P.bits &&& m = 0
   ·have hE : Hid (mskP P m = (zP, false)) := Lib.hid (by unfold mskP; rw [if_neg (fun h => h.2.2 hb)])
    rw [hb] at hand
    clear hv hval hb
    go_wp2_with fail
    refine bodyPost_ret (res_packet_err rfl _ _ (w.heap.size + 1) _ rfl rfl (pput_row _ _ _ _ _ _ _ _ _ _ H1.out.zb)) rfl ?_
    exact ⟨by rw [hE.out]; rfl, grown_new H1.out.gr (pput_grown _ (w.heap.size + 1) _ _ _ _ _ _ _ _ _ _) (Nat.le_succ _)⟩
   ·have hE : Hid (mskP P m = ({ P with bits := P.bits &&& m, ttl := P.ttl - 1 }, true)) := Lib.hid (by unfold mskP; rw [if_pos ⟨hv, ht, hb⟩])
    have hne : ((P.bits &&& m : Nat) : Int) ≠ 0 := by omega
    have hw : IntKind.i64.wrap (P.ttl - 1) = P.ttl - 1 := by
     have h1 := (vpk_parts hv).2.2.2.1
     exact IntWalk.i64_in _ (by omega)
    generalize P.bits &&& m = b at *
    have e1 : (P.ttl == 0) = false := by simp [ht]
    have e2 : ((b : Int) == 0) = false := by simpa using hne
    have H2 := Lib.hid (H1.out.at_bits b)
    have c8 := frozen_of_row _ _ 8 _ _ H1.out.pb
    clear hv hval hb
    go_upto_region 4 with fail
    clear a0 a1 a2 a3 a4 a5 a6 a7 a8 a9 z0 z1 z2 z3 z4 z5 z6 z7 z8 z9 f0 f1 f2 f3 f4 f5 f6 f7 f8 f9 c8 H1 hand hne e1 e2 ht
    generalize w1.setCell _ _ = w2 at *
    have a4 : w2.cell? ⟨w.heap.size, 4, none⟩ = some (.int .i64 P.ttl) := cell_of_row _ _ _ _ _ _ H2.out.pb
    have c4 := frozen_of_row _ _ 4 _ _ H2.out.pb
    have H3 := Lib.hid (H2.out.at_ttl (P.ttl - 1))
    go_upto_region 5 with fail
    clear H2 a4 c4
    generalize w2.setCell _ _ = w3 at *
    obtain ⟨a0, a1, a2, a3, a4, a5, a6, a7, a8, a9⟩ := p_facts H3.out.pb
    obtain ⟨⟨z0, z1, z2, z3, z4, z5, z6, z7, z8, z9⟩, f0, f1, f2, f3, f4, f5, f6, f7, f8, f9⟩ := zp_cells H3.out.zb
    go_wp2_with fail
    refine bodyPost_ret (res_packet_err rfl _ _ (w.heap.size + 1) _ rfl rfl (pput_row _ _ _ _ _ _ _ _ _ _ H3.out.zb)) rfl ?_
    exact ⟨by rw [hE.out]; rfl, grown_new H3.out.gr (pput_grown _ (w.heap.size + 1) _ _ _ _ _ _ _ _ _ _) (Nat.le_succ _)⟩
 ·have hE : Hid (mskP P m = (zP, false)) := Lib.hid (by unfold mskP; rw [if_neg (fun h => hv h.1)])
  have hf : vpk P = false := by simpa using hv
  rw [hf]
  clear hv hf hval
  go_wp2_with fail
  refine bodyPost_ret (res_packet_err rfl _ _ (w.heap.size + 1) _ rfl rfl (pput_row _ _ _ _ _ _ _ _ _ _ H1.out.zb)) rfl ?_
  exact ⟨by rw [hE.out]; rfl, grown_new H1.out.gr (pput_grown _ (w.heap.size + 1) _ _ _ _ _ _ _ _ _ _) (Nat.le_succ _)⟩
end Go.Proofs.YtpogblengagpaaaGreatDoor

/- empty -/
namespace Go.Proofs.YtpogblengagpaaaGreatDoor
set_option maxRecDepth 100000
end Go.Proofs.YtpogblengagpaaaGreatDoor

/- The library's contracts on maps.Keys, slices.Sorted and slices.Sort, laid at this program. -/
namespace Go.Proofs.YtpogblengagpaaaGreatDoor
set_option maxRecDepth 100000
open Go.Shelf
def keysU_ren : Go.Shelf.Ren := ⟨fun | 7 => 68 | 10 => 107 | n => n, fun | 23 => 114 | 26 => 3 | 3 => 26 | 28 => 118 | 0 => 0 | 27 => 117 | 33 => 33 | 4 => 4 | n => n, fun | n => n⟩
theorem keysU : Go.Proofs.SlLaysZI.n7 Tryz.prog keysU_ren where
 mixed := by kernel_rfl
 f7 := ⟨ "maps.Keys[map[int]uint64,int,uint64]", by decide, Tryz.func68.trans (congrArg some (by kernel_rfl))⟩
 f10 := ⟨ "maps.Keys[map[int]uint64,int,uint64]$1", by decide, Tryz.func107.trans (congrArg some (by kernel_rfl))⟩
 t0 := Tryz.underlying0
 a0 := Tryz.isAgg0
 z0 := Tryz.sizeOf0
 v0 := Tryz.zeroValue0
 t4 := Tryz.underlying4
 a4 := Tryz.isAgg4
 z4 := Tryz.sizeOf4
 v4 := Tryz.zeroValue4
 t23 := Tryz.underlying114
 a23 := Tryz.isAgg114
 z23 := Tryz.sizeOf114
 v23 := Tryz.zeroValue114
 t26 := Tryz.underlying3
 a26 := Tryz.isAgg3
 z26 := Tryz.sizeOf3
 v26 := Tryz.zeroValue3
 t27 := Tryz.underlying117
 a27 := Tryz.isAgg117
 z27 := Tryz.sizeOf117
 v27 := Tryz.zeroValue117
 t28 := Tryz.underlying118
 a28 := Tryz.isAgg118
 z28 := Tryz.sizeOf118
 v28 := Tryz.zeroValue118
 t33 := Tryz.underlying33
 a33 := Tryz.isAgg33
 z33 := Tryz.sizeOf33
 v33 := Tryz.zeroValue33
def sortedU_ren : Go.Shelf.Ren := ⟨fun | 6 => 67 | 8 => 105 | 9 => 106 | 11 => 126 | 13 => 128 | 12 => 127 | 23 => 143 | 24 => 144 | 14 => 134 | 15 => 135 | 16 => 136 | 17 => 137 | 18 => 138 | 19 => 139 | 20 => 140 | 21 => 141 | 22 => 142 | 25 => 145 | 26 => 146 | 27 => 147 | 28 => 148 | 29 => 149 | 30 => 150 | 31 => 151 | n => n, fun | 26 => 3 | 28 => 118 | 24 => 22 | 0 => 0 | 3 => 3 | 37 => 130 | 48 => 174 | 50 => 26 | 4 => 4 | 40 => 168 | 39 => 167 | 45 => 126 | 5 => 5 | 9 => 9 | 51 => 175 | 55 => 179 | 57 => 181 | 58 => 182 | 33 => 33 | n => n, fun | n => n⟩
theorem sortedU : Go.Proofs.SlLaysZI.n6 Tryz.prog sortedU_ren where
 mixed := by kernel_rfl
 f6 := ⟨ "slices.Sorted[int]", by decide, Tryz.func67.trans (congrArg some (by kernel_rfl))⟩
 f8 := ⟨ "slices.Collect[int]", by decide, Tryz.func105.trans (congrArg some (by kernel_rfl))⟩
 f11 := ⟨ "slices.AppendSeq[[]int,int]", by decide, Tryz.func126.trans (congrArg some (by kernel_rfl))⟩
 t0 := Tryz.underlying0
 a0 := Tryz.isAgg0
 z0 := Tryz.sizeOf0
 v0 := Tryz.zeroValue0
 t24 := Tryz.underlying22
 a24 := Tryz.isAgg22
 z24 := Tryz.sizeOf22
 v24 := Tryz.zeroValue22
 t26 := Tryz.underlying3
 a26 := Tryz.isAgg3
 z26 := Tryz.sizeOf3
 v26 := Tryz.zeroValue3
 t28 := Tryz.underlying118
 a28 := Tryz.isAgg118
 z28 := Tryz.sizeOf118
 v28 := Tryz.zeroValue118
 i26 := by kernel_rfl
def sortU_ren : Go.Shelf.Ren := ⟨fun | 5 => 106 | 8 => 128 | 7 => 127 | 19 => 143 | 20 => 144 | 10 => 134 | 11 => 135 | 12 => 136 | 13 => 137 | 14 => 138 | 15 => 139 | 16 => 140 | 17 => 141 | 18 => 142 | 30 => 145 | 31 => 146 | 32 => 147 | 33 => 148 | 34 => 149 | 35 => 150 | 40 => 151 | n => n, fun | 23 => 22 | 25 => 3 | 3 => 3 | 32 => 130 | 22 => 22 | 0 => 0 | 44 => 174 | 46 => 26 | 4 => 4 | 36 => 168 | 35 => 167 | 41 => 126 | 5 => 5 | 9 => 9 | 53 => 175 | 57 => 179 | 63 => 181 | 64 => 182 | n => n, fun | n => n⟩
theorem sortU : Go.Proofs.SlLaysM.n5 Tryz.prog sortU_ren where
 mixed := by kernel_rfl
 f5 := ⟨ "slices.Sort[[]int,int]", by decide, Tryz.func106.trans (congrArg some (by kernel_rfl))⟩
 f7 := ⟨ "slices.pdqsortOrdered[int]", by decide, Tryz.func127.trans (congrArg some (by kernel_rfl))⟩
 f8 := Tryz.func128.trans (congrArg some (by kernel_rfl))
 f10 := ⟨ "slices.insertionSortOrdered[int]", by decide, Tryz.func134.trans (congrArg some (by kernel_rfl))⟩
 f11 := ⟨ "slices.heapSortOrdered[int]", by decide, Tryz.func135.trans (congrArg some (by kernel_rfl))⟩
 f12 := ⟨ "slices.breakPatternsOrdered[int]", by decide, Tryz.func136.trans (congrArg some (by kernel_rfl))⟩
 f13 := ⟨ "slices.choosePivotOrdered[int]", by decide, Tryz.func137.trans (congrArg some (by kernel_rfl))⟩
 f14 := ⟨ "slices.reverseRangeOrdered[int]", by decide, Tryz.func138.trans (congrArg some (by kernel_rfl))⟩
 f15 := ⟨ "slices.partialInsertionSortOrdered[int]", by decide, Tryz.func139.trans (congrArg some (by kernel_rfl))⟩
 f16 := ⟨ "cmp.Less[int]", by decide, Tryz.func140.trans (congrArg some (by kernel_rfl))⟩
 f17 := ⟨ "slices.partitionEqualOrdered[int]", by decide, Tryz.func141.trans (congrArg some (by kernel_rfl))⟩
 f18 := ⟨ "slices.partitionOrdered[int]", by decide, Tryz.func142.trans (congrArg some (by kernel_rfl))⟩
 f19 := Tryz.func143.trans (congrArg some (by kernel_rfl))
 f20 := Tryz.func144.trans (congrArg some (by kernel_rfl))
 f30 := ⟨ "slices.siftDownOrdered[int]", by decide, Tryz.func145.trans (congrArg some (by kernel_rfl))⟩
 f31 := Tryz.func146.trans (congrArg some (by kernel_rfl))
 f32 := Tryz.func147.trans (congrArg some (by kernel_rfl))
 f33 := ⟨ "slices.medianAdjacentOrdered[int]", by decide, Tryz.func148.trans (congrArg some (by kernel_rfl))⟩
 f34 := ⟨ "slices.medianOrdered[int]", by decide, Tryz.func149.trans (congrArg some (by kernel_rfl))⟩
 f35 := ⟨ "cmp.isNaN[int]", by decide, Tryz.func150.trans (congrArg some (by kernel_rfl))⟩
 f40 := ⟨ "slices.order2Ordered[int]", by decide, Tryz.func151.trans (congrArg some (by kernel_rfl))⟩
 t0 := Tryz.underlying0
 a0 := Tryz.isAgg0
 z0 := Tryz.sizeOf0
 v0 := Tryz.zeroValue0
 t3 := Tryz.underlying3
 a3 := Tryz.isAgg3
 z3 := Tryz.sizeOf3
 v3 := Tryz.zeroValue3
 t4 := Tryz.underlying4
 a4 := Tryz.isAgg4
 z4 := Tryz.sizeOf4
 v4 := Tryz.zeroValue4
 t5 := Tryz.underlying5
 a5 := Tryz.isAgg5
 z5 := Tryz.sizeOf5
 v5 := Tryz.zeroValue5
 t9 := Tryz.underlying9
 a9 := Tryz.isAgg9
 z9 := Tryz.sizeOf9
 v9 := Tryz.zeroValue9
 t22 := Tryz.underlying22
 a22 := Tryz.isAgg22
 z22 := Tryz.sizeOf22
 v22 := Tryz.zeroValue22
 t23 := Tryz.underlying22
 a23 := Tryz.isAgg22
 z23 := Tryz.sizeOf22
 v23 := Tryz.zeroValue22
 t25 := Tryz.underlying3
 a25 := Tryz.isAgg3
 z25 := Tryz.sizeOf3
 v25 := Tryz.zeroValue3
 t32 := Tryz.underlying130
 a32 := Tryz.isAgg130
 z32 := Tryz.sizeOf130
 v32 := Tryz.zeroValue130
 t35 := Tryz.underlying167
 a35 := Tryz.isAgg167
 z35 := Tryz.sizeOf167
 v35 := Tryz.zeroValue167
 t36 := Tryz.underlying168
 a36 := Tryz.isAgg168
 z36 := Tryz.sizeOf168
 v36 := Tryz.zeroValue168
 t41 := Tryz.underlying126
 a41 := Tryz.isAgg126
 z41 := Tryz.sizeOf126
 v41 := Tryz.zeroValue126
 t44 := Tryz.underlying174
 a44 := Tryz.isAgg174
 z44 := Tryz.sizeOf174
 v44 := Tryz.zeroValue174
 t46 := Tryz.underlying26
 a46 := Tryz.isAgg26
 z46 := Tryz.sizeOf26
 v46 := Tryz.zeroValue26
 t53 := Tryz.underlying175
 a53 := Tryz.isAgg175
 z53 := Tryz.sizeOf175
 v53 := Tryz.zeroValue175
 t57 := Tryz.underlying179
 a57 := Tryz.isAgg179
 z57 := Tryz.sizeOf179
 v57 := Tryz.zeroValue179
 t63 := Tryz.underlying181
 a63 := Tryz.isAgg181
 z63 := Tryz.sizeOf181
 v63 := Tryz.zeroValue181
 t64 := Tryz.underlying182
 a64 := Tryz.isAgg182
 z64 := Tryz.sizeOf182
 v64 := Tryz.zeroValue182
end Go.Proofs.YtpogblengagpaaaGreatDoor

/- slices.Sorted(maps.Keys(masks)). -/
namespace Go.Proofs.YtpogblengagpaaaGreatDoor
set_option maxRecDepth 100000
open Go.RowKit Go.Maps Bs
theorem sortsU (m : Nat) : AnyZI.SortsIn Tryz.prog sortedU_ren Fence.wide m :=
 ⟨fun blk off cap ss W hH hblk hsz => callsIn_wide.2 (AnyM.slices_Sort_int sortU blk off cap ss W hH hblk hsz),
  fun p cap W => callsIn_wide.2 (AnyM.slices_Sort_int_none sortU p cap W)⟩
structure AscM (f : Int → Option Nat) (ts : List Int) : Prop where
 asc : ts.Pairwise (· < ·)
 mem : ∀ x, x ∈ ts ↔ (f x).isSome = true
theorem ascM_of {ss : List Int} (h : ss.Nodup) : (ss.mergeSort (fun x y => decide (x ≤ y))).Pairwise (· < ·) := by
 have h1 : (ss.mergeSort (fun x y => decide (x ≤ y))).Pairwise (fun x y => decide (x ≤ y) = true) :=
  List.pairwise_mergeSort (fun a b c h1 h2 => by have := of_decide_eq_true h1; have := of_decide_eq_true h2; exact decide_eq_true (by omega)) (fun a b => by
   by_cases hab : a ≤ b
   ·simp [hab]
   ·have : b ≤ a := by omega
    simp [this]) ss
 have h2 : (ss.mergeSort (fun x y => decide (x ≤ y))).Nodup := (List.mergeSort_perm ss _).nodup_iff.2 h
 have h3 := List.Pairwise.and h1 h2
 exact h3.imp (fun {a b} h => by have := of_decide_eq_true h.1; have := h.2; omega)
theorem below_grownU {w w' : World} (h : Go.RowKit.Below w.heap.size w w') : w.grownBy w' none := ⟨h.os, h.tape, h.output, h.size, fun b hb _ => h.block b hb⟩
theorem mkeys_any (mb : Option Nat) (w : World) :
  Calls Tryz.prog 68 #[.map mb] w fun e w' => e = .returned (.func (.func 107) #[] #[.pointer (some ⟨w.heap.size, 0, none⟩)]) ∧ w' = w.alloc (.cells #[.map mb] 114) :=
 callsIn_wide.1 (AnyZI.keys_in keysU Fence.wide 5 trivial rfl mb w)
set_option maxHeartbeats 1600000 in
theorem mkz_any (f : Int → Option Nat) (b n : Nat) (hn : n ≤ 1000000) (Bk : Nat) (w : World) (hk : w.cell? ⟨Bk, 0, none⟩ = some (.map (some b))) (hBk : Bk < w.heap.size) (hm : OMu w b n f) :
  Calls Tryz.prog 67 #[.func (.func 107) #[] #[.pointer (some ⟨Bk, 0, none⟩)]] w fun e w' =>
   ∃ v ts, e = .returned v ∧ AscM f ts ∧ w'.ownsRow w.heap.size 3 1 v ts.length (ts.map tv) ∧ w.grownBy w' none := by
 obtain ⟨D, hown, hmf⟩ := hm
 have hsz := hown.size_le
 have hseq := AnyZI.keys_gives (ρ := keysU_ren) { keysU with } Fence.wide 2 trivial rfl (by omega) Bk b n D w hBk hk hown
 have cS := callsIn_wide.1 (AnyZI.sorted_in sortedU Fence.wide 5 trivial trivial trivial trivial rfl (by omega) (sortsU _) (enters_of Tryz.func106 (by kernel_rfl) rfl) 107 #[.pointer (some ⟨Bk, 0, none⟩)] trivial (enters_of Tryz.func107 (by kernel_rfl) rfl) _ (Maps.size D) (by unfold maxLen; omega) (by omega) w hseq)
 change Calls Tryz.prog 67 _ _ _ at cS
 refine cS.mono ?_
 rintro e w1 ⟨v, ss, rfl, hS, hrow, hnil, hb⟩
 obtain ⟨hnd, hmem⟩ := OMu.keys hown hmf hS
 refine ⟨v, ss.mergeSort (fun x y => decide (x ≤ y)), rfl, ⟨ascM_of hnd, fun x => ?_⟩, ?_, below_grownU hb⟩
 ·rw [(List.mergeSort_perm ss _).mem_iff]
  exact hmem x
 ·rw [List.length_mergeSort]
  exact hrow
end Go.Proofs.YtpogblengagpaaaGreatDoor
