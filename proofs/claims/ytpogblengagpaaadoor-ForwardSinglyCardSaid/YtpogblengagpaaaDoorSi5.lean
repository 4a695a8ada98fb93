/- Parts of the proof, packed: ShRtr, ToChkLaw, ToUnt2, ShPre, ShCtM, ShNxM, ToReach, ToStep, ToOpn, ToOpnF, ToIns, ToArnM, ToLookR, ToArnd, ToRcp, ShTrM, ShReM, ShRAt, ShRSt, ShRTo, TaHop, IdM, IdArr, IdLeaf, IdPlc, TaM. -/
import Derived.Test.YtpogblengagpaaaDoorSi4
import Derived.Test.YtpogblengagpaaaDoorSi2
import Derived.Test.YtpogblengagpaaaDoorSi1
import Derived.Test.YtpogblengagpaaaDoorSi3
import Derived.Maps.AppendAt
import Derived.Deep.CutBlock
import Derived.Deep.Onto
import Derived.Deep.AppendLies
import Derived.BigQuiet
import Derived.Deep.OwnRows
import Derived.Deep.WholeRow
/- The tape's Router of any topology: what is known of its number. -/
namespace Go.Proofs.YtpogblengagpaaaDoor
set_option maxRecDepth 100000
open Go.RowKit Bs
def RtP (T : Tg) (n x : Int) : Prop := (∃ r ∈ T.R, r.id = x) ∨ ((0 < n ∨ T.R.length = 0) ∧ -1 ≤ x ∧ x ≤ 77)
set_option maxHeartbeats 3200000 in
theorem srouter_any (a : Nat) (T : Tg) (n : Int) (hn : I64 n) (h0 : 0 < T.R.length) (q : Nat → Prop) (w : World) (hT : TgOk w q T) (hq : ∀ b, q b → b ≠ a) (hp : Tp w a) :
  Calls Tryd.prog 21 #[.pointer (some ⟨a, 0, none⟩), .agg #[.slice T.pR T.R.length T.cR, .slice T.pL T.L.length T.cL], .int .i64 n] w fun e w' => ∃ x : Int, RtP T n x ∧ e = .returned (.int .i64 x) ∧ St a w w' := by
 have ha := hp.lt
 have hmR := Nat.le_trans hT.cr.1 hT.cr.2
 obtain ⟨k1, k2⟩ := tone_box w #[.slice T.pR T.R.length T.cR, .slice T.pL T.L.length T.cL] 58
 have H0 : Hid (RM a w T q _) := Lib.hid ⟨k1, hT.keep k2, ⟨grown_none k2 _, hp.keep k2⟩⟩
 have HQ := Lib.hid hq
 clear k1 k2 hT hp hq
 obtain ⟨R, L, pR, cR, pL, cL⟩ := T
 simp only at hmR H0 h0 ⊢
 obtain ⟨-, b, off, rfl, -, -⟩ := rdr_cells (R := R) H0.out.t.r h0
 go_enter Tryd.func21, Tryd.ntmps21
 go_upto_region 1 with fail
 generalize w.alloc _ = wa at *
 obtain ⟨c0, c1⟩ := row_cells H0.out.tb
 have hz : ((R.length : Int) == 0) = false := by rw [beq_eq_false_iff_ne]; omega
 go_cut [19] from 7 to 19 (fun bb wx => ∃ z, bb = .bool z ∧ (z = true → 0 < n) ∧ Hid (RM a w ⟨R, L, some ⟨b, off, none⟩, cR, pL, cL⟩ q wx))
 case first =>
  by_cases hn1 : 0 < n
  ·go_wp2_with fail
   refine (one_any a n hn _ H0.out.st.2).mono ?_
   rintro e w5 ⟨z, rfl, hs⟩
   have H1 := Lib.hid (H0.out.tape ha HQ.out hs)
   clear hs c0 c1 H0
   obtain ⟨c0, c1⟩ := row_cells H1.out.tb
   cases z
   ·go_wp2_with fail
    go_meet
    exact ⟨_, rfl, fun _ => hn1, H1⟩
   ·go_wp2_with fail
    go_meet
    exact ⟨_, rfl, fun _ => hn1, H1⟩
  ·go_wp2_with fail
   go_meet
   exact ⟨false, rfl, (fun h => (by cases h)), H0⟩
 case rest =>
 obtain ⟨z, rfl, hzn, H1⟩ := hcut
 have HZN := Lib.hid hzn
 clear hzn
 clear H0 c0 c1
 go_upto_if 19 with fail
 cases z
 ·have i1 : 0 < R.length := h0
  go_upto_region 3 with fail
  refine wp_region_held_drew (S := fun w' => Hid (RM a w ⟨R, L, some ⟨b, off, none⟩, cR, pL, cL⟩ q w')) (by kernel_rfl) (Lib.hid (H1.out.keep (grown_drew (grown_refl _ _)))) (fun hHeld => ?_)
  refine zT (i := 0) (v := ?_) rfl ?_ hHeld ?_
  rotate_left 1
  ·intro u hSu
   go_simp
   first | done | with_reducible rfl
  try simp only [Act.put, zA, zB, zC]
  refine zT (i := 1) (v := ?_) rfl ?_ hHeld ?_
  rotate_left 1
  ·intro u hSu
   obtain ⟨q0, q1⟩ := row_cells hSu.out.tb
   go_simp
   first | done | with_reducible rfl
  try simp only [Act.put, zA, zB, zC]
  refine zT (i := 2) (v := ?_) rfl ?_ hHeld ?_
  rotate_left 1
  ·intro u hSu
   go_simp
   first | done | with_reducible rfl
  try simp only [Act.put, zA, zB, zC]
  refine zT (i := 3) (v := ?_) rfl ?_ hHeld ?_
  rotate_left 1
  ·intro u hSu
   go_simp
   first | done | with_reducible rfl
  try simp only [Act.put, zA, zB, zC]
  refine zT (i := 4) (v := ?_) rfl ?_ hHeld ?_
  rotate_left 1
  ·intro u hSu
   obtain ⟨q0, q1⟩ := row_cells hSu.out.tb
   go_simp
   first | done | with_reducible rfl
  try simp only [Act.put, zA, zB, zC]
  refine zT (i := 5) (v := ?_) rfl ?_ hHeld ?_
  rotate_left 1
  ·intro u hSu
   obtain ⟨q0, q1⟩ := row_cells hSu.out.tb
   go_simp
   first | done | with_reducible rfl
  try simp only [Act.put, zA, zB, zC]
  refine wpAnyH_ready (rs := [6]) (by kernel_rfl) (by simp) ?_
  refine AllReadyH.cons (o := ⟨_, _, _, _, _, _⟩) rfl (fun Kz hK => ?_) AllReadyH.nil
  go_simp
  go_at_call 16
  refine (next_any a R.length (by unfold I64; omega) _ hHeld.out.st.2).mono ?_
  rintro e w5 ⟨y, rfl, hy, hs⟩
  obtain ⟨i, rfl⟩ := Int.eq_ofNat_of_zero_le hy.1
  have hi : i < R.length := by have := hy.2.1 (by omega); omega
  have H5n := Lib.hid (hHeld.out.tape ha HQ.out hs)
  clear hy hs
  have j0 : (0 : Int) ≤ (i : Int) := by omega
  have j1 : (i : Int) < (R.length : Int) := by omega
  obtain ⟨m, hm⟩ : ∃ m, R[i]? = some m := ⟨_, List.getElem?_eq_getElem hi⟩
  have HM := Lib.hid hm
  clear hm
  refine hK.out _ _ (H5n) (fun hH2 => ?_)
  clear hK Kz hHeld
  have hHeld := hH2
  clear hH2
  try simp only [Act.put, zA, zB, zC]
  refine zT (i := 7) (v := ?_) rfl ?_ hHeld ?_
  rotate_left 1
  ·intro u hSu
   go_simp
   first | done | with_reducible rfl
  try simp only [Act.put, zA, zB, zC]
  refine zT (i := 8) (v := ?_) rfl ?_ hHeld ?_
  rotate_left 1
  ·intro u hSu
   go_simp
   first | done | with_reducible rfl
  try simp only [Act.put, zA, zB, zC]
  refine zT (i := 9) (v := ?_) rfl ?_ hHeld ?_
  rotate_left 1
  ·intro u hSu
   obtain ⟨q0, q1⟩ := row_cells hSu.out.tb
   obtain ⟨e0, e1⟩ := hSu.out.rt HM.out
   go_simp
   first | done | with_reducible rfl
  try simp only [Act.put, zA, zB, zC]
  refine zT (i := 10) (v := ?_) rfl ?_ hHeld ?_
  rotate_left 1
  ·intro u hSu
   go_simp
   first | done | with_reducible rfl
  try simp only [Act.put, zA, zB, zC]
  refine wpAnyH_done (by kernel_rfl) ?_ _
  have H9 := Lib.hid hHeld.out.st
  clear hHeld
  go_wp2_with fail
  go_ret
  exact ⟨m.id, Or.inl ⟨m, List.mem_of_getElem? HM.out, rfl⟩, rfl, H9.out⟩
 ·have HT := Lib.hid (H1.out.st.2.alloc (.cells #[.int .i64 0, .int .i64 1, .int .i64 2, .int .i64 7, .int .i64 77, .int .i64 (-1)] 3))
  have HA := Lib.hid (among_list (fun x => -1 ≤ x ∧ x ≤ 77) wc a [0, 1, 2, 7, 77, -1] #[.int .i64 0, .int .i64 1, .int .i64 2, .int .i64 7, .int .i64 77, .int .i64 (-1)] 3 H1.out.st.2.lt rfl (by intro x hx; simp at hx; omega))
  go_wp2_with fail
  refine (pick_any _ a _ 0 6 6 (by omega) (by omega) _ HT.out HA.out).mono ?_
  rintro e w2 ⟨x, rfl, hxp, hs⟩
  have HS := Lib.hid (H1.out.st.trans (St.alloc_left hs))
  clear hs HT HA H1
  have HXP := Lib.hid hxp
  clear hxp
  go_wp2_with fail
  go_ret
  exact ⟨x, Or.inr ⟨Or.inl (HZN.out (by first | rfl | trivial)), HXP.out⟩, rfl, HS.out⟩
set_option maxHeartbeats 3200000 in
theorem srouter0_any (a : Nat) (T : Tg) (n : Int) (hn : I64 n) (h0 : T.R.length = 0) (q : Nat → Prop) (w : World) (hT : TgOk w q T) (hq : ∀ b, q b → b ≠ a) (hp : Tp w a) :
  Calls Tryd.prog 21 #[.pointer (some ⟨a, 0, none⟩), .agg #[.slice T.pR T.R.length T.cR, .slice T.pL T.L.length T.cL], .int .i64 n] w fun e w' => ∃ x : Int, RtP T n x ∧ e = .returned (.int .i64 x) ∧ St a w w' := by
 have ha := hp.lt
 have hmR := Nat.le_trans hT.cr.1 hT.cr.2
 obtain ⟨k1, k2⟩ := tone_box w #[.slice T.pR T.R.length T.cR, .slice T.pL T.L.length T.cL] 58
 have H0 : Hid (RM a w T q _) := Lib.hid ⟨k1, hT.keep k2, ⟨grown_none k2 _, hp.keep k2⟩⟩
 have HQ := Lib.hid hq
 clear k1 k2 hT hp hq
 obtain ⟨R, L, pR, cR, pL, cL⟩ := T
 simp only at hmR H0 h0 ⊢
 have hz : ((R.length : Int) == 0) = true := by rw [beq_iff_eq]; omega
 have H00 := Lib.hid h0
 clear h0
 go_enter Tryd.func21, Tryd.ntmps21
 go_upto_region 1 with fail
 generalize w.alloc _ = wa at *
 obtain ⟨c0, c1⟩ := row_cells H0.out.tb
 go_cut [19] from 7 to 19 (fun bb wx => bb = .bool true ∧ Hid (RM a w ⟨R, L, pR, cR, pL, cL⟩ q wx))
 case first =>
  by_cases hn1 : 0 < n
  ·go_wp2_with fail
   refine (one_any a n hn _ H0.out.st.2).mono ?_
   rintro e w5 ⟨z, rfl, hs⟩
   have H1 := Lib.hid (H0.out.tape ha HQ.out hs)
   clear hs c0 c1 H0
   obtain ⟨c0, c1⟩ := row_cells H1.out.tb
   cases z
   ·go_wp2_with fail
    go_meet
    exact ⟨by first | rfl | (simp [hz]), H1⟩
   ·go_wp2_with fail
    go_meet
    exact ⟨rfl, H1⟩
  ·go_wp2_with fail
   go_meet
   exact ⟨by first | rfl | (simp [hz]), H0⟩
 case rest =>
 obtain ⟨rfl, H1⟩ := hcut
 clear H0 c0 c1
 go_upto_if 19 with fail
 have HT := Lib.hid (H1.out.st.2.alloc (.cells #[.int .i64 0, .int .i64 1, .int .i64 2, .int .i64 7, .int .i64 77, .int .i64 (-1)] 3))
 have HA := Lib.hid (among_list (fun x => -1 ≤ x ∧ x ≤ 77) wc a [0, 1, 2, 7, 77, -1] #[.int .i64 0, .int .i64 1, .int .i64 2, .int .i64 7, .int .i64 77, .int .i64 (-1)] 3 H1.out.st.2.lt rfl (by intro x hx; simp at hx; omega))
 go_wp2_with fail
 refine (pick_any _ a _ 0 6 6 (by omega) (by omega) _ HT.out HA.out).mono ?_
 rintro e w2 ⟨x, rfl, hxp, hs⟩
 have HS := Lib.hid (H1.out.st.trans (St.alloc_left hs))
 clear hs HT HA H1
 have HXP := Lib.hid hxp
 clear hxp
 go_wp2_with fail
 go_ret
 exact ⟨x, Or.inr ⟨Or.inr H00.out, HXP.out⟩, rfl, HS.out⟩
theorem srtr_any (a : Nat) (T : Tg) (n : Int) (hn : I64 n) (q : Nat → Prop) (w : World) (hT : TgOk w q T) (hq : ∀ b, q b → b ≠ a) (hp : Tp w a) :
  Calls Tryd.prog 21 #[.pointer (some ⟨a, 0, none⟩), .agg #[.slice T.pR T.R.length T.cR, .slice T.pL T.L.length T.cL], .int .i64 n] w fun e w' => ∃ x : Int, RtP T n x ∧ e = .returned (.int .i64 x) ∧ St a w w' := by
 by_cases h : 0 < T.R.length
 ·exact srouter_any a T n hn h q w hT hq hp
 ·exact srouter0_any a T n hn (by omega) q w hT hq hp
end Go.Proofs.YtpogblengagpaaaDoor

/- empty -/
namespace Go.Proofs.YtpogblengagpaaaDoor
set_option maxRecDepth 100000
end Go.Proofs.YtpogblengagpaaaDoor

/- As until: what is not late keeps what holds. -/
namespace Go.Proofs.YtpogblengagpaaaDoor
set_option maxRecDepth 100000
open Go
section
variable {P : Program} {ops : Array Oper} {Q : Exit → Act → World → Prop} {md : Region.Mode} {S : World → Prop} {late : Nat → Bool}
end
end Go.Proofs.YtpogblengagpaaaDoor

/- empty -/
namespace Go.Proofs.YtpogblengagpaaaDoor
set_option maxRecDepth 100000
end Go.Proofs.YtpogblengagpaaaDoor

/- empty -/
namespace Go.Proofs.YtpogblengagpaaaDoor
set_option maxRecDepth 100000
end Go.Proofs.YtpogblengagpaaaDoor

/- empty -/
namespace Go.Proofs.YtpogblengagpaaaDoor
set_option maxRecDepth 100000
end Go.Proofs.YtpogblengagpaaaDoor

/- empty -/
namespace Go.Proofs.YtpogblengagpaaaDoor
set_option maxRecDepth 100000
end Go.Proofs.YtpogblengagpaaaDoor

/- append at a step of a region that draws its order, whatever the source; failures while they grow. -/
namespace Go.Proofs.YtpogblengagpaaaDoor
set_option maxRecDepth 100000
open Go.RowKit Bs
section
variable {a Bf : Nat} {w wr w1 : World} {T : Tg} {q : Nat → Prop} {uH uX vH vX v' : Value} {H H' : List Hp} {X X' : List Int}
end
end Go.Proofs.YtpogblengagpaaaDoor

/- empty -/
namespace Go.Proofs.YtpogblengagpaaaDoor
set_option maxRecDepth 100000
end Go.Proofs.YtpogblengagpaaaDoor

/- empty -/
namespace Go.Proofs.YtpogblengagpaaaDoor
set_option maxRecDepth 100000
end Go.Proofs.YtpogblengagpaaaDoor

/- empty -/
namespace Go.Proofs.YtpogblengagpaaaDoor
set_option maxRecDepth 100000
end Go.Proofs.YtpogblengagpaaaDoor

/- empty -/
namespace Go.Proofs.YtpogblengagpaaaDoor
set_option maxRecDepth 100000
end Go.Proofs.YtpogblengagpaaaDoor

/- empty -/
namespace Go.Proofs.YtpogblengagpaaaDoor
set_option maxRecDepth 100000
end Go.Proofs.YtpogblengagpaaaDoor

/- empty -/
namespace Go.Proofs.YtpogblengagpaaaDoor
set_option maxRecDepth 100000
end Go.Proofs.YtpogblengagpaaaDoor

/- empty -/
namespace Go.Proofs.YtpogblengagpaaaDoor
set_option maxRecDepth 100000
end Go.Proofs.YtpogblengagpaaaDoor

/- The law ShortestTriangles: its mathematics; the tape's Any. -/
namespace Go.Proofs.YtpogblengagpaaaDoor
set_option maxRecDepth 100000
open Go.RowKit Go.Maps Bs
theorem Wk.trans {L : List Lk} {a b c m n : Int} (h : Wk L a b m) (k : Wk L b c n) : Wk L a c (m + n) :=
 Wk.ind (Q := fun x n => Wk L a x (m + n)) (by rw [Int.add_zero]; exact h) (fun u x v d _ hq he => by rw [← Int.add_assoc]; exact hq.step he) k
end Go.Proofs.YtpogblengagpaaaDoor

/- The reference's tables of costs and of numbers: the mathematics. -/
namespace Go.Proofs.YtpogblengagpaaaDoor
set_option maxRecDepth 100000
open Go.RowKit Bs
def atV (R : List Rt) (D : Int → Int) (r : Int) : Int := if r ∈ ids R then D r else farN
def okS (R : List Rt) (L : List Lk) (D : Int → Int) (x r u : Int) : Bool := decide (atV R D u < farN) && decide ((priceV L r u).1 + atV R D u = x)
def stV (R : List Rt) (L : List Lk) (D : Int → Int) (r : Int) : List Int := if atV R D r = farN ∨ atV R D r = 0 then [] else (nearR R L r).filter (okS R L D (atV R D r) r)
end Go.Proofs.YtpogblengagpaaaDoor

/- empty -/
namespace Go.Proofs.YtpogblengagpaaaDoor
set_option maxRecDepth 100000
end Go.Proofs.YtpogblengagpaaaDoor

/- empty -/
namespace Go.Proofs.YtpogblengagpaaaDoor
set_option maxRecDepth 100000
end Go.Proofs.YtpogblengagpaaaDoor

/- empty -/
namespace Go.Proofs.YtpogblengagpaaaDoor
set_option maxRecDepth 100000
end Go.Proofs.YtpogblengagpaaaDoor

/- tables, the reference's functions: Hops. -/
namespace Go.Proofs.YtpogblengagpaaaDoor
set_option maxRecDepth 100000
open Go.RowKit Bs
theorem nodup_leH : ∀ (l V : List Int), l.Nodup → (∀ x ∈ l, x ∈ V) → l.length ≤ V.length
 | [], _, _, _ => Nat.zero_le _
 | a :: t, V, hn, hs => by
  have h1 := List.nodup_cons.1 hn
  have ha := hs a (by simp)
  have h2 := nodup_leH t (V.erase a) h1.2 (fun x hx => (List.mem_erase_of_ne (fun e => h1.1 (by rw [← e]; exact hx))).2 (hs x (by simp [hx])))
  rw [List.length_erase_of_mem ha] at h2
  have := List.length_pos_of_mem ha
  rw [List.length_cons]
  omega
def RdX (lo : Nat) (w : World) (v : Value) (p : Option Addr) (c : Nat) (X : List Int) : Prop := Rd w (fun b => lo ≤ b ∧ b < w.heap.size ∧ some b ≠ v.ownBlock) (.slice p X.length c) (X.map tv) ∧ (p = none → c = 0) ∧ (X.length ≤ c ∧ c ≤ 9223372036854775807)
theorem RdX.keep {lo : Nat} {w w1 : World} {v : Value} {p : Option Addr} {c : Nat} {X : List Int} (h : RdX lo w v p c X) (g : w.grownBy w1 none) : RdX lo w1 v p c X :=
 ⟨(h.1.keep g).mono (fun b hb => ⟨hb.1, Nat.lt_of_lt_of_le hb.2.1 g.size, hb.2.2⟩), h.2⟩
theorem RdX.put {lo : Nat} {w w1 : World} {v v' : Value} {p : Option Addr} {c : Nat} {X : List Int} (h : RdX lo w v p c X) (g : w.grownBy w1 v.ownBlock) (hv : v'.ownBlock = v.ownBlock ∨ ∀ b, some b = v'.ownBlock → w.heap.size ≤ b) : RdX lo w1 v' p c X :=
 ⟨(h.1.grown g (fun b hb => hb.2.2)).mono (fun b hb => ⟨hb.1, Nat.lt_of_lt_of_le hb.2.1 g.size, fun e => by
  rcases hv with hv | hv
  ·rw [hv] at e; exact hb.2.2 e
  ·have := hv b e; have := hb.2.1; omega⟩), h.2⟩
theorem rd_and {w : World} {q : Nat → Prop} {v : Value} {xs : List Value} (h : Rd w q v xs) : Rd w (fun b => q b ∧ b < w.heap.size) v xs := by
 obtain ⟨p, c, hv, hc⟩ := h
 refine ⟨p, c, hv, fun hne => ?_⟩
 obtain ⟨b, off, hp, hb, hx⟩ := hc hne
 obtain ⟨x, hx0⟩ : ∃ x, xs[0]? = some x := by
  cases xs with
  | nil => exact absurd rfl hne
  | cons a t => exact ⟨a, rfl⟩
 exact ⟨b, off, hp, ⟨hb, World.block_lt_of_cell? w ⟨b, off + 0, none⟩ (hx 0 x hx0)⟩, hx⟩
structure HP (W : World) (C : Nat) (T : Tg) (pd : Option Addr) (cd : Nat) (A : List Int) (v : Value) (S : List Int) (w : World) : Prop where
 bx : w.heap[W.heap.size]? = some (.cells #[.slice T.pR T.R.length T.cR, .slice T.pL T.L.length T.cL] 58 (0, 0))
 t : TgOk w (· < C) T
 d : Rd w (· < C) (.slice pd A.length cd) (A.map tv)
 own : w.ownsRow C 3 1 v S.length (S.map tv)
 gr : W.grownBy w none
 lo : W.heap.size < C ∧ C ≤ w.heap.size
theorem HP.keep {W : World} {C : Nat} {T : Tg} {pd : Option Addr} {cd : Nat} {A : List Int} {v : Value} {S : List Int} {w w1 : World} (h : HP W C T pd cd A v S w) (g : w.grownBy w1 none) : HP W C T pd cd A v S w1 :=
 ⟨kept_row h.bx g (by simp), h.t.keep g, h.d.keep g, h.own.kept g (by cases v.ownBlock <;> simp), grown_trans h.gr g, h.lo.1, Nat.le_trans h.lo.2 g.size⟩
theorem HP.put {W : World} {C : Nat} {T : Tg} {pd : Option Addr} {cd : Nat} {A : List Int} {v v' : Value} {S S2 : List Int} {w w1 : World} (h : HP W C T pd cd A v S w) (hown : w1.ownsRow C 3 1 v' S2.length (S2.map tv)) (g : w.grownBy w1 v.ownBlock) : HP W C T pd cd A v' S2 w1 := by
 have hlo := h.lo
 have hne : ∀ b, b < C → some b ≠ v.ownBlock := fun b hb e => by have := (h.own.lt b e.symm).1; omega
 exact ⟨kept_row h.bx g (hne _ hlo.1), h.t.grown g hne, h.d.grown g hne, hown, grown_any h.gr g (fun b hb => hne b (by omega)), h.lo.1, Nat.le_trans h.lo.2 g.size⟩
theorem HP.lt {W : World} {C : Nat} {T : Tg} {pd : Option Addr} {cd : Nat} {A : List Int} {v : Value} {S : List Int} {w : World} (h : HP W C T pd cd A v S w) : ∀ b, v.ownBlock = some b → b < w.heap.size := fun b e => (h.own.lt b e).2
theorem HP.new {W : World} {C : Nat} {T : Tg} {pd : Option Addr} {cd : Nat} {A : List Int} {v : Value} {S : List Int} {w w1 : World} (h : HP W C T pd cd A v S w) {p : Option Addr} {c : Nat} {X : List Int} (g : w.grownBy w1 none) (hR : Rd w1 (w.heap.size ≤ ·) (.slice p X.length c) (X.map tv)) (hc : X.length ≤ c ∧ c ≤ 9223372036854775807) (hn : p = none → c = 0) : RdX W.heap.size w1 v p c X :=
 ⟨(rd_and hR).mono (fun b hb => ⟨Nat.le_trans h.gr.size hb.1, hb.2, fun e => by have := h.lt b e.symm; have := hb.1; omega⟩), hn, hc⟩
def HopC (R : List Rt) (L : List Lk) (D : Int → Int) (x s : Int) : Prop := ∀ P : Int → Prop, P x → (∀ a b, P a → b ∈ stV R L D a → capV R L b = false → P b) → P s
def HopM (R : List Rt) (L : List Lk) (D : Int → Int) (x y : Int) : Prop := ∃ s, HopC R L D x s ∧ y ∈ stV R L D s ∧ capV R L y = true
structure HI (R : List Rt) (L : List Lk) (D : Int → Int) (x : Int) (i : Nat) (S M : List Int) : Prop where
 c : ∀ s ∈ S, HopC R L D x s
 m : ∀ y ∈ M, HopM R L D x y
 x0 : x ∈ S
 d : ∀ (j : Nat) (s : Int), j < i → S[j]? = some s → ∀ y ∈ stV R L D s, (capV R L y = true → y ∈ M) ∧ (capV R L y = false → y ∈ S)
structure HJ (R : List Rt) (L : List Lk) (D : Int → Int) (x : Int) (i : Nat) (y0 : Int) (N : List Int) (k : Nat) (S M : List Int) : Prop where
 h : HI R L D x i S M
 s0 : S[i]? = some y0
 e : ∀ (j : Nat) (y : Int), j < k → N[j]? = some y → (capV R L y = true → y ∈ M) ∧ (capV R L y = false → y ∈ S)
section
variable {R : List Rt} {L : List Lk} {D : Int → Int} {x : Int} {i k : Nat} {y0 y : Int} {N S M : List Int}
theorem HI.start : HI R L D x 0 [x] [] := ⟨fun s hs => by rw [List.mem_singleton.1 hs]; exact fun P h _ => h, fun y hy => (by cases hy), List.mem_singleton.2 rfl, fun j s hj => absurd hj (Nat.not_lt_zero _)⟩
theorem HJ.cap (h : HJ R L D x i y0 N k S M) (hN : stV R L D y0 = N) (hy : N[k]? = some y) (hc : capV R L y = true) {M2 : List Int} (hM : ∀ z, z ∈ M2 ↔ z = y ∨ z ∈ M) : HJ R L D x i y0 N (k + 1) S M2 := by
 refine ⟨⟨h.h.c, fun z hz => ?_, h.h.x0, fun j s hj hs z hz => ⟨fun hc => (hM z).2 (Or.inr ((h.h.d j s hj hs z hz).1 hc)), (h.h.d j s hj hs z hz).2⟩⟩, h.s0, fun j z hj hz => ?_⟩
 ·rcases (hM z).1 hz with rfl | hz
  ·exact ⟨y0, h.h.c y0 (List.mem_of_getElem? h.s0), by rw [hN]; exact List.mem_of_getElem? hy, hc⟩
  ·exact h.h.m z hz
 ·rcases Nat.lt_or_ge j k with hlt | hge
  ·exact ⟨fun hc => (hM z).2 (Or.inr ((h.e j z hlt hz).1 hc)), (h.e j z hlt hz).2⟩
  ·obtain rfl : j = k := by omega
   obtain rfl : y = z := Option.some.inj (hy.symm.trans hz)
   exact ⟨fun _ => (hM y).2 (Or.inl rfl), fun h => (by rw [hc] at h; cases h)⟩
theorem HJ.has (h : HJ R L D x i y0 N k S M) (hy : N[k]? = some y) (hc : capV R L y = false) (hs : y ∈ S) : HJ R L D x i y0 N (k + 1) S M := by
 refine ⟨h.h, h.s0, fun j z hj hz => ?_⟩
 rcases Nat.lt_or_ge j k with hlt | hge
 ·exact h.e j z hlt hz
 ·obtain rfl : j = k := by omega
  obtain rfl : y = z := Option.some.inj (hy.symm.trans hz)
  exact ⟨fun h => (by rw [hc] at h; cases h), fun _ => hs⟩
theorem HJ.push (h : HJ R L D x i y0 N k S M) (hN : stV R L D y0 = N) (hy : N[k]? = some y) (hc : capV R L y = false) (hi : i < S.length) : HJ R L D x i y0 N (k + 1) (S ++ [y]) M := by
 have hil : ∀ j, j ≤ i → (S ++ [y])[j]? = S[j]? := fun j hj => List.getElem?_append_left (by omega)
 refine HJ.has ⟨⟨fun s hs => ?_, h.h.m, List.mem_append_left _ h.h.x0, fun j s hj hs z hz => ?_⟩, by rw [hil i (Nat.le_refl _)]; exact h.s0, fun j z hj hz => ⟨(h.e j z hj hz).1, fun hc => List.mem_append_left _ ((h.e j z hj hz).2 hc)⟩⟩ hy hc (by simp)
 ·rcases List.mem_append.1 hs with hs | hs
  ·exact h.h.c s hs
  ·rw [List.mem_singleton.1 hs]
   exact fun P h0 h1 => h1 y0 y (h.h.c y0 (List.mem_of_getElem? h.s0) P h0 h1) (by rw [hN]; exact List.mem_of_getElem? hy) hc
 ·rw [hil j (by omega)] at hs
  exact ⟨(h.h.d j s hj hs z hz).1, fun hc => List.mem_append_left _ ((h.h.d j s hj hs z hz).2 hc)⟩
theorem HJ.fin (h : HJ R L D x i y0 N k S M) (hN : stV R L D y0 = N) (hk : k = N.length) : HI R L D x (i + 1) S M := by
 refine ⟨h.h.c, h.h.m, h.h.x0, fun j s hj hs z hz => ?_⟩
 rcases Nat.lt_or_ge j i with hlt | hge
 ·exact h.h.d j s hlt hs z hz
 ·obtain rfl : j = i := by omega
  obtain rfl : y0 = s := Option.some.inj (h.s0.symm.trans hs)
  rw [hN] at hz
  obtain ⟨q, hq, hz⟩ := List.getElem_of_mem hz
  exact h.e q z (by omega) (by rw [List.getElem?_eq_getElem hq, hz])
theorem HI.fin (h : HI R L D x i S M) (hi : i = S.length) : ∀ y, y ∈ M ↔ HopM R L D x y := by
 refine fun y => ⟨h.m y, fun ⟨s, hc, hs, hy⟩ => ?_⟩
 have hd : ∀ s ∈ S, ∀ y ∈ stV R L D s, (capV R L y = true → y ∈ M) ∧ (capV R L y = false → y ∈ S) := fun s hs => by
  obtain ⟨q, hq, hz⟩ := List.getElem_of_mem hs
  exact h.d q s (by omega) (by rw [List.getElem?_eq_getElem hq, hz])
 exact ((hd s (hc (· ∈ S) h.x0 (fun a b ha hb hcb => (hd a ha b hb).2 hcb))) y hs).1 hy
end
end Go.Proofs.YtpogblengagpaaaDoor

/- identify: claims and plans, the mathematics. -/
namespace Go.Proofs.YtpogblengagpaaaDoor
set_option maxRecDepth 100000
open Go.RowKit Bs
def inV (n a b : Int) : Bool := decide (a ≤ n ∧ n ≤ b)
theorem any_mem {α : Type} {p : α → Bool} {l : List α} (h : l.any p = false) {x : α} (hx : x ∈ l) : p x = false := by
 cases hp : p x
 ·rfl
 ·rw [List.any_eq_true.2 ⟨x, hx, hp⟩] at h; cases h
structure Ed where
 r : Int
 i : Int
def edC (e : Ed) : List Value := [.int .i64 e.r, .int .i64 e.i]
theorem ed_one (x : Ed) : ∀ u ∈ edC x, u.oneCell' = true := by
 intro u hu
 simp [edC] at hu
 rcases hu with rfl | rfl <;> rfl
def wrE (e : Ed) : Bool := !(inV e.r 1 99 && inV e.i 1 256)
def ltE (x y : Ed) : Bool := decide (x.i < y.i)
def repI (r : List Int) : Bool := (List.range r.length).any fun i => (r.take i).contains (r.getD i 0)
def vPl (sub len : Int) (E : List Ed) : Bool :=
 inV sub 0 7 && (vl len || (decide (len = 0) && decide (E.length = 0))) && decide (E.length ≤ 24) && !E.any wrE && ascB ltE E && !repI (E.map Ed.r)
theorem pair_ascE : ∀ E : List Ed, E.Pairwise (fun x y => x.i < y.i) → ascB ltE E = true
 | [], _ => rfl
 | [a], _ => rfl
 | a :: b :: t, h => by
  have h1 := List.pairwise_cons.1 h
  rw [ascB, pair_ascE (b :: t) h1.2, Bool.and_true]
  exact decide_eq_true (h1.1 b (List.mem_cons_self ..))
end Go.Proofs.YtpogblengagpaaaDoor

/- empty -/
namespace Go.Proofs.YtpogblengagpaaaDoor
set_option maxRecDepth 100000
end Go.Proofs.YtpogblengagpaaaDoor

/- identify: the leaves, of the program and of the reference. -/
namespace Go.Proofs.YtpogblengagpaaaDoor
set_option maxRecDepth 100000
open Go.RowKit Bs
theorem ivi_lit (n : Int) (b : Bool) (h : inV n 1 256 = b) (w : World) :
  Calls Tryd.prog 80 #[.int .i64 n] w fun e w' => e = .returned (.bool b) ∧ w = w' := by
 subst h
 unfold inV
 go_enter Tryd.func80, Tryd.ntmps80
 by_cases h1 : (1 : Int) ≤ n
 ·by_cases h2 : n ≤ (256 : Int)
  ·rw [decide_eq_true (show 1 ≤ n ∧ n ≤ 256 from ⟨h1, h2⟩)]
   go_wp2_with fail
   go_ret
   exact ⟨rfl, rfl⟩
  ·rw [decide_eq_false (show ¬ (1 ≤ n ∧ n ≤ 256) from fun h => h2 h.2)]
   go_wp2_with fail
   go_ret
   exact ⟨rfl, rfl⟩
 ·rw [decide_eq_false (show ¬ (1 ≤ n ∧ n ≤ 256) from fun h => h1 h.1)]
  go_wp2_with fail
  go_ret
  exact ⟨rfl, rfl⟩
theorem rin10_lit (n lo hi : Int) (b : Bool) (h : inV n lo hi = b) (w : World) :
  Calls Tryd.prog 52 #[.int .i64 n, .int .i64 lo, .int .i64 hi] w fun e w' => e = .returned (.bool b) ∧ w = w' := by
 subst h
 unfold inV
 go_enter Tryd.func52, Tryd.ntmps52
 by_cases h1 : lo ≤ n
 ·by_cases h2 : n ≤ hi
  ·rw [decide_eq_true (show lo ≤ n ∧ n ≤ hi from ⟨h1, h2⟩)]
   go_wp2_with fail
   go_ret
   exact ⟨rfl, rfl⟩
  ·rw [decide_eq_false (show ¬ (lo ≤ n ∧ n ≤ hi) from fun h => h2 h.2)]
   go_wp2_with fail
   go_ret
   exact ⟨rfl, rfl⟩
 ·rw [decide_eq_false (show ¬ (lo ≤ n ∧ n ≤ hi) from fun h => h1 h.1)]
  go_wp2_with fail
  go_ret
  exact ⟨rfl, rfl⟩
theorem vlp_lit (n : Int) (b : Bool) (h : vl n = b) (w : World) :
  Calls Tryd.prog 78 #[.int .i64 n] w fun e w' => e = .returned (.bool b) ∧ w = w' := by
 rw [← h]; exact vlp_any n w
theorem vlr10_lit (n : Int) (b : Bool) (h : vl n = b) (w : World) :
  Calls Tryd.prog 51 #[.int .i64 n] w fun e w' => e = .returned (.bool b) ∧ w = w' := by
 rw [← h]; exact vlr_any n w
end Go.Proofs.YtpogblengagpaaaDoor

/- identify: Place and At, of the program and of the reference. -/
namespace Go.Proofs.YtpogblengagpaaaDoor
set_option maxRecDepth 100000
open Go.RowKit Bs
def plOk (id len : Int) : Bool := vl len && inV id 1 256
def plS (id len : Int) : Int := if plOk id len = true then (id - 1).tdiv len else 0
def plB (id len : Int) : Int := if plOk id len = true then (id - 1) % len else 0
theorem pl_fields {id len : Int} (h : plOk id len = true) : (len = 8 ∨ len = 16 ∨ len = 32 ∨ len = 64) ∧ 1 ≤ id ∧ id ≤ 256 := by
 unfold plOk inV at h
 rw [Bool.and_eq_true, decide_eq_true_eq] at h
 exact ⟨vl_cases h.1, h.2⟩
def atOk (s b len : Int) : Bool := vl len && inV b 0 (len - 1) && inV s 0 31 && decide (s * len + b + 1 ≤ 256)
def atI (s b len : Int) : Int := if atOk s b len = true then s * len + b + 1 else 0
set_option maxHeartbeats 3200000 in
theorem iplc_any (id len : Int) (w : World) :
  Calls Tryd.prog 66 #[.int .i64 id, .int .i64 len] w fun e w' => e = .returned (.tuple #[.int .i64 (plS id len), .int .i64 (plB id len), .bool (plOk id len)]) ∧ w.grownBy w' none := by
 obtain ⟨b1, h1⟩ : ∃ b, vl len = b := ⟨_, rfl⟩
 obtain ⟨b2, h2⟩ : ∃ b, inV id 1 256 = b := ⟨_, rfl⟩
 have HO : Hid (plOk id len = (b1 && b2)) := Lib.hid (by unfold plOk; rw [h1, h2])
 have HL := Lib.hid h1
 have HI := Lib.hid h2
 clear h1 h2
 go_enter Tryd.func66, Tryd.ntmps66
 cases b1
 case false =>
  go_wp2_with (go_at_call 78; refine (vlp_lit _ _ HL.out _).mono ?_; rintro e w' ⟨rfl, rfl⟩)
  go_ret3
  have h0 : plOk id len = false := HO.out
  exact ⟨by unfold plS plB; rw [h0]; rfl, grown_refl _ _⟩
 cases b2
 case false =>
  go_wp2_with (first | (go_at_call 78; refine (vlp_lit _ _ HL.out _).mono ?_; rintro e w' ⟨rfl, rfl⟩) | (go_at_call 80; refine (ivi_lit _ _ HI.out _).mono ?_; rintro e w' ⟨rfl, rfl⟩))
  go_ret3
  have h0 : plOk id len = false := HO.out
  exact ⟨by unfold plS plB; rw [h0]; rfl, grown_refl _ _⟩
 have h0 : plOk id len = true := HO.out
 obtain ⟨hl, hi1, hi2⟩ := pl_fields h0
 have hS : plS id len = (id - 1).tdiv len := by unfold plS; rw [if_pos h0]
 have hB : plB id len = (id - 1) % len := by unfold plB; rw [if_pos h0]
 rw [h0, hS, hB]
 clear hS hB h0
 obtain ⟨m, rfl⟩ : ∃ m : Int, id = m + 1 := ⟨id - 1, by omega⟩
 rw [show m + 1 - 1 = m by omega]
 have e1 : m + 1 - 1 = m := by omega
 have e2 : IntKind.i64.wrap (m + 1 - 1) = m := by rw [e1, IntWalk.i64_in _ (by omega)]
 have e3 : IntKind.i64.wrap m = m := IntWalk.i64_in _ (by omega)
 have hm0 : 0 ≤ m := by omega
 have hm1 : m ≤ 255 := by omega
 have d0 : IntKind.i64.wrap (m.tdiv len) = m.tdiv len := IntWalk.i64_in _ (by
  rw [Int.tdiv_eq_ediv_of_nonneg hm0]
  rcases hl with rfl | rfl | rfl | rfl <;> omega)
 have d1 : IntKind.i64.wrap (m % len) = m % len := IntWalk.i64_in _ (by
  rcases hl with rfl | rfl | rfl | rfl <;> omega)
 have hn0 : (len == 0) = false := by rcases hl with rfl | rfl | rfl | rfl <;> rfl
 have hn1 : ¬ len = 0 := by rcases hl with rfl | rfl | rfl | rfl <;> decide
 clear hi1 hi2 hl
 go_wp2_with (first | (go_at_call 78; refine (vlp_lit _ _ HL.out _).mono ?_; rintro e w' ⟨rfl, rfl⟩) | (go_at_call 80; refine (ivi_lit _ _ HI.out _).mono ?_; rintro e w' ⟨rfl, rfl⟩))
 go_region
 all_goals
  go_wp2_with fail
  go_ret3
  exact ⟨rfl, grown_drew (grown_refl _ _)⟩
set_option maxHeartbeats 3200000 in
theorem irplc_any (id len : Int) (w : World) :
  Calls Tryd.prog 39 #[.int .i64 id, .int .i64 len] w fun e w' => e = .returned (.tuple #[.int .i64 (plS id len), .int .i64 (plB id len), .bool (plOk id len)]) ∧ w.grownBy w' none := by
 obtain ⟨b1, h1⟩ : ∃ b, vl len = b := ⟨_, rfl⟩
 obtain ⟨b2, h2⟩ : ∃ b, inV id 1 256 = b := ⟨_, rfl⟩
 have HO : Hid (plOk id len = (b1 && b2)) := Lib.hid (by unfold plOk; rw [h1, h2])
 have HL := Lib.hid h1
 have HI := Lib.hid h2
 clear h1 h2
 go_enter Tryd.func39, Tryd.ntmps39
 cases b1
 case false =>
  go_wp2_with (go_at_call 51; refine (vlr10_lit _ _ HL.out _).mono ?_; rintro e w' ⟨rfl, rfl⟩)
  go_ret3
  have h0 : plOk id len = false := HO.out
  exact ⟨by unfold plS plB; rw [h0]; rfl, grown_refl _ _⟩
 cases b2
 case false =>
  go_wp2_with (first | (go_at_call 51; refine (vlr10_lit _ _ HL.out _).mono ?_; rintro e w' ⟨rfl, rfl⟩) | (go_at_call 52; refine (rin10_lit _ 1 256 _ HI.out _).mono ?_; rintro e w' ⟨rfl, rfl⟩))
  go_ret3
  have h0 : plOk id len = false := HO.out
  exact ⟨by unfold plS plB; rw [h0]; rfl, grown_refl _ _⟩
 have h0 : plOk id len = true := HO.out
 obtain ⟨hl, hi1, hi2⟩ := pl_fields h0
 have hS : plS id len = (id - 1).tdiv len := by unfold plS; rw [if_pos h0]
 have hB : plB id len = (id - 1) % len := by unfold plB; rw [if_pos h0]
 rw [h0, hS, hB]
 clear hS hB h0
 obtain ⟨m, rfl⟩ : ∃ m : Int, id = m + 1 := ⟨id - 1, by omega⟩
 rw [show m + 1 - 1 = m by omega]
 have e1 : m + 1 - 1 = m := by omega
 have e2 : IntKind.i64.wrap (m + 1 - 1) = m := by rw [e1, IntWalk.i64_in _ (by omega)]
 have e3 : IntKind.i64.wrap m = m := IntWalk.i64_in _ (by omega)
 have hm0 : 0 ≤ m := by omega
 have hm1 : m ≤ 255 := by omega
 have d0 : IntKind.i64.wrap (m.tdiv len) = m.tdiv len := IntWalk.i64_in _ (by
  rw [Int.tdiv_eq_ediv_of_nonneg hm0]
  rcases hl with rfl | rfl | rfl | rfl <;> omega)
 have d1 : IntKind.i64.wrap (m % len) = m % len := IntWalk.i64_in _ (by
  rcases hl with rfl | rfl | rfl | rfl <;> omega)
 have hn0 : (len == 0) = false := by rcases hl with rfl | rfl | rfl | rfl <;> rfl
 have hn1 : ¬ len = 0 := by rcases hl with rfl | rfl | rfl | rfl <;> decide
 clear hi1 hi2 hl
 go_wp2_with (first | (go_at_call 51; refine (vlr10_lit _ _ HL.out _).mono ?_; rintro e w' ⟨rfl, rfl⟩) | (go_at_call 52; refine (rin10_lit _ 1 256 _ HI.out _).mono ?_; rintro e w' ⟨rfl, rfl⟩))
 go_region
 all_goals
  go_wp2_with fail
  go_ret3
  exact ⟨rfl, grown_drew (grown_refl _ _)⟩
theorem at_place {id len : Int} (h : plOk id len = true) : atOk (plS id len) (plB id len) len = true ∧ atI (plS id len) (plB id len) len = id := by
 obtain ⟨hl, h1, h2⟩ := pl_fields h
 have e1 : plS id len = (id - 1) / len := by unfold plS; rw [if_pos h, Int.tdiv_eq_ediv_of_nonneg (by omega)]
 have e2 : plB id len = (id - 1) % len := by unfold plB; rw [if_pos h]
 have hv : vl len = true := by unfold plOk at h; rw [Bool.and_eq_true] at h; exact h.1
 have h3 : atOk (plS id len) (plB id len) len = true := by
  unfold atOk inV
  rw [hv, e1, e2]
  simp only [Bool.true_and, Bool.and_eq_true, decide_eq_true_eq]
  rcases hl with rfl | rfl | rfl | rfl <;> omega
 refine ⟨h3, ?_⟩
 unfold atI
 rw [if_pos h3, e1, e2]
 rcases hl with rfl | rfl | rfl | rfl <;> omega
end Go.Proofs.YtpogblengagpaaaDoor

/- Tables: the mathematics, and how they lie in memory. -/
namespace Go.Proofs.YtpogblengagpaaaDoor
set_option maxRecDepth 100000
open Go.RowKit Bs
structure Rw where
 id : Int
 nx : List Int
 p : Option Addr
 c : Nat
def rwC (x : Rw) : List Value := [.int .i64 x.id, .slice x.p x.nx.length x.c]
theorem rw_one (x : Rw) : ∀ u ∈ rwC x, u.oneCell' = true := by
 intro u hu
 simp [rwC] at hu
 rcases hu with rfl | rfl <;> rfl
structure RwOk (w : World) (q : Nat → Prop) (x : Rw) : Prop where
 rd : Rd w q (.slice x.p x.nx.length x.c) (x.nx.map tv)
 hc : x.nx.length ≤ x.c ∧ x.c ≤ 9223372036854775807
theorem RwOk.grown {w w1 : World} {q : Nat → Prop} {r : Option Nat} {x : Rw} (h : RwOk w q x) (g : w.grownBy w1 r) (hq : ∀ b, q b → some b ≠ r) : RwOk w1 q x := ⟨h.rd.grown g hq, h.hc⟩
theorem RwOk.keep {w w1 : World} {q : Nat → Prop} {x : Rw} (h : RwOk w q x) (g : w.grownBy w1 none) : RwOk w1 q x := h.grown g (fun _ _ => by simp)
theorem RwOk.mono {w : World} {q q' : Nat → Prop} {x : Rw} (h : RwOk w q x) (hq : ∀ b, q b → q' b) : RwOk w q' x := ⟨h.rd.mono hq, h.hc⟩
structure RdW (w : World) (q : Nat → Prop) (p : Option Addr) (c : Nat) (L : List Rw) : Prop where
 rd : RdF w q (.slice p L.length c) L.length (L.flatMap rwC)
 ok : ∀ x ∈ L, RwOk w q x
theorem RdW.grown {w w1 : World} {q : Nat → Prop} {r : Option Nat} {p : Option Addr} {c : Nat} {L : List Rw} (h : RdW w q p c L) (g : w.grownBy w1 r) (hq : ∀ b, q b → some b ≠ r) : RdW w1 q p c L := ⟨h.rd.grown g hq, fun x hx => (h.ok x hx).grown g hq⟩
theorem RdW.keep {w w1 : World} {q : Nat → Prop} {p : Option Addr} {c : Nat} {L : List Rw} (h : RdW w q p c L) (g : w.grownBy w1 none) : RdW w1 q p c L := h.grown g (fun _ _ => by simp)
theorem RdW.mono {w : World} {q q' : Nat → Prop} {p : Option Addr} {c : Nat} {L : List Rw} (h : RdW w q p c L) (hq : ∀ b, q b → q' b) : RdW w q' p c L := ⟨h.rd.mono hq, fun x hx => (h.ok x hx).mono hq⟩
theorem rw_cells {w : World} {q : Nat → Prop} {p : Option Addr} {n c : Nat} {L : List Rw} (h : RdF w q (.slice p n c) L.length (L.flatMap rwC)) (hn : 0 < L.length) :
  n = L.length ∧ ∃ b off, p = some ⟨b, off, none⟩ ∧ q b ∧ ∀ i x, L[i]? = some x → w.cell? ⟨b, off + i * 2, none⟩ = some (.int .i64 x.id) ∧ w.cell? ⟨b, off + i * 2 + 1, none⟩ = some (.slice x.p x.nx.length x.c) := by
 obtain ⟨h0, b, off, hp, hq, hc⟩ := RdF.cells (f := rwC) (k := 2) (fun _ => rfl) (by decide) h hn
 exact ⟨h0, b, off, hp, hq, fun i x hi => ⟨hc i x hi 0 _ rfl, hc i x hi 1 _ rfl⟩⟩
def ltI (x y : Int) : Bool := decide (x < y)
def wrW (x : Rw) : Bool := !inV x.id 1 256 || x.nx.any fun z => !inV z 1 99
def lgW (x : Rw) : Bool := decide (24 < x.nx.length)
def ltW (x y : Rw) : Bool := decide (x.id < y.id)
def dsW (x : Rw) : Bool := !ascB ltI x.nx
def cfW (r : Int) (x : Rw) : Bool := decide (1 < x.nx.length) && x.nx.any fun z => decide (z = r)
def hdT (r s n : Int) (L : List Rw) : Bool := !(inV r 1 99 && inV s 0 7 && (vl n || (decide (n = 0) && decide (L.length = 0))))
def ckT (r s n : Int) (L : List Rw) : Int :=
 if hdT r s n L = true then 2 else if L.any wrW = true then 2 else if 256 < L.length then 3 else if L.any lgW = true then 3 else if ascB ltW L = false then 25 else if L.any dsW = true then 25 else if L.any (cfW r) = true then 8 else 0
theorem ck_ok {r s n : Int} {L : List Rw} (h : ckT r s n L = 0) : hdT r s n L = false ∧ L.any wrW = false ∧ L.length ≤ 256 ∧ L.any lgW = false ∧ ascB ltW L = true ∧ L.any dsW = false ∧ L.any (cfW r) = false := by
 unfold ckT at h
 split at h
 ·cases h
 ·rename_i h1
  split at h
  ·cases h
  ·rename_i h2
   split at h
   ·cases h
   ·rename_i h3
    split at h
    ·cases h
    ·rename_i h4
     split at h
     ·cases h
     ·rename_i h5
      split at h
      ·cases h
      ·rename_i h6
       split at h
       ·cases h
       ·rename_i h7
        refine ⟨by simpa using h1, by simpa using h2, by omega, by simpa using h4, by simpa using h5, by simpa using h6, by simpa using h7⟩
theorem tvT_at {w : World} {q : Nat → Prop} {p : Option Addr} {n c i : Nat} {x : Int} {X : List Int} (h : Rd w q (.slice p n c) (X.map tv)) (hi : X[i]? = some x) :
  n = X.length ∧ ∃ b off, p = some ⟨b, off, none⟩ ∧ q b ∧ ∀ j y, X[j]? = some y → w.cell? ⟨b, off + j, none⟩ = some (.int .i64 y) := by
 obtain ⟨p1, c1, e1, hx⟩ := h
 injection e1 with a1 a2 a3
 subst a1
 have hne : X.map tv ≠ [] := by
  intro e
  have := List.map_eq_nil_iff.1 e
  subst this
  simp at hi
 obtain ⟨b, off, hp, hq, hc⟩ := hx hne
 exact ⟨by rw [a2, List.length_map], b, off, hp, hq, fun j y hj => hc j (tv y) (by rw [List.getElem?_map, hj]; rfl)⟩
end Go.Proofs.YtpogblengagpaaaDoor
