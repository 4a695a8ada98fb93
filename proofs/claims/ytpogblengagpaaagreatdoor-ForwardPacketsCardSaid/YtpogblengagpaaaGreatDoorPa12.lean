/- Parts of the proof, packed: ShRtr, ToChkLaw, ShPre, ShCtM, ShNxM, ToReach, ToStep, ToOpnF, ToIns, ToArnM. -/
import Derived.Test.YtpogblengagpaaaGreatDoorPa11
import Derived.Test.YtpogblengagpaaaGreatDoorPa3
import Derived.Test.YtpogblengagpaaaGreatDoorPa9
import Derived.Test.YtpogblengagpaaaGreatDoorPa1
import Derived.Test.YtpogblengagpaaaGreatDoorPa5
import Derived.Test.YtpogblengagpaaaGreatDoorPa7
import Derived.Maps.AppendAt
import Derived.Test.YtpogblengagpaaaGreatDoorPa10
import Derived.Deep.CutBlock
import Derived.Deep.Onto
/- The tape's Router of any topology: what is known of its number. -/
namespace Go.Proofs.YtpogblengagpaaaGreatDoor
set_option maxRecDepth 100000
open Go.RowKit Bs
def RtP (T : Tg) (n x : Int) : Prop := (∃ r ∈ T.R, r.id = x) ∨ ((0 < n ∨ T.R.length = 0) ∧ -1 ≤ x ∧ x ≤ 77)
set_option maxHeartbeats 3200000 in
theorem srouter_any (a : Nat) (T : Tg) (n : Int) (hn : I64 n) (h0 : 0 < T.R.length) (q : Nat → Prop) (w : World) (hT : TgOk w q T) (hq : ∀ b, q b → b ≠ a) (hp : Tp w a) :
  Calls Tryz.prog 28 #[.pointer (some ⟨a, 0, none⟩), .agg #[.slice T.pR T.R.length T.cR, .slice T.pL T.L.length T.cL], .int .i64 n] w fun e w' => ∃ x : Int, RtP T n x ∧ e = .returned (.int .i64 x) ∧ St a w w' := by
 have ha := hp.lt
 have hmR := Nat.le_trans hT.cr.1 hT.cr.2
 obtain ⟨k1, k2⟩ := tone_box w #[.slice T.pR T.R.length T.cR, .slice T.pL T.L.length T.cL] 68
 have H0 : Hid (RM a w T q _) := Lib.hid ⟨k1, hT.keep k2, ⟨grown_none k2 _, hp.keep k2⟩⟩
 have HQ := Lib.hid hq
 clear k1 k2 hT hp hq
 obtain ⟨R, L, pR, cR, pL, cL⟩ := T
 simp only at hmR H0 h0 ⊢
 obtain ⟨-, b, off, rfl, -, -⟩ := rdr_cells (R := R) H0.out.t.r h0
 go_enter Tryz.func28, Tryz.ntmps28
 go_upto_region 1 with fail
 generalize w.alloc _ = wa at *
 obtain ⟨c0, c1⟩ := row_cells H0.out.tb
 have hz : ((R.length : Int) == 0) = false := by rw [beq_eq_false_iff_ne]; omega
 go_cut [19] from 7 to 19 (fun bb wx => ∃ z, bb = .bool z ∧ (z = true → 0 < n) ∧ Hid (RM a w ⟨R, L, some ⟨b, off, none⟩, cR, pL, cL⟩ q wx))
 case first =>
  by_cases hn1 : 0 < n
  ·go_wp2_with fail
   refine (one_any a n hn _ H0.out.st.2).mono ?_
   rintro e w5 ⟨z, rfl, hs⟩
   have H1 := Lib.hid (H0.out.tape ha HQ.out hs)
   clear hs c0 c1 H0
   obtain ⟨c0, c1⟩ := row_cells H1.out.tb
   cases z
   ·go_wp2_with fail
    go_meet
    exact ⟨_, rfl, fun _ => hn1, H1⟩
   ·go_wp2_with fail
    go_meet
    exact ⟨_, rfl, fun _ => hn1, H1⟩
  ·go_wp2_with fail
   go_meet
   exact ⟨false, rfl, (fun h => (by cases h)), H0⟩
 case rest =>
 obtain ⟨z, rfl, hzn, H1⟩ := hcut
 have HZN := Lib.hid hzn
 clear hzn
 clear H0 c0 c1
 go_upto_if 19 with fail
 cases z
 ·have i1 : 0 < R.length := h0
  go_upto_region 3 with fail
  refine wp_region_held_drew (S := fun w' => Hid (RM a w ⟨R, L, some ⟨b, off, none⟩, cR, pL, cL⟩ q w')) (by kernel_rfl) (Lib.hid (H1.out.keep (grown_drew (grown_refl _ _)))) (fun hHeld => ?_)
  refine zT (i := 0) (v := ?_) rfl ?_ hHeld ?_
  rotate_left 1
  ·intro u hSu
   go_simp
   first | done | with_reducible rfl
  try simp only [Act.put, zA, zB, zC]
  refine zT (i := 1) (v := ?_) rfl ?_ hHeld ?_
  rotate_left 1
  ·intro u hSu
   obtain ⟨q0, q1⟩ := row_cells hSu.out.tb
   go_simp
   first | done | with_reducible rfl
  try simp only [Act.put, zA, zB, zC]
  refine zT (i := 2) (v := ?_) rfl ?_ hHeld ?_
  rotate_left 1
  ·intro u hSu
   go_simp
   first | done | with_reducible rfl
  try simp only [Act.put, zA, zB, zC]
  refine zT (i := 3) (v := ?_) rfl ?_ hHeld ?_
  rotate_left 1
  ·intro u hSu
   go_simp
   first | done | with_reducible rfl
  try simp only [Act.put, zA, zB, zC]
  refine zT (i := 4) (v := ?_) rfl ?_ hHeld ?_
  rotate_left 1
  ·intro u hSu
   obtain ⟨q0, q1⟩ := row_cells hSu.out.tb
   go_simp
   first | done | with_reducible rfl
  try simp only [Act.put, zA, zB, zC]
  refine zT (i := 5) (v := ?_) rfl ?_ hHeld ?_
  rotate_left 1
  ·intro u hSu
   obtain ⟨q0, q1⟩ := row_cells hSu.out.tb
   go_simp
   first | done | with_reducible rfl
  try simp only [Act.put, zA, zB, zC]
  refine wpAnyH_ready (rs := [6]) (by kernel_rfl) (by simp) ?_
  refine AllReadyH.cons (o := ⟨_, _, _, _, _, _⟩) rfl (fun Kz hK => ?_) AllReadyH.nil
  go_simp
  go_at_call 29
  refine (next_any a R.length (by unfold I64; omega) _ hHeld.out.st.2).mono ?_
  rintro e w5 ⟨y, rfl, hy, hs⟩
  obtain ⟨i, rfl⟩ := Int.eq_ofNat_of_zero_le hy.1
  have hi : i < R.length := by have := hy.2.1 (by omega); omega
  have H5n := Lib.hid (hHeld.out.tape ha HQ.out hs)
  clear hy hs
  have j0 : (0 : Int) ≤ (i : Int) := by omega
  have j1 : (i : Int) < (R.length : Int) := by omega
  obtain ⟨m, hm⟩ : ∃ m, R[i]? = some m := ⟨_, List.getElem?_eq_getElem hi⟩
  have HM := Lib.hid hm
  clear hm
  refine hK.out _ _ (H5n) (fun hH2 => ?_)
  clear hK Kz hHeld
  have hHeld := hH2
  clear hH2
  try simp only [Act.put, zA, zB, zC]
  refine zT (i := 7) (v := ?_) rfl ?_ hHeld ?_
  rotate_left 1
  ·intro u hSu
   go_simp
   first | done | with_reducible rfl
  try simp only [Act.put, zA, zB, zC]
  refine zT (i := 8) (v := ?_) rfl ?_ hHeld ?_
  rotate_left 1
  ·intro u hSu
   go_simp
   first | done | with_reducible rfl
  try simp only [Act.put, zA, zB, zC]
  refine zT (i := 9) (v := ?_) rfl ?_ hHeld ?_
  rotate_left 1
  ·intro u hSu
   obtain ⟨q0, q1⟩ := row_cells hSu.out.tb
   obtain ⟨e0, e1⟩ := hSu.out.rt HM.out
   go_simp
   first | done | with_reducible rfl
  try simp only [Act.put, zA, zB, zC]
  refine zT (i := 10) (v := ?_) rfl ?_ hHeld ?_
  rotate_left 1
  ·intro u hSu
   go_simp
   first | done | with_reducible rfl
  try simp only [Act.put, zA, zB, zC]
  refine wpAnyH_done (by kernel_rfl) ?_ _
  have H9 := Lib.hid hHeld.out.st
  clear hHeld
  go_wp2_with fail
  go_ret
  exact ⟨m.id, Or.inl ⟨m, List.mem_of_getElem? HM.out, rfl⟩, rfl, H9.out⟩
 ·have HT := Lib.hid (H1.out.st.2.alloc (.cells #[.int .i64 0, .int .i64 1, .int .i64 2, .int .i64 7, .int .i64 77, .int .i64 (-1)] 3))
  have HA := Lib.hid (among_list (fun x => -1 ≤ x ∧ x ≤ 77) wc a [0, 1, 2, 7, 77, -1] #[.int .i64 0, .int .i64 1, .int .i64 2, .int .i64 7, .int .i64 77, .int .i64 (-1)] 3 H1.out.st.2.lt rfl (by intro x hx; simp at hx; omega))
  go_wp2_with fail
  refine (pick_any _ a _ 0 6 6 (by omega) (by omega) _ HT.out HA.out).mono ?_
  rintro e w2 ⟨x, rfl, hxp, hs⟩
  have HS := Lib.hid (H1.out.st.trans (St.alloc_left hs))
  clear hs HT HA H1
  have HXP := Lib.hid hxp
  clear hxp
  go_wp2_with fail
  go_ret
  exact ⟨x, Or.inr ⟨Or.inl (HZN.out (by first | rfl | trivial)), HXP.out⟩, rfl, HS.out⟩
set_option maxHeartbeats 3200000 in
theorem srouter0_any (a : Nat) (T : Tg) (n : Int) (hn : I64 n) (h0 : T.R.length = 0) (q : Nat → Prop) (w : World) (hT : TgOk w q T) (hq : ∀ b, q b → b ≠ a) (hp : Tp w a) :
  Calls Tryz.prog 28 #[.pointer (some ⟨a, 0, none⟩), .agg #[.slice T.pR T.R.length T.cR, .slice T.pL T.L.length T.cL], .int .i64 n] w fun e w' => ∃ x : Int, RtP T n x ∧ e = .returned (.int .i64 x) ∧ St a w w' := by
 have ha := hp.lt
 have hmR := Nat.le_trans hT.cr.1 hT.cr.2
 obtain ⟨k1, k2⟩ := tone_box w #[.slice T.pR T.R.length T.cR, .slice T.pL T.L.length T.cL] 68
 have H0 : Hid (RM a w T q _) := Lib.hid ⟨k1, hT.keep k2, ⟨grown_none k2 _, hp.keep k2⟩⟩
 have HQ := Lib.hid hq
 clear k1 k2 hT hp hq
 obtain ⟨R, L, pR, cR, pL, cL⟩ := T
 simp only at hmR H0 h0 ⊢
 have hz : ((R.length : Int) == 0) = true := by rw [beq_iff_eq]; omega
 have H00 := Lib.hid h0
 clear h0
 go_enter Tryz.func28, Tryz.ntmps28
 go_upto_region 1 with fail
 generalize w.alloc _ = wa at *
 obtain ⟨c0, c1⟩ := row_cells H0.out.tb
 go_cut [19] from 7 to 19 (fun bb wx => bb = .bool true ∧ Hid (RM a w ⟨R, L, pR, cR, pL, cL⟩ q wx))
 case first =>
  by_cases hn1 : 0 < n
  ·go_wp2_with fail
   refine (one_any a n hn _ H0.out.st.2).mono ?_
   rintro e w5 ⟨z, rfl, hs⟩
   have H1 := Lib.hid (H0.out.tape ha HQ.out hs)
   clear hs c0 c1 H0
   obtain ⟨c0, c1⟩ := row_cells H1.out.tb
   cases z
   ·go_wp2_with fail
    go_meet
    exact ⟨by first | rfl | (simp [hz]), H1⟩
   ·go_wp2_with fail
    go_meet
    exact ⟨rfl, H1⟩
  ·go_wp2_with fail
   go_meet
   exact ⟨by first | rfl | (simp [hz]), H0⟩
 case rest =>
 obtain ⟨rfl, H1⟩ := hcut
 clear H0 c0 c1
 go_upto_if 19 with fail
 have HT := Lib.hid (H1.out.st.2.alloc (.cells #[.int .i64 0, .int .i64 1, .int .i64 2, .int .i64 7, .int .i64 77, .int .i64 (-1)] 3))
 have HA := Lib.hid (among_list (fun x => -1 ≤ x ∧ x ≤ 77) wc a [0, 1, 2, 7, 77, -1] #[.int .i64 0, .int .i64 1, .int .i64 2, .int .i64 7, .int .i64 77, .int .i64 (-1)] 3 H1.out.st.2.lt rfl (by intro x hx; simp at hx; omega))
 go_wp2_with fail
 refine (pick_any _ a _ 0 6 6 (by omega) (by omega) _ HT.out HA.out).mono ?_
 rintro e w2 ⟨x, rfl, hxp, hs⟩
 have HS := Lib.hid (H1.out.st.trans (St.alloc_left hs))
 clear hs HT HA H1
 have HXP := Lib.hid hxp
 clear hxp
 go_wp2_with fail
 go_ret
 exact ⟨x, Or.inr ⟨Or.inr H00.out, HXP.out⟩, rfl, HS.out⟩
theorem srtr_any (a : Nat) (T : Tg) (n : Int) (hn : I64 n) (q : Nat → Prop) (w : World) (hT : TgOk w q T) (hq : ∀ b, q b → b ≠ a) (hp : Tp w a) :
  Calls Tryz.prog 28 #[.pointer (some ⟨a, 0, none⟩), .agg #[.slice T.pR T.R.length T.cR, .slice T.pL T.L.length T.cL], .int .i64 n] w fun e w' => ∃ x : Int, RtP T n x ∧ e = .returned (.int .i64 x) ∧ St a w w' := by
 by_cases h : 0 < T.R.length
 ·exact srouter_any a T n hn h q w hT hq hp
 ·exact srouter0_any a T n hn (by omega) q w hT hq hp
end Go.Proofs.YtpogblengagpaaaGreatDoor

/- empty -/
namespace Go.Proofs.YtpogblengagpaaaGreatDoor
set_option maxRecDepth 100000
end Go.Proofs.YtpogblengagpaaaGreatDoor

/- empty -/
namespace Go.Proofs.YtpogblengagpaaaGreatDoor
set_option maxRecDepth 100000
end Go.Proofs.YtpogblengagpaaaGreatDoor

/- Counting without the limit: at most eight routers. -/
namespace Go.Proofs.YtpogblengagpaaaGreatDoor
set_option maxRecDepth 100000
open Go.RowKit Go.Maps Bs
theorem ids_pair {R : List Rt} {L : List Lk} (h : okT R L = true) : (ids R).Pairwise (· < ·) := by
 have hr := pair_of_asc ltR ltR_trans R (okT_all h).rs
 unfold ids
 rw [List.pairwise_map]
 exact hr.imp (fun {a b} h => of_decide_eq_true h)
theorem nodup_of_lt {l : List Int} (h : l.Pairwise (· < ·)) : l.Nodup := h.imp (fun {a b} h e => by omega)
theorem nbL_pair {R : List Rt} {L : List Lk} (h : okT R L = true) (r : Int) : (nbL L r).Pairwise (· < ·) := by
 rw [near_eq (okT_all h) r]
 unfold nearR
 have hr := pair_of_asc ltR ltR_trans R (okT_all h).rs
 rw [List.pairwise_map]
 exact (hr.filter _).imp (fun {a b} h => of_decide_eq_true h)
theorem nxt_sub (R : List Rt) (L : List Lk) (r z : Int) : (nxt R L r z).Sublist (nbL L r) := by
 unfold nxt
 rw [nxM_next, ← nbD_fst]
 unfold nxM
 exact (List.filter_sublist).map _
theorem nxt_pair {R : List Rt} {L : List Lk} (h : okT R L = true) (r z : Int) : (nxt R L r z).Pairwise (· < ·) := (nbL_pair h r).sublist (nxt_sub R L r z)
noncomputable def nearB (R : List Rt) (L : List Lk) (z r v : Int) : Bool := match dst R L v z, dst R L r z with
 | some x, some d => decide (x < d)
 | _, _ => false
theorem nearB_iff {R : List Rt} {L : List Lk} {z r v : Int} : nearB R L z r v = true ↔ ∃ x d, dst R L v z = some x ∧ dst R L r z = some d ∧ x < d := by
 unfold nearB
 cases h1 : dst R L v z with
 | none => simp
 | some x =>
  cases h2 : dst R L r z with
  | none => simp
  | some d => simp
noncomputable def rkNs (R : List Rt) (L : List Lk) (z r : Int) : Nat := ((ids R).filter (nearB R L z r)).length
theorem nxt_near {R : List Rt} {L : List Lk} {z r u : Int} (hu : u ∈ nxt R L r z) : u ∈ ids R ∧ nearB R L z r u = true := by
 obtain ⟨d, x, c, h1, h2, h3, h4, -⟩ := nxt_step hu
 exact ⟨(dst_both h2).2.1, nearB_iff.2 ⟨x, d, h2, h1, by omega⟩⟩
theorem rkN_step {R : List Rt} {L : List Lk} {z r u : Int} (hu : u ∈ nxt R L r z) : rkNs R L z u < rkNs R L z r := by
 obtain ⟨d, x, c, h1, h2, h3, h4, -⟩ := nxt_step hu
 have hok := (dst_both h1).1
 obtain ⟨m1, m2⟩ := nxt_near hu
 have hn : ¬ nearB R L z u u = true := fun e => by
  obtain ⟨x, d, h1, h2, h3⟩ := nearB_iff.1 e
  rw [h1] at h2
  have := Option.some.inj h2
  omega
 have := nodup_le (u :: (ids R).filter (nearB R L z u)) ((ids R).filter (nearB R L z r)) (List.nodup_cons.2 ⟨fun hm => hn (List.mem_filter.1 hm).2, (nodup_of_lt (ids_pair hok)).sublist List.filter_sublist⟩) (fun v hv => by
  rcases List.mem_cons.1 hv with rfl | hv
  ·exact List.mem_filter.2 ⟨m1, m2⟩
  ·obtain ⟨k1, k2⟩ := List.mem_filter.1 hv
   obtain ⟨y, d', k3, k4, k5⟩ := nearB_iff.1 k2
   rw [h2] at k4
   have := Option.some.inj k4
   exact List.mem_filter.2 ⟨k1, nearB_iff.2 ⟨y, d, k3, h1, by omega⟩⟩)
 exact this
theorem nxt_rk {R : List Rt} {L : List Lk} (h : okT R L = true) (z r : Int) : (nxt R L r z).length ≤ rkNs R L z r :=
 nodup_le _ _ (nodup_of_lt (nxt_pair h r z)) (fun _ hu => List.mem_filter.2 (nxt_near hu))
def sumI (c : Int → Int) (l : List Int) : Int := l.foldl (fun a u => a + c u) 0
theorem sum_from (c : Int → Int) : ∀ (l : List Int) (a : Int), l.foldl (fun a u => a + c u) a = a + sumI c l
 | [], a => by unfold sumI; simp
 | u :: t, a => by
  have h1 := sum_from c t (a + c u)
  have h2 := sum_from c t (0 + c u)
  unfold sumI
  rw [List.foldl_cons, List.foldl_cons, h1, h2]
  omega
theorem sumI_cons (c : Int → Int) (u : Int) (t : List Int) : sumI c (u :: t) = c u + sumI c t := by
 have := sum_from c t (0 + c u)
 unfold sumI at *
 rw [List.foldl_cons, this]
 omega
theorem sumI_bd {c : Int → Int} {B : Int} : ∀ (l : List Int), (∀ u ∈ l, 0 ≤ c u ∧ c u ≤ B) → 0 ≤ sumI c l ∧ sumI c l ≤ (l.length : Int) * B
 | [], _ => by unfold sumI; simp
 | u :: t, h => by
  have h1 := sumI_bd t (fun v hv => h v (by simp [hv]))
  have h2 := h u (by simp)
  rw [sumI_cons, List.length_cons]
  have : ((t.length + 1 : Nat) : Int) * B = (t.length : Int) * B + B := by rw [Int.natCast_succ, Int.add_mul, Int.one_mul]
  omega
theorem fold_le {c : Int → Int} : ∀ (l : List Int) (a : Int), l.foldl (fun a u => min (a + c u) 1000000) a ≤ a + sumI c l
 | [], a => by unfold sumI; simp
 | u :: t, a => by
  rw [sumI_cons, List.foldl_cons]
  have := fold_le (c := c) t (min (a + c u) 1000000)
  omega
def fctN : Nat → Nat
 | 0 => 1
 | k + 1 => (k + 1) * fctN k
theorem fctN_mono : ∀ {a b : Nat}, a ≤ b → fctN a ≤ fctN b := by
 intro a b h
 induction h with
 | refl => exact Nat.le_refl _
 | step _ ih =>
  refine Nat.le_trans ih ?_
  show _ ≤ (_ + 1) * fctN _
  rw [Nat.add_mul, Nat.one_mul]
  exact Nat.le_add_left _ _
theorem cnt_le {R : List Rt} {L : List Lk} (h : okT R L = true) (z : Int) : ∀ (k : Nat) (r : Int), rkNs R L z r ≤ k → cnt R L z r ≤ ((fctN k : Nat) : Int) := by
 intro k
 induction k with
 | zero =>
  intro r hr
  rw [cnt_rule]
  unfold cntS
  by_cases hz : r = z
  ·rw [if_pos hz]; decide
  ·rw [if_neg hz]
   have := nxt_rk h z r
   simp only
   rw [List.eq_nil_of_length_eq_zero (l := nxt R L r z) (by omega)]
   exact (show (0 : Int) ≤ ((fctN 0 : Nat) : Int) by decide)
 | succ k ih =>
  intro r hr
  have h1 : (1 : Int) ≤ ((fctN (k + 1) : Nat) : Int) := by
   have := fctN_mono (Nat.zero_le (k + 1))
   have h2 : fctN 0 = 1 := rfl
   omega
  rw [cnt_rule]
  unfold cntS
  by_cases hz : r = z
  ·rw [if_pos hz]; exact h1
  ·rw [if_neg hz]
   simp only
   refine Int.le_trans (fold_le _ _) ?_
   have h3 := (sumI_bd (c := cnt R L z) (B := ((fctN k : Nat) : Int)) (nxt R L r z) (fun u hu => ⟨(cnt_bd R L z u).1, ih u (by have := rkN_step hu; omega)⟩)).2
   have h4 := nxt_rk h z r
   have h5 : ((nxt R L r z).length : Int) * ((fctN k : Nat) : Int) ≤ ((k + 1 : Nat) : Int) * ((fctN k : Nat) : Int) := Int.mul_le_mul_of_nonneg_right (by omega) (by omega)
   have h6 : ((fctN (k + 1) : Nat) : Int) = ((k + 1 : Nat) : Int) * ((fctN k : Nat) : Int) := by
    rw [← Int.natCast_mul]
    rfl
   omega
end Go.Proofs.YtpogblengagpaaaGreatDoor

/- The law ShortestNexts: its mathematics. -/
namespace Go.Proofs.YtpogblengagpaaaGreatDoor
set_option maxRecDepth 100000
open Go.RowKit Go.Maps Bs
theorem priceB_edg {u v c : Int} {l : Lk} (h : priceB u v l = some c) : (l.a = u ∧ l.b = v ∧ l.ca = c) ∨ (l.b = u ∧ l.a = v ∧ l.cb = c) := by
 unfold priceB at h
 split at h
 ·rename_i h1
  exact .inl ⟨h1.1, h1.2, Option.some.inj h⟩
 ·split at h
  ·rename_i h1
   first
    | exact .inr ⟨h1.2, h1.1, Option.some.inj h⟩
    | exact .inr ⟨h1.1, h1.2, Option.some.inj h⟩
  ·cases h
theorem price_ed2 {R : List Rt} {L : List Lk} (_ : okT R L = true) {u v c : Int} (hp : priceV L u v = (c, true)) : edg L u v c := by
 unfold priceV at hp
 cases hf : L.findSome? (priceB u v) with
 | none => rw [hf] at hp; cases hp
 | some d =>
  rw [hf] at hp
  obtain ⟨l, hl, h1⟩ := List.exists_of_findSome?_eq_some hf
  have : d = c := congrArg Prod.fst hp
  exact ⟨l, hl, priceB_edg (this ▸ h1)⟩
end Go.Proofs.YtpogblengagpaaaGreatDoor

/- empty -/
namespace Go.Proofs.YtpogblengagpaaaGreatDoor
set_option maxRecDepth 100000
end Go.Proofs.YtpogblengagpaaaGreatDoor

/- append at a step of a region that draws its order, whatever the source; failures while they grow. -/
namespace Go.Proofs.YtpogblengagpaaaGreatDoor
set_option maxRecDepth 100000
open Go.RowKit Bs
theorem step_append_f {α : Type} (f : α → List Value) (size bytes : Nat) (hsz : 0 < size) (hf : ∀ x, (f x).length = size) (hone : ∀ x, ∀ u ∈ f x, u.oneCell' = true) (e t : TypeId) (i : TypeInfo) (z : Value)
  (ht : Tryz.prog.underlying t = some (.slice e)) (hi : Tryz.prog.info? e = some i) (hz : i.zero = some z) (hsize : i.size = size) (hby : i.bytes = bytes) (hzs : z.cells.size = size) (hb40 : bytes ≤ 1000)
  {w : World} {ops : Array Oper} {o : Oper} {a : Act} {K : Act → World → Prop} {Q : Exit → Act → World → Prop} {E : Prop} (hgd : o.guard = none) (s x : Operand)
  (ho : o.op = .call { callee := .builtin .append, args := #[s, x], argTypes := #[t, t] }) (base : Nat) (v : Value) (l : List α) (hs : a.eval s = v) (hown : w.ownsRow base e size v l.length (l.flatMap f))
  (p : Option Addr) (k c : Nat) (r : List α) (hx : a.eval x = .slice p k c) (hk : k = r.length) (hn0 : p = none → c = 0) (q : Nat → Prop) (hR : RdF w q (.slice p k c) r.length (r.flatMap f)) (hkc : k ≤ c) (h63 : l.length + r.length ≤ 100000) (hbase : base ≤ w.heap.size)
  (h : ∀ p' c' w', w'.ownsRow base e size (.slice p' (l.length + r.length) c') (l ++ r).length ((l ++ r).flatMap f) → w.grownBy w' v.ownBlock → ((Value.slice p' (l.length + r.length) c').ownBlock = v.ownBlock ∨ (Value.slice p' (l.length + r.length) c').ownBlock = some w.heap.size) → K (a.put o.dst (.slice p' (l.length + r.length) c')) w') :
  if Region.wanted o (yielded ops a.tmps) = true then Oper.wp Tryz.prog o a w K Q else E := by
 have hw : Region.wanted o (yielded ops a.tmps) = true := by simp [Region.wanted, hgd]
 rw [if_pos hw]
 cases p with
 | none =>
  obtain rfl := hn0 rfl
  have hr : r.length = 0 := by omega
  obtain rfl := List.eq_nil_of_length_eq_zero hr
  obtain rfl : k = 0 := hk
  have hrun := run_append_owned_none (P := Tryz.prog) (w := w) base t o.type e i size ht hi v l.length (l.flatMap f) hown
  obtain ⟨p', c', rfl, -, -⟩ := own_shape hown
  unfold Oper.wp
  simp [execOp, ho, resolve, invoke, builtin, hs, hx, hrun, Result.andThen]
  refine h p' c' w ?_ (grown_refl _ _) (.inl rfl)
  rw [List.append_nil]
  exact hown
 | some ad =>
  have hb2 : (l.length + k) * bytes ≤ 140737488355328 := Nat.le_trans (Nat.mul_le_mul (show l.length + k ≤ 100000 by omega) hb40) (by decide)
  obtain ⟨v', w', hr, h2, h3, _, h5⟩ := run_append_own_at (P := Tryz.prog) w base t o.type e i z size bytes ht hi hz hsize hby hzs hsz v l.length (l.flatMap f) hown ad k c (r.flatMap f) (by rw [flat_len f size hf, hk]) (rdf_news hR) (by
   intro u hu
   obtain ⟨y, _, hy⟩ := List.mem_flatMap.1 hu
   exact hone y u hy) (by unfold maxLen; omega) hb2 hbase
  subst hk
  obtain ⟨p', c', rfl, -, -⟩ := own_shape h2
  unfold Oper.wp execOp
  simp only [ho, resolve, invoke, builtin, Sem.run_bind, Sem.run_pure, Result.andThen_ok, List.map_toArray, List.map_cons, List.map_nil, hs, hx, hr]
  refine h p' c' w' ?_ h3 h5
  rw [List.length_append, List.flatMap_append]
  exact h2
def tvC (z : Int) : List Value := [tv z]
theorem flat_tv : ∀ X : List Int, X.flatMap tvC = X.map tv
 | [] => rfl
 | a :: t => by rw [List.flatMap_cons, flat_tv t]; rfl
theorem tv_one (x : Int) : ∀ u ∈ tvC x, u.oneCell' = true := by
 intro u hu
 simp [tvC, tv] at hu
 subst hu
 rfl
section
variable {a Bf : Nat} {w wr w1 : World} {T : Tg} {q : Nat → Prop} {uH uX vH vX v' : Value} {H H' : List Hp} {X X' : List Int}
end
end Go.Proofs.YtpogblengagpaaaGreatDoor

/- A failure that comes in as an argument; failures out of rows. -/
namespace Go.Proofs.YtpogblengagpaaaGreatDoor
set_option maxRecDepth 100000
open Go.ChangeShapes Go.WideShapes Go.ChangeAt Go.RowKit Go.Joins Bs
section
variable {H : Type} {enc : TypeId × Value → H} {W : World} {base : Nat} {v : Value} {d : DataW H} {ps : List MemPlace}
theorem rd_of_rdf {w : World} {q : Nat → Prop} {p : Option Addr} {n c : Nat} {xs : List Value} (h : RdF w q (.slice p n c) n xs) (hl : xs.length = n) : Rd w q (.slice p n c) xs := by
 obtain ⟨p1, c1, e, hx⟩ := h
 refine ⟨p1, c1, by rw [hl]; exact e, hx⟩
end
end Go.Proofs.YtpogblengagpaaaGreatDoor

/- The reference's Insert. -/
namespace Go.Proofs.YtpogblengagpaaaGreatDoor
set_option maxRecDepth 100000
open Go.RowKit Bs
def insU (l : List Int) (n : Int) : List Int := if (l.drop (l.takeWhile (fun y => decide (y < n))).length).head? = some n then l else l.takeWhile (fun y => decide (y < n)) ++ n :: l.drop (l.takeWhile (fun y => decide (y < n))).length
theorem tw_len (p : Int → Bool) : ∀ (l : List Int) (j : Nat), j ≤ l.length → (∀ i x, i < j → l[i]? = some x → p x = true) → (∀ x, l[j]? = some x → p x = false) → (l.takeWhile p).length = j ∧ l.takeWhile p = l.take j
 | [], j, hj, _, _ => by
  obtain rfl : j = 0 := by simpa using hj
  exact ⟨rfl, rfl⟩
 | a :: t, 0, _, _, h2 => by
  rw [List.takeWhile_cons, h2 a rfl]
  exact ⟨rfl, rfl⟩
 | a :: t, j + 1, hj, h1, h2 => by
  obtain ⟨e1, e2⟩ := tw_len p t j (by simpa using hj) (fun i x hi hx => h1 (i + 1) x (by omega) (by simpa using hx)) (fun x hx => h2 x (by simpa using hx))
  rw [List.takeWhile_cons, h1 0 a (by omega) rfl]
  simp only [if_true, List.length_cons, List.take_succ_cons]
  exact ⟨by rw [e1], by rw [e2]⟩
theorem insU_at {l : List Int} {n : Int} {j : Nat} (hj : j ≤ l.length) (h1 : ∀ i x, i < j → l[i]? = some x → x < n) (h2 : ∀ x, l[j]? = some x → ¬ x < n) : insU l n = if l[j]? = some n then l else l.take j ++ n :: l.drop j := by
 obtain ⟨e1, e2⟩ := tw_len (fun y => decide (y < n)) l j hj (fun i x hi hx => decide_eq_true (h1 i x hi hx)) (fun x hx => decide_eq_false (h2 x hx))
 unfold insU
 rw [e1, e2, List.head?_drop]
def InsPostZ (l : List Int) (q : Nat → Prop) (w : World) (e : Ending) (w' : World) : Prop :=
 ∃ p c, e = .returned (.slice p l.length c) ∧ Rd w' (fun b => q b ∨ w.heap.size ≤ b) (.slice p l.length c) (l.map tv) ∧ (p = none → c = 0) ∧ (l.length ≤ c ∧ c ≤ 9223372036854775807) ∧ w.grownBy w' none
set_option maxHeartbeats 6400000 in
theorem rins_any (l : List Int) (n : Int) (p : Option Addr) (c : Nat) (q : Nat → Prop) (w : World) (hR : Rd w q (.slice p l.length c) (l.map tv)) (hp : p = none → c = 0) (hc1 : l.length ≤ c) (hc2 : c ≤ 9223372036854775807) (hm : l.length ≤ 1000) :
  Calls Tryz.prog 115 #[.slice p l.length c, .int .i64 n] w fun e w' => InsPostZ (insU l n) q w e w' := by
 obtain ⟨ii, hii, hi0, hi1, hi2⟩ := info_parts info_int
 have HR := Lib.hid hR
 have HPN := Lib.hid hp
 clear hR hp
 go_enter Tryz.func115, Tryz.ntmps115
 go_upto_block 0 with fail
 go_cut [5] from 7 to 20 (fun v wx => ∃ j : Nat, j ≤ l.length ∧ v = .int .i64 (j : Int) ∧ Hid ((∀ i x, i < j → l[i]? = some x → x < n) ∧ ∀ x, l[j]? = some x → ¬ x < n) ∧ w = wx)
 case first =>
  go_wp2_with fail
  go_loopw [5] (fun a wr => ∃ j : Nat, j ≤ l.length ∧ a = .int .i64 (j : Int) ∧ Hid (∀ i x, i < j → l[i]? = some x → x < n) ∧ w = wr) (fun a _ => l.length - (RowKit.intOf a).toNat)
  case atStart => exact ⟨0, Nat.zero_le _, rfl, Lib.hid (fun i x h => by omega), rfl⟩
  case round =>
   obtain ⟨j, hj, rfl, HN, rfl⟩ := hrel
   by_cases hlt : j < l.length
   ·obtain ⟨-, b, off, rfl, -, hc⟩ := rdi_at HR.out (by omega)
    obtain ⟨x, hx⟩ : ∃ x, l[j]? = some x := ⟨_, List.getElem?_eq_getElem hlt⟩
    have d0 := hc j x hx
    have HX := Lib.hid hx
    have hlt' : (j : Int) < (l.length : Int) := by omega
    have j0 : (0 : Int) ≤ (j : Int) := by omega
    clear hc hx
    by_cases hxn : x < n
    ·have HN2 : Hid (∀ i x, i < j + 1 → l[i]? = some x → x < n) := Lib.hid (fun i z hi hz => by
      by_cases hij : i < j
      ·exact HN.out i z hij hz
      ·obtain rfl : i = j := by omega
       rw [HX.out] at hz
       obtain rfl := Option.some.inj hz
       exact hxn)
     go_wp2_with fail
     exact ⟨⟨j + 1, by omega, congrArg _ (by omega), HN2, by first | rfl | trivial⟩, by simp only [RowKit.intOf]; omega⟩
    ·have hxd : decide (x < n) = false := decide_eq_false hxn
     have HE : Hid ((∀ i x, i < j → l[i]? = some x → x < n) ∧ ∀ x, l[j]? = some x → ¬ x < n) := Lib.hid ⟨HN.out, fun z hz => by rw [HX.out] at hz; obtain rfl := Option.some.inj hz; exact hxn⟩
     go_wp2_with fail
     go_meet
     exact ⟨j, hj, rfl, HE, by first | rfl | trivial⟩
   ·obtain rfl : j = l.length := by omega
    have hld : decide ((l.length : Int) < (l.length : Int)) = false := decide_eq_false (by omega)
    have HE : Hid ((∀ i x, i < l.length → l[i]? = some x → x < n) ∧ ∀ x, l[l.length]? = some x → ¬ x < n) := Lib.hid ⟨HN.out, fun z hz => by rw [List.getElem?_eq_none (Nat.le_refl _)] at hz; cases hz⟩
    go_wp2_with fail
    go_meet
    exact ⟨l.length, hj, rfl, HE, by first | rfl | trivial⟩
 case rest =>
 obtain ⟨j, hj, rfl, HE, rfl⟩ := hcut
 have hat := insU_at hj HE.out.1 HE.out.2
 go_upto_region 4 with fail
 go_cut [32] from 21 to 32 (fun v wx => v = .bool (decide (l[j]? = some n)) ∧ w = wx)
 case first =>
  by_cases hlt : j < l.length
  ·obtain ⟨-, b, off, rfl, -, hc⟩ := rdi_at HR.out (by omega)
   obtain ⟨x, hx⟩ : ∃ x, l[j]? = some x := ⟨_, List.getElem?_eq_getElem hlt⟩
   have d0 := hc j x hx
   have hlt' : (j : Int) < (l.length : Int) := by omega
   have j0 : (0 : Int) ≤ (j : Int) := by omega
   have HV : Hid ((x == n) = decide (l[j]? = some n)) := Lib.hid (by rw [hx]; by_cases h : x = n <;> simp [h])
   clear hc hx hat
   go_wp2_with fail
   go_meet
   exact ⟨congrArg _ HV.out, by first | rfl | trivial⟩
  ·have hld : decide ((j : Int) < (l.length : Int)) = false := decide_eq_false (by omega)
   have HV : Hid (false = decide (l[j]? = some n)) := Lib.hid (by rw [List.getElem?_eq_none (by omega)]; simp)
   clear hat
   go_wp2_with fail
   go_meet
   exact ⟨congrArg _ HV.out, by first | rfl | trivial⟩
 case rest =>
 obtain ⟨rfl, rfl⟩ := hcut
 go_upto_if 32 with fail
 by_cases hjn : l[j]? = some n
 ·have hjd : decide (l[j]? = some n) = true := decide_eq_true hjn
  rw [if_pos hjn] at hat
  have HAT := Lib.hid hat
  rw [hjd]
  clear hjn hat hjd
  go_wp2_with fail
  go_ret
  rw [HAT.out]
  exact ⟨p, c, rfl, HR.out.mono (fun b hb => .inl hb), HPN.out, ⟨hc1, hc2⟩, grown_refl _ _⟩
 ·have hjd : decide (l[j]? = some n) = false := decide_eq_false hjn
  rw [if_neg hjn] at hat
  obtain ⟨T1, hT1⟩ : ∃ T1, l.take j = T1 := ⟨_, rfl⟩
  obtain ⟨T2, hT2⟩ : ∃ T2, l.drop j = T2 := ⟨_, rfl⟩
  have HI : Hid (insU l n = T1 ++ n :: T2) := Lib.hid (by rw [← hT1, ← hT2]; exact hat)
  have HJ : Hid (j = T1.length) := Lib.hid (by rw [← hT1, List.length_take]; omega)
  have HJ2 : Hid (l.length - j = T2.length) := Lib.hid (by rw [← hT2, List.length_drop])
  have HT := Lib.hid (And.intro hT1 hT2)
  have HRF : Hid (RdF w (fun b => b < w.heap.size) (.slice p l.length c) l.length (l.flatMap tvC)) := Lib.hid (by
   obtain ⟨p', c', e, hx⟩ := HR.out.old
   rw [flat_tv]
   exact ⟨p', c', by rw [List.length_map] at e; exact e, hx⟩)
  rw [hjd]
  clear hjn hat hjd hT1 hT2
  cases p with
  | none =>
   obtain rfl := HPN.out rfl
   obtain rfl : j = 0 := by omega
   have hl0 : l.length = 0 := by omega
   obtain rfl := List.eq_nil_of_length_eq_zero hl0
   go_wp2_with (at_builtin; refine hold_on ?_)
   refine Lib.hid ?_
   refine (wpList_append_f tvC 1 8 (by decide) (fun _ => rfl) tv_one 3 22 ii _ Tryz.underlying22 hii hi0 hi1 hi2 rfl (by decide) rfl _ _ rfl w.heap.size (.slice none 0 0) [] 0 rfl rfl (World.ownsRow_nil _ _ _ _) _ _ _ T1 rfl HJ.out (by simp) _ (show RdF w (fun _ => True) (.slice none 0 0) T1.length (T1.flatMap tvC) from by obtain rfl := HT.out.1; exact rdf_nil _ _ _ _) (by omega) (by rw [← HJ.out]; omega) (Nat.le_refl _) ?_)
   intro v1 w4 hown1 hg1
   have HO1 : Hid (w4.ownsRow w.heap.size 3 1 v1 T1.length (T1.flatMap tvC)) := Lib.hid hown1
   have G4 := Lib.hid (show w.grownBy w4 none from hg1)
   clear hown1 hg1
   obtain ⟨p1, c1, rfl, -, -⟩ := own_shape HO1.out
   go_wp2_with (at_builtin; refine hold_on ?_)
   refine Lib.hid ?_
   refine (wpList_append_f tvC 1 8 (by decide) (fun _ => rfl) tv_one 3 22 ii _ Tryz.underlying22 hii hi0 hi1 hi2 rfl (by decide) rfl _ _ rfl w.heap.size _ T1 _ rfl rfl (HO1.out.alloc _) _ _ _ [n] rfl rfl (by simp) (fun _ => True) (rdf_one _ trivial (cell_one w4 _ _) 1) (by omega) (by rw [← HJ.out]; simp <;> omega) (by have := G4.out.size; simp <;> omega) ?_)
   intro v2 w5 hown2 hg2
   have G5 := Lib.hid (old_grow (grown_trans G4.out (World.grownBy_alloc w4 _ none)) (HO1.out.alloc _) (Nat.le_refl _) hg2)
   obtain ⟨T3, hT3⟩ : ∃ T3, T3 = T1 ++ [n] := ⟨_, rfl⟩
   rw [← hT3] at hown2
   have HO2 := Lib.hid hown2
   have HT3 := Lib.hid hT3
   clear hown2 hT3 hg2
   obtain ⟨p2, c2, rfl, -, -⟩ := own_shape HO2.out
   go_wp2_with (at_builtin; refine hold_on ?_)
   refine Lib.hid ?_
   refine (wpList_append_f tvC 1 8 (by decide) (fun _ => rfl) tv_one 3 22 ii _ Tryz.underlying22 hii hi0 hi1 hi2 rfl (by decide) rfl _ _ rfl w.heap.size _ T3 _ rfl rfl HO2.out _ _ _ T2 rfl (by have := HJ2.out; omega) (by simp) _ (show RdF w5 (fun _ => True) (.slice none 0 0) T2.length (T2.flatMap tvC) from by obtain rfl := HT.out.2; exact rdf_nil _ _ _ _) (by omega) (by rw [← HJ2.out, HT3.out, List.length_append, ← HJ.out]; simp <;> omega) G5.out.size ?_)
   intro v3 w6 hown3 hg3
   have HE : Hid (insU [] n = T3 ++ T2) := Lib.hid (by rw [HT3.out, HI.out]; simp)
   rw [← HE.out] at hown3
   have HO3 := Lib.hid hown3
   have G6 := Lib.hid (old_grow G5.out HO2.out (Nat.le_refl _) hg3)
   clear hown3 hg3
   obtain ⟨p3, c3, rfl, h31, h32⟩ := own_shape HO3.out
   have hp3 : p3 = none → c3 = 0 := by
    rintro rfl
    rcases own_formF HO3.out with ⟨e, -⟩ | ⟨g, cap, e, -⟩
    ·injection e with e1 e2 e3
    ·injection e with e1 e2 e3
     cases e1
   have HH := Lib.hid (And.intro h31 (And.intro h32 hp3))
   clear h31 h32 hp3
   go_wp2_with fail
   go_ret
   refine ⟨p3, c3, rfl, ?_, HH.out.2.2, ⟨HH.out.1, HH.out.2.1⟩, G6.out⟩
   have hr := rd_of_rdf (rdf_of_own HO3.out) (by rw [flat_tv]; simp)
   rw [flat_tv] at hr
   exact hr.mono (fun b hb => .inr hb)
  | some ad =>
   obtain ⟨b, off, spot⟩ := ad
   have hsp : l.length = 0 ∨ spot = none := by
    by_cases h0 : l.length = 0
    ·exact .inl h0
    ·obtain ⟨-, b', off', e, -⟩ := rdi_at HR.out (by omega)
     injection e with e
     injection e with e1 e2 e3
     exact .inr e3
   by_cases hcj : c = j
   ·obtain rfl : j = l.length := by omega
    subst hcj
    go_wp2_with (at_builtin; refine hold_on ?_)
    refine Lib.hid ?_
    refine (wpList_append_f tvC 1 8 (by decide) (fun _ => rfl) tv_one 3 22 ii _ Tryz.underlying22 hii hi0 hi1 hi2 rfl (by decide) rfl _ _ rfl w.heap.size (.slice none 0 0) [] 0 rfl rfl (World.ownsRow_nil _ _ _ _) _ _ _ T1 rfl HJ.out (by simp) _ (HT.out.1 ▸ RdF.part (f := tvC) (k := 1) (fun _ => rfl) HRF.out _ hj _) (by omega) (by rw [← HJ.out]; omega) (Nat.le_refl _) ?_)
    intro v1 w4 hown1 hg1
    have HO1 : Hid (w4.ownsRow w.heap.size 3 1 v1 T1.length (T1.flatMap tvC)) := Lib.hid hown1
    have G4 := Lib.hid (show w.grownBy w4 none from hg1)
    clear hown1 hg1
    obtain ⟨p1, c1, rfl, -, -⟩ := own_shape HO1.out
    go_wp2_with (at_builtin; refine hold_on ?_)
    refine Lib.hid ?_
    refine (wpList_append_f tvC 1 8 (by decide) (fun _ => rfl) tv_one 3 22 ii _ Tryz.underlying22 hii hi0 hi1 hi2 rfl (by decide) rfl _ _ rfl w.heap.size _ T1 _ rfl rfl (HO1.out.alloc _) _ _ _ [n] rfl rfl (by simp) (fun _ => True) (rdf_one _ trivial (cell_one w4 _ _) 1) (by omega) (by rw [← HJ.out]; simp <;> omega) (by have := G4.out.size; simp <;> omega) ?_)
    intro v2 w5 hown2 hg2
    have G5 := Lib.hid (old_grow (grown_trans G4.out (World.grownBy_alloc w4 _ none)) (HO1.out.alloc _) (Nat.le_refl _) hg2)
    obtain ⟨T3, hT3⟩ : ∃ T3, T3 = T1 ++ [n] := ⟨_, rfl⟩
    rw [← hT3] at hown2
    have HO2 := Lib.hid hown2
    have HT3 := Lib.hid hT3
    clear hown2 hT3 hg2
    obtain ⟨p2, c2, rfl, -, -⟩ := own_shape HO2.out
    go_wp2_with (at_builtin; refine hold_on ?_)
    refine Lib.hid ?_
    refine (wpList_append_f tvC 1 8 (by decide) (fun _ => rfl) tv_one 3 22 ii _ Tryz.underlying22 hii hi0 hi1 hi2 rfl (by decide) rfl _ _ rfl w.heap.size _ T3 _ rfl rfl HO2.out _ _ _ T2 rfl (by have := HJ2.out; omega) (by simp) _ (show RdF w5 (fun _ => True) (.slice _ 0 _) T2.length (T2.flatMap tvC) from by rw [← HT.out.2, List.drop_length]; exact rdf_nil _ _ _ _) (by omega) (by rw [← HJ2.out, HT3.out, List.length_append, ← HJ.out]; simp <;> omega) G5.out.size ?_)
    intro v3 w6 hown3 hg3
    have HE : Hid (insU l n = T3 ++ T2) := Lib.hid (by rw [HT3.out, HI.out]; simp)
    rw [← HE.out] at hown3
    have HO3 := Lib.hid hown3
    have G6 := Lib.hid (old_grow G5.out HO2.out (Nat.le_refl _) hg3)
    clear hown3 hg3
    obtain ⟨p3, c3, rfl, h31, h32⟩ := own_shape HO3.out
    have hp3 : p3 = none → c3 = 0 := by
     rintro rfl
     rcases own_formF HO3.out with ⟨e, -⟩ | ⟨g, cap, e, -⟩
     ·injection e with e1 e2 e3
     ·injection e with e1 e2 e3
      cases e1
    have HH := Lib.hid (And.intro h31 (And.intro h32 hp3))
    clear h31 h32 hp3
    go_wp2_with fail
    go_ret
    refine ⟨p3, c3, rfl, ?_, HH.out.2.2, ⟨HH.out.1, HH.out.2.1⟩, G6.out⟩
    have hr := rd_of_rdf (rdf_of_own HO3.out) (by rw [flat_tv]; simp)
    rw [flat_tv] at hr
    exact hr.mono (fun b hb => .inr hb)
   ·have n0 : ¬ c - j = 0 := by omega
    by_cases hjl : j = l.length
    ·subst hjl
     go_wp2_with (at_builtin; refine hold_on ?_)
     refine Lib.hid ?_
     refine (wpList_append_f tvC 1 8 (by decide) (fun _ => rfl) tv_one 3 22 ii _ Tryz.underlying22 hii hi0 hi1 hi2 rfl (by decide) rfl _ _ rfl w.heap.size (.slice none 0 0) [] 0 rfl rfl (World.ownsRow_nil _ _ _ _) _ _ _ T1 rfl HJ.out (by simp) _ (HT.out.1 ▸ RdF.part (f := tvC) (k := 1) (fun _ => rfl) HRF.out _ hj _) (by omega) (by rw [← HJ.out]; omega) (Nat.le_refl _) ?_)
     intro v1 w4 hown1 hg1
     have HO1 : Hid (w4.ownsRow w.heap.size 3 1 v1 T1.length (T1.flatMap tvC)) := Lib.hid hown1
     have G4 := Lib.hid (show w.grownBy w4 none from hg1)
     clear hown1 hg1
     obtain ⟨p1, c1, rfl, -, -⟩ := own_shape HO1.out
     go_wp2_with (at_builtin; refine hold_on ?_)
     refine Lib.hid ?_
     refine (wpList_append_f tvC 1 8 (by decide) (fun _ => rfl) tv_one 3 22 ii _ Tryz.underlying22 hii hi0 hi1 hi2 rfl (by decide) rfl _ _ rfl w.heap.size _ T1 _ rfl rfl (HO1.out.alloc _) _ _ _ [n] rfl rfl (by simp) (fun _ => True) (rdf_one _ trivial (cell_one w4 _ _) 1) (by omega) (by rw [← HJ.out]; simp <;> omega) (by have := G4.out.size; simp <;> omega) ?_)
     intro v2 w5 hown2 hg2
     have G5 := Lib.hid (old_grow (grown_trans G4.out (World.grownBy_alloc w4 _ none)) (HO1.out.alloc _) (Nat.le_refl _) hg2)
     obtain ⟨T3, hT3⟩ : ∃ T3, T3 = T1 ++ [n] := ⟨_, rfl⟩
     rw [← hT3] at hown2
     have HO2 := Lib.hid hown2
     have HT3 := Lib.hid hT3
     clear hown2 hT3 hg2
     obtain ⟨p2, c2, rfl, -, -⟩ := own_shape HO2.out
     go_wp2_with (at_builtin; refine hold_on ?_)
     refine Lib.hid ?_
     refine (wpList_append_f tvC 1 8 (by decide) (fun _ => rfl) tv_one 3 22 ii _ Tryz.underlying22 hii hi0 hi1 hi2 rfl (by decide) rfl _ _ rfl w.heap.size _ T3 _ rfl rfl HO2.out _ _ _ T2 rfl (by have := HJ2.out; omega) (by simp) _ (show RdF w5 (fun _ => True) (.slice _ 0 _) T2.length (T2.flatMap tvC) from by rw [← HT.out.2, List.drop_length]; exact rdf_nil _ _ _ _) (by omega) (by rw [← HJ2.out, HT3.out, List.length_append, ← HJ.out]; simp <;> omega) G5.out.size ?_)
     intro v3 w6 hown3 hg3
     have HE : Hid (insU l n = T3 ++ T2) := Lib.hid (by rw [HT3.out, HI.out]; simp)
     rw [← HE.out] at hown3
     have HO3 := Lib.hid hown3
     have G6 := Lib.hid (old_grow G5.out HO2.out (Nat.le_refl _) hg3)
     clear hown3 hg3
     obtain ⟨p3, c3, rfl, h31, h32⟩ := own_shape HO3.out
     have hp3 : p3 = none → c3 = 0 := by
      rintro rfl
      rcases own_formF HO3.out with ⟨e, -⟩ | ⟨g, cap, e, -⟩
      ·injection e with e1 e2 e3
      ·injection e with e1 e2 e3
       cases e1
     have HH := Lib.hid (And.intro h31 (And.intro h32 hp3))
     clear h31 h32 hp3
     go_wp2_with fail
     go_ret
     refine ⟨p3, c3, rfl, ?_, HH.out.2.2, ⟨HH.out.1, HH.out.2.1⟩, G6.out⟩
     have hr := rd_of_rdf (rdf_of_own HO3.out) (by rw [flat_tv]; simp)
     rw [flat_tv] at hr
     exact hr.mono (fun b hb => .inr hb)
    ·obtain rfl : spot = none := hsp.resolve_left (by omega)
     go_wp2_with (at_builtin; refine hold_on ?_)
     refine Lib.hid ?_
     refine (wpList_append_f tvC 1 8 (by decide) (fun _ => rfl) tv_one 3 22 ii _ Tryz.underlying22 hii hi0 hi1 hi2 rfl (by decide) rfl _ _ rfl w.heap.size (.slice none 0 0) [] 0 rfl rfl (World.ownsRow_nil _ _ _ _) _ _ _ T1 rfl HJ.out (by simp) _ (HT.out.1 ▸ RdF.part (f := tvC) (k := 1) (fun _ => rfl) HRF.out _ hj _) (by omega) (by rw [← HJ.out]; omega) (Nat.le_refl _) ?_)
     intro v1 w4 hown1 hg1
     have HO1 : Hid (w4.ownsRow w.heap.size 3 1 v1 T1.length (T1.flatMap tvC)) := Lib.hid hown1
     have G4 := Lib.hid (show w.grownBy w4 none from hg1)
     clear hown1 hg1
     obtain ⟨p1, c1, rfl, -, -⟩ := own_shape HO1.out
     go_wp2_with (at_builtin; refine hold_on ?_)
     refine Lib.hid ?_
     refine (wpList_append_f tvC 1 8 (by decide) (fun _ => rfl) tv_one 3 22 ii _ Tryz.underlying22 hii hi0 hi1 hi2 rfl (by decide) rfl _ _ rfl w.heap.size _ T1 _ rfl rfl (HO1.out.alloc _) _ _ _ [n] rfl rfl (by simp) (fun _ => True) (rdf_one _ trivial (cell_one w4 _ _) 1) (by omega) (by rw [← HJ.out]; simp <;> omega) (by have := G4.out.size; simp <;> omega) ?_)
     intro v2 w5 hown2 hg2
     have G5 := Lib.hid (old_grow (grown_trans G4.out (World.grownBy_alloc w4 _ none)) (HO1.out.alloc _) (Nat.le_refl _) hg2)
     obtain ⟨T3, hT3⟩ : ∃ T3, T3 = T1 ++ [n] := ⟨_, rfl⟩
     rw [← hT3] at hown2
     have HO2 := Lib.hid hown2
     have HT3 := Lib.hid hT3
     clear hown2 hT3 hg2
     obtain ⟨p2, c2, rfl, -, -⟩ := own_shape HO2.out
     go_wp2_with (at_builtin; refine hold_on ?_)
     refine Lib.hid ?_
     refine (wpList_append_f tvC 1 8 (by decide) (fun _ => rfl) tv_one 3 22 ii _ Tryz.underlying22 hii hi0 hi1 hi2 rfl (by decide) rfl _ _ rfl w.heap.size _ T3 _ rfl rfl HO2.out _ _ _ T2 rfl (by have := HJ2.out; omega) (by simp) _ (show RdF w5 _ (.slice (some ⟨b, off + j, none⟩) (l.length - j) (c - j)) T2.length (T2.flatMap tvC) from by have := RdF.rest (f := tvC) (k := 1) (fun _ => rfl) (HRF.out.keep G5.out) j (c - j); rw [Nat.mul_one, HT.out.2] at this; exact this) (by omega) (by rw [← HJ2.out, HT3.out, List.length_append, ← HJ.out]; simp <;> omega) G5.out.size ?_)
     intro v3 w6 hown3 hg3
     have HE : Hid (insU l n = T3 ++ T2) := Lib.hid (by rw [HT3.out, HI.out]; simp)
     rw [← HE.out] at hown3
     have HO3 := Lib.hid hown3
     have G6 := Lib.hid (old_grow G5.out HO2.out (Nat.le_refl _) hg3)
     clear hown3 hg3
     obtain ⟨p3, c3, rfl, h31, h32⟩ := own_shape HO3.out
     have hp3 : p3 = none → c3 = 0 := by
      rintro rfl
      rcases own_formF HO3.out with ⟨e, -⟩ | ⟨g, cap, e, -⟩
      ·injection e with e1 e2 e3
      ·injection e with e1 e2 e3
       cases e1
     have HH := Lib.hid (And.intro h31 (And.intro h32 hp3))
     clear h31 h32 hp3
     go_wp2_with fail
     go_ret
     refine ⟨p3, c3, rfl, ?_, HH.out.2.2, ⟨HH.out.1, HH.out.2.1⟩, G6.out⟩
     have hr := rd_of_rdf (rdf_of_own HO3.out) (by rw [flat_tv]; simp)
     rw [flat_tv] at hr
     exact hr.mono (fun b hb => .inr hb)
end Go.Proofs.YtpogblengagpaaaGreatDoor

/- The reference's Around: the mathematics. -/
namespace Go.Proofs.YtpogblengagpaaaGreatDoor
set_option maxRecDepth 100000
open Go.RowKit Bs
theorem insU_cons (a : Int) (t : List Int) (n : Int) : insU (a :: t) n = if a < n then a :: insU t n else if a = n then a :: t else n :: a :: t := by
 unfold insU
 by_cases h : a < n
 ·rw [if_pos h]
  rw [List.takeWhile_cons, decide_eq_true h]
  simp only [if_true, List.length_cons, List.drop_succ_cons, List.cons_append]
  split <;> rfl
 ·rw [if_neg h]
  rw [List.takeWhile_cons, decide_eq_false h]
  simp
theorem insU_spec (n : Int) : ∀ l : List Int, l.Pairwise (· < ·) → (insU l n).Pairwise (· < ·) ∧ ∀ x, x ∈ insU l n ↔ x = n ∨ x ∈ l
 | [], _ => by
  have : insU [] n = [n] := by simp [insU]
  rw [this]
  simp
 | a :: t, h => by
  obtain ⟨h1, h2⟩ := List.pairwise_cons.1 h
  obtain ⟨i1, i2⟩ := insU_spec n t h2
  rw [insU_cons]
  by_cases ha : a < n
  ·rw [if_pos ha]
   refine ⟨List.pairwise_cons.2 ⟨fun y hy => ?_, i1⟩, fun x => ?_⟩
   ·rcases (i2 y).1 hy with rfl | hy
    ·exact ha
    ·exact h1 y hy
   ·rw [List.mem_cons, i2, List.mem_cons]
    constructor
    ·rintro (h | h | h)
     ·exact .inr (.inl h)
     ·exact .inl h
     ·exact .inr (.inr h)
    ·rintro (h | h | h)
     ·exact .inr (.inl h)
     ·exact .inl h
     ·exact .inr (.inr h)
  ·rw [if_neg ha]
   by_cases e : a = n
   ·rw [if_pos e]
    subst e
    exact ⟨h, fun x => by simp⟩
   ·rw [if_neg e]
    refine ⟨List.pairwise_cons.2 ⟨fun y hy => ?_, h⟩, fun x => by simp⟩
    rcases List.mem_cons.1 hy with rfl | hy
    ·omega
    ·have := h1 y hy
     omega
end Go.Proofs.YtpogblengagpaaaGreatDoor
