/- Parts of the proof, packed: ShRTo, TaHop. -/
import Derived.Test.YtpogblengagpaaaGreatDoorLo12
import Derived.Test.YtpogblengagpaaaGreatDoorLo6
import Derived.Test.YtpogblengagpaaaGreatDoorLo11
import Derived.Test.YtpogblengagpaaaGreatDoorLo5
import Derived.Deep.AppendLies
/- The reference's To. -/
namespace Go.Proofs.YtpogblengagpaaaGreatDoor
set_option maxRecDepth 100000
open Go.RowKit Bs
def BxL (gl : Nat) (l : Lk) (wr : World) : Prop := wr.heap[gl]? = some (.cells #[.int .i64 l.a, .int .i64 l.b, .int .i64 l.ca, .int .i64 l.cb, .int .i64 l.cp] 135 (0, 0))
theorem BxL.at1_ {gl : Nat} {l : Lk} {wr : World} (h : BxL gl l wr) : wr.cell? ⟨gl, 0, none⟩ = some (.int .i64 l.a) ∧ wr.cell? ⟨gl, 1, none⟩ = some (.int .i64 l.b) ∧ wr.cell? ⟨gl, 2, none⟩ = some (.int .i64 l.ca) ∧ wr.cell? ⟨gl, 3, none⟩ = some (.int .i64 l.cb) := by
 refine ⟨?_, ?_, ?_, ?_⟩ <;> (rw [cell_of_row _ _ _ _ _ _ h]; rfl)
theorem rlx1_bd {D : Int → Int} {u v c : Int} (h : ∀ x, 0 ≤ D x ∧ D x ≤ farN) (hc : 0 ≤ c) : ∀ x, 0 ≤ rlx1 D u v c x ∧ rlx1 D u v c x ≤ farN := fun x => by
 refine ⟨?_, Int.le_trans (le_rlx1 D u v c x) (h x).2⟩
 unfold rlx1
 by_cases hu : D u < farN
 ·rw [if_pos hu]
  unfold updF
  by_cases hx : x = v
  ·rw [if_pos hx]
   have := (h v).1
   have := (h u).1
   omega
  ·rw [if_neg hx]; exact (h x).1
 ·rw [if_neg hu]; exact (h x).1
set_option maxHeartbeats 12800000 in
theorem rto_any (T : Tg) (z : Int) (q : Nat → Prop) (w : World) (hT : TgOk w q T) (hz : hasV T.R T.L z = true) :
  Calls Tryz.prog 113 #[.agg #[.slice T.pR T.R.length T.cR, .slice T.pL T.L.length T.cL], .int .i64 z] w fun e w' => TRet ((ids T.R).map (toK T.L z T.R.length)) w e w' := by
 obtain ⟨R, L, pR, cR, pL, cL⟩ := T
 simp only at hz ⊢
 obtain ⟨hok, -⟩ := hasV_iff.1 hz
 have hl := (okT_g hok).len
 rw [ids_len] at hl
 obtain ⟨hR24, hL60⟩ := hl
 have HOK := Lib.hid hok
 have HN := Lib.hid (ids_nodup hok)
 obtain ⟨k1, k2⟩ := tone_box w #[.slice pR R.length cR, .slice pL L.length cL] 68
 have ksz : (w.alloc (.cells #[.slice pR R.length cR, .slice pL L.length cL] 68)).heap.size = w.heap.size + 1 := by simp
 have HB := Lib.hid (And.intro k1 (And.intro k2 (And.intro (hT.old.keep k2) ksz)))
 clear k1 k2 hT hz hok ksz
 obtain ⟨c0, c1⟩ := row_cells HB.out.1
 go_enter Tryz.func113, Tryz.ntmps113
 go_upto_region 1 with fail
 generalize w.alloc _ = wb at *
 go_wp2_with (at_make; refine wpList_make_ints _ rfl _ _ rfl R.length rfl rfl (by omega) ?_; intro hrow hgm)
 obtain ⟨G, hG⟩ : ∃ G, w.heap.size = G := ⟨_, rfl⟩
 obtain ⟨gd, hgd⟩ : ∃ gd, wb.heap.size = gd := ⟨_, rfl⟩
 have M0 : Hid (TM w ⟨R, L, pR, cR, pL, cL⟩ G gd (iniF (ids R) z 0) (wb.alloc (.cells (Array.replicate R.length (tv 0)) 3))) := by
  refine Lib.hid ⟨?_, ?_, ?_, grown_trans HB.out.2.1 hgm, ?_⟩
  ·rw [← hG]; exact kept_row HB.out.1 hgm (by simp)
  ·exact (HB.out.2.2.1.keep hgm).mono (fun b hb => by have := HB.out.2.2.2; omega)
  ·rw [← hgd, show clV (ids R) (iniF (ids R) z 0) = List.replicate R.length (tv 0) by rw [clV_congr (E := fun _ => 0) (fun v _ => by unfold iniF; rw [if_neg (by simp)]), clV_zero, ids_len]]
   exact hrow
  ·have := HB.out.2.2.2; omega
 generalize wb.alloc _ = w1 at *
 have HG : Hid (w.heap.size = G) := Lib.hid hG
 have hgd0 : G < gd := M0.out.lt.1
 rw [hgd]
 rw [hG] at c0 c1 ⊢
 clear hrow hgm hgd hG HB c0 c1
 go_wp2_with fail
 go_loopw [6] (fun a wr => ∃ k : Nat, k ≤ R.length ∧ a = .int .i64 (k : Int) ∧ Hid (TM w ⟨R, L, pR, cR, pL, cL⟩ G gd (iniF (ids R) z k) wr)) (fun a _ => R.length - (RowKit.intOf a).toNat)
 case atStart => exact ⟨0, Nat.zero_le _, rfl, M0⟩
 case round =>
 obtain ⟨k, hk, rfl, M⟩ := hrel
 clear M0
 obtain ⟨c0, c1⟩ := row_cells M.out.gb
 by_cases hlt : k < R.length
 ·obtain ⟨y, hy⟩ : ∃ y, R[k]? = some y := ⟨_, List.getElem?_eq_getElem hlt⟩
  have hyi := ids_at hy
  have HY := Lib.hid (And.intro hy hyi)
  have d0 := M.out.d.cell (clV_at (D := iniF (ids R) z k) hyi)
  have d1 := M.out.d.frozen k
  have M1 := Lib.hid (M.out.put HN.out hyi farN)
  clear hy hyi
  go_upto_region 6 with fail
  change Hid (TM w ⟨R, L, pR, cR, pL, cL⟩ G gd _ (wr.setCell ⟨gd, k, none⟩ (.int .i64 1073741824))) at M1
  clear d0 d1 c0 c1
  (try rw [Nat.zero_add])
  generalize wr.setCell _ _ = wx at *
  obtain ⟨c0, c1⟩ := row_cells M1.out.gb
  obtain ⟨-, bR, oR, rfl, -, hc⟩ := rdr_cells (R := R) M1.out.t.r (by omega)
  obtain ⟨a0, a1⟩ := hc k y HY.out.1
  have hst := iniF_step (z := z) HY.out.2
  clear hc
  by_cases e : y.id = z
  ·have e' : (y.id == z) = true := by simpa using e
   have d2 := M1.out.d.cell (clV_at (D := updF (iniF (ids R) z k) y.id farN) HY.out.2)
   have d3 := M1.out.d.frozen k
   have M2 : Hid (TM w ⟨R, L, some ⟨bR, oR, none⟩, cR, pL, cL⟩ G gd (iniF (ids R) z (k + 1)) (wx.setCell ⟨gd, k, none⟩ (.int .i64 0))) := by
    have h1 := M1.out.put HN.out HY.out.2 0
    rw [updF_twice, show (0 : Int) = startF z y.id by unfold startF; rw [if_pos e], hst] at h1
    rw [show startF z y.id = (0 : Int) by unfold startF; rw [if_pos e]] at h1
    exact Lib.hid h1
   clear e hst M
   go_wp2_with fail
   (try rw [Nat.zero_add])
   exact ⟨⟨k + 1, by omega, congrArg _ (by omega), M2⟩, by simp only [RowKit.intOf]; omega⟩
  ·have e' : (y.id == z) = false := by simpa using e
   have M2 : Hid (TM w ⟨R, L, some ⟨bR, oR, none⟩, cR, pL, cL⟩ G gd (iniF (ids R) z (k + 1)) wx) := by
    have h1 := M1.out
    rw [show farN = startF z y.id by unfold startF; rw [if_neg e], hst] at h1
    exact Lib.hid h1
   clear e hst M
   go_wp2_with fail
   exact ⟨⟨k + 1, by omega, congrArg _ (by omega), M2⟩, by simp only [RowKit.intOf]; omega⟩
 ·obtain rfl : k = R.length := by omega
  have M1 : Hid (TM w ⟨R, L, pR, cR, pL, cL⟩ G gd (toK L z 0) wr) := by
   have h1 := M.out
   have hd := h1.d
   simp only at hd
   rw [← ids_len R, iniF_end] at hd
   exact Lib.hid ⟨h1.gb, h1.t, hd, h1.gr, h1.lt⟩
  clear M c0 c1
  go_wp2_with fail
  go_loopw [7] (fun a wr => ∃ k : Nat, k ≤ R.length ∧ a = .int .i64 (k : Int) ∧ Hid (TM w ⟨R, L, pR, cR, pL, cL⟩ G gd (toK L z k) wr)) (fun a _ => R.length - (RowKit.intOf a).toNat)
  case atStart => exact ⟨0, Nat.zero_le _, rfl, M1⟩
  case round =>
  obtain ⟨w5, rfl⟩ : ∃ w5, w5 = wr := ⟨_, rfl⟩
  obtain ⟨k, hk, rfl, M⟩ := hrel
  clear M1
  by_cases hlt : k < R.length
  ·have J0 : Hid (TM w ⟨R, L, pR, cR, pL, cL⟩ G gd (toJ L z k 0) w5) := M
   clear M
   go_wp2_with fail
   go_loopw [8] (fun a wr => ∃ j : Nat, j ≤ L.length ∧ a = .int .i64 (j : Int) ∧ Hid (TM w ⟨R, L, pR, cR, pL, cL⟩ G gd (toJ L z k j) wr)) (fun a _ => L.length - (RowKit.intOf a).toNat)
   case atStart => exact ⟨0, Nat.zero_le _, rfl, J0⟩
   case round =>
   obtain ⟨j, hj, rfl, M⟩ := hrel
   clear J0
   obtain ⟨c0, c1⟩ := row_cells M.out.gb
   by_cases hltj : j < L.length
   ·obtain ⟨l, hl⟩ : ∃ l, L[j]? = some l := ⟨_, List.getElem?_eq_getElem hltj⟩
    obtain ⟨-, bL, oL, rfl, -, hc⟩ := rdl_cells (L := L) M.out.t.l (by omega)
    obtain ⟨a0, a1, a2, a3, a4⟩ := hc j l hl
    have hends := (okT_g HOK.out).ends l (List.mem_of_getElem? hl)
    obtain ⟨ia, hia⟩ := List.mem_iff_getElem?.1 hends.1
    obtain ⟨ib, hib⟩ := List.mem_iff_getElem?.1 hends.2
    have hpo := (okT_g HOK.out).pos l (List.mem_of_getElem? hl)
    have hle := (okT_g HOK.out).le l (List.mem_of_getElem? hl)
    have HST := Lib.hid (toJ_step (z := z) (k := k) hl)
    have HIA := Lib.hid (And.intro hia hib)
    have hia2 : ia < R.length := by have := (List.getElem?_eq_some_iff.1 hia).1; rwa [ids_len] at this
    have hib2 : ib < R.length := by have := (List.getElem?_eq_some_iff.1 hib).1; rwa [ids_len] at this
    have HDB := Lib.hid (toJ_bd HOK.out z k j)
    obtain ⟨D, hD⟩ : ∃ D, toJ L z k j = D := ⟨_, rfl⟩
    rw [hD] at M HST HDB
    clear hc hends hia hib hl hD
    have HBX := Lib.hid (heap_alloc_new wr (.cells #[.int .i64 l.a, .int .i64 l.b, .int .i64 l.ca, .int .i64 l.cb, .int .i64 l.cp] 135))
    have HGA := Lib.hid (World.grownBy_alloc wr (.cells #[.int .i64 l.a, .int .i64 l.b, .int .i64 l.ca, .int .i64 l.cb, .int .i64 l.cp] 135) none)
    go_upto_region 15 with fail
    have hgl : gd < wr.heap.size := M.out.d.lt
    obtain ⟨gl, hgl0⟩ : ∃ gl, wr.heap.size = gl := ⟨_, rfl⟩
    generalize wr.alloc _ = wy at *
    rw [hgl0] at HBX hgl ⊢
    have MY := Lib.hid (M.out.keep HGA.out)
    have HBL : Hid (BxL gl l wy) := HBX
    clear HGA HBX M hgl0 a0 a1 a2 a3 a4 c0 c1
    refine wp_region_held_drew (S := fun w' => Hid (wy.grownBy w' none)) (by kernel_rfl) (Lib.hid (grown_drew (grown_refl _ _))) (fun hHeld => ?_)
    refine zT (i := 0) (v := ?_) rfl ?_ hHeld ?_
    rotate_left 1
    ·intro u hSu
     obtain ⟨q0, q1⟩ := row_cells (kept_row MY.out.gb hSu.out (by simp))
     obtain ⟨b0, b1, b2, b3⟩ := (show BxL gl l u from kept_row HBL.out hSu.out (by simp)).at1_
     go_simp
     first | done | with_reducible rfl
    try simp only [Act.put, zA, zB, zC]
    refine zT (i := 1) (v := ?_) rfl ?_ hHeld ?_
    rotate_left 1
    ·intro u hSu
     go_simp
     first | done | with_reducible rfl
    try simp only [Act.put, zA, zB, zC]
    refine zT (i := 2) (v := ?_) rfl ?_ hHeld ?_
    rotate_left 1
    ·intro u hSu
     obtain ⟨q0, q1⟩ := row_cells (kept_row MY.out.gb hSu.out (by simp))
     obtain ⟨b0, b1, b2, b3⟩ := (show BxL gl l u from kept_row HBL.out hSu.out (by simp)).at1_
     go_simp
     first | done | with_reducible rfl
    try simp only [Act.put, zA, zB, zC]
    refine zT (i := 4) (v := ?_) rfl ?_ hHeld ?_
    rotate_left 1
    ·intro u hSu
     obtain ⟨q0, q1⟩ := row_cells (kept_row MY.out.gb hSu.out (by simp))
     obtain ⟨b0, b1, b2, b3⟩ := (show BxL gl l u from kept_row HBL.out hSu.out (by simp)).at1_
     go_simp
     first | done | with_reducible rfl
    try simp only [Act.put, zA, zB, zC]
    refine zT (i := 5) (v := ?_) rfl ?_ hHeld ?_
    rotate_left 1
    ·intro u hSu
     go_simp
     first | done | with_reducible rfl
    try simp only [Act.put, zA, zB, zC]
    refine zT (i := 6) (v := ?_) rfl ?_ hHeld ?_
    rotate_left 1
    ·intro u hSu
     obtain ⟨q0, q1⟩ := row_cells (kept_row MY.out.gb hSu.out (by simp))
     obtain ⟨b0, b1, b2, b3⟩ := (show BxL gl l u from kept_row HBL.out hSu.out (by simp)).at1_
     go_simp
     first | done | with_reducible rfl
    try simp only [Act.put, zA, zB, zC]
    refine wpAnyH_ready (rs := [3]) (by kernel_rfl) (by simp) ?_
    refine AllReadyH.cons (o := ⟨_, _, _, _, _, _⟩) rfl (fun Kz hK => ?_) AllReadyH.nil
    go_simp
    go_at_call 129
    refine (rplace_any ⟨R, L, pR, cR, some ⟨bL, oL, none⟩, cL⟩ l.a ia _ _ (MY.out.keep hHeld.out).t HIA.out.1 HN.out).mono ?_
    rintro e wp1 ⟨rfl, hgp⟩
    refine hK.out _ _ (Lib.hid (grown_trans hHeld.out hgp)) (fun hH2 => ?_)
    clear hK Kz hHeld
    have hHeld := hH2
    clear hH2
    try simp only [Act.put, zA, zB, zC]
    refine wpAnyH_ready (rs := [7]) (by kernel_rfl) (by simp) ?_
    refine AllReadyH.cons (o := ⟨_, _, _, _, _, _⟩) rfl (fun Kz hK => ?_) AllReadyH.nil
    go_simp
    go_at_call 129
    refine (rplace_any ⟨R, L, pR, cR, some ⟨bL, oL, none⟩, cL⟩ l.b ib _ _ (MY.out.keep hHeld.out).t HIA.out.2 HN.out).mono ?_
    rintro e wp2 ⟨rfl, hgp⟩
    refine hK.out _ _ (Lib.hid (grown_trans hHeld.out hgp)) (fun hH2 => ?_)
    clear hK Kz hHeld
    have hHeld := hH2
    clear hH2
    try simp only [Act.put, zA, zB, zC]
    refine zT (i := 8) (v := ?_) rfl ?_ hHeld ?_
    rotate_left 1
    ·intro u hSu
     go_simp
     first | done | with_reducible rfl
    try simp only [Act.put, zA, zB, zC]
    refine zT (i := 9) (v := ?_) rfl ?_ hHeld ?_
    rotate_left 1
    ·intro u hSu
     go_simp
     first | done | with_reducible rfl
    try simp only [Act.put, zA, zB, zC]
    refine wpAnyH_done (by kernel_rfl) ?_ _
    have MZ := Lib.hid (MY.out.keep hHeld.out)
    have HBZ : Hid (BxL gl l wp2) := Lib.hid (kept_row HBL.out hHeld.out (by simp))
    obtain ⟨wz, hwz⟩ : ∃ wz, wz = wp2 := ⟨_, rfl⟩
    rw [← hwz] at MZ HBZ ⊢
    clear hHeld hwz MY HBL
    have d0 : wz.cell? ⟨gd, ib, none⟩ = some (.int .i64 (D l.b)) := MZ.out.d.cell (clV_at (D := D) HIA.out.2)
    go_upto_if 66 with fail
    go_cut [] from 62 to 81 (fun wx => Hid (TM w ⟨R, L, pR, cR, some ⟨bL, oL, none⟩, cL⟩ G gd (rlx1 D l.b l.a l.ca) wx) ∧ Hid (BxL gl l wx))
    case first =>
     by_cases hf : D l.b < farN
     ·have hf2 : D l.b < 1073741824 := hf
      have HE : Hid (rlx1 D l.b l.a l.ca = updF D l.a (min (D l.a) (l.ca + D l.b))) := Lib.hid (by unfold rlx1; rw [if_pos hf])
      have hba := HDB.out l.a
      have hbb := HDB.out l.b
      clear hf
      go_upto_region 17 with fail
      refine region_until (S := fun w' => Hid (TM w ⟨R, L, pR, cR, some ⟨bL, oL, none⟩, cL⟩ G gd D w' ∧ BxL gl l w')) (fun j => j == 15) (by kernel_rfl) (Lib.hid ⟨MZ.out.keep (grown_drew (grown_refl _ _)), kept_row (r := none) HBZ.out (grown_drew (grown_refl _ _)) (by simp)⟩) (fun hHeld => ?_)
      refine zU (i := 0) (v := ?_) rfl ?_ hHeld ?_
      rotate_left 1
      ·intro u hSu
       go_simp
       first | done | with_reducible rfl
      try simp only [Act.put, zA, zB, zC]
      refine zU (i := 1) (v := ?_) rfl ?_ hHeld ?_
      rotate_left 1
      ·intro u hSu
       go_simp
       first | done | with_reducible rfl
      try simp only [Act.put, zA, zB, zC]
      refine zU (i := 2) (v := ?_) rfl ?_ hHeld ?_
      rotate_left 1
      ·intro u hSu
       go_simp
       first | done | with_reducible rfl
      try simp only [Act.put, zA, zB, zC]
      refine zU (i := 3) (v := ?_) rfl ?_ hHeld ?_
      rotate_left 1
      ·intro u hSu
       go_simp
       first | done | with_reducible rfl
      try simp only [Act.put, zA, zB, zC]
      refine zU (i := 4) (v := ?_) rfl ?_ hHeld ?_
      rotate_left 1
      ·intro u hSu
       go_simp
       first | done | with_reducible rfl
      try simp only [Act.put, zA, zB, zC]
      refine zU (i := 5) (v := ?_) rfl ?_ hHeld ?_
      rotate_left 1
      ·intro u hSu
       have e0 : u.cell? ⟨gd, ia, none⟩ = some (.int .i64 (D l.a)) := hSu.out.1.d.cell (clV_at (D := D) HIA.out.1)
       have e1 : u.cell? ⟨gd, ib, none⟩ = some (.int .i64 (D l.b)) := hSu.out.1.d.cell (clV_at (D := D) HIA.out.2)
       obtain ⟨b0, b1, b2, b3⟩ := hSu.out.2.at1_
       go_simp
       first | done | with_reducible rfl
      try simp only [Act.put, zA, zB, zC]
      refine zU (i := 6) (v := ?_) rfl ?_ hHeld ?_
      rotate_left 1
      ·intro u hSu
       go_simp
       first | done | with_reducible rfl
      try simp only [Act.put, zA, zB, zC]
      refine zU (i := 7) (v := ?_) rfl ?_ hHeld ?_
      rotate_left 1
      ·intro u hSu
       have e0 : u.cell? ⟨gd, ia, none⟩ = some (.int .i64 (D l.a)) := hSu.out.1.d.cell (clV_at (D := D) HIA.out.1)
       have e1 : u.cell? ⟨gd, ib, none⟩ = some (.int .i64 (D l.b)) := hSu.out.1.d.cell (clV_at (D := D) HIA.out.2)
       obtain ⟨b0, b1, b2, b3⟩ := hSu.out.2.at1_
       go_simp
       first | done | with_reducible rfl
      try simp only [Act.put, zA, zB, zC]
      refine zU (i := 8) (v := ?_) rfl ?_ hHeld ?_
      rotate_left 1
      ·intro u hSu
       go_simp
       first | done | with_reducible rfl
      try simp only [Act.put, zA, zB, zC]
      refine zU (i := 9) (v := ?_) rfl ?_ hHeld ?_
      rotate_left 1
      ·intro u hSu
       go_simp
       first | done | with_reducible rfl
      try simp only [Act.put, zA, zB, zC]
      refine zU (i := 10) (v := ?_) rfl ?_ hHeld ?_
      rotate_left 1
      ·intro u hSu
       go_simp
       first | done | with_reducible rfl
      try simp only [Act.put, zA, zB, zC]
      refine zU (i := 11) (v := ?_) rfl ?_ hHeld ?_
      rotate_left 1
      ·intro u hSu
       have e0 : u.cell? ⟨gd, ia, none⟩ = some (.int .i64 (D l.a)) := hSu.out.1.d.cell (clV_at (D := D) HIA.out.1)
       have e1 : u.cell? ⟨gd, ib, none⟩ = some (.int .i64 (D l.b)) := hSu.out.1.d.cell (clV_at (D := D) HIA.out.2)
       obtain ⟨b0, b1, b2, b3⟩ := hSu.out.2.at1_
       go_simp
       first | done | with_reducible rfl
      try simp only [Act.put, zA, zB, zC]
      refine zU (i := 12) (v := (.int .i64 (l.ca + D l.b))) rfl ?_ hHeld ?_
      ·intro u hSu
       go_simp
       first | done | exact Go.IntWalk.i64_in _ (by unfold farN at *; omega) | (unfold farN at *; omega)
      try simp only [Act.put, zA, zB, zC]
      refine zU (i := 13) (v := (.int .i64 (min (D l.a) (l.ca + D l.b)))) rfl ?_ hHeld ?_
      ·intro u hSu
       have e0 : u.cell? ⟨gd, ia, none⟩ = some (.int .i64 (D l.a)) := hSu.out.1.d.cell (clV_at (D := D) HIA.out.1)
       have e1 : u.cell? ⟨gd, ib, none⟩ = some (.int .i64 (D l.b)) := hSu.out.1.d.cell (clV_at (D := D) HIA.out.2)
       obtain ⟨b0, b1, b2, b3⟩ := hSu.out.2.at1_
       go_simp
       all_goals (rw [Int.min_def]; split <;> split <;> omega)
      try simp only [Act.put, zA, zB, zC]
      refine zU (i := 14) (v := ?_) rfl ?_ hHeld ?_
      rotate_left 1
      ·intro u hSu
       go_simp
       first | done | with_reducible rfl
      try simp only [Act.put, zA, zB, zC]
      refine anyU_ready (rs := [15]) (by kernel_rfl) (by simp) ?_
      refine EachU.cons (o := ⟨_, _, _, _, _, _⟩) rfl (fun Kz hK => ?_) EachU.nil
      have H9 := hHeld
      have e9 := H9.out.1.d.cell (clV_at (D := D) HIA.out.1)
      have f9 := H9.out.1.d.frozen ia
      go_simp
      refine hK.out _ _ (fun h => by cases h) (fun _ => ?_)
      clear hK Kz
      try simp only [Act.put, zA, zB, zC]
      refine anyU_done (by kernel_rfl) ?_ _
      clear hHeld
      have M9 := Lib.hid (H9.out.1.put HN.out HIA.out.1 (min (D l.a) (l.ca + D l.b)))
      have HB9 : Hid (BxL gl l _) := Lib.hid (kept_row H9.out.2 (grown_setCell _ ⟨gd, ia, none⟩ (tv (min (D l.a) (l.ca + D l.b)))) (fun e => by have := Option.some.inj e; simp only at this; omega))
      rw [← HE.out] at M9
      go_wp2_with fail
      go_meet
      exact ⟨M9, HB9⟩
     ·have hf2 : ¬ D l.b < 1073741824 := hf
      have HE : Hid (rlx1 D l.b l.a l.ca = D) := Lib.hid (by unfold rlx1; rw [if_neg hf])
      clear hf
      go_wp2_with fail
      go_meet
      exact ⟨by rw [HE.out]; exact MZ, HBZ⟩
    case rest =>
     obtain ⟨w18, rfl⟩ : ∃ w18, w18 = wc := ⟨_, rfl⟩
     obtain ⟨ME, HBE⟩ := hcut
     have HEB : Hid (∀ v, 0 ≤ rlx1 D l.b l.a l.ca v ∧ rlx1 D l.b l.a l.ca v ≤ farN) := Lib.hid (rlx1_bd HDB.out (by omega))
     clear MZ HBZ d0 HDB
     obtain ⟨E, hE⟩ : ∃ E, rlx1 D l.b l.a l.ca = E := ⟨_, rfl⟩
     rw [hE] at ME HST HEB
     clear hE
     have d0 : w18.cell? ⟨gd, ia, none⟩ = some (.int .i64 (E l.a)) := ME.out.d.cell (clV_at (D := E) HIA.out.1)
     by_cases hf : E l.a < farN
     ·have hf2 : E l.a < 1073741824 := hf
      have HE : Hid (rlx1 E l.a l.b l.cb = updF E l.b (min (E l.b) (l.cb + E l.a))) := Lib.hid (by unfold rlx1; rw [if_pos hf])
      have hba := HEB.out l.a
      have hbb := HEB.out l.b
      clear hf
      go_upto_region 19 with fail
      refine region_until (S := fun w' => Hid (TM w ⟨R, L, pR, cR, some ⟨bL, oL, none⟩, cL⟩ G gd E w' ∧ BxL gl l w')) (fun j => j == 15) (by kernel_rfl) (Lib.hid ⟨ME.out.keep (grown_drew (grown_refl _ _)), kept_row (r := none) HBE.out (grown_drew (grown_refl _ _)) (by simp)⟩) (fun hHeld => ?_)
      refine zU (i := 0) (v := ?_) rfl ?_ hHeld ?_
      rotate_left 1
      ·intro u hSu
       go_simp
       first | done | with_reducible rfl
      try simp only [Act.put, zA, zB, zC]
      refine zU (i := 1) (v := ?_) rfl ?_ hHeld ?_
      rotate_left 1
      ·intro u hSu
       go_simp
       first | done | with_reducible rfl
      try simp only [Act.put, zA, zB, zC]
      refine zU (i := 2) (v := ?_) rfl ?_ hHeld ?_
      rotate_left 1
      ·intro u hSu
       go_simp
       first | done | with_reducible rfl
      try simp only [Act.put, zA, zB, zC]
      refine zU (i := 3) (v := ?_) rfl ?_ hHeld ?_
      rotate_left 1
      ·intro u hSu
       go_simp
       first | done | with_reducible rfl
      try simp only [Act.put, zA, zB, zC]
      refine zU (i := 4) (v := ?_) rfl ?_ hHeld ?_
      rotate_left 1
      ·intro u hSu
       go_simp
       first | done | with_reducible rfl
      try simp only [Act.put, zA, zB, zC]
      refine zU (i := 5) (v := ?_) rfl ?_ hHeld ?_
      rotate_left 1
      ·intro u hSu
       have e0 : u.cell? ⟨gd, ia, none⟩ = some (.int .i64 (E l.a)) := hSu.out.1.d.cell (clV_at (D := E) HIA.out.1)
       have e1 : u.cell? ⟨gd, ib, none⟩ = some (.int .i64 (E l.b)) := hSu.out.1.d.cell (clV_at (D := E) HIA.out.2)
       obtain ⟨b0, b1, b2, b3⟩ := hSu.out.2.at1_
       go_simp
       first | done | with_reducible rfl
      try simp only [Act.put, zA, zB, zC]
      refine zU (i := 6) (v := ?_) rfl ?_ hHeld ?_
      rotate_left 1
      ·intro u hSu
       go_simp
       first | done | with_reducible rfl
      try simp only [Act.put, zA, zB, zC]
      refine zU (i := 7) (v := ?_) rfl ?_ hHeld ?_
      rotate_left 1
      ·intro u hSu
       have e0 : u.cell? ⟨gd, ia, none⟩ = some (.int .i64 (E l.a)) := hSu.out.1.d.cell (clV_at (D := E) HIA.out.1)
       have e1 : u.cell? ⟨gd, ib, none⟩ = some (.int .i64 (E l.b)) := hSu.out.1.d.cell (clV_at (D := E) HIA.out.2)
       obtain ⟨b0, b1, b2, b3⟩ := hSu.out.2.at1_
       go_simp
       first | done | with_reducible rfl
      try simp only [Act.put, zA, zB, zC]
      refine zU (i := 8) (v := ?_) rfl ?_ hHeld ?_
      rotate_left 1
      ·intro u hSu
       go_simp
       first | done | with_reducible rfl
      try simp only [Act.put, zA, zB, zC]
      refine zU (i := 9) (v := ?_) rfl ?_ hHeld ?_
      rotate_left 1
      ·intro u hSu
       go_simp
       first | done | with_reducible rfl
      try simp only [Act.put, zA, zB, zC]
      refine zU (i := 10) (v := ?_) rfl ?_ hHeld ?_
      rotate_left 1
      ·intro u hSu
       go_simp
       first | done | with_reducible rfl
      try simp only [Act.put, zA, zB, zC]
      refine zU (i := 11) (v := ?_) rfl ?_ hHeld ?_
      rotate_left 1
      ·intro u hSu
       have e0 : u.cell? ⟨gd, ia, none⟩ = some (.int .i64 (E l.a)) := hSu.out.1.d.cell (clV_at (D := E) HIA.out.1)
       have e1 : u.cell? ⟨gd, ib, none⟩ = some (.int .i64 (E l.b)) := hSu.out.1.d.cell (clV_at (D := E) HIA.out.2)
       obtain ⟨b0, b1, b2, b3⟩ := hSu.out.2.at1_
       go_simp
       first | done | with_reducible rfl
      try simp only [Act.put, zA, zB, zC]
      refine zU (i := 12) (v := (.int .i64 (l.cb + E l.a))) rfl ?_ hHeld ?_
      ·intro u hSu
       go_simp
       first | done | exact Go.IntWalk.i64_in _ (by unfold farN at *; omega) | (unfold farN at *; omega)
      try simp only [Act.put, zA, zB, zC]
      refine zU (i := 13) (v := (.int .i64 (min (E l.b) (l.cb + E l.a)))) rfl ?_ hHeld ?_
      ·intro u hSu
       have e0 : u.cell? ⟨gd, ia, none⟩ = some (.int .i64 (E l.a)) := hSu.out.1.d.cell (clV_at (D := E) HIA.out.1)
       have e1 : u.cell? ⟨gd, ib, none⟩ = some (.int .i64 (E l.b)) := hSu.out.1.d.cell (clV_at (D := E) HIA.out.2)
       obtain ⟨b0, b1, b2, b3⟩ := hSu.out.2.at1_
       go_simp
       all_goals (rw [Int.min_def]; split <;> split <;> omega)
      try simp only [Act.put, zA, zB, zC]
      refine zU (i := 14) (v := ?_) rfl ?_ hHeld ?_
      rotate_left 1
      ·intro u hSu
       go_simp
       first | done | with_reducible rfl
      try simp only [Act.put, zA, zB, zC]
      refine anyU_ready (rs := [15]) (by kernel_rfl) (by simp) ?_
      refine EachU.cons (o := ⟨_, _, _, _, _, _⟩) rfl (fun Kz hK => ?_) EachU.nil
      have H9 := hHeld
      have e9 := H9.out.1.d.cell (clV_at (D := E) HIA.out.2)
      have f9 := H9.out.1.d.frozen ib
      go_simp
      refine hK.out _ _ (fun h => by cases h) (fun _ => ?_)
      clear hK Kz
      try simp only [Act.put, zA, zB, zC]
      refine anyU_done (by kernel_rfl) ?_ _
      clear hHeld
      have M9 := Lib.hid (H9.out.1.put HN.out HIA.out.2 (min (E l.b) (l.cb + E l.a)))
      rw [← HE.out, ← HST.out] at M9
      go_wp2_with fail
      exact ⟨⟨j + 1, by omega, congrArg _ (by omega), M9⟩, by simp only [RowKit.intOf]; omega⟩
     ·have hf2 : ¬ E l.a < 1073741824 := hf
      have M9 : Hid (TM w ⟨R, L, pR, cR, some ⟨bL, oL, none⟩, cL⟩ G gd (toJ L z k (j + 1)) w18) := Lib.hid (by rw [HST.out]; unfold rlx1; rw [if_neg hf]; exact ME.out)
      clear hf
      go_wp2_with fail
      exact ⟨⟨j + 1, by omega, congrArg _ (by omega), M9⟩, by simp only [RowKit.intOf]; omega⟩
   ·obtain rfl : j = L.length := by omega
    have M9 : Hid (TM w ⟨R, L, pR, cR, pL, cL⟩ G gd (toK L z (k + 1)) wr) := by
     have h1 := M.out
     rw [toJ_end] at h1
     exact Lib.hid h1
    clear M
    go_wp2_with fail
    exact ⟨⟨k + 1, by omega, congrArg _ (by omega), M9⟩, by simp only [RowKit.intOf]; omega⟩
  ·obtain rfl : k = R.length := by omega
   have hlen : ((ids R).map (toK L z R.length)).length = R.length := by rw [List.length_map, ids_len]
   have hrd : Rd w5 (w.heap.size ≤ ·) (.slice (some ⟨gd, 0, none⟩) ((ids R).map (toK L z R.length)).length R.length) (((ids R).map (toK L z R.length)).map tv) := by
    refine ⟨some ⟨gd, 0, none⟩, R.length, by simp only [List.length_map], fun _ => ⟨gd, 0, rfl, by have := M.out.lt; have := HG.out; show w.heap.size ≤ gd; omega, fun i x hx => ?_⟩⟩
    have h1 := M.out.d.cell (j := i) (x := x) (by unfold clV; rw [List.map_map] at hx; exact hx)
    rw [Nat.zero_add]
    exact h1
   rw [hlen] at hrd
   have H9 := Lib.hid (And.intro hrd (And.intro hlen M.out.gr))
   clear hrd hlen M
   go_wp2_with fail
   go_ret
   exact ⟨some ⟨gd, 0, none⟩, R.length, by rw [H9.out.2.1]; rfl, by rw [H9.out.2.1]; exact H9.out.1, by rw [H9.out.2.1]; exact ⟨Nat.le_refl _, by omega⟩, fun h => (by cases h), H9.out.2.2⟩
end Go.Proofs.YtpogblengagpaaaGreatDoor

/- tables, the reference's functions: Hops. -/
namespace Go.Proofs.YtpogblengagpaaaGreatDoor
set_option maxRecDepth 100000
open Go.RowKit Bs
theorem nodup_leH : ∀ (l V : List Int), l.Nodup → (∀ x ∈ l, x ∈ V) → l.length ≤ V.length
 | [], _, _, _ => Nat.zero_le _
 | a :: t, V, hn, hs => by
  have h1 := List.nodup_cons.1 hn
  have ha := hs a (by simp)
  have h2 := nodup_leH t (V.erase a) h1.2 (fun x hx => (List.mem_erase_of_ne (fun e => h1.1 (by rw [← e]; exact hx))).2 (hs x (by simp [hx])))
  rw [List.length_erase_of_mem ha] at h2
  have := List.length_pos_of_mem ha
  rw [List.length_cons]
  omega
theorem stV_mem {R : List Rt} {L : List Lk} {D : Int → Int} {r x : Int} (h : x ∈ stV R L D r) : x ∈ ids R := by
 unfold stV at h
 split at h
 ·cases h
 ·have h2 := (List.mem_filter.1 h).1
  unfold nearR at h2
  obtain ⟨y, hy, rfl⟩ := List.mem_map.1 h2
  exact List.mem_map.2 ⟨y, (List.mem_filter.1 hy).1, rfl⟩
theorem stV_len (R : List Rt) (L : List Lk) (D : Int → Int) (r : Int) : (stV R L D r).length ≤ R.length := by
 unfold stV
 split
 ·exact Nat.zero_le _
 ·refine Nat.le_trans (List.length_filter_le _ _) ?_
  unfold nearR
  rw [List.length_map]
  exact List.length_filter_le _ _
def RdX (lo : Nat) (w : World) (v : Value) (p : Option Addr) (c : Nat) (X : List Int) : Prop := Rd w (fun b => lo ≤ b ∧ b < w.heap.size ∧ some b ≠ v.ownBlock) (.slice p X.length c) (X.map tv) ∧ (p = none → c = 0) ∧ (X.length ≤ c ∧ c ≤ 9223372036854775807)
theorem RdX.keep {lo : Nat} {w w1 : World} {v : Value} {p : Option Addr} {c : Nat} {X : List Int} (h : RdX lo w v p c X) (g : w.grownBy w1 none) : RdX lo w1 v p c X :=
 ⟨(h.1.keep g).mono (fun b hb => ⟨hb.1, Nat.lt_of_lt_of_le hb.2.1 g.size, hb.2.2⟩), h.2⟩
theorem RdX.put {lo : Nat} {w w1 : World} {v v' : Value} {p : Option Addr} {c : Nat} {X : List Int} (h : RdX lo w v p c X) (g : w.grownBy w1 v.ownBlock) (hv : v'.ownBlock = v.ownBlock ∨ ∀ b, some b = v'.ownBlock → w.heap.size ≤ b) : RdX lo w1 v' p c X :=
 ⟨(h.1.grown g (fun b hb => hb.2.2)).mono (fun b hb => ⟨hb.1, Nat.lt_of_lt_of_le hb.2.1 g.size, fun e => by
  rcases hv with hv | hv
  ·rw [hv] at e; exact hb.2.2 e
  ·have := hv b e; have := hb.2.1; omega⟩), h.2⟩
theorem rd_and {w : World} {q : Nat → Prop} {v : Value} {xs : List Value} (h : Rd w q v xs) : Rd w (fun b => q b ∧ b < w.heap.size) v xs := by
 obtain ⟨p, c, hv, hc⟩ := h
 refine ⟨p, c, hv, fun hne => ?_⟩
 obtain ⟨b, off, hp, hb, hx⟩ := hc hne
 obtain ⟨x, hx0⟩ : ∃ x, xs[0]? = some x := by
  cases xs with
  | nil => exact absurd rfl hne
  | cons a t => exact ⟨a, rfl⟩
 exact ⟨b, off, hp, ⟨hb, World.block_lt_of_cell? w ⟨b, off + 0, none⟩ (hx 0 x hx0)⟩, hx⟩
theorem tvT_atH {w : World} {q : Nat → Prop} {p : Option Addr} {n c i : Nat} {x : Int} {X : List Int} (h : Rd w q (.slice p n c) (X.map tv)) (hi : X[i]? = some x) :
  n = X.length ∧ ∃ b off, p = some ⟨b, off, none⟩ ∧ q b ∧ ∀ j y, X[j]? = some y → w.cell? ⟨b, off + j, none⟩ = some (.int .i64 y) := by
 obtain ⟨p1, c1, e1, hx⟩ := h
 injection e1 with a1 a2 a3
 subst a1
 have hne : X.map tv ≠ [] := by
  intro e
  have := List.map_eq_nil_iff.1 e
  subst this
  simp at hi
 obtain ⟨b, off, hp, hq, hc⟩ := hx hne
 exact ⟨by rw [a2, List.length_map], b, off, hp, hq, fun j y hj => hc j (tv y) (by rw [List.getElem?_map, hj]; rfl)⟩
structure HP (W : World) (C : Nat) (T : Tg) (pd : Option Addr) (cd : Nat) (A : List Int) (v : Value) (S : List Int) (w : World) : Prop where
 bx : w.heap[W.heap.size]? = some (.cells #[.slice T.pR T.R.length T.cR, .slice T.pL T.L.length T.cL] 68 (0, 0))
 t : TgOk w (· < C) T
 d : Rd w (· < C) (.slice pd A.length cd) (A.map tv)
 own : w.ownsRow C 3 1 v S.length (S.map tv)
 gr : W.grownBy w none
 lo : W.heap.size < C ∧ C ≤ w.heap.size
theorem HP.keep {W : World} {C : Nat} {T : Tg} {pd : Option Addr} {cd : Nat} {A : List Int} {v : Value} {S : List Int} {w w1 : World} (h : HP W C T pd cd A v S w) (g : w.grownBy w1 none) : HP W C T pd cd A v S w1 :=
 ⟨kept_row h.bx g (by simp), h.t.keep g, h.d.keep g, h.own.kept g (by cases v.ownBlock <;> simp), grown_trans h.gr g, h.lo.1, Nat.le_trans h.lo.2 g.size⟩
theorem HP.put {W : World} {C : Nat} {T : Tg} {pd : Option Addr} {cd : Nat} {A : List Int} {v v' : Value} {S S2 : List Int} {w w1 : World} (h : HP W C T pd cd A v S w) (hown : w1.ownsRow C 3 1 v' S2.length (S2.map tv)) (g : w.grownBy w1 v.ownBlock) : HP W C T pd cd A v' S2 w1 := by
 have hlo := h.lo
 have hne : ∀ b, b < C → some b ≠ v.ownBlock := fun b hb e => by have := (h.own.lt b e.symm).1; omega
 exact ⟨kept_row h.bx g (hne _ hlo.1), h.t.grown g hne, h.d.grown g hne, hown, grown_any h.gr g (fun b hb => hne b (by omega)), h.lo.1, Nat.le_trans h.lo.2 g.size⟩
theorem HP.lt {W : World} {C : Nat} {T : Tg} {pd : Option Addr} {cd : Nat} {A : List Int} {v : Value} {S : List Int} {w : World} (h : HP W C T pd cd A v S w) : ∀ b, v.ownBlock = some b → b < w.heap.size := fun b e => (h.own.lt b e).2
theorem HP.new {W : World} {C : Nat} {T : Tg} {pd : Option Addr} {cd : Nat} {A : List Int} {v : Value} {S : List Int} {w w1 : World} (h : HP W C T pd cd A v S w) {p : Option Addr} {c : Nat} {X : List Int} (g : w.grownBy w1 none) (hR : Rd w1 (w.heap.size ≤ ·) (.slice p X.length c) (X.map tv)) (hc : X.length ≤ c ∧ c ≤ 9223372036854775807) (hn : p = none → c = 0) : RdX W.heap.size w1 v p c X :=
 ⟨(rd_and hR).mono (fun b hb => ⟨Nat.le_trans h.gr.size hb.1, hb.2, fun e => by have := h.lt b e.symm; have := hb.1; omega⟩), hn, hc⟩
def HopC (R : List Rt) (L : List Lk) (D : Int → Int) (x s : Int) : Prop := ∀ P : Int → Prop, P x → (∀ a b, P a → b ∈ stV R L D a → capV R L b = false → P b) → P s
def HopM (R : List Rt) (L : List Lk) (D : Int → Int) (x y : Int) : Prop := ∃ s, HopC R L D x s ∧ y ∈ stV R L D s ∧ capV R L y = true
def HopsIs (R : List Rt) (L : List Lk) (x z : Int) (M : List Int) : Prop := if hasV R L x = true ∧ hasV R L z = true ∧ x ≠ z then ∀ y, y ∈ M ↔ HopM R L (toK L z R.length) x y else M = []
structure HI (R : List Rt) (L : List Lk) (D : Int → Int) (x : Int) (i : Nat) (S M : List Int) : Prop where
 c : ∀ s ∈ S, HopC R L D x s
 m : ∀ y ∈ M, HopM R L D x y
 x0 : x ∈ S
 d : ∀ (j : Nat) (s : Int), j < i → S[j]? = some s → ∀ y ∈ stV R L D s, (capV R L y = true → y ∈ M) ∧ (capV R L y = false → y ∈ S)
structure HJ (R : List Rt) (L : List Lk) (D : Int → Int) (x : Int) (i : Nat) (y0 : Int) (N : List Int) (k : Nat) (S M : List Int) : Prop where
 h : HI R L D x i S M
 s0 : S[i]? = some y0
 e : ∀ (j : Nat) (y : Int), j < k → N[j]? = some y → (capV R L y = true → y ∈ M) ∧ (capV R L y = false → y ∈ S)
section
variable {R : List Rt} {L : List Lk} {D : Int → Int} {x : Int} {i k : Nat} {y0 y : Int} {N S M : List Int}
theorem HI.start : HI R L D x 0 [x] [] := ⟨fun s hs => by rw [List.mem_singleton.1 hs]; exact fun P h _ => h, fun y hy => (by cases hy), List.mem_singleton.2 rfl, fun j s hj => absurd hj (Nat.not_lt_zero _)⟩
theorem HI.toJ (h : HI R L D x i S M) (hs : S[i]? = some y0) : HJ R L D x i y0 N 0 S M := ⟨h, hs, fun j y hj => absurd hj (Nat.not_lt_zero _)⟩
theorem HJ.cap (h : HJ R L D x i y0 N k S M) (hN : stV R L D y0 = N) (hy : N[k]? = some y) (hc : capV R L y = true) {M2 : List Int} (hM : ∀ z, z ∈ M2 ↔ z = y ∨ z ∈ M) : HJ R L D x i y0 N (k + 1) S M2 := by
 refine ⟨⟨h.h.c, fun z hz => ?_, h.h.x0, fun j s hj hs z hz => ⟨fun hc => (hM z).2 (Or.inr ((h.h.d j s hj hs z hz).1 hc)), (h.h.d j s hj hs z hz).2⟩⟩, h.s0, fun j z hj hz => ?_⟩
 ·rcases (hM z).1 hz with rfl | hz
  ·exact ⟨y0, h.h.c y0 (List.mem_of_getElem? h.s0), by rw [hN]; exact List.mem_of_getElem? hy, hc⟩
  ·exact h.h.m z hz
 ·rcases Nat.lt_or_ge j k with hlt | hge
  ·exact ⟨fun hc => (hM z).2 (Or.inr ((h.e j z hlt hz).1 hc)), (h.e j z hlt hz).2⟩
  ·obtain rfl : j = k := by omega
   obtain rfl : y = z := Option.some.inj (hy.symm.trans hz)
   exact ⟨fun _ => (hM y).2 (Or.inl rfl), fun h => (by rw [hc] at h; cases h)⟩
theorem HJ.has (h : HJ R L D x i y0 N k S M) (hy : N[k]? = some y) (hc : capV R L y = false) (hs : y ∈ S) : HJ R L D x i y0 N (k + 1) S M := by
 refine ⟨h.h, h.s0, fun j z hj hz => ?_⟩
 rcases Nat.lt_or_ge j k with hlt | hge
 ·exact h.e j z hlt hz
 ·obtain rfl : j = k := by omega
  obtain rfl : y = z := Option.some.inj (hy.symm.trans hz)
  exact ⟨fun h => (by rw [hc] at h; cases h), fun _ => hs⟩
theorem HJ.push (h : HJ R L D x i y0 N k S M) (hN : stV R L D y0 = N) (hy : N[k]? = some y) (hc : capV R L y = false) (hi : i < S.length) : HJ R L D x i y0 N (k + 1) (S ++ [y]) M := by
 have hil : ∀ j, j ≤ i → (S ++ [y])[j]? = S[j]? := fun j hj => List.getElem?_append_left (by omega)
 refine HJ.has ⟨⟨fun s hs => ?_, h.h.m, List.mem_append_left _ h.h.x0, fun j s hj hs z hz => ?_⟩, by rw [hil i (Nat.le_refl _)]; exact h.s0, fun j z hj hz => ⟨(h.e j z hj hz).1, fun hc => List.mem_append_left _ ((h.e j z hj hz).2 hc)⟩⟩ hy hc (by simp)
 ·rcases List.mem_append.1 hs with hs | hs
  ·exact h.h.c s hs
  ·rw [List.mem_singleton.1 hs]
   exact fun P h0 h1 => h1 y0 y (h.h.c y0 (List.mem_of_getElem? h.s0) P h0 h1) (by rw [hN]; exact List.mem_of_getElem? hy) hc
 ·rw [hil j (by omega)] at hs
  exact ⟨(h.h.d j s hj hs z hz).1, fun hc => List.mem_append_left _ ((h.h.d j s hj hs z hz).2 hc)⟩
theorem HJ.fin (h : HJ R L D x i y0 N k S M) (hN : stV R L D y0 = N) (hk : k = N.length) : HI R L D x (i + 1) S M := by
 refine ⟨h.h.c, h.h.m, h.h.x0, fun j s hj hs z hz => ?_⟩
 rcases Nat.lt_or_ge j i with hlt | hge
 ·exact h.h.d j s hlt hs z hz
 ·obtain rfl : j = i := by omega
  obtain rfl : y0 = s := Option.some.inj (h.s0.symm.trans hs)
  rw [hN] at hz
  obtain ⟨q, hq, hz⟩ := List.getElem_of_mem hz
  exact h.e q z (by omega) (by rw [List.getElem?_eq_getElem hq, hz])
theorem HI.fin (h : HI R L D x i S M) (hi : i = S.length) : ∀ y, y ∈ M ↔ HopM R L D x y := by
 refine fun y => ⟨h.m y, fun ⟨s, hc, hs, hy⟩ => ?_⟩
 have hd : ∀ s ∈ S, ∀ y ∈ stV R L D s, (capV R L y = true → y ∈ M) ∧ (capV R L y = false → y ∈ S) := fun s hs => by
  obtain ⟨q, hq, hz⟩ := List.getElem_of_mem hs
  exact h.d q s (by omega) (by rw [List.getElem?_eq_getElem hq, hz])
 exact ((hd s (hc (· ∈ S) h.x0 (fun a b ha hb hcb => (hd a ha b hb).2 hcb))) y hs).1 hy
end
def HopsPost (R : List Rt) (L : List Lk) (x z : Int) (w : World) (e : Ending) (w' : World) : Prop :=
 ∃ (M : List Int) (p : Option Addr) (c : Nat), e = .returned (.slice p M.length c) ∧ Rd w' (w.heap.size ≤ ·) (.slice p M.length c) (M.map tv) ∧ (p = none → c = 0) ∧ (M.length ≤ c ∧ c ≤ 9223372036854775807) ∧ M.Pairwise (· < ·) ∧ (∀ y ∈ M, y ∈ ids R) ∧ HopsIs R L x z M ∧ w.grownBy w' none
theorem iv_rowH (w : World) (x : Int) (t : TypeId) : ∀ j u, [Value.int .i64 x][j]? = some u → (w.alloc (.cells #[.int .i64 x] t)).cell? ((⟨w.heap.size, 0, none⟩ : Addr).add j) = some u := by
 intro j u hu
 rw [add_plain]
 have hb := heap_alloc_new w (.cells #[.int .i64 x] t)
 rcases j with _ | j
 ·cases hu; exact cell_of_row _ _ _ _ _ _ hb
 ·simp at hu
theorem own_shapeH {w : World} {base : Nat} {S : List Int} {ps : Option Addr} {cs i : Nat} {y : Int} (h : w.ownsRow base 3 1 (.slice ps S.length cs) S.length (S.map tv)) (hy : S[i]? = some y) : ∃ b off, ps = some ⟨b, off, none⟩ ∧ w.cell? ⟨b, off + i, none⟩ = some (.int .i64 y) := by
 obtain ⟨-, b, off, hp, -, hc⟩ := tvT_atH (rd_of_own h) hy
 exact ⟨b, off, hp, hc i y hy⟩
set_option maxHeartbeats 12800000 in
theorem rhops_any (T : Tg) (x z : Int) (q : Nat → Prop) (w : World) (hT : TgOk w q T) :
  Calls Tryz.prog 91 #[.agg #[.slice T.pR T.R.length T.cR, .slice T.pL T.L.length T.cL], .int .i64 x, .int .i64 z] w fun e w' => HopsPost T.R T.L x z w e w' := by
 obtain ⟨ii, hii, hi0, hi1, hi2⟩ := info_parts info_int
 obtain ⟨R, L, pR, cR, pL, cL⟩ := T
 simp only
 obtain ⟨k1, k2⟩ := tone_box w #[.slice pR R.length cR, .slice pL L.length cL] 68
 have H0 := Lib.hid (And.intro k1 (And.intro k2 (hT.old.keep k2)))
 have HLZ : Hid (w.heap.size < (w.alloc (.cells #[.slice pR R.length cR, .slice pL L.length cL] 68)).heap.size) := Lib.hid (by simp)
 clear k1 k2 hT
 go_enter Tryz.func91, Tryz.ntmps91
 go_upto_region 1 with fail
 generalize w.alloc _ = w1 at *
 have hnil : ∀ w', ¬ (hasV R L x = true ∧ hasV R L z = true ∧ x ≠ z) → w.grownBy w' none → HopsPost R L x z w (.returned (.slice none 0 0)) w' := fun w' hno g => ⟨[], none, 0, rfl, ⟨none, 0, rfl, fun h => absurd rfl h⟩, fun _ => rfl, ⟨Nat.le_refl _, by show (0 : Nat) ≤ _; omega⟩, List.Pairwise.nil, fun y hy => (by cases hy), by unfold HopsIs; rw [if_neg hno], g⟩
 have HNIL := Lib.hid hnil
 clear hnil
 obtain ⟨c0, c1⟩ := row_cells H0.out.1
 go_wp2_with fail
 refine (rhasV_any ⟨R, L, pR, cR, pL, cL⟩ x _ w1 H0.out.2.2).mono ?_
 rintro e w2 ⟨rfl, hg⟩
 have H2 := Lib.hid (And.intro (kept_row H0.out.1 hg (by simp)) (And.intro (grown_trans H0.out.2.1 hg) (And.intro (H0.out.2.2.keep hg) (Nat.lt_of_lt_of_le HLZ.out hg.size))))
 clear hg H0 HLZ c0 c1
 simp only
 cases hx : hasV R L x
 case false =>
  have HF := Lib.hid hx
  clear hx
  go_wp2_with fail
  go_ret
  exact HNIL.out _ (fun h => by rw [HF.out] at h; cases h.1) H2.out.2.1
 have HX := Lib.hid hx
 clear hx
 obtain ⟨c0, c1⟩ := row_cells H2.out.1
 go_wp2_with fail
 refine (rhasV_any ⟨R, L, pR, cR, pL, cL⟩ z _ w2 H2.out.2.2.1).mono ?_
 rintro e w3 ⟨rfl, hg⟩
 have H3 := Lib.hid (And.intro (kept_row H2.out.1 hg (by simp)) (And.intro (grown_trans H2.out.2.1 hg) (And.intro (H2.out.2.2.1.keep hg) (Nat.lt_of_lt_of_le H2.out.2.2.2 hg.size))))
 clear hg H2 c0 c1
 simp only
 cases hz : hasV R L z
 case false =>
  have HF := Lib.hid hz
  clear hz
  go_wp2_with fail
  go_ret
  exact HNIL.out _ (fun h => by rw [HF.out] at h; cases h.2.1) H3.out.2.1
 have HZ := Lib.hid hz
 clear hz
 by_cases hxz : x = z
 case pos =>
  have hxz' : (x == z) = true := by simpa using hxz
  have HF := Lib.hid hxz
  clear hxz
  go_wp2_with fail
  go_ret
  exact HNIL.out _ (fun h => h.2.2 HF.out) H3.out.2.1
 have hxz' : (x == z) = false := by simpa using hxz
 have HNE := Lib.hid hxz
 clear hxz
 obtain ⟨c0, c1⟩ := row_cells H3.out.1
 go_wp2_with fail
 refine (rto_any ⟨R, L, pR, cR, pL, cL⟩ z _ w3 H3.out.2.2.1 HZ.out).mono ?_
 rintro e w4 ⟨pd, cd, rfl, hd, hcd, hnd, hg⟩
 simp only at hd hcd ⊢
 obtain ⟨hok, hxi⟩ := hasV_iff.1 HX.out
 have HBD : Hid (∀ v, 0 ≤ toK L z R.length v ∧ toK L z R.length v ≤ farN) := Lib.hid (fun v => toJ_bd hok z R.length 0 v)
 obtain ⟨D, hD⟩ : ∃ D, toK L z R.length = D := ⟨_, rfl⟩
 rw [hD] at hd hcd HBD ⊢
 obtain ⟨A, hA⟩ : ∃ A, (ids R).map D = A := ⟨_, rfl⟩
 rw [hA] at hd hcd ⊢
 have HA := Lib.hid hA.symm
 have HOK := Lib.hid (And.intro hok hxi)
 have HDD := Lib.hid hD
 have HYES := Lib.hid (And.intro HX.out (And.intro HZ.out HNE.out))
 have hl24 := (okT_len hok).1
 have H4 := Lib.hid (And.intro (kept_row H3.out.1 hg (by simp)) (And.intro (grown_trans H3.out.2.1 hg) (And.intro (H3.out.2.2.1.keep hg) (And.intro ((rd_and hd).mono (q' := fun b => b < w4.heap.size) (fun b hb => hb.2)) (Nat.lt_of_lt_of_le H3.out.2.2.2 hg.size)))))
 have g4 := World.grownBy_alloc w4 (.cells #[.int .i64 x] 3) none
 have hlit : (w4.alloc (.cells #[.int .i64 x] 3)).ownsRow w4.heap.size 3 1 (.slice (some ⟨w4.heap.size, 0, none⟩) 1 1) ([x] : List Int).length (([x] : List Int).map tv) := World.ownsRow_lit w4 #[.int .i64 x] 1 (Nat.le_refl _) (by decide) rfl
 have HP0 : Hid (HP w w4.heap.size ⟨R, L, pR, cR, pL, cL⟩ pd cd A (.slice (some ⟨w4.heap.size, 0, none⟩) 1 1) [x] (w4.alloc (.cells #[.int .i64 x] 3))) := Lib.hid ⟨kept_row H4.out.1 g4 (by simp), (H4.out.2.2.1.keep g4).mono (fun b (hb : b < w.heap.size) => by have := H4.out.2.2.2.2; show b < w4.heap.size; omega), H4.out.2.2.2.1.keep g4, hlit, grown_trans H4.out.2.1 g4, H4.out.2.2.2.2, g4.size⟩
 clear hd hcd hnd hg hD hA hok hxi g4 hlit H3 H4 c0 c1 HZ HX
 go_upto_region 5 with fail
 generalize w4.alloc _ = w5 at *
 generalize w4.heap.size = C at *
 go_wp2_with fail
 go_loopw [8, 9, 10] (fun sv ov a wr => ∃ (i : Nat) (S M : List Int) (ps : Option Addr) (cs : Nat) (po : Option Addr) (co : Nat), a = .int .i64 (i : Int) ∧ sv = .slice ps S.length cs ∧ ov = .slice po M.length co ∧ i ≤ S.length ∧ Hid (S.Nodup ∧ ∀ y ∈ S, y ∈ ids R) ∧ Hid (M.Pairwise (· < ·) ∧ ∀ y ∈ M, y ∈ ids R) ∧ Hid (HI R L D x i S M) ∧ Hid (HP w C ⟨R, L, pR, cR, pL, cL⟩ pd cd A (.slice ps S.length cs) S wr ∧ RdX w.heap.size wr (.slice ps S.length cs) po co M)) (fun _ _ a _ => 25 - (RowKit.intOf a).toNat)
 case atStart => exact ⟨0, [x], [], _, 1, none, 0, rfl, rfl, rfl, Nat.zero_le _, Lib.hid ⟨by simp, fun y hy => by rw [List.mem_singleton.1 hy]; exact HOK.out.2⟩, Lib.hid ⟨List.Pairwise.nil, fun y hy => by cases hy⟩, Lib.hid HI.start, Lib.hid ⟨HP0.out, ⟨none, 0, rfl, fun h => absurd rfl h⟩, fun _ => rfl, Nat.le_refl _, by show (0 : Nat) ≤ _; omega⟩⟩
 case round =>
 clear HP0
 obtain ⟨i, S, M, ps, cs, po, co, rfl, rfl, rfl, hi, HS, HM, HH, K⟩ := hrel
 obtain ⟨w6, hw6⟩ : ∃ w6, w6 = wr := ⟨_, rfl⟩
 rw [← hw6] at K ⊢
 clear hw6
 have hSl : S.length ≤ 24 := Nat.le_trans (nodup_leH S (ids R) HS.out.1 HS.out.2) (by rw [ids_len]; exact hl24)
 by_cases hlt : i < S.length
 case neg =>
  obtain rfl : i = S.length := by omega
  have hnl : ¬ (S.length : Int) < (S.length : Int) := by omega
  go_wp2_with fail
  go_ret
  exact ⟨M, po, co, rfl, K.out.2.1.mono (fun b hb => hb.1), K.out.2.2.1, K.out.2.2.2, HM.out.1, HM.out.2, by unfold HopsIs; rw [if_pos HYES.out, HDD.out]; exact HH.out.fin rfl, K.out.1.gr⟩
 have hlt' : (i : Int) < (S.length : Int) := by omega
 have hin0 : (0 : Int) ≤ (i : Int) := by omega
 obtain ⟨y, hy⟩ : ∃ y, S[i]? = some y := ⟨_, List.getElem?_eq_getElem hlt⟩
 obtain ⟨b, off, rfl, hsc⟩ := own_shapeH K.out.1.own hy
 have HSC : Hid (∀ u, HP w C ⟨R, L, pR, cR, pL, cL⟩ pd cd A (.slice (some ⟨b, off, none⟩) S.length cs) S u → u.cell? ⟨b, off + i, none⟩ = some (.int .i64 y)) := Lib.hid (fun u hu => by
  obtain ⟨b', off', hpe, hc'⟩ := own_shapeH hu.own hy
  injection hpe with hpe
  injection hpe with e1 e2
  subst e1
  subst e2
  exact hc')
 obtain ⟨c0, c1⟩ := row_cells K.out.1.bx
 have HY0 := Lib.hid hy
 clear hsc hy
 go_upto_region 9 with fail
 refine wp_region_held_drew (S := fun w' => Hid (HP w C ⟨R, L, pR, cR, pL, cL⟩ pd cd A (.slice (some ⟨b, off, none⟩) S.length cs) S w' ∧ RdX w.heap.size w' (.slice (some ⟨b, off, none⟩) S.length cs) po co M)) (by kernel_rfl) (Lib.hid ⟨K.out.1.keep (grown_drew (grown_refl _ none)), K.out.2.keep (grown_drew (grown_refl _ none))⟩) (fun hHeld => ?_)
 refine zT (i := 0) (v := ?_) rfl ?_ hHeld ?_
 rotate_left 1
 ·intro u hSu
  obtain ⟨c0u, c1u⟩ := row_cells hSu.out.1.bx
  have s0u := HSC.out _ hSu.out.1
  go_simp
  first | done | with_reducible rfl
 try simp only [Act.put, zA, zB, zC]
 refine zT (i := 1) (v := ?_) rfl ?_ hHeld ?_
 rotate_left 1
 ·intro u hSu
  go_simp
  first | done | with_reducible rfl
 try simp only [Act.put, zA, zB, zC]
 refine zT (i := 2) (v := ?_) rfl ?_ hHeld ?_
 rotate_left 1
 ·intro u hSu
  go_simp
  first | done | with_reducible rfl
 try simp only [Act.put, zA, zB, zC]
 refine zT (i := 3) (v := ?_) rfl ?_ hHeld ?_
 rotate_left 1
 ·intro u hSu
  go_simp
  first | done | with_reducible rfl
 try simp only [Act.put, zA, zB, zC]
 refine zT (i := 4) (v := ?_) rfl ?_ hHeld ?_
 rotate_left 1
 ·intro u hSu
  go_simp
  first | done | with_reducible rfl
 try simp only [Act.put, zA, zB, zC]
 refine zT (i := 5) (v := ?_) rfl ?_ hHeld ?_
 rotate_left 1
 ·intro u hSu
  obtain ⟨c0u, c1u⟩ := row_cells hSu.out.1.bx
  have s0u := HSC.out _ hSu.out.1
  go_simp
  first | done | with_reducible rfl
 try simp only [Act.put, zA, zB, zC]
 refine wpAnyH_ready (rs := [6]) (by kernel_rfl) (by simp) ?_
 refine AllReadyH.cons (o := ⟨_, _, _, _, _, _⟩) rfl (fun Kz hK => ?_) AllReadyH.nil
 go_simp
 go_at_call 114
 refine (rsteps_any ⟨R, L, pR, cR, pL, cL⟩ D y A pd cd _ _ _ hHeld.out.1.t HOK.out.1 HA.out hHeld.out.1.d HBD.out).mono ?_
 rintro e w7 ⟨pn, cn, rfl, hn, hcn, hnn, hg⟩
 have HX9 := Lib.hid (hHeld.out.1.new hg hn hcn hnn)
 have HN9 := Lib.hid (And.intro (hHeld.out.1.keep hg) (hHeld.out.2.keep hg))
 clear hn hcn hnn hg
 refine hK.out _ _ (HN9) (fun hH2 => ?_)
 clear hK Kz hHeld
 have hHeld := hH2
 clear hH2
 try simp only [Act.put, zA, zB, zC]
 refine zT (i := 7) (v := ?_) rfl ?_ hHeld ?_
 rotate_left 1
 ·intro u hSu
  go_simp
  first | done | with_reducible rfl
 try simp only [Act.put, zA, zB, zC]
 refine wpAnyH_done (by kernel_rfl) ?_ _
 have HN := Lib.hid (And.intro (stV_len R L D y) (fun v (hv : v ∈ stV R L D y) => stV_mem hv))
 obtain ⟨N, hN⟩ : ∃ N, stV R L D y = N := ⟨_, rfl⟩
 rw [hN] at HN HX9 ⊢
 have HNN := Lib.hid hN
 have HJ0 : Hid (HJ R L D x i y N 0 S M) := Lib.hid (HH.out.toJ HY0.out)
 clear hN HSC c0 c1 K HY0 HH
 have hNl : N.length ≤ 24 := Nat.le_trans HN.out.1 hl24
 have HK9 := Lib.hid (And.intro hHeld.out HX9.out)
 clear hHeld HX9
 go_wp2_with fail
 have HK0 := Lib.hid (And.intro HK9.out.1.1 (And.intro HK9.out.1.2 HK9.out.2))
 clear HK9
 go_loopw [8, 9, 12] (fun sv ov a wr => ∃ (k : Nat) (S M : List Int) (ps : Option Addr) (cs : Nat) (po : Option Addr) (co : Nat), a = .int .i64 (k : Int) ∧ sv = .slice ps S.length cs ∧ ov = .slice po M.length co ∧ k ≤ N.length ∧ i < S.length ∧ Hid (S.Nodup ∧ ∀ y ∈ S, y ∈ ids R) ∧ Hid (M.Pairwise (· < ·) ∧ ∀ y ∈ M, y ∈ ids R) ∧ Hid (HJ R L D x i y N k S M) ∧ Hid (HP w C ⟨R, L, pR, cR, pL, cL⟩ pd cd A (.slice ps S.length cs) S wr ∧ RdX w.heap.size wr (.slice ps S.length cs) po co M ∧ RdX w.heap.size wr (.slice ps S.length cs) pn cn N)) (fun _ _ a _ => N.length - (RowKit.intOf a).toNat)
 case atStart => exact ⟨0, S, M, _, cs, po, co, rfl, rfl, rfl, Nat.zero_le _, hlt, HS, HM, HJ0, HK0⟩
 case round =>
 clear HK0 HS HM HJ0 hlt hlt' hSl hi
 obtain ⟨k, S, M, ps, cs, po, co, rfl, rfl, rfl, hk, hiS, HS, HM, HH, K⟩ := hrel
 obtain ⟨w8, hw8⟩ : ∃ w8, w8 = wr := ⟨_, rfl⟩
 rw [← hw8] at K ⊢
 clear hw8
 have hSl : S.length ≤ 24 := Nat.le_trans (nodup_leH S (ids R) HS.out.1 HS.out.2) (by rw [ids_len]; exact hl24)
 have hMl : M.length ≤ 24 := Nat.le_trans (nodup_leH M (ids R) (HM.out.1.imp (fun h => by omega)) HM.out.2) (by rw [ids_len]; exact hl24)
 by_cases hkn : k < N.length
 case neg =>
  obtain rfl : k = N.length := by omega
  have hnl : ¬ (N.length : Int) < (N.length : Int) := by omega
  have K2 := Lib.hid (And.intro K.out.1 K.out.2.1)
  have HH2 := Lib.hid (HH.out.fin HNN.out rfl)
  clear K HH
  go_wp2_with fail
  exact ⟨⟨i + 1, S, M, ps, cs, po, co, congrArg _ (by omega), rfl, rfl, by omega, HS, HM, HH2, K2⟩, by simp only [RowKit.intOf]; omega⟩
 have hkn' : (k : Int) < (N.length : Int) := by omega
 have hkn0 : (0 : Int) ≤ (k : Int) := by omega
 obtain ⟨y2, hy2⟩ : ∃ y2, N[k]? = some y2 := ⟨_, List.getElem?_eq_getElem hkn⟩
 have HY2 := Lib.hid (HN.out.2 y2 (List.mem_of_getElem? hy2))
 obtain ⟨-, bn, on, rfl, -, -⟩ := tvT_atH K.out.2.2.1 hy2
 have NSC : Hid (∀ u v, RdX w.heap.size u v (some ⟨bn, on, none⟩) cn N → u.cell? ⟨bn, on + k, none⟩ = some (.int .i64 y2)) := Lib.hid (fun u v hu => by
  obtain ⟨-, b', off', hpe, -, hc'⟩ := tvT_atH hu.1 hy2
  injection hpe with hpe
  injection hpe with e1 e2
  subst e1
  subst e2
  exact hc' k y2 hy2)
 obtain ⟨c0, c1⟩ := row_cells K.out.1.bx
 have HY3 := Lib.hid hy2
 clear hy2
 go_upto_region 13 with fail
 refine wp_region_held_drew (S := fun w' => Hid (HP w C ⟨R, L, pR, cR, pL, cL⟩ pd cd A (.slice ps S.length cs) S w' ∧ RdX w.heap.size w' (.slice ps S.length cs) po co M ∧ RdX w.heap.size w' (.slice ps S.length cs) (some ⟨bn, on, none⟩) cn N)) (by kernel_rfl) (Lib.hid ⟨K.out.1.keep (grown_drew (grown_refl _ none)), K.out.2.1.keep (grown_drew (grown_refl _ none)), K.out.2.2.keep (grown_drew (grown_refl _ none))⟩) (fun hHeld => ?_)
 refine zT (i := 0) (v := ?_) rfl ?_ hHeld ?_
 rotate_left 1
 ·intro u hSu
  obtain ⟨c0u, c1u⟩ := row_cells hSu.out.1.bx
  have n0u := NSC.out _ _ hSu.out.2.2
  go_simp
  first | done | with_reducible rfl
 try simp only [Act.put, zA, zB, zC]
 refine zT (i := 1) (v := ?_) rfl ?_ hHeld ?_
 rotate_left 1
 ·intro u hSu
  go_simp
  first | done | with_reducible rfl
 try simp only [Act.put, zA, zB, zC]
 refine zT (i := 2) (v := ?_) rfl ?_ hHeld ?_
 rotate_left 1
 ·intro u hSu
  go_simp
  first | done | with_reducible rfl
 try simp only [Act.put, zA, zB, zC]
 refine zT (i := 3) (v := ?_) rfl ?_ hHeld ?_
 rotate_left 1
 ·intro u hSu
  go_simp
  first | done | with_reducible rfl
 try simp only [Act.put, zA, zB, zC]
 refine zT (i := 4) (v := ?_) rfl ?_ hHeld ?_
 rotate_left 1
 ·intro u hSu
  obtain ⟨c0u, c1u⟩ := row_cells hSu.out.1.bx
  have n0u := NSC.out _ _ hSu.out.2.2
  go_simp
  first | done | with_reducible rfl
 try simp only [Act.put, zA, zB, zC]
 refine wpAnyH_ready (rs := [5]) (by kernel_rfl) (by simp) ?_
 refine AllReadyH.cons (o := ⟨_, _, _, _, _, _⟩) rfl (fun Kz hK => ?_) AllReadyH.nil
 go_simp
 go_at_call 90
 refine (rcap_any ⟨R, L, pR, cR, pL, cL⟩ y2 _ _ hHeld.out.1.t).mono ?_
 rintro e w9 ⟨rfl, hg⟩
 have HN13 := Lib.hid (And.intro (hHeld.out.1.keep hg) (And.intro (hHeld.out.2.1.keep hg) (hHeld.out.2.2.keep hg)))
 clear hg
 simp only
 refine hK.out _ _ (HN13) (fun hH2 => ?_)
 clear hK Kz hHeld
 have hHeld := hH2
 clear hH2
 try simp only [Act.put, zA, zB, zC]
 refine wpAnyH_done (by kernel_rfl) ?_ _
 clear c0 c1 K
 cases hcp : capV R L y2
 case true =>
  have n0 := NSC.out _ _ hHeld.out.2.2
  have HH2 := Lib.hid (HH.out.cap HNN.out HY3.out hcp (insU_spec y2 M HM.out.1).2)
  clear hcp HH
  go_wp2_with fail
  refine (rins_any M y2 po co _ w9 hHeld.out.2.1.1 hHeld.out.2.1.2.1 hHeld.out.2.1.2.2.1 hHeld.out.2.1.2.2.2 (by omega)).mono ?_
  rintro e w10 ⟨p2, c2, rfl, hr2, hn2, hc2, hg⟩
  have K2 := Lib.hid (And.intro (hHeld.out.1.keep hg) (And.intro (show RdX w.heap.size w10 (.slice ps S.length cs) p2 c2 (insU M y2) from ⟨(rd_and hr2).mono (fun b hb => by
   refine ⟨?_, hb.2, ?_⟩
   ·rcases hb.1 with h | h
    ·exact h.1
    ·exact Nat.le_trans hHeld.out.1.gr.size h
   ·rcases hb.1 with h | h
    ·exact h.2.2
    ·intro e; have := hHeld.out.1.lt b e.symm; omega), hn2, hc2⟩) (hHeld.out.2.2.keep hg)))
  have HM2 : Hid ((insU M y2).Pairwise (· < ·) ∧ ∀ y ∈ insU M y2, y ∈ ids R) := Lib.hid ⟨(insU_spec y2 M HM.out.1).1, fun y hy => by
   rcases ((insU_spec y2 M HM.out.1).2 y).1 hy with rfl | h
   ·exact HY2.out
   ·exact HM.out.2 y h⟩
  clear hr2 hn2 hc2 hg hHeld n0 HM
  go_wp2_with fail
  exact ⟨⟨k + 1, S, insU M y2, ps, cs, p2, c2, congrArg _ (by omega), rfl, rfl, by omega, hiS, HS, HM2, HH2, K2⟩, by simp only [RowKit.intOf]; omega⟩
 have n0 := NSC.out _ _ hHeld.out.2.2
 have HCP := Lib.hid hcp
 clear hcp
 go_wp2_with fail
 refine (rhas4_any S y2 ps cs _ w9 (rd_of_own hHeld.out.1.own) (by omega)).mono ?_
 rintro e w10 ⟨rfl, rfl⟩
 cases hh : hasI S y2
 case true =>
  have HH2 := Lib.hid (HH.out.has HY3.out HCP.out (by
   unfold hasI at hh
   obtain ⟨z, hz, he⟩ := List.any_eq_true.1 hh
   have := of_decide_eq_true he
   rwa [this] at hz))
  clear hh n0 HH
  go_wp2_with fail
  exact ⟨⟨k + 1, S, M, ps, cs, po, co, congrArg _ (by omega), rfl, rfl, by omega, hiS, HS, HM, HH2, hHeld⟩, by simp only [RowKit.intOf]; omega⟩
 have HS2 : Hid ((S ++ [y2]).Nodup ∧ ∀ y ∈ S ++ [y2], y ∈ ids R) := Lib.hid ⟨by
  rw [List.nodup_append]
  refine ⟨HS.out.1, by simp, fun a ha b hb => ?_⟩
  rw [List.mem_singleton] at hb
  subst hb
  intro e
  subst e
  unfold hasI at hh
  have := List.any_eq_false.1 hh a ha
  simp at this, fun y hy => by
  rcases List.mem_append.1 hy with h | h
  ·exact HS.out.2 y h
  ·rw [List.mem_singleton.1 h]; exact HY2.out⟩
 have HO2 := Lib.hid hHeld.out.1.own
 have hsz : C ≤ w9.heap.size := hHeld.out.1.lo.2
 obtain ⟨S2, hS2⟩ : ∃ S2, S ++ [y2] = S2 := ⟨_, rfl⟩
 have HE := Lib.hid hS2
 have HL : Hid (S.length + 1 = S2.length) := Lib.hid (by rw [← hS2, List.length_append]; rfl)
 rw [hS2] at HS2
 have HH2 := Lib.hid (HH.out.push HNN.out HY3.out HCP.out hiS)
 rw [hS2] at HH2
 clear hh hS2 HS
 go_wp2_with (at_builtin; refine hold_on ?_)
 refine Lib.hid ?_
 refine wpList_append_lies _ rfl _ _ 22 rfl C 3 ii (.int .i64 0) 1 8 Tryz.underlying22 hii hi0 hi1 hi2 rfl (by decide) (.slice ps S.length cs) S.length (S.map tv) rfl (HO2.out.alloc _) ⟨w9.heap.size, 0, none⟩ 1 1 [.int .i64 y2] rfl rfl (iv_rowH w9 y2 _) (fun u hu => by rw [List.mem_singleton.1 hu]; rfl) (by decide) (by unfold maxLen; omega) (by omega) (by simp; omega) _ rfl ?_
 intro g cap w11 hown hgrow hat hlt8
 have ga := World.grownBy_alloc w9 (.cells #[.int .i64 y2] 3) none
 have hv : (Value.slice (some ⟨g, 0, none⟩) (S.length + 1) cap).ownBlock = (Value.slice ps S.length cs).ownBlock ∨ ∀ b, some b = (Value.slice (some ⟨g, 0, none⟩) (S.length + 1) cap).ownBlock → (w9.alloc (.cells #[.int .i64 y2] 3)).heap.size ≤ b := by
  rcases hat with h | h
  ·exact Or.inl h.symm
  ·refine Or.inr fun b e => ?_
   have e2 : some b = some g := e
   have := Option.some.inj e2
   rw [this, h]
   exact Nat.le_refl _
 have K2 := Lib.hid (And.intro ((hHeld.out.1.keep ga).put (S2 := S ++ [y2]) (v' := .slice (some ⟨g, 0, none⟩) (S.length + 1) cap) (by rw [List.length_append, List.map_append]; simpa [tv] using hown) hgrow) (And.intro ((hHeld.out.2.1.keep ga).put hgrow hv) ((hHeld.out.2.2.keep ga).put hgrow hv)))
 rw [HE.out, HL.out] at K2
 rw [HL.out]
 have hiS2 : i < S2.length := by have := HL.out; omega
 clear hown hgrow hat hlt8 HO2 hHeld hsz HE n0 ga hv hiS
 go_wp2_with fail
 exact ⟨⟨k + 1, S2, M, _, cap, po, co, congrArg _ (by omega), rfl, rfl, by omega, hiS2, HS2, HM, HH2, K2⟩, by simp only [RowKit.intOf]; omega⟩
end Go.Proofs.YtpogblengagpaaaGreatDoor
