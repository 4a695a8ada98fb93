/- Parts of the proof, packed: ShRSt, ShRTo. -/
import Derived.Test.YtpogblengagpaaaGreatDoorPa13
import Derived.Test.YtpogblengagpaaaGreatDoorPa5
/- The reference's Steps. -/
namespace Go.Proofs.YtpogblengagpaaaGreatDoor
set_option maxRecDepth 100000
open Go.RowKit Bs
theorem filt_snocI {P : Int → Bool} {M : List Int} {k : Nat} {y : Int} (h : M[k]? = some y) : (M.take (k + 1)).filter P = (M.take k).filter P ++ (if P y = true then [y] else []) := by
 rw [List.take_add_one, h, List.filter_append]
 congr 1
 by_cases hp : P y = true
 ·rw [if_pos hp]; simp [hp]
 ·rw [if_neg hp]; simp [hp]
theorem price_bd {R : List Rt} {L : List Lk} (h : okT R L = true) (u v : Int) : 0 ≤ (priceV L u v).1 ∧ (priceV L u v).1 ≤ 1000 := by
 cases hp : (priceV L u v).2 with
 | true =>
  have he := price_ed2 h (u := u) (v := v) (c := (priceV L u v).1) (Prod.ext rfl hp)
  have := ((okT_g h).edg he).1
  omega
 | false =>
  unfold priceV at hp ⊢
  cases hf : L.findSome? (priceB u v) with
  | none => simp
  | some c => rw [hf] at hp; cases hp
set_option maxHeartbeats 6400000 in
theorem rsteps_any (T : Tg) (D : Int → Int) (x : Int) (A : List Int) (pd : Option Addr) (cd : Nat) (q q2 : Nat → Prop) (w : World) (hT : TgOk w q T) (hok : okT T.R T.L = true) (hA : A = (ids T.R).map D) (hD : Rd w q2 (.slice pd A.length cd) (A.map tv)) (hb : ∀ v, 0 ≤ D v ∧ D v ≤ farN) :
  Calls Tryz.prog 114 #[.agg #[.slice T.pR T.R.length T.cR, .slice T.pL T.L.length T.cL], .slice pd A.length cd, .int .i64 x] w fun e w' => TRet (stV T.R T.L D x) w e w' := by
 obtain ⟨i0, hi, hz0, hz1, hz2⟩ := info_parts info_int
 obtain ⟨R, L, pR, cR, pL, cL⟩ := T
 simp only at hok hA ⊢
 have hl := (okT_g hok).len
 rw [ids_len] at hl
 obtain ⟨hR24, hL60⟩ := hl
 have HOK := Lib.hid hok
 obtain ⟨k1, k2⟩ := tone_box w #[.slice pR R.length cR, .slice pL L.length cL] 68
 have HB := Lib.hid (And.intro k1 (And.intro k2 (hT.keep k2)))
 have HD := Lib.hid (hD.keep k2)
 have HA := Lib.hid hA
 have HBD : Hid (∀ v, 0 ≤ atV R D v ∧ atV R D v ≤ farN) := Lib.hid (fun v => by
  unfold atV
  by_cases h : v ∈ ids R
  ·rw [if_pos h]; exact hb v
  ·rw [if_neg h]; unfold farN; omega)
 clear k1 k2 hT hD hA hb hok
 obtain ⟨c0, c1⟩ := row_cells HB.out.1
 obtain ⟨X, hX⟩ : ∃ X, stV R L D x = X := ⟨_, rfl⟩
 have HX := Lib.hid hX
 rw [hX]
 clear hX
 go_enter Tryz.func114, Tryz.ntmps114
 go_upto_region 1 with fail
 generalize w.alloc _ = wb at *
 go_wp2_with fail
 refine (rat_any ⟨R, L, pR, cR, pL, cL⟩ D x A pd cd _ _ wb HB.out.2.2 HA.out HD.out).mono ?_
 rintro e w1 ⟨rfl, hg⟩
 simp only
 obtain ⟨v, hv⟩ : ∃ v, atV R D x = v := ⟨_, rfl⟩
 have HV : Hid (atV R D x = v) := Lib.hid hv
 have hvb := HBD.out x
 rw [hv] at hvb ⊢
 have HB1 := Lib.hid (And.intro (kept_row HB.out.1 hg (by simp)) (And.intro (grown_trans HB.out.2.1 hg) (HB.out.2.2.keep hg)))
 have HD1 := Lib.hid (HD.out.keep hg)
 clear hg c0 c1 HB HD hv
 obtain ⟨c0, c1⟩ := row_cells HB1.out.1
 go_upto_region 3 with fail
 by_cases hfar : v = farN
 ·have hf' : (v == 1073741824) = true := by rw [hfar]; rfl
  have hX : X = [] := by rw [← HX.out]; unfold stV; rw [HV.out, if_pos (.inl hfar)]
  clear hfar
  subst hX
  go_wp2_with fail
  go_ret
  exact ⟨none, 0, rfl, ⟨none, 0, rfl, fun hne => absurd rfl hne⟩, ⟨Nat.le_refl _, by omega⟩, fun _ => rfl, HB1.out.2.1⟩
 ·have hf' : (v == 1073741824) = false := by rw [beq_eq_false_iff_ne]; exact hfar
  by_cases hz : v = 0
  ·have hX : X = [] := by rw [← HX.out]; unfold stV; rw [HV.out, if_pos (.inr hz)]
   have hz' : (v == 0) = true := by rw [hz]; rfl
   clear hfar hz
   subst hX
   go_wp2_with fail
   go_ret
   exact ⟨none, 0, rfl, ⟨none, 0, rfl, fun hne => absurd rfl hne⟩, ⟨Nat.le_refl _, by omega⟩, fun _ => rfl, HB1.out.2.1⟩
  ·have hz' : (v == 0) = false := by rw [beq_eq_false_iff_ne]; exact hz
   have hX : X = (nearR R L x).filter (okS R L D v x) := by
    rw [← HX.out]; unfold stV; rw [HV.out, if_neg (by rintro (h | h); exact hfar h; exact hz h)]
   have HX2 := Lib.hid hX
   clear hX hfar hz
   go_wp2_with fail
   refine (rnear_any ⟨R, L, pR, cR, pL, cL⟩ x _ w1 HB1.out.2.2 (by show R.length ≤ 1000; omega)).mono ?_
   rintro e w2 ⟨pn, cn, rfl, hrn, hcn, hnn, hg⟩
   (try simp only at hrn hcn ⊢)
   have hNl : (nearR R L x).length ≤ R.length := by unfold nearR; rw [List.length_map]; exact List.length_filter_le _ _
   obtain ⟨N, hN⟩ : ∃ N, nearR R L x = N := ⟨_, rfl⟩
   rw [hN] at hrn hcn HX2 hNl ⊢
   have HN : Hid (Rd w2 (fun _ => True) (.slice pn N.length cn) (N.map tv)) := Lib.hid (hrn.mono (fun _ _ => trivial))
   have HB2 := Lib.hid (And.intro (kept_row HB1.out.1 hg (by simp)) (And.intro (grown_trans HB1.out.2.1 hg) (HB1.out.2.2.keep hg)))
   have HD2 := Lib.hid (HD1.out.keep hg)
   have HPB := Lib.hid (fun u => price_bd HOK.out x u)
   have hNl2 : N.length ≤ 24 := by omega
   have N0 : Hid (NK w2 (.slice none 0 0) ((N.take 0).filter (okS R L D v x)) w2) := Lib.hid ⟨World.ownsRow_nil _ _ _ _, grown_refl _ _⟩
   clear hrn hg hnn hNl c0 c1 HB1 HD1 hN
   go_wp2_with fail
   go_loopw [7, 10] (fun vo a wr => ∃ (k : Nat) (va : Value), va = vo ∧ k ≤ N.length ∧ a = .int .i64 (k : Int) ∧ Hid (NK w2 va ((N.take k).filter (okS R L D v x)) wr)) (fun _ a _ => N.length - (RowKit.intOf a).toNat)
   case atStart => exact ⟨0, _, rfl, Nat.zero_le _, rfl, N0⟩
   case round =>
   obtain ⟨w3, rfl⟩ : ∃ w3, w3 = wr := ⟨_, rfl⟩
   obtain ⟨k, va, rfl, hk, rfl, NN⟩ := hrel
   clear N0
   by_cases hlt : k < N.length
   ·obtain ⟨-, b8, o8, rfl, -, -⟩ := rdi_at (HN.out.keep NN.out.gr) (by omega)
    obtain ⟨n, hn⟩ : ∃ n, N[k]? = some n := ⟨_, List.getElem?_eq_getElem hlt⟩
    have HC : Hid (∀ u, w2.grownBy u none → u.cell? ⟨b8, o8 + k, none⟩ = some (.int .i64 n)) := Lib.hid (fun u g => by
     obtain ⟨-, b, o, e, -, hc⟩ := rdi_at (HN.out.keep g) (by omega)
     injection e with e
     injection e with e1 e2
     subst e1
     subst e2
     exact hc k n hn)
    have HS := Lib.hid (filt_snocI (P := okS R L D v x) hn)
    have hk1 : (k : Int) < (N.length : Int) := by omega
    obtain ⟨c, hc⟩ : ∃ c, (priceV L x n).1 = c := ⟨_, rfl⟩
    obtain ⟨bo, hbo⟩ : ∃ bo, (priceV L x n).2 = bo := ⟨_, rfl⟩
    have hcb := HPB.out n
    rw [hc] at hcb
    obtain ⟨d, hd⟩ : ∃ d, atV R D n = d := ⟨_, rfl⟩
    have hdb := HBD.out n
    rw [hd] at hdb
    have HPR := Lib.hid (And.intro hc (And.intro hbo hd))
    have HP : Hid (okS R L D v x n = (decide (d < farN) && decide (c + d = v))) := Lib.hid (by unfold okS; rw [hc, hd])
    clear hn hc hbo hd
    obtain ⟨B, hB⟩ : ∃ B, (N.take k).filter (okS R L D v x) = B := ⟨_, rfl⟩
    have hBl : B.length ≤ 24 := by rw [← hB]; exact Nat.le_trans (List.length_filter_le _ _) (by rw [List.length_take]; omega)
    rw [hB] at NN HS
    clear hB
    go_upto_region 9 with fail
    refine wp_region_held_drew (S := fun w' => Hid (w3.grownBy w' none)) (by kernel_rfl) (Lib.hid (grown_drew (grown_refl _ _))) (fun hHeld => ?_)
    refine zT (i := 0) (v := ?_) rfl ?_ hHeld ?_
    rotate_left 1
    ·intro u hSu
     obtain ⟨q0, q1⟩ := row_cells (kept_row HB2.out.1 (grown_trans NN.out.gr hSu.out) (by simp))
     have q2 := HC.out u (grown_trans NN.out.gr hSu.out)
     go_simp
     first | done | with_reducible rfl
    try simp only [Act.put, zA, zB, zC]
    refine zT (i := 1) (v := ?_) rfl ?_ hHeld ?_
    rotate_left 1
    ·intro u hSu
     go_simp
     first | done | with_reducible rfl
    try simp only [Act.put, zA, zB, zC]
    refine zT (i := 2) (v := ?_) rfl ?_ hHeld ?_
    rotate_left 1
    ·intro u hSu
     go_simp
     first | done | with_reducible rfl
    try simp only [Act.put, zA, zB, zC]
    refine zT (i := 3) (v := ?_) rfl ?_ hHeld ?_
    rotate_left 1
    ·intro u hSu
     go_simp
     first | done | with_reducible rfl
    try simp only [Act.put, zA, zB, zC]
    refine zT (i := 4) (v := ?_) rfl ?_ hHeld ?_
    rotate_left 1
    ·intro u hSu
     go_simp
     first | done | with_reducible rfl
    try simp only [Act.put, zA, zB, zC]
    refine zT (i := 5) (v := ?_) rfl ?_ hHeld ?_
    rotate_left 1
    ·intro u hSu
     obtain ⟨q0, q1⟩ := row_cells (kept_row HB2.out.1 (grown_trans NN.out.gr hSu.out) (by simp))
     have q2 := HC.out u (grown_trans NN.out.gr hSu.out)
     go_simp
     first | done | with_reducible rfl
    try simp only [Act.put, zA, zB, zC]
    refine wpAnyH_ready (rs := [6]) (by kernel_rfl) (by simp) ?_
    refine AllReadyH.cons (o := ⟨_, _, _, _, _, _⟩) rfl (fun Kz hK => ?_) AllReadyH.nil
    go_simp
    go_at_call 132
    refine (rprice_any ⟨R, L, pR, cR, pL, cL⟩ x n _ _ (HB2.out.2.2.keep (grown_trans NN.out.gr hHeld.out))).mono ?_
    rintro e w9 ⟨rfl, hg9⟩
    simp only
    rw [HPR.out.1, HPR.out.2.1]
    refine hK.out _ _ (Lib.hid (grown_trans hHeld.out hg9)) (fun hH2 => ?_)
    clear hK Kz hHeld
    have hHeld := hH2
    clear hH2
    try simp only [Act.put, zA, zB, zC]
    refine zT (i := 7) (v := ?_) rfl ?_ hHeld ?_
    rotate_left 1
    ·intro u hSu
     go_simp
     first | done | with_reducible rfl
    try simp only [Act.put, zA, zB, zC]
    refine zT (i := 8) (v := ?_) rfl ?_ hHeld ?_
    rotate_left 1
    ·intro u hSu
     go_simp
     first | done | with_reducible rfl
    try simp only [Act.put, zA, zB, zC]
    refine zT (i := 9) (v := ?_) rfl ?_ hHeld ?_
    rotate_left 1
    ·intro u hSu
     go_simp
     first | done | with_reducible rfl
    try simp only [Act.put, zA, zB, zC]
    refine zT (i := 10) (v := ?_) rfl ?_ hHeld ?_
    rotate_left 1
    ·intro u hSu
     go_simp
     first | done | with_reducible rfl
    try simp only [Act.put, zA, zB, zC]
    refine zT (i := 11) (v := ?_) rfl ?_ hHeld ?_
    rotate_left 1
    ·intro u hSu
     go_simp
     first | done | with_reducible rfl
    try simp only [Act.put, zA, zB, zC]
    refine wpAnyH_done (by kernel_rfl) ?_ _
    obtain ⟨wa, hwa⟩ : ∃ wa, wa = w9 := ⟨_, rfl⟩
    have NA := Lib.hid (NN.out.keep hHeld.out)
    rw [← hwa] at NA ⊢
    clear hHeld hwa
    go_upto_region 10 with fail
    by_cases hdf : d < farN
    ·have hdf2 : d < 1073741824 := hdf
     by_cases hcd : c + d = v
     ·skip
      refine wp_region_held_drew (S := fun w' => Hid (wa.grownBy w' none)) (by kernel_rfl) (Lib.hid (grown_drew (grown_refl _ _))) (fun hHeld => ?_)
      refine zT (i := 0) (v := ?_) rfl ?_ hHeld ?_
      rotate_left 1
      ·intro u hSu
       obtain ⟨q0, q1⟩ := row_cells (kept_row HB2.out.1 (grown_trans NA.out.gr hSu.out) (by simp))
       have q2 := HC.out u (grown_trans NA.out.gr hSu.out)
       go_simp
       first | done | with_reducible rfl
      try simp only [Act.put, zA, zB, zC]
      refine zT (i := 1) (v := ?_) rfl ?_ hHeld ?_
      rotate_left 1
      ·intro u hSu
       go_simp
       first | done | with_reducible rfl
      try simp only [Act.put, zA, zB, zC]
      refine zT (i := 2) (v := ?_) rfl ?_ hHeld ?_
      rotate_left 1
      ·intro u hSu
       go_simp
       first | done | with_reducible rfl
      try simp only [Act.put, zA, zB, zC]
      refine zT (i := 3) (v := ?_) rfl ?_ hHeld ?_
      rotate_left 1
      ·intro u hSu
       go_simp
       first | done | with_reducible rfl
      try simp only [Act.put, zA, zB, zC]
      refine zT (i := 4) (v := ?_) rfl ?_ hHeld ?_
      rotate_left 1
      ·intro u hSu
       go_simp
       first | done | with_reducible rfl
      try simp only [Act.put, zA, zB, zC]
      refine zT (i := 5) (v := ?_) rfl ?_ hHeld ?_
      rotate_left 1
      ·intro u hSu
       obtain ⟨q0, q1⟩ := row_cells (kept_row HB2.out.1 (grown_trans NA.out.gr hSu.out) (by simp))
       have q2 := HC.out u (grown_trans NA.out.gr hSu.out)
       go_simp
       first | done | with_reducible rfl
      try simp only [Act.put, zA, zB, zC]
      refine wpAnyH_ready (rs := [6]) (by kernel_rfl) (by simp) ?_
      refine AllReadyH.cons (o := ⟨_, _, _, _, _, _⟩) rfl (fun Kz hK => ?_) AllReadyH.nil
      go_simp
      go_at_call 130
      refine (rat_any ⟨R, L, pR, cR, pL, cL⟩ D n A pd cd _ _ _ (HB2.out.2.2.keep (grown_trans NA.out.gr hHeld.out)) HA.out (HD2.out.keep (grown_trans NA.out.gr hHeld.out))).mono ?_
      rintro e wc1 ⟨rfl, hgc⟩
      simp only
      rw [HPR.out.2.2]
      refine hK.out _ _ (Lib.hid (grown_trans hHeld.out hgc)) (fun hH2 => ?_)
      clear hK Kz hHeld
      have hHeld := hH2
      clear hH2
      try simp only [Act.put, zA, zB, zC]
      refine zT (i := 7) (v := (.bool true)) rfl ?_ hHeld ?_
      ·intro u hSu
       go_simp
       first | done | (simp; omega) | omega
      try simp only [Act.put, zA, zB, zC]
      refine zT (i := 8) (v := ?_) rfl ?_ hHeld ?_
      rotate_left 1
      ·intro u hSu
       go_simp
       first | done | with_reducible rfl
      try simp only [Act.put, zA, zB, zC]
      refine zT (i := 9) (v := ?_) rfl ?_ hHeld ?_
      rotate_left 1
      ·intro u hSu
       go_simp
       first | done | with_reducible rfl
      try simp only [Act.put, zA, zB, zC]
      refine zT (i := 10) (v := ?_) rfl ?_ hHeld ?_
      rotate_left 1
      ·intro u hSu
       obtain ⟨q0, q1⟩ := row_cells (kept_row HB2.out.1 (grown_trans NA.out.gr hSu.out) (by simp))
       have q2 := HC.out u (grown_trans NA.out.gr hSu.out)
       go_simp
       first | done | with_reducible rfl
      try simp only [Act.put, zA, zB, zC]
      refine zT (i := 11) (v := ?_) rfl ?_ hHeld ?_
      rotate_left 1
      ·intro u hSu
       go_simp
       first | done | with_reducible rfl
      try simp only [Act.put, zA, zB, zC]
      refine zT (i := 12) (v := ?_) rfl ?_ hHeld ?_
      rotate_left 1
      ·intro u hSu
       go_simp
       first | done | with_reducible rfl
      try simp only [Act.put, zA, zB, zC]
      refine zT (i := 13) (v := ?_) rfl ?_ hHeld ?_
      rotate_left 1
      ·intro u hSu
       go_simp
       first | done | with_reducible rfl
      try simp only [Act.put, zA, zB, zC]
      refine zT (i := 14) (v := ?_) rfl ?_ hHeld ?_
      rotate_left 1
      ·intro u hSu
       go_simp
       first | done | with_reducible rfl
      try simp only [Act.put, zA, zB, zC]
      refine zT (i := 15) (v := ?_) rfl ?_ hHeld ?_
      rotate_left 1
      ·intro u hSu
       obtain ⟨q0, q1⟩ := row_cells (kept_row HB2.out.1 (grown_trans NA.out.gr hSu.out) (by simp))
       have q2 := HC.out u (grown_trans NA.out.gr hSu.out)
       go_simp
       first | done | with_reducible rfl
      try simp only [Act.put, zA, zB, zC]
      refine zT (i := 18) (v := ?_) rfl ?_ hHeld ?_
      rotate_left 1
      ·intro u hSu
       go_simp
       first | done | with_reducible rfl
      try simp only [Act.put, zA, zB, zC]
      refine wpAnyH_ready (rs := [16]) (by kernel_rfl) (by simp) ?_
      refine AllReadyH.cons (o := ⟨_, _, _, _, _, _⟩) rfl (fun Kz hK => ?_) AllReadyH.nil
      go_simp
      go_at_call 130
      refine (rat_any ⟨R, L, pR, cR, pL, cL⟩ D n A pd cd _ _ _ (HB2.out.2.2.keep (grown_trans NA.out.gr hHeld.out)) HA.out (HD2.out.keep (grown_trans NA.out.gr hHeld.out))).mono ?_
      rintro e wc2 ⟨rfl, hgc⟩
      simp only
      rw [HPR.out.2.2]
      refine hK.out _ _ (Lib.hid (grown_trans hHeld.out hgc)) (fun hH2 => ?_)
      clear hK Kz hHeld
      have hHeld := hH2
      clear hH2
      try simp only [Act.put, zA, zB, zC]
      refine zT (i := 17) (v := (.int .i64 (c + d))) rfl ?_ hHeld ?_
      ·intro u hSu
       go_simp
       first | done | exact Go.IntWalk.i64_in _ (by omega) | omega
      try simp only [Act.put, zA, zB, zC]
      refine zT (i := 19) (v := (.bool true)) rfl ?_ hHeld ?_
      ·intro u hSu
       go_simp
       first | done | (simp; omega) | omega
      try simp only [Act.put, zA, zB, zC]
      refine zT (i := 20) (v := ?_) rfl ?_ hHeld ?_
      rotate_left 1
      ·intro u hSu
       go_simp
       first | done | with_reducible rfl
      try simp only [Act.put, zA, zB, zC]
      refine wpAnyH_done (by kernel_rfl) ?_ _
      obtain ⟨wz, hwz⟩ : ∃ wz, wz = wc2 := ⟨_, rfl⟩
      have NZ := Lib.hid (NA.out.keep hHeld.out)
      rw [← hwz] at NZ ⊢
      clear hHeld hwz NA NN
      have HS2 : Hid ((N.take (k + 1)).filter (okS R L D v x) = B ++ [n]) := Lib.hid (by rw [HS.out, HP.out, decide_eq_true hdf, decide_eq_true hcd]; rfl)
      have hown := NZ.out.own
      have hsz := NZ.out.gr.size
      have d0 := HC.out wz NZ.out.gr
      clear HC
      go_wp2_with (at_builtin; refine hold_on ?_)
      refine Lib.hid ?_
      refine wpList_append_lies _ rfl _ _ 22 rfl w2.heap.size 3 i0 (.int .i64 0) 1 8 Tryz.underlying22 hi hz0 hz1 hz2 rfl (by decide) _ _ _ rfl (hown.alloc _) ⟨wz.heap.size, 0, none⟩ 1 1 [.int .i64 n] rfl rfl ?c1 ?c2 (by decide) ?c3 ?c4 ?c5 _ rfl ?_
      try (case c1 => exact cell_one _ _ _)
      case c2 => (intro u hu; simp at hu; rcases hu with rfl; rfl)
      case c3 => first | omega | (unfold maxLen; omega)
      case c4 => omega
      case c5 => first | omega | (simp; omega)
      intro gq capq w8 hown8 hg8 hat8 hlt8
      obtain ⟨vq, hvq⟩ : ∃ vq, Value.slice (some ⟨gq, 0, none⟩) (B.length + 1) capq = vq := ⟨_, rfl⟩
      rw [hvq] at hown8 ⊢
      obtain ⟨n1, -⟩ := NZ.out.more (x := n) (grown_refl _ _) hown8 hg8
      have N1 : Hid (NK w2 vq ((N.take (k + 1)).filter (okS R L D v x)) w8) := Lib.hid (by rw [HS2.out]; exact n1)
      clear hvq hat8 hlt8 hg8 hown n1 hown8
      go_wp2_with fail
      exact ⟨⟨k + 1, _, rfl, by omega, congrArg _ (by omega), N1⟩, by simp only [RowKit.intOf]; omega⟩
     ·skip
      refine wp_region_held_drew (S := fun w' => Hid (wa.grownBy w' none)) (by kernel_rfl) (Lib.hid (grown_drew (grown_refl _ _))) (fun hHeld => ?_)
      refine zT (i := 0) (v := ?_) rfl ?_ hHeld ?_
      rotate_left 1
      ·intro u hSu
       obtain ⟨q0, q1⟩ := row_cells (kept_row HB2.out.1 (grown_trans NA.out.gr hSu.out) (by simp))
       have q2 := HC.out u (grown_trans NA.out.gr hSu.out)
       go_simp
       first | done | with_reducible rfl
      try simp only [Act.put, zA, zB, zC]
      refine zT (i := 1) (v := ?_) rfl ?_ hHeld ?_
      rotate_left 1
      ·intro u hSu
       go_simp
       first | done | with_reducible rfl
      try simp only [Act.put, zA, zB, zC]
      refine zT (i := 2) (v := ?_) rfl ?_ hHeld ?_
      rotate_left 1
      ·intro u hSu
       go_simp
       first | done | with_reducible rfl
      try simp only [Act.put, zA, zB, zC]
      refine zT (i := 3) (v := ?_) rfl ?_ hHeld ?_
      rotate_left 1
      ·intro u hSu
       go_simp
       first | done | with_reducible rfl
      try simp only [Act.put, zA, zB, zC]
      refine zT (i := 4) (v := ?_) rfl ?_ hHeld ?_
      rotate_left 1
      ·intro u hSu
       go_simp
       first | done | with_reducible rfl
      try simp only [Act.put, zA, zB, zC]
      refine zT (i := 5) (v := ?_) rfl ?_ hHeld ?_
      rotate_left 1
      ·intro u hSu
       obtain ⟨q0, q1⟩ := row_cells (kept_row HB2.out.1 (grown_trans NA.out.gr hSu.out) (by simp))
       have q2 := HC.out u (grown_trans NA.out.gr hSu.out)
       go_simp
       first | done | with_reducible rfl
      try simp only [Act.put, zA, zB, zC]
      refine wpAnyH_ready (rs := [6]) (by kernel_rfl) (by simp) ?_
      refine AllReadyH.cons (o := ⟨_, _, _, _, _, _⟩) rfl (fun Kz hK => ?_) AllReadyH.nil
      go_simp
      go_at_call 130
      refine (rat_any ⟨R, L, pR, cR, pL, cL⟩ D n A pd cd _ _ _ (HB2.out.2.2.keep (grown_trans NA.out.gr hHeld.out)) HA.out (HD2.out.keep (grown_trans NA.out.gr hHeld.out))).mono ?_
      rintro e wc1 ⟨rfl, hgc⟩
      simp only
      rw [HPR.out.2.2]
      refine hK.out _ _ (Lib.hid (grown_trans hHeld.out hgc)) (fun hH2 => ?_)
      clear hK Kz hHeld
      have hHeld := hH2
      clear hH2
      try simp only [Act.put, zA, zB, zC]
      refine zT (i := 7) (v := (.bool true)) rfl ?_ hHeld ?_
      ·intro u hSu
       go_simp
       first | done | (simp; omega) | omega
      try simp only [Act.put, zA, zB, zC]
      refine zT (i := 8) (v := ?_) rfl ?_ hHeld ?_
      rotate_left 1
      ·intro u hSu
       go_simp
       first | done | with_reducible rfl
      try simp only [Act.put, zA, zB, zC]
      refine zT (i := 9) (v := ?_) rfl ?_ hHeld ?_
      rotate_left 1
      ·intro u hSu
       go_simp
       first | done | with_reducible rfl
      try simp only [Act.put, zA, zB, zC]
      refine zT (i := 10) (v := ?_) rfl ?_ hHeld ?_
      rotate_left 1
      ·intro u hSu
       obtain ⟨q0, q1⟩ := row_cells (kept_row HB2.out.1 (grown_trans NA.out.gr hSu.out) (by simp))
       have q2 := HC.out u (grown_trans NA.out.gr hSu.out)
       go_simp
       first | done | with_reducible rfl
      try simp only [Act.put, zA, zB, zC]
      refine zT (i := 11) (v := ?_) rfl ?_ hHeld ?_
      rotate_left 1
      ·intro u hSu
       go_simp
       first | done | with_reducible rfl
      try simp only [Act.put, zA, zB, zC]
      refine zT (i := 12) (v := ?_) rfl ?_ hHeld ?_
      rotate_left 1
      ·intro u hSu
       go_simp
       first | done | with_reducible rfl
      try simp only [Act.put, zA, zB, zC]
      refine zT (i := 13) (v := ?_) rfl ?_ hHeld ?_
      rotate_left 1
      ·intro u hSu
       go_simp
       first | done | with_reducible rfl
      try simp only [Act.put, zA, zB, zC]
      refine zT (i := 14) (v := ?_) rfl ?_ hHeld ?_
      rotate_left 1
      ·intro u hSu
       go_simp
       first | done | with_reducible rfl
      try simp only [Act.put, zA, zB, zC]
      refine zT (i := 15) (v := ?_) rfl ?_ hHeld ?_
      rotate_left 1
      ·intro u hSu
       obtain ⟨q0, q1⟩ := row_cells (kept_row HB2.out.1 (grown_trans NA.out.gr hSu.out) (by simp))
       have q2 := HC.out u (grown_trans NA.out.gr hSu.out)
       go_simp
       first | done | with_reducible rfl
      try simp only [Act.put, zA, zB, zC]
      refine zT (i := 18) (v := ?_) rfl ?_ hHeld ?_
      rotate_left 1
      ·intro u hSu
       go_simp
       first | done | with_reducible rfl
      try simp only [Act.put, zA, zB, zC]
      refine wpAnyH_ready (rs := [16]) (by kernel_rfl) (by simp) ?_
      refine AllReadyH.cons (o := ⟨_, _, _, _, _, _⟩) rfl (fun Kz hK => ?_) AllReadyH.nil
      go_simp
      go_at_call 130
      refine (rat_any ⟨R, L, pR, cR, pL, cL⟩ D n A pd cd _ _ _ (HB2.out.2.2.keep (grown_trans NA.out.gr hHeld.out)) HA.out (HD2.out.keep (grown_trans NA.out.gr hHeld.out))).mono ?_
      rintro e wc2 ⟨rfl, hgc⟩
      simp only
      rw [HPR.out.2.2]
      refine hK.out _ _ (Lib.hid (grown_trans hHeld.out hgc)) (fun hH2 => ?_)
      clear hK Kz hHeld
      have hHeld := hH2
      clear hH2
      try simp only [Act.put, zA, zB, zC]
      refine zT (i := 17) (v := (.int .i64 (c + d))) rfl ?_ hHeld ?_
      ·intro u hSu
       go_simp
       first | done | exact Go.IntWalk.i64_in _ (by omega) | omega
      try simp only [Act.put, zA, zB, zC]
      refine zT (i := 19) (v := (.bool false)) rfl ?_ hHeld ?_
      ·intro u hSu
       go_simp
       first | done | (simp; omega) | omega
      try simp only [Act.put, zA, zB, zC]
      refine zT (i := 20) (v := ?_) rfl ?_ hHeld ?_
      rotate_left 1
      ·intro u hSu
       go_simp
       first | done | with_reducible rfl
      try simp only [Act.put, zA, zB, zC]
      refine wpAnyH_done (by kernel_rfl) ?_ _
      obtain ⟨wz, hwz⟩ : ∃ wz, wz = wc2 := ⟨_, rfl⟩
      have NZ := Lib.hid (NA.out.keep hHeld.out)
      rw [← hwz] at NZ ⊢
      clear hHeld hwz NA NN
      have HS2 : Hid ((N.take (k + 1)).filter (okS R L D v x) = B) := Lib.hid (by rw [HS.out, HP.out, decide_eq_true hdf, decide_eq_false hcd]; simp)
      clear HC
      go_wp2_with fail
      exact ⟨⟨k + 1, _, rfl, by omega, congrArg _ (by omega), by rw [HS2.out]; exact NZ⟩, by simp only [RowKit.intOf]; omega⟩
    ·have hdf2 : ¬ d < 1073741824 := hdf
     refine wp_region_held_drew (S := fun w' => Hid (wa.grownBy w' none)) (by kernel_rfl) (Lib.hid (grown_drew (grown_refl _ _))) (fun hHeld => ?_)
     refine zT (i := 0) (v := ?_) rfl ?_ hHeld ?_
     rotate_left 1
     ·intro u hSu
      obtain ⟨q0, q1⟩ := row_cells (kept_row HB2.out.1 (grown_trans NA.out.gr hSu.out) (by simp))
      have q2 := HC.out u (grown_trans NA.out.gr hSu.out)
      go_simp
      first | done | with_reducible rfl
     try simp only [Act.put, zA, zB, zC]
     refine zT (i := 1) (v := ?_) rfl ?_ hHeld ?_
     rotate_left 1
     ·intro u hSu
      go_simp
      first | done | with_reducible rfl
     try simp only [Act.put, zA, zB, zC]
     refine zT (i := 2) (v := ?_) rfl ?_ hHeld ?_
     rotate_left 1
     ·intro u hSu
      go_simp
      first | done | with_reducible rfl
     try simp only [Act.put, zA, zB, zC]
     refine zT (i := 3) (v := ?_) rfl ?_ hHeld ?_
     rotate_left 1
     ·intro u hSu
      go_simp
      first | done | with_reducible rfl
     try simp only [Act.put, zA, zB, zC]
     refine zT (i := 4) (v := ?_) rfl ?_ hHeld ?_
     rotate_left 1
     ·intro u hSu
      go_simp
      first | done | with_reducible rfl
     try simp only [Act.put, zA, zB, zC]
     refine zT (i := 5) (v := ?_) rfl ?_ hHeld ?_
     rotate_left 1
     ·intro u hSu
      obtain ⟨q0, q1⟩ := row_cells (kept_row HB2.out.1 (grown_trans NA.out.gr hSu.out) (by simp))
      have q2 := HC.out u (grown_trans NA.out.gr hSu.out)
      go_simp
      first | done | with_reducible rfl
     try simp only [Act.put, zA, zB, zC]
     refine wpAnyH_ready (rs := [6]) (by kernel_rfl) (by simp) ?_
     refine AllReadyH.cons (o := ⟨_, _, _, _, _, _⟩) rfl (fun Kz hK => ?_) AllReadyH.nil
     go_simp
     go_at_call 130
     refine (rat_any ⟨R, L, pR, cR, pL, cL⟩ D n A pd cd _ _ _ (HB2.out.2.2.keep (grown_trans NA.out.gr hHeld.out)) HA.out (HD2.out.keep (grown_trans NA.out.gr hHeld.out))).mono ?_
     rintro e wc1 ⟨rfl, hgc⟩
     simp only
     rw [HPR.out.2.2]
     refine hK.out _ _ (Lib.hid (grown_trans hHeld.out hgc)) (fun hH2 => ?_)
     clear hK Kz hHeld
     have hHeld := hH2
     clear hH2
     try simp only [Act.put, zA, zB, zC]
     refine zT (i := 7) (v := (.bool false)) rfl ?_ hHeld ?_
     ·intro u hSu
      go_simp
      first | done | (simp; omega) | omega
     try simp only [Act.put, zA, zB, zC]
     refine zT (i := 8) (v := ?_) rfl ?_ hHeld ?_
     rotate_left 1
     ·intro u hSu
      go_simp
      first | done | with_reducible rfl
     try simp only [Act.put, zA, zB, zC]
     refine zS (i := 9) rfl hHeld ?_
     try simp only [Act.put, zA, zB, zC]
     refine zS (i := 10) rfl hHeld ?_
     try simp only [Act.put, zA, zB, zC]
     refine zS (i := 11) rfl hHeld ?_
     try simp only [Act.put, zA, zB, zC]
     refine zS (i := 12) rfl hHeld ?_
     try simp only [Act.put, zA, zB, zC]
     refine zS (i := 13) rfl hHeld ?_
     try simp only [Act.put, zA, zB, zC]
     refine zS (i := 14) rfl hHeld ?_
     try simp only [Act.put, zA, zB, zC]
     refine zS (i := 15) rfl hHeld ?_
     try simp only [Act.put, zA, zB, zC]
     refine zS (i := 16) rfl hHeld ?_
     try simp only [Act.put, zA, zB, zC]
     refine zS (i := 17) rfl hHeld ?_
     try simp only [Act.put, zA, zB, zC]
     refine zS (i := 18) rfl hHeld ?_
     try simp only [Act.put, zA, zB, zC]
     refine zS (i := 19) rfl hHeld ?_
     try simp only [Act.put, zA, zB, zC]
     refine zT (i := 20) (v := ?_) rfl ?_ hHeld ?_
     rotate_left 1
     ·intro u hSu
      go_simp
      first | done | with_reducible rfl
     try simp only [Act.put, zA, zB, zC]
     refine wpAnyH_done (by kernel_rfl) ?_ _
     obtain ⟨wz, hwz⟩ : ∃ wz, wz = wc1 := ⟨_, rfl⟩
     have NZ := Lib.hid (NA.out.keep hHeld.out)
     rw [← hwz] at NZ ⊢
     clear hHeld hwz NA NN
     have HS2 : Hid ((N.take (k + 1)).filter (okS R L D v x) = B) := Lib.hid (by rw [HS.out, HP.out, decide_eq_false hdf]; simp)
     clear HC
     go_wp2_with fail
     exact ⟨⟨k + 1, _, rfl, by omega, congrArg _ (by omega), by rw [HS2.out]; exact NZ⟩, by simp only [RowKit.intOf]; omega⟩
   ·obtain rfl : k = N.length := by omega
    have hN := NN.out
    rw [List.take_length, ← HX2.out] at hN
    have H9 := Lib.hid (hN.base HB2.out.2.1).ret
    clear hN NN
    go_wp2_with fail
    go_ret
    obtain ⟨p, c, rfl, h3⟩ := H9.out
    exact ⟨p, c, rfl, h3⟩
end Go.Proofs.YtpogblengagpaaaGreatDoor

/- The reference's To. -/
namespace Go.Proofs.YtpogblengagpaaaGreatDoor
set_option maxRecDepth 100000
open Go.RowKit Bs
def BxL (gl : Nat) (l : Lk) (wr : World) : Prop := wr.heap[gl]? = some (.cells #[.int .i64 l.a, .int .i64 l.b, .int .i64 l.ca, .int .i64 l.cb, .int .i64 l.cp] 135 (0, 0))
theorem BxL.at1_ {gl : Nat} {l : Lk} {wr : World} (h : BxL gl l wr) : wr.cell? ⟨gl, 0, none⟩ = some (.int .i64 l.a) ∧ wr.cell? ⟨gl, 1, none⟩ = some (.int .i64 l.b) ∧ wr.cell? ⟨gl, 2, none⟩ = some (.int .i64 l.ca) ∧ wr.cell? ⟨gl, 3, none⟩ = some (.int .i64 l.cb) := by
 refine ⟨?_, ?_, ?_, ?_⟩ <;> (rw [cell_of_row _ _ _ _ _ _ h]; rfl)
theorem rlx1_bd {D : Int → Int} {u v c : Int} (h : ∀ x, 0 ≤ D x ∧ D x ≤ farN) (hc : 0 ≤ c) : ∀ x, 0 ≤ rlx1 D u v c x ∧ rlx1 D u v c x ≤ farN := fun x => by
 refine ⟨?_, Int.le_trans (le_rlx1 D u v c x) (h x).2⟩
 unfold rlx1
 by_cases hu : D u < farN
 ·rw [if_pos hu]
  unfold updF
  by_cases hx : x = v
  ·rw [if_pos hx]
   have := (h v).1
   have := (h u).1
   omega
  ·rw [if_neg hx]; exact (h x).1
 ·rw [if_neg hu]; exact (h x).1
set_option maxHeartbeats 12800000 in
theorem rto_any (T : Tg) (z : Int) (q : Nat → Prop) (w : World) (hT : TgOk w q T) (hz : hasV T.R T.L z = true) :
  Calls Tryz.prog 113 #[.agg #[.slice T.pR T.R.length T.cR, .slice T.pL T.L.length T.cL], .int .i64 z] w fun e w' => TRet ((ids T.R).map (toK T.L z T.R.length)) w e w' := by
 obtain ⟨R, L, pR, cR, pL, cL⟩ := T
 simp only at hz ⊢
 obtain ⟨hok, -⟩ := hasV_iff.1 hz
 have hl := (okT_g hok).len
 rw [ids_len] at hl
 obtain ⟨hR24, hL60⟩ := hl
 have HOK := Lib.hid hok
 have HN := Lib.hid (ids_nodup hok)
 obtain ⟨k1, k2⟩ := tone_box w #[.slice pR R.length cR, .slice pL L.length cL] 68
 have ksz : (w.alloc (.cells #[.slice pR R.length cR, .slice pL L.length cL] 68)).heap.size = w.heap.size + 1 := by simp
 have HB := Lib.hid (And.intro k1 (And.intro k2 (And.intro (hT.old.keep k2) ksz)))
 clear k1 k2 hT hz hok ksz
 obtain ⟨c0, c1⟩ := row_cells HB.out.1
 go_enter Tryz.func113, Tryz.ntmps113
 go_upto_region 1 with fail
 generalize w.alloc _ = wb at *
 go_wp2_with (at_make; refine wpList_make_ints _ rfl _ _ rfl R.length rfl rfl (by omega) ?_; intro hrow hgm)
 obtain ⟨G, hG⟩ : ∃ G, w.heap.size = G := ⟨_, rfl⟩
 obtain ⟨gd, hgd⟩ : ∃ gd, wb.heap.size = gd := ⟨_, rfl⟩
 have M0 : Hid (TM w ⟨R, L, pR, cR, pL, cL⟩ G gd (iniF (ids R) z 0) (wb.alloc (.cells (Array.replicate R.length (tv 0)) 3))) := by
  refine Lib.hid ⟨?_, ?_, ?_, grown_trans HB.out.2.1 hgm, ?_⟩
  ·rw [← hG]; exact kept_row HB.out.1 hgm (by simp)
  ·exact (HB.out.2.2.1.keep hgm).mono (fun b hb => by have := HB.out.2.2.2; omega)
  ·rw [← hgd, show clV (ids R) (iniF (ids R) z 0) = List.replicate R.length (tv 0) by rw [clV_congr (E := fun _ => 0) (fun v _ => by unfold iniF; rw [if_neg (by simp)]), clV_zero, ids_len]]
   exact hrow
  ·have := HB.out.2.2.2; omega
 generalize wb.alloc _ = w1 at *
 have HG : Hid (w.heap.size = G) := Lib.hid hG
 have hgd0 : G < gd := M0.out.lt.1
 rw [hgd]
 rw [hG] at c0 c1 ⊢
 clear hrow hgm hgd hG HB c0 c1
 go_wp2_with fail
 go_loopw [6] (fun a wr => ∃ k : Nat, k ≤ R.length ∧ a = .int .i64 (k : Int) ∧ Hid (TM w ⟨R, L, pR, cR, pL, cL⟩ G gd (iniF (ids R) z k) wr)) (fun a _ => R.length - (RowKit.intOf a).toNat)
 case atStart => exact ⟨0, Nat.zero_le _, rfl, M0⟩
 case round =>
 obtain ⟨k, hk, rfl, M⟩ := hrel
 clear M0
 obtain ⟨c0, c1⟩ := row_cells M.out.gb
 by_cases hlt : k < R.length
 ·obtain ⟨y, hy⟩ : ∃ y, R[k]? = some y := ⟨_, List.getElem?_eq_getElem hlt⟩
  have hyi := ids_at hy
  have HY := Lib.hid (And.intro hy hyi)
  have d0 := M.out.d.cell (clV_at (D := iniF (ids R) z k) hyi)
  have d1 := M.out.d.frozen k
  have M1 := Lib.hid (M.out.put HN.out hyi farN)
  clear hy hyi
  go_upto_region 6 with fail
  change Hid (TM w ⟨R, L, pR, cR, pL, cL⟩ G gd _ (wr.setCell ⟨gd, k, none⟩ (.int .i64 1073741824))) at M1
  clear d0 d1 c0 c1
  (try rw [Nat.zero_add])
  generalize wr.setCell _ _ = wx at *
  obtain ⟨c0, c1⟩ := row_cells M1.out.gb
  obtain ⟨-, bR, oR, rfl, -, hc⟩ := rdr_cells (R := R) M1.out.t.r (by omega)
  obtain ⟨a0, a1⟩ := hc k y HY.out.1
  have hst := iniF_step (z := z) HY.out.2
  clear hc
  by_cases e : y.id = z
  ·have e' : (y.id == z) = true := by simpa using e
   have d2 := M1.out.d.cell (clV_at (D := updF (iniF (ids R) z k) y.id farN) HY.out.2)
   have d3 := M1.out.d.frozen k
   have M2 : Hid (TM w ⟨R, L, some ⟨bR, oR, none⟩, cR, pL, cL⟩ G gd (iniF (ids R) z (k + 1)) (wx.setCell ⟨gd, k, none⟩ (.int .i64 0))) := by
    have h1 := M1.out.put HN.out HY.out.2 0
    rw [updF_twice, show (0 : Int) = startF z y.id by unfold startF; rw [if_pos e], hst] at h1
    rw [show startF z y.id = (0 : Int) by unfold startF; rw [if_pos e]] at h1
    exact Lib.hid h1
   clear e hst M
   go_wp2_with fail
   (try rw [Nat.zero_add])
   exact ⟨⟨k + 1, by omega, congrArg _ (by omega), M2⟩, by simp only [RowKit.intOf]; omega⟩
  ·have e' : (y.id == z) = false := by simpa using e
   have M2 : Hid (TM w ⟨R, L, some ⟨bR, oR, none⟩, cR, pL, cL⟩ G gd (iniF (ids R) z (k + 1)) wx) := by
    have h1 := M1.out
    rw [show farN = startF z y.id by unfold startF; rw [if_neg e], hst] at h1
    exact Lib.hid h1
   clear e hst M
   go_wp2_with fail
   exact ⟨⟨k + 1, by omega, congrArg _ (by omega), M2⟩, by simp only [RowKit.intOf]; omega⟩
 ·obtain rfl : k = R.length := by omega
  have M1 : Hid (TM w ⟨R, L, pR, cR, pL, cL⟩ G gd (toK L z 0) wr) := by
   have h1 := M.out
   have hd := h1.d
   simp only at hd
   rw [← ids_len R, iniF_end] at hd
   exact Lib.hid ⟨h1.gb, h1.t, hd, h1.gr, h1.lt⟩
  clear M c0 c1
  go_wp2_with fail
  go_loopw [7] (fun a wr => ∃ k : Nat, k ≤ R.length ∧ a = .int .i64 (k : Int) ∧ Hid (TM w ⟨R, L, pR, cR, pL, cL⟩ G gd (toK L z k) wr)) (fun a _ => R.length - (RowKit.intOf a).toNat)
  case atStart => exact ⟨0, Nat.zero_le _, rfl, M1⟩
  case round =>
  obtain ⟨w5, rfl⟩ : ∃ w5, w5 = wr := ⟨_, rfl⟩
  obtain ⟨k, hk, rfl, M⟩ := hrel
  clear M1
  by_cases hlt : k < R.length
  ·have J0 : Hid (TM w ⟨R, L, pR, cR, pL, cL⟩ G gd (toJ L z k 0) w5) := M
   clear M
   go_wp2_with fail
   go_loopw [8] (fun a wr => ∃ j : Nat, j ≤ L.length ∧ a = .int .i64 (j : Int) ∧ Hid (TM w ⟨R, L, pR, cR, pL, cL⟩ G gd (toJ L z k j) wr)) (fun a _ => L.length - (RowKit.intOf a).toNat)
   case atStart => exact ⟨0, Nat.zero_le _, rfl, J0⟩
   case round =>
   obtain ⟨j, hj, rfl, M⟩ := hrel
   clear J0
   obtain ⟨c0, c1⟩ := row_cells M.out.gb
   by_cases hltj : j < L.length
   ·obtain ⟨l, hl⟩ : ∃ l, L[j]? = some l := ⟨_, List.getElem?_eq_getElem hltj⟩
    obtain ⟨-, bL, oL, rfl, -, hc⟩ := rdl_cells (L := L) M.out.t.l (by omega)
    obtain ⟨a0, a1, a2, a3, a4⟩ := hc j l hl
    have hends := (okT_g HOK.out).ends l (List.mem_of_getElem? hl)
    obtain ⟨ia, hia⟩ := List.mem_iff_getElem?.1 hends.1
    obtain ⟨ib, hib⟩ := List.mem_iff_getElem?.1 hends.2
    have hpo := (okT_g HOK.out).pos l (List.mem_of_getElem? hl)
    have hle := (okT_g HOK.out).le l (List.mem_of_getElem? hl)
    have HST := Lib.hid (toJ_step (z := z) (k := k) hl)
    have HIA := Lib.hid (And.intro hia hib)
    have hia2 : ia < R.length := by have := (List.getElem?_eq_some_iff.1 hia).1; rwa [ids_len] at this
    have hib2 : ib < R.length := by have := (List.getElem?_eq_some_iff.1 hib).1; rwa [ids_len] at this
    have HDB := Lib.hid (toJ_bd HOK.out z k j)
    obtain ⟨D, hD⟩ : ∃ D, toJ L z k j = D := ⟨_, rfl⟩
    rw [hD] at M HST HDB
    clear hc hends hia hib hl hD
    have HBX := Lib.hid (heap_alloc_new wr (.cells #[.int .i64 l.a, .int .i64 l.b, .int .i64 l.ca, .int .i64 l.cb, .int .i64 l.cp] 135))
    have HGA := Lib.hid (World.grownBy_alloc wr (.cells #[.int .i64 l.a, .int .i64 l.b, .int .i64 l.ca, .int .i64 l.cb, .int .i64 l.cp] 135) none)
    go_upto_region 15 with fail
    have hgl : gd < wr.heap.size := M.out.d.lt
    obtain ⟨gl, hgl0⟩ : ∃ gl, wr.heap.size = gl := ⟨_, rfl⟩
    generalize wr.alloc _ = wy at *
    rw [hgl0] at HBX hgl ⊢
    have MY := Lib.hid (M.out.keep HGA.out)
    have HBL : Hid (BxL gl l wy) := HBX
    clear HGA HBX M hgl0 a0 a1 a2 a3 a4 c0 c1
    refine wp_region_held_drew (S := fun w' => Hid (wy.grownBy w' none)) (by kernel_rfl) (Lib.hid (grown_drew (grown_refl _ _))) (fun hHeld => ?_)
    refine zT (i := 0) (v := ?_) rfl ?_ hHeld ?_
    rotate_left 1
    ·intro u hSu
     obtain ⟨q0, q1⟩ := row_cells (kept_row MY.out.gb hSu.out (by simp))
     obtain ⟨b0, b1, b2, b3⟩ := (show BxL gl l u from kept_row HBL.out hSu.out (by simp)).at1_
     go_simp
     first | done | with_reducible rfl
    try simp only [Act.put, zA, zB, zC]
    refine zT (i := 1) (v := ?_) rfl ?_ hHeld ?_
    rotate_left 1
    ·intro u hSu
     go_simp
     first | done | with_reducible rfl
    try simp only [Act.put, zA, zB, zC]
    refine zT (i := 2) (v := ?_) rfl ?_ hHeld ?_
    rotate_left 1
    ·intro u hSu
     obtain ⟨q0, q1⟩ := row_cells (kept_row MY.out.gb hSu.out (by simp))
     obtain ⟨b0, b1, b2, b3⟩ := (show BxL gl l u from kept_row HBL.out hSu.out (by simp)).at1_
     go_simp
     first | done | with_reducible rfl
    try simp only [Act.put, zA, zB, zC]
    refine zT (i := 4) (v := ?_) rfl ?_ hHeld ?_
    rotate_left 1
    ·intro u hSu
     obtain ⟨q0, q1⟩ := row_cells (kept_row MY.out.gb hSu.out (by simp))
     obtain ⟨b0, b1, b2, b3⟩ := (show BxL gl l u from kept_row HBL.out hSu.out (by simp)).at1_
     go_simp
     first | done | with_reducible rfl
    try simp only [Act.put, zA, zB, zC]
    refine zT (i := 5) (v := ?_) rfl ?_ hHeld ?_
    rotate_left 1
    ·intro u hSu
     go_simp
     first | done | with_reducible rfl
    try simp only [Act.put, zA, zB, zC]
    refine zT (i := 6) (v := ?_) rfl ?_ hHeld ?_
    rotate_left 1
    ·intro u hSu
     obtain ⟨q0, q1⟩ := row_cells (kept_row MY.out.gb hSu.out (by simp))
     obtain ⟨b0, b1, b2, b3⟩ := (show BxL gl l u from kept_row HBL.out hSu.out (by simp)).at1_
     go_simp
     first | done | with_reducible rfl
    try simp only [Act.put, zA, zB, zC]
    refine wpAnyH_ready (rs := [3]) (by kernel_rfl) (by simp) ?_
    refine AllReadyH.cons (o := ⟨_, _, _, _, _, _⟩) rfl (fun Kz hK => ?_) AllReadyH.nil
    go_simp
    go_at_call 129
    refine (rplace_any ⟨R, L, pR, cR, some ⟨bL, oL, none⟩, cL⟩ l.a ia _ _ (MY.out.keep hHeld.out).t HIA.out.1 HN.out).mono ?_
    rintro e wp1 ⟨rfl, hgp⟩
    refine hK.out _ _ (Lib.hid (grown_trans hHeld.out hgp)) (fun hH2 => ?_)
    clear hK Kz hHeld
    have hHeld := hH2
    clear hH2
    try simp only [Act.put, zA, zB, zC]
    refine wpAnyH_ready (rs := [7]) (by kernel_rfl) (by simp) ?_
    refine AllReadyH.cons (o := ⟨_, _, _, _, _, _⟩) rfl (fun Kz hK => ?_) AllReadyH.nil
    go_simp
    go_at_call 129
    refine (rplace_any ⟨R, L, pR, cR, some ⟨bL, oL, none⟩, cL⟩ l.b ib _ _ (MY.out.keep hHeld.out).t HIA.out.2 HN.out).mono ?_
    rintro e wp2 ⟨rfl, hgp⟩
    refine hK.out _ _ (Lib.hid (grown_trans hHeld.out hgp)) (fun hH2 => ?_)
    clear hK Kz hHeld
    have hHeld := hH2
    clear hH2
    try simp only [Act.put, zA, zB, zC]
    refine zT (i := 8) (v := ?_) rfl ?_ hHeld ?_
    rotate_left 1
    ·intro u hSu
     go_simp
     first | done | with_reducible rfl
    try simp only [Act.put, zA, zB, zC]
    refine zT (i := 9) (v := ?_) rfl ?_ hHeld ?_
    rotate_left 1
    ·intro u hSu
     go_simp
     first | done | with_reducible rfl
    try simp only [Act.put, zA, zB, zC]
    refine wpAnyH_done (by kernel_rfl) ?_ _
    have MZ := Lib.hid (MY.out.keep hHeld.out)
    have HBZ : Hid (BxL gl l wp2) := Lib.hid (kept_row HBL.out hHeld.out (by simp))
    obtain ⟨wz, hwz⟩ : ∃ wz, wz = wp2 := ⟨_, rfl⟩
    rw [← hwz] at MZ HBZ ⊢
    clear hHeld hwz MY HBL
    have d0 : wz.cell? ⟨gd, ib, none⟩ = some (.int .i64 (D l.b)) := MZ.out.d.cell (clV_at (D := D) HIA.out.2)
    go_upto_if 66 with fail
    go_cut [] from 62 to 81 (fun wx => Hid (TM w ⟨R, L, pR, cR, some ⟨bL, oL, none⟩, cL⟩ G gd (rlx1 D l.b l.a l.ca) wx) ∧ Hid (BxL gl l wx))
    case first =>
     by_cases hf : D l.b < farN
     ·have hf2 : D l.b < 1073741824 := hf
      have HE : Hid (rlx1 D l.b l.a l.ca = updF D l.a (min (D l.a) (l.ca + D l.b))) := Lib.hid (by unfold rlx1; rw [if_pos hf])
      have hba := HDB.out l.a
      have hbb := HDB.out l.b
      clear hf
      go_upto_region 17 with fail
      refine region_until (S := fun w' => Hid (TM w ⟨R, L, pR, cR, some ⟨bL, oL, none⟩, cL⟩ G gd D w' ∧ BxL gl l w')) (fun j => j == 15) (by kernel_rfl) (Lib.hid ⟨MZ.out.keep (grown_drew (grown_refl _ _)), kept_row (r := none) HBZ.out (grown_drew (grown_refl _ _)) (by simp)⟩) (fun hHeld => ?_)
      refine zU (i := 0) (v := ?_) rfl ?_ hHeld ?_
      rotate_left 1
      ·intro u hSu
       go_simp
       first | done | with_reducible rfl
      try simp only [Act.put, zA, zB, zC]
      refine zU (i := 1) (v := ?_) rfl ?_ hHeld ?_
      rotate_left 1
      ·intro u hSu
       go_simp
       first | done | with_reducible rfl
      try simp only [Act.put, zA, zB, zC]
      refine zU (i := 2) (v := ?_) rfl ?_ hHeld ?_
      rotate_left 1
      ·intro u hSu
       go_simp
       first | done | with_reducible rfl
      try simp only [Act.put, zA, zB, zC]
      refine zU (i := 3) (v := ?_) rfl ?_ hHeld ?_
      rotate_left 1
      ·intro u hSu
       go_simp
       first | done | with_reducible rfl
      try simp only [Act.put, zA, zB, zC]
      refine zU (i := 4) (v := ?_) rfl ?_ hHeld ?_
      rotate_left 1
      ·intro u hSu
       go_simp
       first | done | with_reducible rfl
      try simp only [Act.put, zA, zB, zC]
      refine zU (i := 5) (v := ?_) rfl ?_ hHeld ?_
      rotate_left 1
      ·intro u hSu
       have e0 : u.cell? ⟨gd, ia, none⟩ = some (.int .i64 (D l.a)) := hSu.out.1.d.cell (clV_at (D := D) HIA.out.1)
       have e1 : u.cell? ⟨gd, ib, none⟩ = some (.int .i64 (D l.b)) := hSu.out.1.d.cell (clV_at (D := D) HIA.out.2)
       obtain ⟨b0, b1, b2, b3⟩ := hSu.out.2.at1_
       go_simp
       first | done | with_reducible rfl
      try simp only [Act.put, zA, zB, zC]
      refine zU (i := 6) (v := ?_) rfl ?_ hHeld ?_
      rotate_left 1
      ·intro u hSu
       go_simp
       first | done | with_reducible rfl
      try simp only [Act.put, zA, zB, zC]
      refine zU (i := 7) (v := ?_) rfl ?_ hHeld ?_
      rotate_left 1
      ·intro u hSu
       have e0 : u.cell? ⟨gd, ia, none⟩ = some (.int .i64 (D l.a)) := hSu.out.1.d.cell (clV_at (D := D) HIA.out.1)
       have e1 : u.cell? ⟨gd, ib, none⟩ = some (.int .i64 (D l.b)) := hSu.out.1.d.cell (clV_at (D := D) HIA.out.2)
       obtain ⟨b0, b1, b2, b3⟩ := hSu.out.2.at1_
       go_simp
       first | done | with_reducible rfl
      try simp only [Act.put, zA, zB, zC]
      refine zU (i := 8) (v := ?_) rfl ?_ hHeld ?_
      rotate_left 1
      ·intro u hSu
       go_simp
       first | done | with_reducible rfl
      try simp only [Act.put, zA, zB, zC]
      refine zU (i := 9) (v := ?_) rfl ?_ hHeld ?_
      rotate_left 1
      ·intro u hSu
       go_simp
       first | done | with_reducible rfl
      try simp only [Act.put, zA, zB, zC]
      refine zU (i := 10) (v := ?_) rfl ?_ hHeld ?_
      rotate_left 1
      ·intro u hSu
       go_simp
       first | done | with_reducible rfl
      try simp only [Act.put, zA, zB, zC]
      refine zU (i := 11) (v := ?_) rfl ?_ hHeld ?_
      rotate_left 1
      ·intro u hSu
       have e0 : u.cell? ⟨gd, ia, none⟩ = some (.int .i64 (D l.a)) := hSu.out.1.d.cell (clV_at (D := D) HIA.out.1)
       have e1 : u.cell? ⟨gd, ib, none⟩ = some (.int .i64 (D l.b)) := hSu.out.1.d.cell (clV_at (D := D) HIA.out.2)
       obtain ⟨b0, b1, b2, b3⟩ := hSu.out.2.at1_
       go_simp
       first | done | with_reducible rfl
      try simp only [Act.put, zA, zB, zC]
      refine zU (i := 12) (v := (.int .i64 (l.ca + D l.b))) rfl ?_ hHeld ?_
      ·intro u hSu
       go_simp
       first | done | exact Go.IntWalk.i64_in _ (by unfold farN at *; omega) | (unfold farN at *; omega)
      try simp only [Act.put, zA, zB, zC]
      refine zU (i := 13) (v := (.int .i64 (min (D l.a) (l.ca + D l.b)))) rfl ?_ hHeld ?_
      ·intro u hSu
       have e0 : u.cell? ⟨gd, ia, none⟩ = some (.int .i64 (D l.a)) := hSu.out.1.d.cell (clV_at (D := D) HIA.out.1)
       have e1 : u.cell? ⟨gd, ib, none⟩ = some (.int .i64 (D l.b)) := hSu.out.1.d.cell (clV_at (D := D) HIA.out.2)
       obtain ⟨b0, b1, b2, b3⟩ := hSu.out.2.at1_
       go_simp
       all_goals (rw [Int.min_def]; split <;> split <;> omega)
      try simp only [Act.put, zA, zB, zC]
      refine zU (i := 14) (v := ?_) rfl ?_ hHeld ?_
      rotate_left 1
      ·intro u hSu
       go_simp
       first | done | with_reducible rfl
      try simp only [Act.put, zA, zB, zC]
      refine anyU_ready (rs := [15]) (by kernel_rfl) (by simp) ?_
      refine EachU.cons (o := ⟨_, _, _, _, _, _⟩) rfl (fun Kz hK => ?_) EachU.nil
      have H9 := hHeld
      have e9 := H9.out.1.d.cell (clV_at (D := D) HIA.out.1)
      have f9 := H9.out.1.d.frozen ia
      go_simp
      refine hK.out _ _ (fun h => by cases h) (fun _ => ?_)
      clear hK Kz
      try simp only [Act.put, zA, zB, zC]
      refine anyU_done (by kernel_rfl) ?_ _
      clear hHeld
      have M9 := Lib.hid (H9.out.1.put HN.out HIA.out.1 (min (D l.a) (l.ca + D l.b)))
      have HB9 : Hid (BxL gl l _) := Lib.hid (kept_row H9.out.2 (grown_setCell _ ⟨gd, ia, none⟩ (tv (min (D l.a) (l.ca + D l.b)))) (fun e => by have := Option.some.inj e; simp only at this; omega))
      rw [← HE.out] at M9
      go_wp2_with fail
      go_meet
      exact ⟨M9, HB9⟩
     ·have hf2 : ¬ D l.b < 1073741824 := hf
      have HE : Hid (rlx1 D l.b l.a l.ca = D) := Lib.hid (by unfold rlx1; rw [if_neg hf])
      clear hf
      go_wp2_with fail
      go_meet
      exact ⟨by rw [HE.out]; exact MZ, HBZ⟩
    case rest =>
     obtain ⟨w18, rfl⟩ : ∃ w18, w18 = wc := ⟨_, rfl⟩
     obtain ⟨ME, HBE⟩ := hcut
     have HEB : Hid (∀ v, 0 ≤ rlx1 D l.b l.a l.ca v ∧ rlx1 D l.b l.a l.ca v ≤ farN) := Lib.hid (rlx1_bd HDB.out (by omega))
     clear MZ HBZ d0 HDB
     obtain ⟨E, hE⟩ : ∃ E, rlx1 D l.b l.a l.ca = E := ⟨_, rfl⟩
     rw [hE] at ME HST HEB
     clear hE
     have d0 : w18.cell? ⟨gd, ia, none⟩ = some (.int .i64 (E l.a)) := ME.out.d.cell (clV_at (D := E) HIA.out.1)
     by_cases hf : E l.a < farN
     ·have hf2 : E l.a < 1073741824 := hf
      have HE : Hid (rlx1 E l.a l.b l.cb = updF E l.b (min (E l.b) (l.cb + E l.a))) := Lib.hid (by unfold rlx1; rw [if_pos hf])
      have hba := HEB.out l.a
      have hbb := HEB.out l.b
      clear hf
      go_upto_region 19 with fail
      refine region_until (S := fun w' => Hid (TM w ⟨R, L, pR, cR, some ⟨bL, oL, none⟩, cL⟩ G gd E w' ∧ BxL gl l w')) (fun j => j == 15) (by kernel_rfl) (Lib.hid ⟨ME.out.keep (grown_drew (grown_refl _ _)), kept_row (r := none) HBE.out (grown_drew (grown_refl _ _)) (by simp)⟩) (fun hHeld => ?_)
      refine zU (i := 0) (v := ?_) rfl ?_ hHeld ?_
      rotate_left 1
      ·intro u hSu
       go_simp
       first | done | with_reducible rfl
      try simp only [Act.put, zA, zB, zC]
      refine zU (i := 1) (v := ?_) rfl ?_ hHeld ?_
      rotate_left 1
      ·intro u hSu
       go_simp
       first | done | with_reducible rfl
      try simp only [Act.put, zA, zB, zC]
      refine zU (i := 2) (v := ?_) rfl ?_ hHeld ?_
      rotate_left 1
      ·intro u hSu
       go_simp
       first | done | with_reducible rfl
      try simp only [Act.put, zA, zB, zC]
      refine zU (i := 3) (v := ?_) rfl ?_ hHeld ?_
      rotate_left 1
      ·intro u hSu
       go_simp
       first | done | with_reducible rfl
      try simp only [Act.put, zA, zB, zC]
      refine zU (i := 4) (v := ?_) rfl ?_ hHeld ?_
      rotate_left 1
      ·intro u hSu
       go_simp
       first | done | with_reducible rfl
      try simp only [Act.put, zA, zB, zC]
      refine zU (i := 5) (v := ?_) rfl ?_ hHeld ?_
      rotate_left 1
      ·intro u hSu
       have e0 : u.cell? ⟨gd, ia, none⟩ = some (.int .i64 (E l.a)) := hSu.out.1.d.cell (clV_at (D := E) HIA.out.1)
       have e1 : u.cell? ⟨gd, ib, none⟩ = some (.int .i64 (E l.b)) := hSu.out.1.d.cell (clV_at (D := E) HIA.out.2)
       obtain ⟨b0, b1, b2, b3⟩ := hSu.out.2.at1_
       go_simp
       first | done | with_reducible rfl
      try simp only [Act.put, zA, zB, zC]
      refine zU (i := 6) (v := ?_) rfl ?_ hHeld ?_
      rotate_left 1
      ·intro u hSu
       go_simp
       first | done | with_reducible rfl
      try simp only [Act.put, zA, zB, zC]
      refine zU (i := 7) (v := ?_) rfl ?_ hHeld ?_
      rotate_left 1
      ·intro u hSu
       have e0 : u.cell? ⟨gd, ia, none⟩ = some (.int .i64 (E l.a)) := hSu.out.1.d.cell (clV_at (D := E) HIA.out.1)
       have e1 : u.cell? ⟨gd, ib, none⟩ = some (.int .i64 (E l.b)) := hSu.out.1.d.cell (clV_at (D := E) HIA.out.2)
       obtain ⟨b0, b1, b2, b3⟩ := hSu.out.2.at1_
       go_simp
       first | done | with_reducible rfl
      try simp only [Act.put, zA, zB, zC]
      refine zU (i := 8) (v := ?_) rfl ?_ hHeld ?_
      rotate_left 1
      ·intro u hSu
       go_simp
       first | done | with_reducible rfl
      try simp only [Act.put, zA, zB, zC]
      refine zU (i := 9) (v := ?_) rfl ?_ hHeld ?_
      rotate_left 1
      ·intro u hSu
       go_simp
       first | done | with_reducible rfl
      try simp only [Act.put, zA, zB, zC]
      refine zU (i := 10) (v := ?_) rfl ?_ hHeld ?_
      rotate_left 1
      ·intro u hSu
       go_simp
       first | done | with_reducible rfl
      try simp only [Act.put, zA, zB, zC]
      refine zU (i := 11) (v := ?_) rfl ?_ hHeld ?_
      rotate_left 1
      ·intro u hSu
       have e0 : u.cell? ⟨gd, ia, none⟩ = some (.int .i64 (E l.a)) := hSu.out.1.d.cell (clV_at (D := E) HIA.out.1)
       have e1 : u.cell? ⟨gd, ib, none⟩ = some (.int .i64 (E l.b)) := hSu.out.1.d.cell (clV_at (D := E) HIA.out.2)
       obtain ⟨b0, b1, b2, b3⟩ := hSu.out.2.at1_
       go_simp
       first | done | with_reducible rfl
      try simp only [Act.put, zA, zB, zC]
      refine zU (i := 12) (v := (.int .i64 (l.cb + E l.a))) rfl ?_ hHeld ?_
      ·intro u hSu
       go_simp
       first | done | exact Go.IntWalk.i64_in _ (by unfold farN at *; omega) | (unfold farN at *; omega)
      try simp only [Act.put, zA, zB, zC]
      refine zU (i := 13) (v := (.int .i64 (min (E l.b) (l.cb + E l.a)))) rfl ?_ hHeld ?_
      ·intro u hSu
       have e0 : u.cell? ⟨gd, ia, none⟩ = some (.int .i64 (E l.a)) := hSu.out.1.d.cell (clV_at (D := E) HIA.out.1)
       have e1 : u.cell? ⟨gd, ib, none⟩ = some (.int .i64 (E l.b)) := hSu.out.1.d.cell (clV_at (D := E) HIA.out.2)
       obtain ⟨b0, b1, b2, b3⟩ := hSu.out.2.at1_
       go_simp
       all_goals (rw [Int.min_def]; split <;> split <;> omega)
      try simp only [Act.put, zA, zB, zC]
      refine zU (i := 14) (v := ?_) rfl ?_ hHeld ?_
      rotate_left 1
      ·intro u hSu
       go_simp
       first | done | with_reducible rfl
      try simp only [Act.put, zA, zB, zC]
      refine anyU_ready (rs := [15]) (by kernel_rfl) (by simp) ?_
      refine EachU.cons (o := ⟨_, _, _, _, _, _⟩) rfl (fun Kz hK => ?_) EachU.nil
      have H9 := hHeld
      have e9 := H9.out.1.d.cell (clV_at (D := E) HIA.out.2)
      have f9 := H9.out.1.d.frozen ib
      go_simp
      refine hK.out _ _ (fun h => by cases h) (fun _ => ?_)
      clear hK Kz
      try simp only [Act.put, zA, zB, zC]
      refine anyU_done (by kernel_rfl) ?_ _
      clear hHeld
      have M9 := Lib.hid (H9.out.1.put HN.out HIA.out.2 (min (E l.b) (l.cb + E l.a)))
      rw [← HE.out, ← HST.out] at M9
      go_wp2_with fail
      exact ⟨⟨j + 1, by omega, congrArg _ (by omega), M9⟩, by simp only [RowKit.intOf]; omega⟩
     ·have hf2 : ¬ E l.a < 1073741824 := hf
      have M9 : Hid (TM w ⟨R, L, pR, cR, some ⟨bL, oL, none⟩, cL⟩ G gd (toJ L z k (j + 1)) w18) := Lib.hid (by rw [HST.out]; unfold rlx1; rw [if_neg hf]; exact ME.out)
      clear hf
      go_wp2_with fail
      exact ⟨⟨j + 1, by omega, congrArg _ (by omega), M9⟩, by simp only [RowKit.intOf]; omega⟩
   ·obtain rfl : j = L.length := by omega
    have M9 : Hid (TM w ⟨R, L, pR, cR, pL, cL⟩ G gd (toK L z (k + 1)) wr) := by
     have h1 := M.out
     rw [toJ_end] at h1
     exact Lib.hid h1
    clear M
    go_wp2_with fail
    exact ⟨⟨k + 1, by omega, congrArg _ (by omega), M9⟩, by simp only [RowKit.intOf]; omega⟩
  ·obtain rfl : k = R.length := by omega
   have hlen : ((ids R).map (toK L z R.length)).length = R.length := by rw [List.length_map, ids_len]
   have hrd : Rd w5 (w.heap.size ≤ ·) (.slice (some ⟨gd, 0, none⟩) ((ids R).map (toK L z R.length)).length R.length) (((ids R).map (toK L z R.length)).map tv) := by
    refine ⟨some ⟨gd, 0, none⟩, R.length, by simp only [List.length_map], fun _ => ⟨gd, 0, rfl, by have := M.out.lt; have := HG.out; show w.heap.size ≤ gd; omega, fun i x hx => ?_⟩⟩
    have h1 := M.out.d.cell (j := i) (x := x) (by unfold clV; rw [List.map_map] at hx; exact hx)
    rw [Nat.zero_add]
    exact h1
   rw [hlen] at hrd
   have H9 := Lib.hid (And.intro hrd (And.intro hlen M.out.gr))
   clear hrd hlen M
   go_wp2_with fail
   go_ret
   exact ⟨some ⟨gd, 0, none⟩, R.length, by rw [H9.out.2.1]; rfl, by rw [H9.out.2.1]; exact H9.out.1, by rw [H9.out.2.1]; exact ⟨Nat.le_refl _, by omega⟩, fun h => (by cases h), H9.out.2.2⟩
end Go.Proofs.YtpogblengagpaaaGreatDoor
