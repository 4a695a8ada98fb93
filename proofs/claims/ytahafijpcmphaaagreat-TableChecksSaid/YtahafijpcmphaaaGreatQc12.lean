/- Parts of the proof, packed: ShRSt. -/
import Derived.Test.YtahafijpcmphaaaGreatQc11
/- The reference's Steps. -/
namespace Go.Proofs.YtahafijpcmphaaaGreat
set_option maxRecDepth 100000
open Go.RowKit Bs
theorem filt_snocI {P : Int → Bool} {M : List Int} {k : Nat} {y : Int} (h : M[k]? = some y) : (M.take (k + 1)).filter P = (M.take k).filter P ++ (if P y = true then [y] else []) := by
 rw [List.take_add_one, h, List.filter_append]
 congr 1
 by_cases hp : P y = true
 ·rw [if_pos hp]; simp [hp]
 ·rw [if_neg hp]; simp [hp]
theorem price_bd {R : List Rt} {L : List Lk} (h : okT R L = true) (u v : Int) : 0 ≤ (priceV L u v).1 ∧ (priceV L u v).1 ≤ 1000 := by
 cases hp : (priceV L u v).2 with
 | true =>
  have he := price_ed2 h (u := u) (v := v) (c := (priceV L u v).1) (Prod.ext rfl hp)
  have := ((okT_g h).edg he).1
  omega
 | false =>
  unfold priceV at hp ⊢
  cases hf : L.findSome? (priceB u v) with
  | none => simp
  | some c => rw [hf] at hp; cases hp
set_option maxHeartbeats 6400000 in
theorem rsteps_any (T : Tg) (D : Int → Int) (x : Int) (A : List Int) (pd : Option Addr) (cd : Nat) (q q2 : Nat → Prop) (w : World) (hT : TgOk w q T) (hok : okT T.R T.L = true) (hA : A = (ids T.R).map D) (hD : Rd w q2 (.slice pd A.length cd) (A.map tv)) (hb : ∀ v, 0 ≤ D v ∧ D v ≤ farN) :
  Calls Tryz.prog 79 #[.agg #[.slice T.pR T.R.length T.cR, .slice T.pL T.L.length T.cL], .slice pd A.length cd, .int .i64 x] w fun e w' => TRet (stV T.R T.L D x) w e w' := by
 obtain ⟨i0, hi, hz0, hz1, hz2⟩ := info_parts info_int
 obtain ⟨R, L, pR, cR, pL, cL⟩ := T
 simp only at hok hA ⊢
 have hl := (okT_g hok).len
 rw [ids_len] at hl
 obtain ⟨hR24, hL60⟩ := hl
 have HOK := Lib.hid hok
 obtain ⟨k1, k2⟩ := tone_box w #[.slice pR R.length cR, .slice pL L.length cL] 45
 have HB := Lib.hid (And.intro k1 (And.intro k2 (hT.keep k2)))
 have HD := Lib.hid (hD.keep k2)
 have HA := Lib.hid hA
 have HBD : Hid (∀ v, 0 ≤ atV R D v ∧ atV R D v ≤ farN) := Lib.hid (fun v => by
  unfold atV
  by_cases h : v ∈ ids R
  ·rw [if_pos h]; exact hb v
  ·rw [if_neg h]; unfold farN; omega)
 clear k1 k2 hT hD hA hb hok
 obtain ⟨c0, c1⟩ := row_cells HB.out.1
 obtain ⟨X, hX⟩ : ∃ X, stV R L D x = X := ⟨_, rfl⟩
 have HX := Lib.hid hX
 rw [hX]
 clear hX
 go_enter Tryz.func79, Tryz.ntmps79
 go_upto_region 1 with fail
 generalize w.alloc _ = wb at *
 go_wp2_with fail
 refine (rat_any ⟨R, L, pR, cR, pL, cL⟩ D x A pd cd _ _ wb HB.out.2.2 HA.out HD.out).mono ?_
 rintro e w1 ⟨rfl, hg⟩
 simp only
 obtain ⟨v, hv⟩ : ∃ v, atV R D x = v := ⟨_, rfl⟩
 have HV : Hid (atV R D x = v) := Lib.hid hv
 have hvb := HBD.out x
 rw [hv] at hvb ⊢
 have HB1 := Lib.hid (And.intro (kept_row HB.out.1 hg (by simp)) (And.intro (grown_trans HB.out.2.1 hg) (HB.out.2.2.keep hg)))
 have HD1 := Lib.hid (HD.out.keep hg)
 clear hg c0 c1 HB HD hv
 obtain ⟨c0, c1⟩ := row_cells HB1.out.1
 go_upto_region 3 with fail
 by_cases hfar : v = farN
 ·have hf' : (v == 1073741824) = true := by rw [hfar]; rfl
  have hX : X = [] := by rw [← HX.out]; unfold stV; rw [HV.out, if_pos (.inl hfar)]
  clear hfar
  subst hX
  go_wp2_with fail
  go_ret
  exact ⟨none, 0, rfl, ⟨none, 0, rfl, fun hne => absurd rfl hne⟩, ⟨Nat.le_refl _, by omega⟩, fun _ => rfl, HB1.out.2.1⟩
 ·have hf' : (v == 1073741824) = false := by rw [beq_eq_false_iff_ne]; exact hfar
  by_cases hz : v = 0
  ·have hX : X = [] := by rw [← HX.out]; unfold stV; rw [HV.out, if_pos (.inr hz)]
   have hz' : (v == 0) = true := by rw [hz]; rfl
   clear hfar hz
   subst hX
   go_wp2_with fail
   go_ret
   exact ⟨none, 0, rfl, ⟨none, 0, rfl, fun hne => absurd rfl hne⟩, ⟨Nat.le_refl _, by omega⟩, fun _ => rfl, HB1.out.2.1⟩
  ·have hz' : (v == 0) = false := by rw [beq_eq_false_iff_ne]; exact hz
   have hX : X = (nearR R L x).filter (okS R L D v x) := by
    rw [← HX.out]; unfold stV; rw [HV.out, if_neg (by rintro (h | h); exact hfar h; exact hz h)]
   have HX2 := Lib.hid hX
   clear hX hfar hz
   go_wp2_with fail
   refine (rnear_any ⟨R, L, pR, cR, pL, cL⟩ x _ w1 HB1.out.2.2 (by show R.length ≤ 1000; omega)).mono ?_
   rintro e w2 ⟨pn, cn, rfl, hrn, hcn, hnn, hg⟩
   (try simp only at hrn hcn ⊢)
   have hNl : (nearR R L x).length ≤ R.length := by unfold nearR; rw [List.length_map]; exact List.length_filter_le _ _
   obtain ⟨N, hN⟩ : ∃ N, nearR R L x = N := ⟨_, rfl⟩
   rw [hN] at hrn hcn HX2 hNl ⊢
   have HN : Hid (Rd w2 (fun _ => True) (.slice pn N.length cn) (N.map tv)) := Lib.hid (hrn.mono (fun _ _ => trivial))
   have HB2 := Lib.hid (And.intro (kept_row HB1.out.1 hg (by simp)) (And.intro (grown_trans HB1.out.2.1 hg) (HB1.out.2.2.keep hg)))
   have HD2 := Lib.hid (HD1.out.keep hg)
   have HPB := Lib.hid (fun u => price_bd HOK.out x u)
   have hNl2 : N.length ≤ 24 := by omega
   have N0 : Hid (NK w2 (.slice none 0 0) ((N.take 0).filter (okS R L D v x)) w2) := Lib.hid ⟨World.ownsRow_nil _ _ _ _, grown_refl _ _⟩
   clear hrn hg hnn hNl c0 c1 HB1 HD1 hN
   go_wp2_with fail
   go_loopw [7, 10] (fun vo a wr => ∃ (k : Nat) (va : Value), va = vo ∧ k ≤ N.length ∧ a = .int .i64 (k : Int) ∧ Hid (NK w2 va ((N.take k).filter (okS R L D v x)) wr)) (fun _ a _ => N.length - (RowKit.intOf a).toNat)
   case atStart => exact ⟨0, _, rfl, Nat.zero_le _, rfl, N0⟩
   case round =>
   obtain ⟨w3, rfl⟩ : ∃ w3, w3 = wr := ⟨_, rfl⟩
   obtain ⟨k, va, rfl, hk, rfl, NN⟩ := hrel
   clear N0
   by_cases hlt : k < N.length
   ·obtain ⟨-, b8, o8, rfl, -, -⟩ := rdi_at (HN.out.keep NN.out.gr) (by omega)
    obtain ⟨n, hn⟩ : ∃ n, N[k]? = some n := ⟨_, List.getElem?_eq_getElem hlt⟩
    have HC : Hid (∀ u, w2.grownBy u none → u.cell? ⟨b8, o8 + k, none⟩ = some (.int .i64 n)) := Lib.hid (fun u g => by
     obtain ⟨-, b, o, e, -, hc⟩ := rdi_at (HN.out.keep g) (by omega)
     injection e with e
     injection e with e1 e2
     subst e1
     subst e2
     exact hc k n hn)
    have HS := Lib.hid (filt_snocI (P := okS R L D v x) hn)
    have hk1 : (k : Int) < (N.length : Int) := by omega
    obtain ⟨c, hc⟩ : ∃ c, (priceV L x n).1 = c := ⟨_, rfl⟩
    obtain ⟨bo, hbo⟩ : ∃ bo, (priceV L x n).2 = bo := ⟨_, rfl⟩
    have hcb := HPB.out n
    rw [hc] at hcb
    obtain ⟨d, hd⟩ : ∃ d, atV R D n = d := ⟨_, rfl⟩
    have hdb := HBD.out n
    rw [hd] at hdb
    have HPR := Lib.hid (And.intro hc (And.intro hbo hd))
    have HP : Hid (okS R L D v x n = (decide (d < farN) && decide (c + d = v))) := Lib.hid (by unfold okS; rw [hc, hd])
    clear hn hc hbo hd
    obtain ⟨B, hB⟩ : ∃ B, (N.take k).filter (okS R L D v x) = B := ⟨_, rfl⟩
    have hBl : B.length ≤ 24 := by rw [← hB]; exact Nat.le_trans (List.length_filter_le _ _) (by rw [List.length_take]; omega)
    rw [hB] at NN HS
    clear hB
    go_upto_region 9 with fail
    refine wp_region_held_drew (S := fun w' => Hid (w3.grownBy w' none)) (by kernel_rfl) (Lib.hid (grown_drew (grown_refl _ _))) (fun hHeld => ?_)
    refine wpAnyH_take (i := 0) (oi := { dst := some 33, op := Op.load 45 (Operand.tmp 3), type := 45, pos := _, after := _, guard := none }) (v := ?_) rfl (by kernel_rfl) (by kernel_rfl) (by kernel_rfl) (fun _ _ _ h => h) (Or.inl ⟨by rfl, ?_⟩) hHeld ?_
    rotate_left 1
    ·intro u hSu
     obtain ⟨q0, q1⟩ := row_cells (kept_row HB2.out.1 (grown_trans NN.out.gr hSu.out) (by simp))
     have q2 := HC.out u (grown_trans NN.out.gr hSu.out)
     go_simp
     first | done | with_reducible rfl
    (try simp only [Act.put, zA, zB, zC])
    refine wpAnyH_take (i := 1) (oi := { dst := some 34, op := Op.move (Operand.tmp 2), type := 3, pos := _, after := _, guard := none }) (v := ?_) rfl (by kernel_rfl) (by kernel_rfl) (by kernel_rfl) (fun _ _ _ h => h) (Or.inl ⟨by rfl, ?_⟩) hHeld ?_
    rotate_left 1
    ·intro u hSu
     go_simp
     first | done | with_reducible rfl
    (try simp only [Act.put, zA, zB, zC])
    refine wpAnyH_take (i := 2) (oi := { dst := some 35, op := Op.move (Operand.tmp 9), type := 22, pos := _, after := _, guard := none }) (v := ?_) rfl (by kernel_rfl) (by kernel_rfl) (by kernel_rfl) (fun _ _ _ h => h) (Or.inl ⟨by rfl, ?_⟩) hHeld ?_
    rotate_left 1
    ·intro u hSu
     go_simp
     first | done | with_reducible rfl
    (try simp only [Act.put, zA, zB, zC])
    refine wpAnyH_take (i := 3) (oi := { dst := some 36, op := Op.move (Operand.tmp 10), type := 3, pos := _, after := _, guard := none }) (v := ?_) rfl (by kernel_rfl) (by kernel_rfl) (by kernel_rfl) (fun _ _ _ h => h) (Or.inl ⟨by rfl, ?_⟩) hHeld ?_
    rotate_left 1
    ·intro u hSu
     go_simp
     first | done | with_reducible rfl
    (try simp only [Act.put, zA, zB, zC])
    refine wpAnyH_take (i := 4) (oi := { dst := some 37, op := Op.indexAddr 22 (Operand.tmp 35) (Operand.tmp 36), type := 0, pos := _, after := _, guard := none }) (v := ?_) rfl (by kernel_rfl) (by kernel_rfl) (by kernel_rfl) (fun _ _ _ h => h) (Or.inl ⟨by rfl, ?_⟩) hHeld ?_
    rotate_left 1
    ·intro u hSu
     go_simp
     first | done | with_reducible rfl
    (try simp only [Act.put, zA, zB, zC])
    refine wpAnyH_take (i := 5) (oi := { dst := some 38, op := Op.load 3 (Operand.tmp 37), type := 3, pos := _, after := _, guard := none }) (v := ?_) rfl (by kernel_rfl) (by kernel_rfl) (by kernel_rfl) (fun _ _ _ h => h) (Or.inl ⟨by rfl, ?_⟩) hHeld ?_
    rotate_left 1
    ·intro u hSu
     obtain ⟨q0, q1⟩ := row_cells (kept_row HB2.out.1 (grown_trans NN.out.gr hSu.out) (by simp))
     have q2 := HC.out u (grown_trans NN.out.gr hSu.out)
     go_simp
     first | done | with_reducible rfl
    (try simp only [Act.put, zA, zB, zC])
    refine wpAnyH_ready (rs := [6]) (by kernel_rfl) (by simp) ?_
    refine AllReadyH.cons (o := { dst := some 39, op := Op.call { callee := Callee.value (Operand.func 111), args := #[Operand.tmp 33, Operand.tmp 34, Operand.tmp 38], argTypes := #[45, 3, 3] }, type := 75, pos := _, after := _, guard := none }) rfl (fun Kz hK => ?_) AllReadyH.nil
    go_simp
    go_at_call 111
    refine (rprice_any ⟨R, L, pR, cR, pL, cL⟩ x n _ _ (HB2.out.2.2.keep (grown_trans NN.out.gr hHeld.out))).mono ?_
    rintro e w9 ⟨rfl, hg9⟩
    simp only
    rw [HPR.out.1, HPR.out.2.1]
    refine hK.out _ _ (Lib.hid (grown_trans hHeld.out hg9)) (fun hH2 => ?_)
    clear hK Kz hHeld
    have hHeld := hH2
    clear hH2
    (try simp only [Act.put, zA, zB, zC])
    refine wpAnyH_take (i := 7) (oi := { dst := some 32, op := Op.move (Operand.tmp 39), type := 75, pos := _, after := _, guard := none }) (v := ?_) rfl (by kernel_rfl) (by kernel_rfl) (by kernel_rfl) (fun _ _ _ h => h) (Or.inl ⟨by rfl, ?_⟩) hHeld ?_
    rotate_left 1
    ·intro u hSu
     go_simp
     first | done | with_reducible rfl
    (try simp only [Act.put, zA, zB, zC])
    refine wpAnyH_take (i := 8) (oi := { dst := some 40, op := Op.extract (Operand.tmp 32) 0, type := 3, pos := _, after := _, guard := none }) (v := ?_) rfl (by kernel_rfl) (by kernel_rfl) (by kernel_rfl) (fun _ _ _ h => h) (Or.inl ⟨by rfl, ?_⟩) hHeld ?_
    rotate_left 1
    ·intro u hSu
     go_simp
     first | done | with_reducible rfl
    (try simp only [Act.put, zA, zB, zC])
    refine wpAnyH_take (i := 9) (oi := { dst := some 41, op := Op.extract (Operand.tmp 32) 1, type := 4, pos := _, after := _, guard := none }) (v := ?_) rfl (by kernel_rfl) (by kernel_rfl) (by kernel_rfl) (fun _ _ _ h => h) (Or.inl ⟨by rfl, ?_⟩) hHeld ?_
    rotate_left 1
    ·intro u hSu
     go_simp
     first | done | with_reducible rfl
    (try simp only [Act.put, zA, zB, zC])
    refine wpAnyH_take (i := 10) (oi := { dst := some 11, op := Op.assign (Operand.tmp 40), type := 3, pos := _, after := _, guard := none }) (v := ?_) rfl (by kernel_rfl) (by kernel_rfl) (by kernel_rfl) (fun _ _ _ h => h) (Or.inl ⟨by rfl, ?_⟩) hHeld ?_
    rotate_left 1
    ·intro u hSu
     go_simp
     first | done | with_reducible rfl
    (try simp only [Act.put, zA, zB, zC])
    refine wpAnyH_take (i := 11) (oi := { dst := some 12, op := Op.assign (Operand.tmp 41), type := 4, pos := _, after := _, guard := none }) (v := ?_) rfl (by kernel_rfl) (by kernel_rfl) (by kernel_rfl) (fun _ _ _ h => h) (Or.inl ⟨by rfl, ?_⟩) hHeld ?_
    rotate_left 1
    ·intro u hSu
     go_simp
     first | done | with_reducible rfl
    (try simp only [Act.put, zA, zB, zC])
    refine wpAnyH_done (by kernel_rfl) ?_ _
    obtain ⟨wa, hwa⟩ : ∃ wa, wa = w9 := ⟨_, rfl⟩
    have NA := Lib.hid (NN.out.keep hHeld.out)
    rw [← hwa] at NA ⊢
    clear hHeld hwa
    go_upto_region 10 with fail
    by_cases hdf : d < farN
    ·have hdf2 : d < 1073741824 := hdf
     by_cases hcd : c + d = v
     ·skip
      refine wp_region_held_drew (S := fun w' => Hid (wa.grownBy w' none)) (by kernel_rfl) (Lib.hid (grown_drew (grown_refl _ _))) (fun hHeld => ?_)
      refine wpAnyH_take (i := 0) (oi := { dst := some 42, op := Op.load 45 (Operand.tmp 3), type := 45, pos := _, after := _, guard := none }) (v := ?_) rfl (by kernel_rfl) (by kernel_rfl) (by kernel_rfl) (fun _ _ _ h => h) (Or.inl ⟨by rfl, ?_⟩) hHeld ?_
      rotate_left 1
      ·intro u hSu
       obtain ⟨q0, q1⟩ := row_cells (kept_row HB2.out.1 (grown_trans NA.out.gr hSu.out) (by simp))
       have q2 := HC.out u (grown_trans NA.out.gr hSu.out)
       go_simp
       first | done | with_reducible rfl
      (try simp only [Act.put, zA, zB, zC])
      refine wpAnyH_take (i := 1) (oi := { dst := some 43, op := Op.move (Operand.tmp 1), type := 22, pos := _, after := _, guard := none }) (v := ?_) rfl (by kernel_rfl) (by kernel_rfl) (by kernel_rfl) (fun _ _ _ h => h) (Or.inl ⟨by rfl, ?_⟩) hHeld ?_
      rotate_left 1
      ·intro u hSu
       go_simp
       first | done | with_reducible rfl
      (try simp only [Act.put, zA, zB, zC])
      refine wpAnyH_take (i := 2) (oi := { dst := some 44, op := Op.move (Operand.tmp 9), type := 22, pos := _, after := _, guard := none }) (v := ?_) rfl (by kernel_rfl) (by kernel_rfl) (by kernel_rfl) (fun _ _ _ h => h) (Or.inl ⟨by rfl, ?_⟩) hHeld ?_
      rotate_left 1
      ·intro u hSu
       go_simp
       first | done | with_reducible rfl
      (try simp only [Act.put, zA, zB, zC])
      refine wpAnyH_take (i := 3) (oi := { dst := some 45, op := Op.move (Operand.tmp 10), type := 3, pos := _, after := _, guard := none }) (v := ?_) rfl (by kernel_rfl) (by kernel_rfl) (by kernel_rfl) (fun _ _ _ h => h) (Or.inl ⟨by rfl, ?_⟩) hHeld ?_
      rotate_left 1
      ·intro u hSu
       go_simp
       first | done | with_reducible rfl
      (try simp only [Act.put, zA, zB, zC])
      refine wpAnyH_take (i := 4) (oi := { dst := some 46, op := Op.indexAddr 22 (Operand.tmp 44) (Operand.tmp 45), type := 0, pos := _, after := _, guard := none }) (v := ?_) rfl (by kernel_rfl) (by kernel_rfl) (by kernel_rfl) (fun _ _ _ h => h) (Or.inl ⟨by rfl, ?_⟩) hHeld ?_
      rotate_left 1
      ·intro u hSu
       go_simp
       first | done | with_reducible rfl
      (try simp only [Act.put, zA, zB, zC])
      refine wpAnyH_take (i := 5) (oi := { dst := some 47, op := Op.load 3 (Operand.tmp 46), type := 3, pos := _, after := _, guard := none }) (v := ?_) rfl (by kernel_rfl) (by kernel_rfl) (by kernel_rfl) (fun _ _ _ h => h) (Or.inl ⟨by rfl, ?_⟩) hHeld ?_
      rotate_left 1
      ·intro u hSu
       obtain ⟨q0, q1⟩ := row_cells (kept_row HB2.out.1 (grown_trans NA.out.gr hSu.out) (by simp))
       have q2 := HC.out u (grown_trans NA.out.gr hSu.out)
       go_simp
       first | done | with_reducible rfl
      (try simp only [Act.put, zA, zB, zC])
      refine wpAnyH_ready (rs := [6]) (by kernel_rfl) (by simp) ?_
      refine AllReadyH.cons (o := { dst := some 48, op := Op.call { callee := Callee.value (Operand.func 92), args := #[Operand.tmp 42, Operand.tmp 43, Operand.tmp 47], argTypes := #[45, 22, 3] }, type := 3, pos := _, after := _, guard := none }) rfl (fun Kz hK => ?_) AllReadyH.nil
      go_simp
      go_at_call 92
      refine (rat_any ⟨R, L, pR, cR, pL, cL⟩ D n A pd cd _ _ _ (HB2.out.2.2.keep (grown_trans NA.out.gr hHeld.out)) HA.out (HD2.out.keep (grown_trans NA.out.gr hHeld.out))).mono ?_
      rintro e wc1 ⟨rfl, hgc⟩
      simp only
      rw [HPR.out.2.2]
      refine hK.out _ _ (Lib.hid (grown_trans hHeld.out hgc)) (fun hH2 => ?_)
      clear hK Kz hHeld
      have hHeld := hH2
      clear hH2
      (try simp only [Act.put, zA, zB, zC])
      refine wpAnyH_take (i := 7) (oi := { dst := some 49, op := Op.binOp BinOp.lss 3 (Operand.tmp 48) (Operand.const (Value.int IntKind.i64 1073741824)) 3, type := 4, pos := _, after := _, guard := none }) (v := (.bool true)) rfl (by kernel_rfl) (by kernel_rfl) (by kernel_rfl) (fun _ _ _ h => h) (Or.inl ⟨by rfl, ?_⟩) hHeld ?_
      ·intro u hSu
       go_simp
       first | done | (simp; omega) | omega
      (try simp only [Act.put, zA, zB, zC])
      refine wpAnyH_take (i := 8) (oi := { dst := some 50, op := Op.move (Operand.tmp 49), type := 4, pos := _, after := _, guard := none }) (v := ?_) rfl (by kernel_rfl) (by kernel_rfl) (by kernel_rfl) (fun _ _ _ h => h) (Or.inl ⟨by rfl, ?_⟩) hHeld ?_
      rotate_left 1
      ·intro u hSu
       go_simp
       first | done | with_reducible rfl
      (try simp only [Act.put, zA, zB, zC])
      refine wpAnyH_take (i := 9) (oi := { dst := some 51, op := Op.move (Operand.tmp 11), type := 3, pos := _, after := _, guard := some (8, true) }) (v := ?_) rfl (by kernel_rfl) (by kernel_rfl) (by kernel_rfl) (fun _ _ _ h => h) (Or.inl ⟨by rfl, ?_⟩) hHeld ?_
      rotate_left 1
      ·intro u hSu
       go_simp
       first | done | with_reducible rfl
      (try simp only [Act.put, zA, zB, zC])
      refine wpAnyH_take (i := 10) (oi := { dst := some 52, op := Op.load 45 (Operand.tmp 3), type := 45, pos := _, after := _, guard := some (8, true) }) (v := ?_) rfl (by kernel_rfl) (by kernel_rfl) (by kernel_rfl) (fun _ _ _ h => h) (Or.inl ⟨by rfl, ?_⟩) hHeld ?_
      rotate_left 1
      ·intro u hSu
       obtain ⟨q0, q1⟩ := row_cells (kept_row HB2.out.1 (grown_trans NA.out.gr hSu.out) (by simp))
       have q2 := HC.out u (grown_trans NA.out.gr hSu.out)
       go_simp
       first | done | with_reducible rfl
      (try simp only [Act.put, zA, zB, zC])
      refine wpAnyH_take (i := 11) (oi := { dst := some 53, op := Op.move (Operand.tmp 1), type := 22, pos := _, after := _, guard := some (8, true) }) (v := ?_) rfl (by kernel_rfl) (by kernel_rfl) (by kernel_rfl) (fun _ _ _ h => h) (Or.inl ⟨by rfl, ?_⟩) hHeld ?_
      rotate_left 1
      ·intro u hSu
       go_simp
       first | done | with_reducible rfl
      (try simp only [Act.put, zA, zB, zC])
      refine wpAnyH_take (i := 12) (oi := { dst := some 54, op := Op.move (Operand.tmp 9), type := 22, pos := _, after := _, guard := some (8, true) }) (v := ?_) rfl (by kernel_rfl) (by kernel_rfl) (by kernel_rfl) (fun _ _ _ h => h) (Or.inl ⟨by rfl, ?_⟩) hHeld ?_
      rotate_left 1
      ·intro u hSu
       go_simp
       first | done | with_reducible rfl
      (try simp only [Act.put, zA, zB, zC])
      refine wpAnyH_take (i := 13) (oi := { dst := some 55, op := Op.move (Operand.tmp 10), type := 3, pos := _, after := _, guard := some (8, true) }) (v := ?_) rfl (by kernel_rfl) (by kernel_rfl) (by kernel_rfl) (fun _ _ _ h => h) (Or.inl ⟨by rfl, ?_⟩) hHeld ?_
      rotate_left 1
      ·intro u hSu
       go_simp
       first | done | with_reducible rfl
      (try simp only [Act.put, zA, zB, zC])
      refine wpAnyH_take (i := 14) (oi := { dst := some 56, op := Op.indexAddr 22 (Operand.tmp 54) (Operand.tmp 55), type := 0, pos := _, after := _, guard := some (8, true) }) (v := ?_) rfl (by kernel_rfl) (by kernel_rfl) (by kernel_rfl) (fun _ _ _ h => h) (Or.inl ⟨by rfl, ?_⟩) hHeld ?_
      rotate_left 1
      ·intro u hSu
       go_simp
       first | done | with_reducible rfl
      (try simp only [Act.put, zA, zB, zC])
      refine wpAnyH_take (i := 15) (oi := { dst := some 57, op := Op.load 3 (Operand.tmp 56), type := 3, pos := _, after := _, guard := some (8, true) }) (v := ?_) rfl (by kernel_rfl) (by kernel_rfl) (by kernel_rfl) (fun _ _ _ h => h) (Or.inl ⟨by rfl, ?_⟩) hHeld ?_
      rotate_left 1
      ·intro u hSu
       obtain ⟨q0, q1⟩ := row_cells (kept_row HB2.out.1 (grown_trans NA.out.gr hSu.out) (by simp))
       have q2 := HC.out u (grown_trans NA.out.gr hSu.out)
       go_simp
       first | done | with_reducible rfl
      (try simp only [Act.put, zA, zB, zC])
      refine wpAnyH_take (i := 18) (oi := { dst := some 60, op := Op.move (Operand.tmp 8), type := 3, pos := _, after := _, guard := some (8, true) }) (v := ?_) rfl (by kernel_rfl) (by kernel_rfl) (by kernel_rfl) (fun _ _ _ h => h) (Or.inl ⟨by rfl, ?_⟩) hHeld ?_
      rotate_left 1
      ·intro u hSu
       go_simp
       first | done | with_reducible rfl
      (try simp only [Act.put, zA, zB, zC])
      refine wpAnyH_ready (rs := [16]) (by kernel_rfl) (by simp) ?_
      refine AllReadyH.cons (o := { dst := some 58, op := Op.call { callee := Callee.value (Operand.func 92), args := #[Operand.tmp 52, Operand.tmp 53, Operand.tmp 57], argTypes := #[45, 22, 3] }, type := 3, pos := _, after := _, guard := some (8, true) }) rfl (fun Kz hK => ?_) AllReadyH.nil
      go_simp
      go_at_call 92
      refine (rat_any ⟨R, L, pR, cR, pL, cL⟩ D n A pd cd _ _ _ (HB2.out.2.2.keep (grown_trans NA.out.gr hHeld.out)) HA.out (HD2.out.keep (grown_trans NA.out.gr hHeld.out))).mono ?_
      rintro e wc2 ⟨rfl, hgc⟩
      simp only
      rw [HPR.out.2.2]
      refine hK.out _ _ (Lib.hid (grown_trans hHeld.out hgc)) (fun hH2 => ?_)
      clear hK Kz hHeld
      have hHeld := hH2
      clear hH2
      (try simp only [Act.put, zA, zB, zC])
      refine wpAnyH_take (i := 17) (oi := { dst := some 59, op := Op.binOp BinOp.add 3 (Operand.tmp 51) (Operand.tmp 58) 3, type := 3, pos := _, after := _, guard := some (8, true) }) (v := (.int .i64 (c + d))) rfl (by kernel_rfl) (by kernel_rfl) (by kernel_rfl) (fun _ _ _ h => h) (Or.inl ⟨by rfl, ?_⟩) hHeld ?_
      ·intro u hSu
       go_simp
       first | done | exact Go.IntWalk.i64_in _ (by omega) | omega
      (try simp only [Act.put, zA, zB, zC])
      refine wpAnyH_take (i := 19) (oi := { dst := some 61, op := Op.binOp BinOp.eql 3 (Operand.tmp 59) (Operand.tmp 60) 3, type := 4, pos := _, after := _, guard := some (8, true) }) (v := (.bool true)) rfl (by kernel_rfl) (by kernel_rfl) (by kernel_rfl) (fun _ _ _ h => h) (Or.inl ⟨by rfl, ?_⟩) hHeld ?_
      ·intro u hSu
       go_simp
       first | done | (simp; omega) | omega
      (try simp only [Act.put, zA, zB, zC])
      refine wpAnyH_take (i := 20) (oi := { dst := some 62, op := Op.pick (Operand.tmp 50) (Operand.tmp 61) (Operand.const (Value.bool false)), type := 4, pos := _, after := _, guard := none }) (v := ?_) rfl (by kernel_rfl) (by kernel_rfl) (by kernel_rfl) (fun _ _ _ h => h) (Or.inl ⟨by rfl, ?_⟩) hHeld ?_
      rotate_left 1
      ·intro u hSu
       go_simp
       first | done | with_reducible rfl
      (try simp only [Act.put, zA, zB, zC])
      refine wpAnyH_done (by kernel_rfl) ?_ _
      obtain ⟨wz, hwz⟩ : ∃ wz, wz = wc2 := ⟨_, rfl⟩
      have NZ := Lib.hid (NA.out.keep hHeld.out)
      rw [← hwz] at NZ ⊢
      clear hHeld hwz NA NN
      have HS2 : Hid ((N.take (k + 1)).filter (okS R L D v x) = B ++ [n]) := Lib.hid (by rw [HS.out, HP.out, decide_eq_true hdf, decide_eq_true hcd]; rfl)
      have hown := NZ.out.own
      have hsz := NZ.out.gr.size
      have d0 := HC.out wz NZ.out.gr
      clear HC
      go_wp2_with (at_builtin; refine hold_on ?_)
      refine Lib.hid ?_
      refine wpList_append_lies _ rfl _ _ 22 rfl w2.heap.size 3 i0 (.int .i64 0) 1 8 Tryz.underlying22 hi hz0 hz1 hz2 rfl (by decide) _ _ _ rfl (hown.alloc _) ⟨wz.heap.size, 0, none⟩ 1 1 [.int .i64 n] rfl rfl ?c1 ?c2 (by decide) ?c3 ?c4 ?c5 _ rfl ?_
      try (case c1 => exact cell_one _ _ _)
      case c2 => (intro u hu; simp at hu; rcases hu with rfl; rfl)
      case c3 => first | omega | (unfold maxLen; omega)
      case c4 => omega
      case c5 => first | omega | (simp; omega)
      intro gq capq w8 hown8 hg8 hat8 hlt8
      obtain ⟨vq, hvq⟩ : ∃ vq, Value.slice (some ⟨gq, 0, none⟩) (B.length + 1) capq = vq := ⟨_, rfl⟩
      rw [hvq] at hown8 ⊢
      obtain ⟨n1, -⟩ := NZ.out.more (x := n) (grown_refl _ _) hown8 hg8
      have N1 : Hid (NK w2 vq ((N.take (k + 1)).filter (okS R L D v x)) w8) := Lib.hid (by rw [HS2.out]; exact n1)
      clear hvq hat8 hlt8 hg8 hown n1 hown8
      go_wp2_with fail
      exact ⟨⟨k + 1, _, rfl, by omega, congrArg _ (by omega), N1⟩, by simp only [RowKit.intOf]; omega⟩
     ·skip
      refine wp_region_held_drew (S := fun w' => Hid (wa.grownBy w' none)) (by kernel_rfl) (Lib.hid (grown_drew (grown_refl _ _))) (fun hHeld => ?_)
      refine wpAnyH_take (i := 0) (oi := { dst := some 42, op := Op.load 45 (Operand.tmp 3), type := 45, pos := _, after := _, guard := none }) (v := ?_) rfl (by kernel_rfl) (by kernel_rfl) (by kernel_rfl) (fun _ _ _ h => h) (Or.inl ⟨by rfl, ?_⟩) hHeld ?_
      rotate_left 1
      ·intro u hSu
       obtain ⟨q0, q1⟩ := row_cells (kept_row HB2.out.1 (grown_trans NA.out.gr hSu.out) (by simp))
       have q2 := HC.out u (grown_trans NA.out.gr hSu.out)
       go_simp
       first | done | with_reducible rfl
      (try simp only [Act.put, zA, zB, zC])
      refine wpAnyH_take (i := 1) (oi := { dst := some 43, op := Op.move (Operand.tmp 1), type := 22, pos := _, after := _, guard := none }) (v := ?_) rfl (by kernel_rfl) (by kernel_rfl) (by kernel_rfl) (fun _ _ _ h => h) (Or.inl ⟨by rfl, ?_⟩) hHeld ?_
      rotate_left 1
      ·intro u hSu
       go_simp
       first | done | with_reducible rfl
      (try simp only [Act.put, zA, zB, zC])
      refine wpAnyH_take (i := 2) (oi := { dst := some 44, op := Op.move (Operand.tmp 9), type := 22, pos := _, after := _, guard := none }) (v := ?_) rfl (by kernel_rfl) (by kernel_rfl) (by kernel_rfl) (fun _ _ _ h => h) (Or.inl ⟨by rfl, ?_⟩) hHeld ?_
      rotate_left 1
      ·intro u hSu
       go_simp
       first | done | with_reducible rfl
      (try simp only [Act.put, zA, zB, zC])
      refine wpAnyH_take (i := 3) (oi := { dst := some 45, op := Op.move (Operand.tmp 10), type := 3, pos := _, after := _, guard := none }) (v := ?_) rfl (by kernel_rfl) (by kernel_rfl) (by kernel_rfl) (fun _ _ _ h => h) (Or.inl ⟨by rfl, ?_⟩) hHeld ?_
      rotate_left 1
      ·intro u hSu
       go_simp
       first | done | with_reducible rfl
      (try simp only [Act.put, zA, zB, zC])
      refine wpAnyH_take (i := 4) (oi := { dst := some 46, op := Op.indexAddr 22 (Operand.tmp 44) (Operand.tmp 45), type := 0, pos := _, after := _, guard := none }) (v := ?_) rfl (by kernel_rfl) (by kernel_rfl) (by kernel_rfl) (fun _ _ _ h => h) (Or.inl ⟨by rfl, ?_⟩) hHeld ?_
      rotate_left 1
      ·intro u hSu
       go_simp
       first | done | with_reducible rfl
      (try simp only [Act.put, zA, zB, zC])
      refine wpAnyH_take (i := 5) (oi := { dst := some 47, op := Op.load 3 (Operand.tmp 46), type := 3, pos := _, after := _, guard := none }) (v := ?_) rfl (by kernel_rfl) (by kernel_rfl) (by kernel_rfl) (fun _ _ _ h => h) (Or.inl ⟨by rfl, ?_⟩) hHeld ?_
      rotate_left 1
      ·intro u hSu
       obtain ⟨q0, q1⟩ := row_cells (kept_row HB2.out.1 (grown_trans NA.out.gr hSu.out) (by simp))
       have q2 := HC.out u (grown_trans NA.out.gr hSu.out)
       go_simp
       first | done | with_reducible rfl
      (try simp only [Act.put, zA, zB, zC])
      refine wpAnyH_ready (rs := [6]) (by kernel_rfl) (by simp) ?_
      refine AllReadyH.cons (o := { dst := some 48, op := Op.call { callee := Callee.value (Operand.func 92), args := #[Operand.tmp 42, Operand.tmp 43, Operand.tmp 47], argTypes := #[45, 22, 3] }, type := 3, pos := _, after := _, guard := none }) rfl (fun Kz hK => ?_) AllReadyH.nil
      go_simp
      go_at_call 92
      refine (rat_any ⟨R, L, pR, cR, pL, cL⟩ D n A pd cd _ _ _ (HB2.out.2.2.keep (grown_trans NA.out.gr hHeld.out)) HA.out (HD2.out.keep (grown_trans NA.out.gr hHeld.out))).mono ?_
      rintro e wc1 ⟨rfl, hgc⟩
      simp only
      rw [HPR.out.2.2]
      refine hK.out _ _ (Lib.hid (grown_trans hHeld.out hgc)) (fun hH2 => ?_)
      clear hK Kz hHeld
      have hHeld := hH2
      clear hH2
      (try simp only [Act.put, zA, zB, zC])
      refine wpAnyH_take (i := 7) (oi := { dst := some 49, op := Op.binOp BinOp.lss 3 (Operand.tmp 48) (Operand.const (Value.int IntKind.i64 1073741824)) 3, type := 4, pos := _, after := _, guard := none }) (v := (.bool true)) rfl (by kernel_rfl) (by kernel_rfl) (by kernel_rfl) (fun _ _ _ h => h) (Or.inl ⟨by rfl, ?_⟩) hHeld ?_
      ·intro u hSu
       go_simp
       first | done | (simp; omega) | omega
      (try simp only [Act.put, zA, zB, zC])
      refine wpAnyH_take (i := 8) (oi := { dst := some 50, op := Op.move (Operand.tmp 49), type := 4, pos := _, after := _, guard := none }) (v := ?_) rfl (by kernel_rfl) (by kernel_rfl) (by kernel_rfl) (fun _ _ _ h => h) (Or.inl ⟨by rfl, ?_⟩) hHeld ?_
      rotate_left 1
      ·intro u hSu
       go_simp
       first | done | with_reducible rfl
      (try simp only [Act.put, zA, zB, zC])
      refine wpAnyH_take (i := 9) (oi := { dst := some 51, op := Op.move (Operand.tmp 11), type := 3, pos := _, after := _, guard := some (8, true) }) (v := ?_) rfl (by kernel_rfl) (by kernel_rfl) (by kernel_rfl) (fun _ _ _ h => h) (Or.inl ⟨by rfl, ?_⟩) hHeld ?_
      rotate_left 1
      ·intro u hSu
       go_simp
       first | done | with_reducible rfl
      (try simp only [Act.put, zA, zB, zC])
      refine wpAnyH_take (i := 10) (oi := { dst := some 52, op := Op.load 45 (Operand.tmp 3), type := 45, pos := _, after := _, guard := some (8, true) }) (v := ?_) rfl (by kernel_rfl) (by kernel_rfl) (by kernel_rfl) (fun _ _ _ h => h) (Or.inl ⟨by rfl, ?_⟩) hHeld ?_
      rotate_left 1
      ·intro u hSu
       obtain ⟨q0, q1⟩ := row_cells (kept_row HB2.out.1 (grown_trans NA.out.gr hSu.out) (by simp))
       have q2 := HC.out u (grown_trans NA.out.gr hSu.out)
       go_simp
       first | done | with_reducible rfl
      (try simp only [Act.put, zA, zB, zC])
      refine wpAnyH_take (i := 11) (oi := { dst := some 53, op := Op.move (Operand.tmp 1), type := 22, pos := _, after := _, guard := some (8, true) }) (v := ?_) rfl (by kernel_rfl) (by kernel_rfl) (by kernel_rfl) (fun _ _ _ h => h) (Or.inl ⟨by rfl, ?_⟩) hHeld ?_
      rotate_left 1
      ·intro u hSu
       go_simp
       first | done | with_reducible rfl
      (try simp only [Act.put, zA, zB, zC])
      refine wpAnyH_take (i := 12) (oi := { dst := some 54, op := Op.move (Operand.tmp 9), type := 22, pos := _, after := _, guard := some (8, true) }) (v := ?_) rfl (by kernel_rfl) (by kernel_rfl) (by kernel_rfl) (fun _ _ _ h => h) (Or.inl ⟨by rfl, ?_⟩) hHeld ?_
      rotate_left 1
      ·intro u hSu
       go_simp
       first | done | with_reducible rfl
      (try simp only [Act.put, zA, zB, zC])
      refine wpAnyH_take (i := 13) (oi := { dst := some 55, op := Op.move (Operand.tmp 10), type := 3, pos := _, after := _, guard := some (8, true) }) (v := ?_) rfl (by kernel_rfl) (by kernel_rfl) (by kernel_rfl) (fun _ _ _ h => h) (Or.inl ⟨by rfl, ?_⟩) hHeld ?_
      rotate_left 1
      ·intro u hSu
       go_simp
       first | done | with_reducible rfl
      (try simp only [Act.put, zA, zB, zC])
      refine wpAnyH_take (i := 14) (oi := { dst := some 56, op := Op.indexAddr 22 (Operand.tmp 54) (Operand.tmp 55), type := 0, pos := _, after := _, guard := some (8, true) }) (v := ?_) rfl (by kernel_rfl) (by kernel_rfl) (by kernel_rfl) (fun _ _ _ h => h) (Or.inl ⟨by rfl, ?_⟩) hHeld ?_
      rotate_left 1
      ·intro u hSu
       go_simp
       first | done | with_reducible rfl
      (try simp only [Act.put, zA, zB, zC])
      refine wpAnyH_take (i := 15) (oi := { dst := some 57, op := Op.load 3 (Operand.tmp 56), type := 3, pos := _, after := _, guard := some (8, true) }) (v := ?_) rfl (by kernel_rfl) (by kernel_rfl) (by kernel_rfl) (fun _ _ _ h => h) (Or.inl ⟨by rfl, ?_⟩) hHeld ?_
      rotate_left 1
      ·intro u hSu
       obtain ⟨q0, q1⟩ := row_cells (kept_row HB2.out.1 (grown_trans NA.out.gr hSu.out) (by simp))
       have q2 := HC.out u (grown_trans NA.out.gr hSu.out)
       go_simp
       first | done | with_reducible rfl
      (try simp only [Act.put, zA, zB, zC])
      refine wpAnyH_take (i := 18) (oi := { dst := some 60, op := Op.move (Operand.tmp 8), type := 3, pos := _, after := _, guard := some (8, true) }) (v := ?_) rfl (by kernel_rfl) (by kernel_rfl) (by kernel_rfl) (fun _ _ _ h => h) (Or.inl ⟨by rfl, ?_⟩) hHeld ?_
      rotate_left 1
      ·intro u hSu
       go_simp
       first | done | with_reducible rfl
      (try simp only [Act.put, zA, zB, zC])
      refine wpAnyH_ready (rs := [16]) (by kernel_rfl) (by simp) ?_
      refine AllReadyH.cons (o := { dst := some 58, op := Op.call { callee := Callee.value (Operand.func 92), args := #[Operand.tmp 52, Operand.tmp 53, Operand.tmp 57], argTypes := #[45, 22, 3] }, type := 3, pos := _, after := _, guard := some (8, true) }) rfl (fun Kz hK => ?_) AllReadyH.nil
      go_simp
      go_at_call 92
      refine (rat_any ⟨R, L, pR, cR, pL, cL⟩ D n A pd cd _ _ _ (HB2.out.2.2.keep (grown_trans NA.out.gr hHeld.out)) HA.out (HD2.out.keep (grown_trans NA.out.gr hHeld.out))).mono ?_
      rintro e wc2 ⟨rfl, hgc⟩
      simp only
      rw [HPR.out.2.2]
      refine hK.out _ _ (Lib.hid (grown_trans hHeld.out hgc)) (fun hH2 => ?_)
      clear hK Kz hHeld
      have hHeld := hH2
      clear hH2
      (try simp only [Act.put, zA, zB, zC])
      refine wpAnyH_take (i := 17) (oi := { dst := some 59, op := Op.binOp BinOp.add 3 (Operand.tmp 51) (Operand.tmp 58) 3, type := 3, pos := _, after := _, guard := some (8, true) }) (v := (.int .i64 (c + d))) rfl (by kernel_rfl) (by kernel_rfl) (by kernel_rfl) (fun _ _ _ h => h) (Or.inl ⟨by rfl, ?_⟩) hHeld ?_
      ·intro u hSu
       go_simp
       first | done | exact Go.IntWalk.i64_in _ (by omega) | omega
      (try simp only [Act.put, zA, zB, zC])
      refine wpAnyH_take (i := 19) (oi := { dst := some 61, op := Op.binOp BinOp.eql 3 (Operand.tmp 59) (Operand.tmp 60) 3, type := 4, pos := _, after := _, guard := some (8, true) }) (v := (.bool false)) rfl (by kernel_rfl) (by kernel_rfl) (by kernel_rfl) (fun _ _ _ h => h) (Or.inl ⟨by rfl, ?_⟩) hHeld ?_
      ·intro u hSu
       go_simp
       first | done | (simp; omega) | omega
      (try simp only [Act.put, zA, zB, zC])
      refine wpAnyH_take (i := 20) (oi := { dst := some 62, op := Op.pick (Operand.tmp 50) (Operand.tmp 61) (Operand.const (Value.bool false)), type := 4, pos := _, after := _, guard := none }) (v := ?_) rfl (by kernel_rfl) (by kernel_rfl) (by kernel_rfl) (fun _ _ _ h => h) (Or.inl ⟨by rfl, ?_⟩) hHeld ?_
      rotate_left 1
      ·intro u hSu
       go_simp
       first | done | with_reducible rfl
      (try simp only [Act.put, zA, zB, zC])
      refine wpAnyH_done (by kernel_rfl) ?_ _
      obtain ⟨wz, hwz⟩ : ∃ wz, wz = wc2 := ⟨_, rfl⟩
      have NZ := Lib.hid (NA.out.keep hHeld.out)
      rw [← hwz] at NZ ⊢
      clear hHeld hwz NA NN
      have HS2 : Hid ((N.take (k + 1)).filter (okS R L D v x) = B) := Lib.hid (by rw [HS.out, HP.out, decide_eq_true hdf, decide_eq_false hcd]; simp)
      clear HC
      go_wp2_with fail
      exact ⟨⟨k + 1, _, rfl, by omega, congrArg _ (by omega), by rw [HS2.out]; exact NZ⟩, by simp only [RowKit.intOf]; omega⟩
    ·have hdf2 : ¬ d < 1073741824 := hdf
     refine wp_region_held_drew (S := fun w' => Hid (wa.grownBy w' none)) (by kernel_rfl) (Lib.hid (grown_drew (grown_refl _ _))) (fun hHeld => ?_)
     refine wpAnyH_take (i := 0) (oi := { dst := some 42, op := Op.load 45 (Operand.tmp 3), type := 45, pos := _, after := _, guard := none }) (v := ?_) rfl (by kernel_rfl) (by kernel_rfl) (by kernel_rfl) (fun _ _ _ h => h) (Or.inl ⟨by rfl, ?_⟩) hHeld ?_
     rotate_left 1
     ·intro u hSu
      obtain ⟨q0, q1⟩ := row_cells (kept_row HB2.out.1 (grown_trans NA.out.gr hSu.out) (by simp))
      have q2 := HC.out u (grown_trans NA.out.gr hSu.out)
      go_simp
      first | done | with_reducible rfl
     (try simp only [Act.put, zA, zB, zC])
     refine wpAnyH_take (i := 1) (oi := { dst := some 43, op := Op.move (Operand.tmp 1), type := 22, pos := _, after := _, guard := none }) (v := ?_) rfl (by kernel_rfl) (by kernel_rfl) (by kernel_rfl) (fun _ _ _ h => h) (Or.inl ⟨by rfl, ?_⟩) hHeld ?_
     rotate_left 1
     ·intro u hSu
      go_simp
      first | done | with_reducible rfl
     (try simp only [Act.put, zA, zB, zC])
     refine wpAnyH_take (i := 2) (oi := { dst := some 44, op := Op.move (Operand.tmp 9), type := 22, pos := _, after := _, guard := none }) (v := ?_) rfl (by kernel_rfl) (by kernel_rfl) (by kernel_rfl) (fun _ _ _ h => h) (Or.inl ⟨by rfl, ?_⟩) hHeld ?_
     rotate_left 1
     ·intro u hSu
      go_simp
      first | done | with_reducible rfl
     (try simp only [Act.put, zA, zB, zC])
     refine wpAnyH_take (i := 3) (oi := { dst := some 45, op := Op.move (Operand.tmp 10), type := 3, pos := _, after := _, guard := none }) (v := ?_) rfl (by kernel_rfl) (by kernel_rfl) (by kernel_rfl) (fun _ _ _ h => h) (Or.inl ⟨by rfl, ?_⟩) hHeld ?_
     rotate_left 1
     ·intro u hSu
      go_simp
      first | done | with_reducible rfl
     (try simp only [Act.put, zA, zB, zC])
     refine wpAnyH_take (i := 4) (oi := { dst := some 46, op := Op.indexAddr 22 (Operand.tmp 44) (Operand.tmp 45), type := 0, pos := _, after := _, guard := none }) (v := ?_) rfl (by kernel_rfl) (by kernel_rfl) (by kernel_rfl) (fun _ _ _ h => h) (Or.inl ⟨by rfl, ?_⟩) hHeld ?_
     rotate_left 1
     ·intro u hSu
      go_simp
      first | done | with_reducible rfl
     (try simp only [Act.put, zA, zB, zC])
     refine wpAnyH_take (i := 5) (oi := { dst := some 47, op := Op.load 3 (Operand.tmp 46), type := 3, pos := _, after := _, guard := none }) (v := ?_) rfl (by kernel_rfl) (by kernel_rfl) (by kernel_rfl) (fun _ _ _ h => h) (Or.inl ⟨by rfl, ?_⟩) hHeld ?_
     rotate_left 1
     ·intro u hSu
      obtain ⟨q0, q1⟩ := row_cells (kept_row HB2.out.1 (grown_trans NA.out.gr hSu.out) (by simp))
      have q2 := HC.out u (grown_trans NA.out.gr hSu.out)
      go_simp
      first | done | with_reducible rfl
     (try simp only [Act.put, zA, zB, zC])
     refine wpAnyH_ready (rs := [6]) (by kernel_rfl) (by simp) ?_
     refine AllReadyH.cons (o := { dst := some 48, op := Op.call { callee := Callee.value (Operand.func 92), args := #[Operand.tmp 42, Operand.tmp 43, Operand.tmp 47], argTypes := #[45, 22, 3] }, type := 3, pos := _, after := _, guard := none }) rfl (fun Kz hK => ?_) AllReadyH.nil
     go_simp
     go_at_call 92
     refine (rat_any ⟨R, L, pR, cR, pL, cL⟩ D n A pd cd _ _ _ (HB2.out.2.2.keep (grown_trans NA.out.gr hHeld.out)) HA.out (HD2.out.keep (grown_trans NA.out.gr hHeld.out))).mono ?_
     rintro e wc1 ⟨rfl, hgc⟩
     simp only
     rw [HPR.out.2.2]
     refine hK.out _ _ (Lib.hid (grown_trans hHeld.out hgc)) (fun hH2 => ?_)
     clear hK Kz hHeld
     have hHeld := hH2
     clear hH2
     (try simp only [Act.put, zA, zB, zC])
     refine wpAnyH_take (i := 7) (oi := { dst := some 49, op := Op.binOp BinOp.lss 3 (Operand.tmp 48) (Operand.const (Value.int IntKind.i64 1073741824)) 3, type := 4, pos := _, after := _, guard := none }) (v := (.bool false)) rfl (by kernel_rfl) (by kernel_rfl) (by kernel_rfl) (fun _ _ _ h => h) (Or.inl ⟨by rfl, ?_⟩) hHeld ?_
     ·intro u hSu
      go_simp
      first | done | (simp; omega) | omega
     (try simp only [Act.put, zA, zB, zC])
     refine wpAnyH_take (i := 8) (oi := { dst := some 50, op := Op.move (Operand.tmp 49), type := 4, pos := _, after := _, guard := none }) (v := ?_) rfl (by kernel_rfl) (by kernel_rfl) (by kernel_rfl) (fun _ _ _ h => h) (Or.inl ⟨by rfl, ?_⟩) hHeld ?_
     rotate_left 1
     ·intro u hSu
      go_simp
      first | done | with_reducible rfl
     (try simp only [Act.put, zA, zB, zC])
     refine wpAnyH_take (i := 9) (oi := { dst := some 51, op := Op.move (Operand.tmp 11), type := 3, pos := _, after := _, guard := some (8, true) }) (v := undef) rfl (by kernel_rfl) (by kernel_rfl) (by kernel_rfl) (fun _ _ _ h => h) (Or.inr ⟨by rfl, rfl⟩) hHeld ?_
     (try simp only [Act.put, zA, zB, zC])
     refine wpAnyH_take (i := 10) (oi := { dst := some 52, op := Op.load 45 (Operand.tmp 3), type := 45, pos := _, after := _, guard := some (8, true) }) (v := undef) rfl (by kernel_rfl) (by kernel_rfl) (by kernel_rfl) (fun _ _ _ h => h) (Or.inr ⟨by rfl, rfl⟩) hHeld ?_
     (try simp only [Act.put, zA, zB, zC])
     refine wpAnyH_take (i := 11) (oi := { dst := some 53, op := Op.move (Operand.tmp 1), type := 22, pos := _, after := _, guard := some (8, true) }) (v := undef) rfl (by kernel_rfl) (by kernel_rfl) (by kernel_rfl) (fun _ _ _ h => h) (Or.inr ⟨by rfl, rfl⟩) hHeld ?_
     (try simp only [Act.put, zA, zB, zC])
     refine wpAnyH_take (i := 12) (oi := { dst := some 54, op := Op.move (Operand.tmp 9), type := 22, pos := _, after := _, guard := some (8, true) }) (v := undef) rfl (by kernel_rfl) (by kernel_rfl) (by kernel_rfl) (fun _ _ _ h => h) (Or.inr ⟨by rfl, rfl⟩) hHeld ?_
     (try simp only [Act.put, zA, zB, zC])
     refine wpAnyH_take (i := 13) (oi := { dst := some 55, op := Op.move (Operand.tmp 10), type := 3, pos := _, after := _, guard := some (8, true) }) (v := undef) rfl (by kernel_rfl) (by kernel_rfl) (by kernel_rfl) (fun _ _ _ h => h) (Or.inr ⟨by rfl, rfl⟩) hHeld ?_
     (try simp only [Act.put, zA, zB, zC])
     refine wpAnyH_take (i := 14) (oi := { dst := some 56, op := Op.indexAddr 22 (Operand.tmp 54) (Operand.tmp 55), type := 0, pos := _, after := _, guard := some (8, true) }) (v := undef) rfl (by kernel_rfl) (by kernel_rfl) (by kernel_rfl) (fun _ _ _ h => h) (Or.inr ⟨by rfl, rfl⟩) hHeld ?_
     (try simp only [Act.put, zA, zB, zC])
     refine wpAnyH_take (i := 15) (oi := { dst := some 57, op := Op.load 3 (Operand.tmp 56), type := 3, pos := _, after := _, guard := some (8, true) }) (v := undef) rfl (by kernel_rfl) (by kernel_rfl) (by kernel_rfl) (fun _ _ _ h => h) (Or.inr ⟨by rfl, rfl⟩) hHeld ?_
     (try simp only [Act.put, zA, zB, zC])
     refine wpAnyH_take (i := 16) (oi := { dst := some 58, op := Op.call { callee := Callee.value (Operand.func 92), args := #[Operand.tmp 52, Operand.tmp 53, Operand.tmp 57], argTypes := #[45, 22, 3] }, type := 3, pos := _, after := _, guard := some (8, true) }) (v := undef) rfl (by kernel_rfl) (by kernel_rfl) (by kernel_rfl) (fun _ _ _ h => h) (Or.inr ⟨by rfl, rfl⟩) hHeld ?_
     (try simp only [Act.put, zA, zB, zC])
     refine wpAnyH_take (i := 17) (oi := { dst := some 59, op := Op.binOp BinOp.add 3 (Operand.tmp 51) (Operand.tmp 58) 3, type := 3, pos := _, after := _, guard := some (8, true) }) (v := undef) rfl (by kernel_rfl) (by kernel_rfl) (by kernel_rfl) (fun _ _ _ h => h) (Or.inr ⟨by rfl, rfl⟩) hHeld ?_
     (try simp only [Act.put, zA, zB, zC])
     refine wpAnyH_take (i := 18) (oi := { dst := some 60, op := Op.move (Operand.tmp 8), type := 3, pos := _, after := _, guard := some (8, true) }) (v := undef) rfl (by kernel_rfl) (by kernel_rfl) (by kernel_rfl) (fun _ _ _ h => h) (Or.inr ⟨by rfl, rfl⟩) hHeld ?_
     (try simp only [Act.put, zA, zB, zC])
     refine wpAnyH_take (i := 19) (oi := { dst := some 61, op := Op.binOp BinOp.eql 3 (Operand.tmp 59) (Operand.tmp 60) 3, type := 4, pos := _, after := _, guard := some (8, true) }) (v := undef) rfl (by kernel_rfl) (by kernel_rfl) (by kernel_rfl) (fun _ _ _ h => h) (Or.inr ⟨by rfl, rfl⟩) hHeld ?_
     (try simp only [Act.put, zA, zB, zC])
     refine wpAnyH_take (i := 20) (oi := { dst := some 62, op := Op.pick (Operand.tmp 50) (Operand.tmp 61) (Operand.const (Value.bool false)), type := 4, pos := _, after := _, guard := none }) (v := ?_) rfl (by kernel_rfl) (by kernel_rfl) (by kernel_rfl) (fun _ _ _ h => h) (Or.inl ⟨by rfl, ?_⟩) hHeld ?_
     rotate_left 1
     ·intro u hSu
      go_simp
      first | done | with_reducible rfl
     (try simp only [Act.put, zA, zB, zC])
     refine wpAnyH_done (by kernel_rfl) ?_ _
     obtain ⟨wz, hwz⟩ : ∃ wz, wz = wc1 := ⟨_, rfl⟩
     have NZ := Lib.hid (NA.out.keep hHeld.out)
     rw [← hwz] at NZ ⊢
     clear hHeld hwz NA NN
     have HS2 : Hid ((N.take (k + 1)).filter (okS R L D v x) = B) := Lib.hid (by rw [HS.out, HP.out, decide_eq_false hdf]; simp)
     clear HC
     go_wp2_with fail
     exact ⟨⟨k + 1, _, rfl, by omega, congrArg _ (by omega), by rw [HS2.out]; exact NZ⟩, by simp only [RowKit.intOf]; omega⟩
   ·obtain rfl : k = N.length := by omega
    have hN := NN.out
    rw [List.take_length, ← HX2.out] at hN
    have H9 := Lib.hid (hN.base HB2.out.2.1).ret
    clear hN NN
    go_wp2_with fail
    go_ret
    obtain ⟨p, c, rfl, h3⟩ := H9.out
    exact ⟨p, c, rfl, h3⟩
end Go.Proofs.YtahafijpcmphaaaGreat
