/- Parts of the proof, packed: ShRCo. -/
import Derived.Test.YtlefjdglcdopeaaUn20
import Derived.Test.YtlefjdglcdopeaaUn21
import Derived.Test.YtlefjdglcdopeaaUn11
/- The reference's Cost, Next and Route. -/
namespace Go.Proofs.Ytlefjdglcdopeaa
open Go.RowKit Bs
set_option maxRecDepth 100000 in
theorem toK_bd {R : List Rt} {L : List Lk} (h : okT R L = true) (z : Int) (k : Nat) (v : Int) : 0 ≤ toK L z k v ∧ toK L z k v ≤ farN := toJ_bd h z k 0 v
set_option maxRecDepth 100000 in
theorem dst_no2 {R : List Rt} {L : List Lk} {a z : Int} (h : hasV R L a = false ∨ hasV R L z = false) : dst R L a z = none := by
  cases hd : dst R L a z with
  | none => rfl
  | some d =>
    obtain ⟨h1, h2, h3⟩ := dst_both hd
    rcases h with h | h
    · rw [hasV_iff.2 ⟨h1, h2⟩] at h; cases h
    · rw [hasV_iff.2 ⟨h1, h3⟩] at h; cases h
set_option maxRecDepth 100000 in
set_option maxHeartbeats 6400000 in
theorem rcst_any (T : Tg) (a z : Int) (q : Nat → Prop) (w : World) (hT : TgOk w q T) :
    Calls Try.prog 56 #[.agg #[.slice T.pR T.R.length T.cR, .slice T.pL T.L.length T.cL], .int .i64 a, .int .i64 z] w fun e w' => e = .returned (.tuple #[.int .i64 ((dst T.R T.L a z).getD 0), .bool (dst T.R T.L a z).isSome]) ∧ w.grownBy w' none := by
  obtain ⟨R, L, pR, cR, pL, cL⟩ := T
  simp only at *
  obtain ⟨k1, k2⟩ := tone_box w #[.slice pR R.length cR, .slice pL L.length cL] 28
  have HB := Lib.hid (And.intro k1 (And.intro k2 (hT.keep k2)))
  clear k1 k2 hT
  obtain ⟨X, hX⟩ : ∃ X, dst R L a z = X := ⟨_, rfl⟩
  have HX := Lib.hid hX
  rw [hX]
  clear hX
  go_enter Try.func56, Try.ntmps56
  go_upto_region 1 with fail
  generalize w.alloc _ = wb at *
  obtain ⟨c0, c1⟩ := row_cells HB.out.1
  cases ha : hasV R L a with
  | false =>
    have HA : Hid (hasV R L a = false ∨ hasV R L z = false) := Lib.hid (.inl ha)
    have H1 := Lib.hid ha
    clear ha
    go_wp2_with fail
    refine (rhasV_any ⟨R, L, pR, cR, pL, cL⟩ a _ wb HB.out.2.2).mono ?_
    rintro e w1 ⟨rfl, hg⟩
    simp only
    rw [H1.out]
    have HG := Lib.hid (grown_trans HB.out.2.1 hg)
    clear hg c0 c1
    go_wp2_with fail
    go_ret2
    obtain rfl : X = none := by rw [← HX.out]; exact dst_no2 HA.out
    exact ⟨rfl, HG.out⟩
  | true =>
    cases hz : hasV R L z with
    | false =>
      have HA : Hid (hasV R L a = false ∨ hasV R L z = false) := Lib.hid (.inr hz)
      have H1 := Lib.hid ha
      have H2 := Lib.hid hz
      clear ha hz
      go_wp2_with fail
      refine (rhasV_any ⟨R, L, pR, cR, pL, cL⟩ a _ wb HB.out.2.2).mono ?_
      rintro e w1 ⟨rfl, hg⟩
      simp only
      rw [H1.out]
      have HB1 := Lib.hid (And.intro (kept_row HB.out.1 hg (by simp)) (And.intro (grown_trans HB.out.2.1 hg) (HB.out.2.2.keep hg)))
      clear hg c0 c1 HB
      obtain ⟨c0, c1⟩ := row_cells HB1.out.1
      go_wp2_with fail
      refine (rhasV_any ⟨R, L, pR, cR, pL, cL⟩ z _ w1 HB1.out.2.2).mono ?_
      rintro e w2 ⟨rfl, hg⟩
      simp only
      rw [H2.out]
      have HG := Lib.hid (grown_trans HB1.out.2.1 hg)
      clear hg c0 c1
      go_wp2_with fail
      go_ret2
      obtain rfl : X = none := by rw [← HX.out]; exact dst_no2 HA.out
      exact ⟨rfl, HG.out⟩
    | true =>
      have H1 := Lib.hid ha
      have H2 := Lib.hid hz
      clear ha hz
      go_wp2_with fail
      refine (rhasV_any ⟨R, L, pR, cR, pL, cL⟩ a _ wb HB.out.2.2).mono ?_
      rintro e w1 ⟨rfl, hg⟩
      simp only
      rw [H1.out]
      have HB1 := Lib.hid (And.intro (kept_row HB.out.1 hg (by simp)) (And.intro (grown_trans HB.out.2.1 hg) (HB.out.2.2.keep hg)))
      clear hg c0 c1 HB
      obtain ⟨c0, c1⟩ := row_cells HB1.out.1
      go_wp2_with fail
      refine (rhasV_any ⟨R, L, pR, cR, pL, cL⟩ z _ w1 HB1.out.2.2).mono ?_
      rintro e w2 ⟨rfl, hg⟩
      simp only
      rw [H2.out]
      have HB2 := Lib.hid (And.intro (kept_row HB1.out.1 hg (by simp)) (And.intro (grown_trans HB1.out.2.1 hg) (HB1.out.2.2.keep hg)))
      clear hg c0 c1 HB1
      obtain ⟨c0, c1⟩ := row_cells HB2.out.1
      go_upto_region 3 with fail
      refine wp_region_held_drew (S := fun w' => Hid (w2.grownBy w' none)) (by kernel_rfl) (Lib.hid (grown_drew (grown_refl _ _))) (fun hHeld => ?_)
      refine wpAnyH_take (i := 0) (oi := { dst := some 19, op := Op.load 28 (Operand.tmp 3), type := 28, pos := "ref.go:62", after := #[], guard := none }) (v := ?_) rfl (by kernel_rfl) (by kernel_rfl) (by kernel_rfl) (fun _ _ _ h => h) (Or.inl ⟨by rfl, ?_⟩) hHeld ?_
      rotate_left 1
      · intro u hSu
        obtain ⟨q0, q1⟩ := row_cells (kept_row HB2.out.1 hSu.out (by simp))
        go_simp
        first | done | with_reducible rfl
      (try simp only [Act.put, List.setIfInBounds_toArray, List.set_cons_zero, List.set_cons_succ])
      refine wpAnyH_take (i := 1) (oi := { dst := some 20, op := Op.load 28 (Operand.tmp 3), type := 28, pos := "ref.go:62", after := #[], guard := none }) (v := ?_) rfl (by kernel_rfl) (by kernel_rfl) (by kernel_rfl) (fun _ _ _ h => h) (Or.inl ⟨by rfl, ?_⟩) hHeld ?_
      rotate_left 1
      · intro u hSu
        obtain ⟨q0, q1⟩ := row_cells (kept_row HB2.out.1 hSu.out (by simp))
        go_simp
        first | done | with_reducible rfl
      (try simp only [Act.put, List.setIfInBounds_toArray, List.set_cons_zero, List.set_cons_succ])
      refine wpAnyH_take (i := 2) (oi := { dst := some 21, op := Op.move (Operand.tmp 2), type := 3, pos := "ref.go:62", after := #[], guard := none }) (v := ?_) rfl (by kernel_rfl) (by kernel_rfl) (by kernel_rfl) (fun _ _ _ h => h) (Or.inl ⟨by rfl, ?_⟩) hHeld ?_
      rotate_left 1
      · intro u hSu
        obtain ⟨q0, q1⟩ := row_cells (kept_row HB2.out.1 hSu.out (by simp))
        go_simp
        first | done | with_reducible rfl
      (try simp only [Act.put, List.setIfInBounds_toArray, List.set_cons_zero, List.set_cons_succ])
      refine wpAnyH_take (i := 4) (oi := { dst := some 23, op := Op.move (Operand.tmp 1), type := 3, pos := "ref.go:62", after := #[], guard := none }) (v := ?_) rfl (by kernel_rfl) (by kernel_rfl) (by kernel_rfl) (fun _ _ _ h => h) (Or.inl ⟨by rfl, ?_⟩) hHeld ?_
      rotate_left 1
      · intro u hSu
        obtain ⟨q0, q1⟩ := row_cells (kept_row HB2.out.1 hSu.out (by simp))
        go_simp
        first | done | with_reducible rfl
      (try simp only [Act.put, List.setIfInBounds_toArray, List.set_cons_zero, List.set_cons_succ])
      refine wpAnyH_ready (rs := [3]) (by kernel_rfl) (by simp) ?_
      refine AllReadyH.cons (o := { dst := some 22, op := Op.call { callee := Callee.value (Operand.func 46), args := #[Operand.tmp 20, Operand.tmp 21], argTypes := #[28, 3] }, type := 22, pos := "ref.go:62", after := #[{ on := 1, ground := Ground.data }, { on := 2, ground := Ground.data }], guard := none }) rfl (fun Kz hK => ?_) AllReadyH.nil
      go_simp
      go_at_call 46
      refine (rto_any ⟨R, L, pR, cR, pL, cL⟩ z _ _ (HB2.out.2.2.keep hHeld.out) H2.out).mono ?_
      rintro e wt ⟨pt, ct, rfl, hrt, -, -, hgt⟩
      (try simp only at hrt ⊢)
      obtain ⟨A, hA⟩ : ∃ A, (ids R).map (toK L z R.length) = A := ⟨_, rfl⟩
      rw [hA] at hrt ⊢
      have HAT : Hid (Rd wt (fun _ => True) (.slice pt A.length ct) (A.map tv)) := Lib.hid (hrt.mono (fun _ _ => trivial))
      have HAE := Lib.hid hA.symm
      clear hrt hA
      refine hK.out _ _ (Lib.hid (grown_trans hHeld.out hgt)) (fun hH2 => ?_)
      clear hK Kz hHeld
      have hHeld := hH2
      clear hH2
      (try simp only [Act.put, List.setIfInBounds_toArray, List.set_cons_zero, List.set_cons_succ])
      refine wpAnyH_ready (rs := [5]) (by kernel_rfl) (by simp) ?_
      refine AllReadyH.cons (o := { dst := some 24, op := Op.call { callee := Callee.value (Operand.func 48), args := #[Operand.tmp 19, Operand.tmp 22, Operand.tmp 23], argTypes := #[28, 22, 3] }, type := 3, pos := "ref.go:62", after := #[{ on := 0, ground := Ground.data }, { on := 3, ground := Ground.data }, { on := 4, ground := Ground.data }, { on := 3, ground := Ground.chain }], guard := none }) rfl (fun Kz hK => ?_) AllReadyH.nil
      go_simp
      go_at_call 48
      refine (rat_any ⟨R, L, pR, cR, pL, cL⟩ (toK L z R.length) a A pt ct _ _ _ (HB2.out.2.2.keep hHeld.out) HAE.out HAT.out).mono ?_
      rintro e wc ⟨rfl, hgc⟩
      simp only
      rw [at_dst H2.out a, HX.out]
      refine hK.out _ _ (Lib.hid (grown_trans hHeld.out hgc)) (fun hH2 => ?_)
      clear hK Kz hHeld
      have hHeld := hH2
      clear hH2
      (try simp only [Act.put, List.setIfInBounds_toArray, List.set_cons_zero, List.set_cons_succ])
      refine wpAnyH_take (i := 6) (oi := { dst := some 8, op := Op.assign (Operand.tmp 24), type := 3, pos := "ref.go:62", after := #[{ on := 5, ground := Ground.data }, { on := 5, ground := Ground.chain }, { on := 0, ground := Ground.phase }, { on := 1, ground := Ground.phase }, { on := 2, ground := Ground.phase }, { on := 3, ground := Ground.phase }, { on := 4, ground := Ground.phase }, { on := 5, ground := Ground.phase }], guard := none }) (v := ?_) rfl (by kernel_rfl) (by kernel_rfl) (by kernel_rfl) (fun _ _ _ h => h) (Or.inl ⟨by rfl, ?_⟩) hHeld ?_
      rotate_left 1
      · intro u hSu
        obtain ⟨q0, q1⟩ := row_cells (kept_row HB2.out.1 hSu.out (by simp))
        go_simp
        first | done | with_reducible rfl
      (try simp only [Act.put, List.setIfInBounds_toArray, List.set_cons_zero, List.set_cons_succ])
      refine wpAnyH_done (by kernel_rfl) ?_ _
      have HG9 := Lib.hid (grown_trans HB2.out.2.1 hHeld.out)
      obtain ⟨w9, hw9⟩ : ∃ w9, w9 = wc := ⟨_, rfl⟩
      rw [← hw9] at HG9 ⊢
      clear hHeld hw9 HAT HAE c0 c1
      cases X with
      | none =>
        simp only [Option.getD_none]
        have hff : (farN == 1073741824) = true := rfl
        go_wp2_with fail
        go_ret2
        exact ⟨rfl, HG9.out⟩
      | some d =>
        have hdb := (dst_bd HX.out).1
        have hff : (d == 1073741824) = false := by rw [beq_eq_false_iff_ne]; omega
        simp only [Option.getD_some]
        go_wp2_with fail
        go_ret2
        exact ⟨rfl, HG9.out⟩
set_option maxRecDepth 100000 in
set_option maxHeartbeats 6400000 in
theorem rnx_any (T : Tg) (a z : Int) (q : Nat → Prop) (w : World) (hT : TgOk w q T) :
    Calls Try.prog 16 #[.agg #[.slice T.pR T.R.length T.cR, .slice T.pL T.L.length T.cL], .int .i64 a, .int .i64 z] w fun e w' => TRet (nxt T.R T.L a z) w e w' := by
  obtain ⟨R, L, pR, cR, pL, cL⟩ := T
  simp only at *
  obtain ⟨k1, k2⟩ := tone_box w #[.slice pR R.length cR, .slice pL L.length cL] 28
  have HB := Lib.hid (And.intro k1 (And.intro k2 (hT.keep k2)))
  clear k1 k2 hT
  obtain ⟨X, hX⟩ : ∃ X, nxt R L a z = X := ⟨_, rfl⟩
  have HX := Lib.hid hX
  rw [hX]
  clear hX
  go_enter Try.func16, Try.ntmps16
  go_upto_region 1 with fail
  generalize w.alloc _ = wb at *
  obtain ⟨c0, c1⟩ := row_cells HB.out.1
  cases ha : hasV R L a with
  | false =>
    have HA : Hid (hasV R L a = false ∨ hasV R L z = false) := Lib.hid (.inl ha)
    have H1 := Lib.hid ha
    clear ha
    go_wp2_with fail
    refine (rhasV_any ⟨R, L, pR, cR, pL, cL⟩ a _ wb HB.out.2.2).mono ?_
    rintro e w1 ⟨rfl, hg⟩
    simp only
    rw [H1.out]
    have HG := Lib.hid (grown_trans HB.out.2.1 hg)
    clear hg c0 c1
    go_wp2_with fail
    go_ret
    obtain rfl : X = [] := by rw [← HX.out]; exact nxt_no HA.out
    exact ⟨none, 0, rfl, ⟨none, 0, rfl, fun hne => absurd rfl hne⟩, ⟨Nat.le_refl _, by decide⟩, fun _ => rfl, HG.out⟩
  | true =>
    cases hz : hasV R L z with
    | false =>
      have HA : Hid (hasV R L a = false ∨ hasV R L z = false) := Lib.hid (.inr hz)
      have H1 := Lib.hid ha
      have H2 := Lib.hid hz
      clear ha hz
      go_wp2_with fail
      refine (rhasV_any ⟨R, L, pR, cR, pL, cL⟩ a _ wb HB.out.2.2).mono ?_
      rintro e w1 ⟨rfl, hg⟩
      simp only
      rw [H1.out]
      have HB1 := Lib.hid (And.intro (kept_row HB.out.1 hg (by simp)) (And.intro (grown_trans HB.out.2.1 hg) (HB.out.2.2.keep hg)))
      clear hg c0 c1 HB
      obtain ⟨c0, c1⟩ := row_cells HB1.out.1
      go_wp2_with fail
      refine (rhasV_any ⟨R, L, pR, cR, pL, cL⟩ z _ w1 HB1.out.2.2).mono ?_
      rintro e w2 ⟨rfl, hg⟩
      simp only
      rw [H2.out]
      have HG := Lib.hid (grown_trans HB1.out.2.1 hg)
      clear hg c0 c1
      go_wp2_with fail
      go_ret
      obtain rfl : X = [] := by rw [← HX.out]; exact nxt_no HA.out
      exact ⟨none, 0, rfl, ⟨none, 0, rfl, fun hne => absurd rfl hne⟩, ⟨Nat.le_refl _, by decide⟩, fun _ => rfl, HG.out⟩
    | true =>
      have H1 := Lib.hid ha
      have H2 := Lib.hid hz
      clear ha hz
      go_wp2_with fail
      refine (rhasV_any ⟨R, L, pR, cR, pL, cL⟩ a _ wb HB.out.2.2).mono ?_
      rintro e w1 ⟨rfl, hg⟩
      simp only
      rw [H1.out]
      have HB1 := Lib.hid (And.intro (kept_row HB.out.1 hg (by simp)) (And.intro (grown_trans HB.out.2.1 hg) (HB.out.2.2.keep hg)))
      clear hg c0 c1 HB
      obtain ⟨c0, c1⟩ := row_cells HB1.out.1
      go_wp2_with fail
      refine (rhasV_any ⟨R, L, pR, cR, pL, cL⟩ z _ w1 HB1.out.2.2).mono ?_
      rintro e w2 ⟨rfl, hg⟩
      simp only
      rw [H2.out]
      have HB2 := Lib.hid (And.intro (kept_row HB1.out.1 hg (by simp)) (And.intro (grown_trans HB1.out.2.1 hg) (HB1.out.2.2.keep hg)))
      clear hg c0 c1 HB1
      obtain ⟨c0, c1⟩ := row_cells HB2.out.1
      go_upto_region 3 with fail
      refine wp_region_held_drew (S := fun w' => Hid (w2.grownBy w' none)) (by kernel_rfl) (Lib.hid (grown_drew (grown_refl _ _))) (fun hHeld => ?_)
      refine wpAnyH_take (i := 0) (oi := { dst := some 17, op := Op.load 28 (Operand.tmp 3), type := 28, pos := "ref.go:104", after := #[], guard := none }) (v := ?_) rfl (by kernel_rfl) (by kernel_rfl) (by kernel_rfl) (fun _ _ _ h => h) (Or.inl ⟨by rfl, ?_⟩) hHeld ?_
      rotate_left 1
      · intro u hSu
        obtain ⟨q0, q1⟩ := row_cells (kept_row HB2.out.1 hSu.out (by simp))
        go_simp
        first | done | with_reducible rfl
      (try simp only [Act.put, List.setIfInBounds_toArray, List.set_cons_zero, List.set_cons_succ])
      refine wpAnyH_take (i := 1) (oi := { dst := some 18, op := Op.load 28 (Operand.tmp 3), type := 28, pos := "ref.go:104", after := #[], guard := none }) (v := ?_) rfl (by kernel_rfl) (by kernel_rfl) (by kernel_rfl) (fun _ _ _ h => h) (Or.inl ⟨by rfl, ?_⟩) hHeld ?_
      rotate_left 1
      · intro u hSu
        obtain ⟨q0, q1⟩ := row_cells (kept_row HB2.out.1 hSu.out (by simp))
        go_simp
        first | done | with_reducible rfl
      (try simp only [Act.put, List.setIfInBounds_toArray, List.set_cons_zero, List.set_cons_succ])
      refine wpAnyH_take (i := 2) (oi := { dst := some 19, op := Op.move (Operand.tmp 2), type := 3, pos := "ref.go:104", after := #[], guard := none }) (v := ?_) rfl (by kernel_rfl) (by kernel_rfl) (by kernel_rfl) (fun _ _ _ h => h) (Or.inl ⟨by rfl, ?_⟩) hHeld ?_
      rotate_left 1
      · intro u hSu
        obtain ⟨q0, q1⟩ := row_cells (kept_row HB2.out.1 hSu.out (by simp))
        go_simp
        first | done | with_reducible rfl
      (try simp only [Act.put, List.setIfInBounds_toArray, List.set_cons_zero, List.set_cons_succ])
      refine wpAnyH_take (i := 4) (oi := { dst := some 21, op := Op.move (Operand.tmp 1), type := 3, pos := "ref.go:104", after := #[], guard := none }) (v := ?_) rfl (by kernel_rfl) (by kernel_rfl) (by kernel_rfl) (fun _ _ _ h => h) (Or.inl ⟨by rfl, ?_⟩) hHeld ?_
      rotate_left 1
      · intro u hSu
        obtain ⟨q0, q1⟩ := row_cells (kept_row HB2.out.1 hSu.out (by simp))
        go_simp
        first | done | with_reducible rfl
      (try simp only [Act.put, List.setIfInBounds_toArray, List.set_cons_zero, List.set_cons_succ])
      refine wpAnyH_ready (rs := [3]) (by kernel_rfl) (by simp) ?_
      refine AllReadyH.cons (o := { dst := some 20, op := Op.call { callee := Callee.value (Operand.func 46), args := #[Operand.tmp 18, Operand.tmp 19], argTypes := #[28, 3] }, type := 22, pos := "ref.go:104", after := #[{ on := 1, ground := Ground.data }, { on := 2, ground := Ground.data }], guard := none }) rfl (fun Kz hK => ?_) AllReadyH.nil
      go_simp
      go_at_call 46
      refine (rto_any ⟨R, L, pR, cR, pL, cL⟩ z _ _ (HB2.out.2.2.keep hHeld.out) H2.out).mono ?_
      rintro e wt ⟨pt, ct, rfl, hrt, -, -, hgt⟩
      (try simp only at hrt ⊢)
      obtain ⟨A, hA⟩ : ∃ A, (ids R).map (toK L z R.length) = A := ⟨_, rfl⟩
      rw [hA] at hrt ⊢
      have HAT : Hid (Rd wt (fun _ => True) (.slice pt A.length ct) (A.map tv)) := Lib.hid (hrt.mono (fun _ _ => trivial))
      have HAE := Lib.hid hA.symm
      clear hrt hA
      refine hK.out _ _ (Lib.hid (grown_trans hHeld.out hgt)) (fun hH2 => ?_)
      clear hK Kz hHeld
      have hHeld := hH2
      clear hH2
      (try simp only [Act.put, List.setIfInBounds_toArray, List.set_cons_zero, List.set_cons_succ])
      refine wpAnyH_ready (rs := [5]) (by kernel_rfl) (by simp) ?_
      refine AllReadyH.cons (o := { dst := some 22, op := Op.call { callee := Callee.value (Operand.func 45), args := #[Operand.tmp 17, Operand.tmp 20, Operand.tmp 21], argTypes := #[28, 22, 3] }, type := 22, pos := "ref.go:104", after := #[{ on := 0, ground := Ground.data }, { on := 3, ground := Ground.data }, { on := 4, ground := Ground.data }, { on := 3, ground := Ground.chain }], guard := none }) rfl (fun Kz hK => ?_) AllReadyH.nil
      go_simp
      go_at_call 45
      refine (rsteps_any ⟨R, L, pR, cR, pL, cL⟩ (toK L z R.length) a A pt ct _ _ _ (HB2.out.2.2.keep hHeld.out) (hasV_iff.1 H2.out).1 HAE.out HAT.out (toK_bd (hasV_iff.1 H2.out).1 z R.length)).mono ?_
      rintro e wc ⟨p9, c9, rfl, hr9, hc9, hn9, hg9⟩
      (try simp only at hr9 hc9 ⊢)
      rw [stV_nxt H2.out a, HX.out] at hr9 hc9 ⊢
      refine hK.out _ _ (Lib.hid (grown_trans hHeld.out hg9)) (fun hH2 => ?_)
      clear hK Kz hHeld
      have hHeld := hH2
      clear hH2
      (try simp only [Act.put, List.setIfInBounds_toArray, List.set_cons_zero, List.set_cons_succ])
      refine wpAnyH_take (i := 6) (oi := { dst := some 6, op := Op.assign (Operand.tmp 22), type := 22, pos := "ref.go:104", after := #[{ on := 5, ground := Ground.data }, { on := 5, ground := Ground.chain }, { on := 0, ground := Ground.phase }, { on := 1, ground := Ground.phase }, { on := 2, ground := Ground.phase }, { on := 3, ground := Ground.phase }, { on := 4, ground := Ground.phase }, { on := 5, ground := Ground.phase }], guard := none }) (v := ?_) rfl (by kernel_rfl) (by kernel_rfl) (by kernel_rfl) (fun _ _ _ h => h) (Or.inl ⟨by rfl, ?_⟩) hHeld ?_
      rotate_left 1
      · intro u hSu
        obtain ⟨q0, q1⟩ := row_cells (kept_row HB2.out.1 hSu.out (by simp))
        go_simp
        first | done | with_reducible rfl
      (try simp only [Act.put, List.setIfInBounds_toArray, List.set_cons_zero, List.set_cons_succ])
      refine wpAnyH_done (by kernel_rfl) ?_ _
      have H9 : Hid (Rd wc (fun b => w.heap.size ≤ b) (.slice p9 X.length c9) (X.map tv) ∧ (X.length ≤ c9 ∧ c9 ≤ 9223372036854775807) ∧ (p9 = none → c9 = 0) ∧ w.grownBy wc none) := Lib.hid ⟨hr9.mono (fun b hb => by have h1 := HB2.out.2.1.size; have h2 := hgt.size; have h3 : w2.drew.heap.size = w2.heap.size := rfl; omega), hc9, hn9, grown_trans HB2.out.2.1 hHeld.out⟩
      clear hHeld hr9 hc9 hn9 hg9 HAT HAE c0 c1
      go_wp2_with fail
      go_ret
      exact ⟨p9, c9, rfl, H9.out⟩
set_option maxRecDepth 100000 in
set_option maxHeartbeats 6400000 in
theorem rrt_any (T : Tg) (a z : Int) (q : Nat → Prop) (w : World) (hT : TgOk w q T) (ha : I64 a) :
    Calls Try.prog 18 #[.agg #[.slice T.pR T.R.length T.cR, .slice T.pL T.L.length T.cL], .int .i64 a, .int .i64 z] w fun e w' => TRet (rtV T.R T.L z a) w e w' := by
  obtain ⟨i0, hi, hz0, hz1, hz2⟩ := info_parts info_int
  have HAI := Lib.hid ha
  clear ha
  obtain ⟨R, L, pR, cR, pL, cL⟩ := T
  simp only at *
  obtain ⟨k1, k2⟩ := tone_box w #[.slice pR R.length cR, .slice pL L.length cL] 28
  have HB := Lib.hid (And.intro k1 (And.intro k2 (hT.keep k2)))
  clear k1 k2 hT
  obtain ⟨X, hX⟩ : ∃ X, rtV R L z a = X := ⟨_, rfl⟩
  have HX := Lib.hid hX
  rw [hX]
  clear hX
  go_enter Try.func18, Try.ntmps18
  go_upto_region 1 with fail
  generalize w.alloc _ = wb at *
  obtain ⟨c0, c1⟩ := row_cells HB.out.1
  cases ha : hasV R L a with
  | false =>
    have HA : Hid (hasV R L a = false ∨ hasV R L z = false) := Lib.hid (.inl ha)
    have H1 := Lib.hid ha
    clear ha
    go_wp2_with fail
    refine (rhasV_any ⟨R, L, pR, cR, pL, cL⟩ a _ wb HB.out.2.2).mono ?_
    rintro e w1 ⟨rfl, hg⟩
    simp only
    rw [H1.out]
    have HG := Lib.hid (grown_trans HB.out.2.1 hg)
    clear hg c0 c1
    go_wp2_with fail
    go_ret
    obtain rfl : X = [] := by rw [← HX.out]; exact rtV_no HA.out
    exact ⟨none, 0, rfl, ⟨none, 0, rfl, fun hne => absurd rfl hne⟩, ⟨Nat.le_refl _, by decide⟩, fun _ => rfl, HG.out⟩
  | true =>
    cases hz : hasV R L z with
    | false =>
      have HA : Hid (hasV R L a = false ∨ hasV R L z = false) := Lib.hid (.inr hz)
      have H1 := Lib.hid ha
      have H2 := Lib.hid hz
      clear ha hz
      go_wp2_with fail
      refine (rhasV_any ⟨R, L, pR, cR, pL, cL⟩ a _ wb HB.out.2.2).mono ?_
      rintro e w1 ⟨rfl, hg⟩
      simp only
      rw [H1.out]
      have HB1 := Lib.hid (And.intro (kept_row HB.out.1 hg (by simp)) (And.intro (grown_trans HB.out.2.1 hg) (HB.out.2.2.keep hg)))
      clear hg c0 c1 HB
      obtain ⟨c0, c1⟩ := row_cells HB1.out.1
      go_wp2_with fail
      refine (rhasV_any ⟨R, L, pR, cR, pL, cL⟩ z _ w1 HB1.out.2.2).mono ?_
      rintro e w2 ⟨rfl, hg⟩
      simp only
      rw [H2.out]
      have HG := Lib.hid (grown_trans HB1.out.2.1 hg)
      clear hg c0 c1
      go_wp2_with fail
      go_ret
      obtain rfl : X = [] := by rw [← HX.out]; exact rtV_no HA.out
      exact ⟨none, 0, rfl, ⟨none, 0, rfl, fun hne => absurd rfl hne⟩, ⟨Nat.le_refl _, by decide⟩, fun _ => rfl, HG.out⟩
    | true =>
      have H1 := Lib.hid ha
      have H2 := Lib.hid hz
      clear ha hz
      go_wp2_with fail
      refine (rhasV_any ⟨R, L, pR, cR, pL, cL⟩ a _ wb HB.out.2.2).mono ?_
      rintro e w1 ⟨rfl, hg⟩
      simp only
      rw [H1.out]
      have HB1 := Lib.hid (And.intro (kept_row HB.out.1 hg (by simp)) (And.intro (grown_trans HB.out.2.1 hg) (HB.out.2.2.keep hg)))
      clear hg c0 c1 HB
      obtain ⟨c0, c1⟩ := row_cells HB1.out.1
      go_wp2_with fail
      refine (rhasV_any ⟨R, L, pR, cR, pL, cL⟩ z _ w1 HB1.out.2.2).mono ?_
      rintro e w2 ⟨rfl, hg⟩
      simp only
      rw [H2.out]
      have HB2 := Lib.hid (And.intro (kept_row HB1.out.1 hg (by simp)) (And.intro (grown_trans HB1.out.2.1 hg) (HB1.out.2.2.keep hg)))
      clear hg c0 c1 HB1
      obtain ⟨c0, c1⟩ := row_cells HB2.out.1
      have K0 : Hid (RK R L z X [] a) := Lib.hid ⟨HX.out, .inl rfl, by have := far_le R L z a; simp only [List.length_nil]; omega⟩
      go_wp2_with fail
      refine (rto_any ⟨R, L, pR, cR, pL, cL⟩ z _ w2 HB2.out.2.2 H2.out).mono ?_
      rintro e w7 ⟨pt, ct, rfl, hrt, -, -, hg⟩
      (try simp only at hrt ⊢)
      obtain ⟨A, hA⟩ : ∃ A, (ids R).map (toK L z R.length) = A := ⟨_, rfl⟩
      rw [hA] at hrt ⊢
      have HAT : Hid (Rd w7 (fun _ => True) (.slice pt A.length ct) (A.map tv)) := Lib.hid (hrt.mono (fun _ _ => trivial))
      have HAE := Lib.hid hA.symm
      have HB7 := Lib.hid (And.intro (kept_row HB2.out.1 hg (by simp)) (And.intro (grown_trans HB2.out.2.1 hg) (HB2.out.2.2.keep hg)))
      have N0 : Hid (NK w7 (.slice none 0 0) [] w7) := Lib.hid ⟨World.ownsRow_nil _ _ _ _, grown_refl _ _⟩
      clear hrt hA hg c0 c1 HB2
      go_wp2_with fail
      go_loopw [1, 8] (fun b vo wr => ∃ (l : List Int) (r : Int) (va : Value), va = vo ∧ b = .int .i64 r ∧ Hid (I64 r) ∧ Hid (NK w7 va l wr) ∧ Hid (RK R L z X l r)) (fun b _ _ => far R L z (RowKit.intOf b))
      case atStart => exact ⟨[], a, _, rfl, rfl, HAI, N0, K0⟩
      case round =>
        obtain ⟨l, r, va, rfl, rfl, HI, NN, K⟩ := hrel
        clear K0 N0
        have HBr := Lib.hid (And.intro (kept_row HB7.out.1 NN.out.gr (by simp)) (HB7.out.2.2.keep NN.out.gr))
        obtain ⟨c0, c1⟩ := row_cells HBr.out.1
        have hln : l.length ≤ 24000 := by have := K.out.len; omega
        by_cases hr : r = z
        · subst hr
          have hX := K.out.fin
          subst hX
          have H9 := Lib.hid (NN.out.base HB7.out.2.1).ret
          go_wp2_with fail
          go_ret
          obtain ⟨p, c, rfl, h3⟩ := H9.out
          exact ⟨p, c, rfl, h3⟩
        · have hr' : (r == z) = false := by simpa using hr
          have HR := Lib.hid hr
          clear hr
          go_wp2_with fail
          refine (rsteps_any ⟨R, L, pR, cR, pL, cL⟩ (toK L z R.length) r A pt ct _ _ wr HBr.out.2 (hasV_iff.1 H2.out).1 HAE.out (HAT.out.keep NN.out.gr) (toK_bd (hasV_iff.1 H2.out).1 z R.length)).mono ?_
          rintro e w8 ⟨p8, c8, rfl, hr8, hc8, hn8, hg8⟩
          (try simp only at hr8 hc8 ⊢)
          rw [stV_nxt H2.out r] at hr8 hc8 ⊢
          obtain ⟨Y, hY⟩ : ∃ Y, nxt R L r z = Y := ⟨_, rfl⟩
          have HY : Hid (nxt R L r z = Y) := Lib.hid hY
          rw [hY] at hr8 hc8 ⊢
          have N8 := Lib.hid (NN.out.keep hg8)
          clear hY hg8 hn8 c0 c1
          cases Y with
          | nil =>
            have hX := K.out.stop HR.out HY.out
            subst hX
            have H9 := Lib.hid (N8.out.base HB7.out.2.1).gr
            clear hr8
            go_wp2_with fail
            go_ret
            exact ⟨none, 0, rfl, ⟨none, 0, rfl, fun hne => absurd rfl hne⟩, ⟨Nat.le_refl _, by omega⟩, fun _ => rfl, H9.out⟩
          | cons u t =>
            obtain ⟨k1, k2, k3⟩ := K.out.step HR.out HY.out
            have K1 := Lib.hid k1
            have HF := Lib.hid (And.intro k2 k3)
            obtain ⟨-, b, off, rfl, -, hc⟩ := rdi_at (r := u :: t) hr8 (by simp)
            have d0 := hc 0 u rfl
            rw [Nat.add_zero] at d0
            have hown := N8.out.own
            have hsz := N8.out.gr.size
            have hpos : ((t.length : Int) + 1 == 0) = false := by simp; omega
            have hpo2 : (0 : Int) < (t.length : Int) + 1 := by omega
            clear hr8 hc k1 k2 k3
            go_wp2_with (at_builtin; refine hold_on ?_)
            refine Lib.hid ?_
            refine wpList_append_lies _ rfl _ _ 22 rfl w7.heap.size 3 i0 (.int .i64 0) 1 8 Try.underlying22 hi hz0 hz1 hz2 rfl (by decide) _ _ _ rfl (hown.alloc _) ⟨w8.heap.size, 0, none⟩ 1 1 [.int .i64 u] rfl rfl ?c1 ?c2 (by decide) ?c3 ?c4 ?c5 _ rfl ?_
            try (case c1 => exact cell_one _ _ _)
            case c2 => (intro u hu; simp at hu; rcases hu with rfl; rfl)
            case c3 => first | omega | (unfold maxLen; omega)
            case c4 => omega
            case c5 => first | omega | (simp; omega)
            intro gq capq w9 hown9 hg9 hat9 hlt9
            obtain ⟨vq, hvq⟩ : ∃ vq, Value.slice (some ⟨gq, 0, none⟩) (l.length + 1) capq = vq := ⟨_, rfl⟩
            rw [hvq] at hown9 ⊢
            obtain ⟨n1, -⟩ := N8.out.more (x := u) (grown_refl _ _) hown9 hg9
            have N1 := Lib.hid n1
            clear hvq hat9 hlt9 hg9 hown n1 hown9
            go_wp2_with fail
            exact ⟨⟨_, u, _, rfl, rfl, Lib.hid HF.out.2, N1, K1⟩, by simp only [RowKit.intOf]; exact HF.out.1⟩
end Go.Proofs.Ytlefjdglcdopeaa
