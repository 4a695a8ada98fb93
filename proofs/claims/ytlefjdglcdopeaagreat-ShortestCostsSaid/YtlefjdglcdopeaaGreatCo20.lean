/- Parts of the proof, packed: ShRCo, SzRDi. -/
import Derived.Test.YtlefjdglcdopeaaGreatCo19
import Derived.Test.YtlefjdglcdopeaaGreatCo12
import Derived.Test.YtlefjdglcdopeaaGreatCo18
/- The reference's Cost, Next and Route. -/
namespace Go.Proofs.YtlefjdglcdopeaaGreat
open Go.RowKit Bs
set_option maxRecDepth 100000 in
theorem toK_bd {R : List Rt} {L : List Lk} (h : okT R L = true) (z : Int) (k : Nat) (v : Int) : 0 ≤ toK L z k v ∧ toK L z k v ≤ farN := toJ_bd h z k 0 v
set_option maxRecDepth 100000 in
theorem dst_no2 {R : List Rt} {L : List Lk} {a z : Int} (h : hasV R L a = false ∨ hasV R L z = false) : dst R L a z = none := by
  cases hd : dst R L a z with
  | none => rfl
  | some d =>
    obtain ⟨h1, h2, h3⟩ := dst_both hd
    rcases h with h | h
    · rw [hasV_iff.2 ⟨h1, h2⟩] at h; cases h
    · rw [hasV_iff.2 ⟨h1, h3⟩] at h; cases h
set_option maxRecDepth 100000 in
set_option maxHeartbeats 6400000 in
theorem rcst_any (T : Tg) (a z : Int) (q : Nat → Prop) (w : World) (hT : TgOk w q T) :
    Calls Tryz.prog 10 #[.agg #[.slice T.pR T.R.length T.cR, .slice T.pL T.L.length T.cL], .int .i64 a, .int .i64 z] w fun e w' => e = .returned (.tuple #[.int .i64 ((dst T.R T.L a z).getD 0), .bool (dst T.R T.L a z).isSome]) ∧ w.grownBy w' none := by
  obtain ⟨R, L, pR, cR, pL, cL⟩ := T
  simp only at *
  obtain ⟨k1, k2⟩ := tone_box w #[.slice pR R.length cR, .slice pL L.length cL] 28
  have HB := Lib.hid (And.intro k1 (And.intro k2 (hT.keep k2)))
  clear k1 k2 hT
  obtain ⟨X, hX⟩ : ∃ X, dst R L a z = X := ⟨_, rfl⟩
  have HX := Lib.hid hX
  rw [hX]
  clear hX
  go_enter Tryz.func10, Tryz.ntmps10
  go_upto_region 1 with fail
  generalize w.alloc _ = wb at *
  obtain ⟨c0, c1⟩ := row_cells HB.out.1
  cases ha : hasV R L a with
  | false =>
    have HA : Hid (hasV R L a = false ∨ hasV R L z = false) := Lib.hid (.inl ha)
    have H1 := Lib.hid ha
    clear ha
    go_wp2_with fail
    refine (rhasV_any ⟨R, L, pR, cR, pL, cL⟩ a _ wb HB.out.2.2).mono ?_
    rintro e w1 ⟨rfl, hg⟩
    simp only
    rw [H1.out]
    have HG := Lib.hid (grown_trans HB.out.2.1 hg)
    clear hg c0 c1
    go_wp2_with fail
    go_ret2
    obtain rfl : X = none := by rw [← HX.out]; exact dst_no2 HA.out
    exact ⟨rfl, HG.out⟩
  | true =>
    cases hz : hasV R L z with
    | false =>
      have HA : Hid (hasV R L a = false ∨ hasV R L z = false) := Lib.hid (.inr hz)
      have H1 := Lib.hid ha
      have H2 := Lib.hid hz
      clear ha hz
      go_wp2_with fail
      refine (rhasV_any ⟨R, L, pR, cR, pL, cL⟩ a _ wb HB.out.2.2).mono ?_
      rintro e w1 ⟨rfl, hg⟩
      simp only
      rw [H1.out]
      have HB1 := Lib.hid (And.intro (kept_row HB.out.1 hg (by simp)) (And.intro (grown_trans HB.out.2.1 hg) (HB.out.2.2.keep hg)))
      clear hg c0 c1 HB
      obtain ⟨c0, c1⟩ := row_cells HB1.out.1
      go_wp2_with fail
      refine (rhasV_any ⟨R, L, pR, cR, pL, cL⟩ z _ w1 HB1.out.2.2).mono ?_
      rintro e w2 ⟨rfl, hg⟩
      simp only
      rw [H2.out]
      have HG := Lib.hid (grown_trans HB1.out.2.1 hg)
      clear hg c0 c1
      go_wp2_with fail
      go_ret2
      obtain rfl : X = none := by rw [← HX.out]; exact dst_no2 HA.out
      exact ⟨rfl, HG.out⟩
    | true =>
      have H1 := Lib.hid ha
      have H2 := Lib.hid hz
      clear ha hz
      go_wp2_with fail
      refine (rhasV_any ⟨R, L, pR, cR, pL, cL⟩ a _ wb HB.out.2.2).mono ?_
      rintro e w1 ⟨rfl, hg⟩
      simp only
      rw [H1.out]
      have HB1 := Lib.hid (And.intro (kept_row HB.out.1 hg (by simp)) (And.intro (grown_trans HB.out.2.1 hg) (HB.out.2.2.keep hg)))
      clear hg c0 c1 HB
      obtain ⟨c0, c1⟩ := row_cells HB1.out.1
      go_wp2_with fail
      refine (rhasV_any ⟨R, L, pR, cR, pL, cL⟩ z _ w1 HB1.out.2.2).mono ?_
      rintro e w2 ⟨rfl, hg⟩
      simp only
      rw [H2.out]
      have HB2 := Lib.hid (And.intro (kept_row HB1.out.1 hg (by simp)) (And.intro (grown_trans HB1.out.2.1 hg) (HB1.out.2.2.keep hg)))
      clear hg c0 c1 HB1
      obtain ⟨c0, c1⟩ := row_cells HB2.out.1
      go_upto_region 3 with fail
      refine wp_region_held_drew (S := fun w' => Hid (w2.grownBy w' none)) (by kernel_rfl) (Lib.hid (grown_drew (grown_refl _ _))) (fun hHeld => ?_)
      refine wpAnyH_take (i := 0) (oi := { dst := some 19, op := Op.load 28 (Operand.tmp 3), type := 28, pos := "ref.go:62", after := #[], guard := none }) (v := ?_) rfl (by kernel_rfl) (by kernel_rfl) (by kernel_rfl) (fun _ _ _ h => h) (Or.inl ⟨by rfl, ?_⟩) hHeld ?_
      rotate_left 1
      · intro u hSu
        obtain ⟨q0, q1⟩ := row_cells (kept_row HB2.out.1 hSu.out (by simp))
        go_simp
        first | done | with_reducible rfl
      (try simp only [Act.put, List.setIfInBounds_toArray, List.set_cons_zero, List.set_cons_succ])
      refine wpAnyH_take (i := 1) (oi := { dst := some 20, op := Op.load 28 (Operand.tmp 3), type := 28, pos := "ref.go:62", after := #[], guard := none }) (v := ?_) rfl (by kernel_rfl) (by kernel_rfl) (by kernel_rfl) (fun _ _ _ h => h) (Or.inl ⟨by rfl, ?_⟩) hHeld ?_
      rotate_left 1
      · intro u hSu
        obtain ⟨q0, q1⟩ := row_cells (kept_row HB2.out.1 hSu.out (by simp))
        go_simp
        first | done | with_reducible rfl
      (try simp only [Act.put, List.setIfInBounds_toArray, List.set_cons_zero, List.set_cons_succ])
      refine wpAnyH_take (i := 2) (oi := { dst := some 21, op := Op.move (Operand.tmp 2), type := 3, pos := "ref.go:62", after := #[], guard := none }) (v := ?_) rfl (by kernel_rfl) (by kernel_rfl) (by kernel_rfl) (fun _ _ _ h => h) (Or.inl ⟨by rfl, ?_⟩) hHeld ?_
      rotate_left 1
      · intro u hSu
        obtain ⟨q0, q1⟩ := row_cells (kept_row HB2.out.1 hSu.out (by simp))
        go_simp
        first | done | with_reducible rfl
      (try simp only [Act.put, List.setIfInBounds_toArray, List.set_cons_zero, List.set_cons_succ])
      refine wpAnyH_take (i := 4) (oi := { dst := some 23, op := Op.move (Operand.tmp 1), type := 3, pos := "ref.go:62", after := #[], guard := none }) (v := ?_) rfl (by kernel_rfl) (by kernel_rfl) (by kernel_rfl) (fun _ _ _ h => h) (Or.inl ⟨by rfl, ?_⟩) hHeld ?_
      rotate_left 1
      · intro u hSu
        obtain ⟨q0, q1⟩ := row_cells (kept_row HB2.out.1 hSu.out (by simp))
        go_simp
        first | done | with_reducible rfl
      (try simp only [Act.put, List.setIfInBounds_toArray, List.set_cons_zero, List.set_cons_succ])
      refine wpAnyH_ready (rs := [3]) (by kernel_rfl) (by simp) ?_
      refine AllReadyH.cons (o := { dst := some 22, op := Op.call { callee := Callee.value (Operand.func 23), args := #[Operand.tmp 20, Operand.tmp 21], argTypes := #[28, 3] }, type := 22, pos := "ref.go:62", after := #[{ on := 1, ground := Ground.data }, { on := 2, ground := Ground.data }], guard := none }) rfl (fun Kz hK => ?_) AllReadyH.nil
      go_simp
      go_at_call 23
      refine (rto_any ⟨R, L, pR, cR, pL, cL⟩ z _ _ (HB2.out.2.2.keep hHeld.out) H2.out).mono ?_
      rintro e wt ⟨pt, ct, rfl, hrt, -, -, hgt⟩
      (try simp only at hrt ⊢)
      obtain ⟨A, hA⟩ : ∃ A, (ids R).map (toK L z R.length) = A := ⟨_, rfl⟩
      rw [hA] at hrt ⊢
      have HAT : Hid (Rd wt (fun _ => True) (.slice pt A.length ct) (A.map tv)) := Lib.hid (hrt.mono (fun _ _ => trivial))
      have HAE := Lib.hid hA.symm
      clear hrt hA
      refine hK.out _ _ (Lib.hid (grown_trans hHeld.out hgt)) (fun hH2 => ?_)
      clear hK Kz hHeld
      have hHeld := hH2
      clear hH2
      (try simp only [Act.put, List.setIfInBounds_toArray, List.set_cons_zero, List.set_cons_succ])
      refine wpAnyH_ready (rs := [5]) (by kernel_rfl) (by simp) ?_
      refine AllReadyH.cons (o := { dst := some 24, op := Op.call { callee := Callee.value (Operand.func 22), args := #[Operand.tmp 19, Operand.tmp 22, Operand.tmp 23], argTypes := #[28, 22, 3] }, type := 3, pos := "ref.go:62", after := #[{ on := 0, ground := Ground.data }, { on := 3, ground := Ground.data }, { on := 4, ground := Ground.data }, { on := 3, ground := Ground.chain }], guard := none }) rfl (fun Kz hK => ?_) AllReadyH.nil
      go_simp
      go_at_call 22
      refine (rat_any ⟨R, L, pR, cR, pL, cL⟩ (toK L z R.length) a A pt ct _ _ _ (HB2.out.2.2.keep hHeld.out) HAE.out HAT.out).mono ?_
      rintro e wc ⟨rfl, hgc⟩
      simp only
      rw [at_dst H2.out a, HX.out]
      refine hK.out _ _ (Lib.hid (grown_trans hHeld.out hgc)) (fun hH2 => ?_)
      clear hK Kz hHeld
      have hHeld := hH2
      clear hH2
      (try simp only [Act.put, List.setIfInBounds_toArray, List.set_cons_zero, List.set_cons_succ])
      refine wpAnyH_take (i := 6) (oi := { dst := some 8, op := Op.assign (Operand.tmp 24), type := 3, pos := "ref.go:62", after := #[{ on := 5, ground := Ground.data }, { on := 5, ground := Ground.chain }, { on := 0, ground := Ground.phase }, { on := 1, ground := Ground.phase }, { on := 2, ground := Ground.phase }, { on := 3, ground := Ground.phase }, { on := 4, ground := Ground.phase }, { on := 5, ground := Ground.phase }], guard := none }) (v := ?_) rfl (by kernel_rfl) (by kernel_rfl) (by kernel_rfl) (fun _ _ _ h => h) (Or.inl ⟨by rfl, ?_⟩) hHeld ?_
      rotate_left 1
      · intro u hSu
        obtain ⟨q0, q1⟩ := row_cells (kept_row HB2.out.1 hSu.out (by simp))
        go_simp
        first | done | with_reducible rfl
      (try simp only [Act.put, List.setIfInBounds_toArray, List.set_cons_zero, List.set_cons_succ])
      refine wpAnyH_done (by kernel_rfl) ?_ _
      have HG9 := Lib.hid (grown_trans HB2.out.2.1 hHeld.out)
      obtain ⟨w9, hw9⟩ : ∃ w9, w9 = wc := ⟨_, rfl⟩
      rw [← hw9] at HG9 ⊢
      clear hHeld hw9 HAT HAE c0 c1
      cases X with
      | none =>
        simp only [Option.getD_none]
        have hff : (farN == 1073741824) = true := rfl
        go_wp2_with fail
        go_ret2
        exact ⟨rfl, HG9.out⟩
      | some d =>
        have hdb := (dst_bd HX.out).1
        have hff : (d == 1073741824) = false := by rw [beq_eq_false_iff_ne]; omega
        simp only [Option.getD_some]
        go_wp2_with fail
        go_ret2
        exact ⟨rfl, HG9.out⟩
end Go.Proofs.YtlefjdglcdopeaaGreat

/- The reference's Distances. -/
namespace Go.Proofs.YtlefjdglcdopeaaGreat
open Go.RowKit Bs
set_option maxRecDepth 100000 in
theorem fil_snoc {p : Int → Bool} {l : List Int} {k : Nat} {x : Int} (h : l[k]? = some x) : (l.take (k + 1)).filter p = (l.take k).filter p ++ (if p x = true then [x] else []) := by
  rw [List.take_add_one, h, List.filter_append]
  congr 1
  by_cases hp : p x = true
  · rw [if_pos hp]; simp [hp]
  · rw [if_neg hp]; simp [hp]
set_option maxRecDepth 100000 in
theorem rt_cellsZ {w : World} {q : Nat → Prop} {R : List Rt} {L : List Lk} {pL : Option Addr} {cR bR oR cL k : Nat} {l : Rt} (h : TgOk w q ⟨R, L, some ⟨bR, oR, none⟩, cR, pL, cL⟩) (hl : R[k]? = some l) :
    w.cell? ⟨bR, oR + k * 2, none⟩ = some (.int .i64 l.id) ∧ w.cell? ⟨bR, oR + k * 2 + 1, none⟩ = some (.bool l.cap) := by
  have h0 : 0 < R.length := by have := (List.getElem?_eq_some_iff.1 hl).1; omega
  obtain ⟨-, b, o, e, -, hc⟩ := rdr_cells (R := R) h.r h0
  injection e with e
  injection e with e1 e2
  subst e1
  subst e2
  exact hc k l hl
set_option maxRecDepth 100000 in
set_option maxHeartbeats 6400000 in
theorem rdis_any (T : Tg) (a : Int) (q : Nat → Prop) (w : World) (hT : TgOk w q T) (h1 : T.R.length ≤ 1000) :
    Calls Tryz.prog 8 #[.agg #[.slice T.pR T.R.length T.cR, .slice T.pL T.L.length T.cL], .int .i64 a] w fun e w' => TRetD (disL T.R T.L a) w e w' := by
  obtain ⟨i0, hi, hz0, hz1, hz2⟩ := info_parts info_dst
  obtain ⟨R, L, pR, cR, pL, cL⟩ := T
  simp only at h1 ⊢
  obtain ⟨k1, k2⟩ := tone_box w #[.slice pR R.length cR, .slice pL L.length cL] 28
  have HB := Lib.hid (And.intro k1 (And.intro k2 (hT.keep k2)))
  clear k1 k2 hT
  obtain ⟨X, hX⟩ : ∃ X, disL R L a = X := ⟨_, rfl⟩
  have HX := Lib.hid hX
  rw [hX]
  clear hX
  go_enter Tryz.func8, Tryz.ntmps8
  go_upto_region 1 with fail
  generalize w.alloc _ = wb at *
  obtain ⟨c0, c1⟩ := row_cells HB.out.1
  obtain ⟨z, hz⟩ : ∃ z, hasV R L a = z := ⟨_, rfl⟩
  have HZ := Lib.hid hz
  clear hz
  go_wp2_with fail
  refine (rhasV_any ⟨R, L, pR, cR, pL, cL⟩ a _ wb HB.out.2.2).mono ?_
  rintro e w1 ⟨rfl, hg⟩
  simp only
  rw [HZ.out]
  have HB1 := Lib.hid (And.intro (kept_row HB.out.1 hg (by simp)) (And.intro (grown_trans HB.out.2.1 hg) (HB.out.2.2.keep hg)))
  clear hg c0 c1 HB
  obtain ⟨c0, c1⟩ := row_cells HB1.out.1
  cases z with
  | false =>
    have hX : X = [] := by
      rw [← HX.out]; unfold disL disF
      rw [List.filter_eq_nil_iff.2 (fun x _ hx => by rw [dst_no HZ.out x] at hx; cases hx)]
      rfl
    subst hX
    go_wp2_with fail
    go_ret
    exact ⟨_, rfl, World.ownsRow_nil _ _ _ _, HB1.out.2.1⟩
  | true =>
    have HDB : Hid (∀ x d, dst R L a x = some d → (0 ≤ d ∧ d ≤ 24000) ∧ 1 ≤ x ∧ x ≤ 99) := Lib.hid (fun x d h => ⟨(dst_bd h).1, (dst_bd h).2.2⟩)
    have HXE : Hid (X = disF (dst R L a) ((ids R).filter fun x => (dst R L a x).isSome)) := Lib.hid HX.out.symm
    obtain ⟨f, hf⟩ : ∃ f, dst R L a = f := ⟨_, rfl⟩
    have HFE := Lib.hid hf
    rw [hf] at HDB HXE
    clear hf
    have N0 : Hid (ND w1 (.slice none 0 0) (disF f (((ids R).take 0).filter fun x => (f x).isSome)) w1) := Lib.hid ⟨World.ownsRow_nil _ _ _ _, grown_refl _ _⟩
    go_wp2_with fail
    go_loopw [5, 6] (fun vo a wr => ∃ (k : Nat) (va : Value), va = vo ∧ k ≤ R.length ∧ a = .int .i64 (k : Int) ∧ Hid (ND w1 va (disF f (((ids R).take k).filter fun x => (f x).isSome)) wr)) (fun _ a _ => R.length - (RowKit.intOf a).toNat)
    case atStart => exact ⟨0, _, rfl, Nat.zero_le _, rfl, N0⟩
    case round =>
    obtain ⟨w2, rfl⟩ : ∃ w2, w2 = wr := ⟨_, rfl⟩
    obtain ⟨k, va, rfl, hk, rfl, NN⟩ := hrel
    clear N0 c0 c1
    have HBr := Lib.hid (And.intro (kept_row HB1.out.1 NN.out.gr (by simp)) (HB1.out.2.2.keep NN.out.gr))
    obtain ⟨c0, c1⟩ := row_cells HBr.out.1
    by_cases hlt : k < R.length
    · obtain ⟨y, hy⟩ : ∃ y, R[k]? = some y := ⟨_, List.getElem?_eq_getElem hlt⟩
      have HY := Lib.hid hy
      have HS := Lib.hid (fil_snoc (p := fun x => (f x).isSome) (ids_at hy))
      obtain ⟨-, bR, oR, rfl, -, -⟩ := rdr_cells (R := R) HBr.out.2.r (by omega)
      have i1 : (k : Int) < (R.length : Int) := by omega
      have i0' : (0 : Int) ≤ (k : Int) := by omega
      clear hy
      go_upto_region 7 with fail
      refine wp_region_held_drew (S := fun w' => Hid (w2.grownBy w' none)) (by kernel_rfl) (Lib.hid (grown_drew (grown_refl _ _))) (fun hHeld => ?_)
      refine wpAnyH_take (i := 0) (oi := { dst := some 21, op := Op.load 28 (Operand.tmp 2), type := 28, pos := "ref.go:76", after := #[], guard := none }) (v := ?_) rfl (by kernel_rfl) (by kernel_rfl) (by kernel_rfl) (fun _ _ _ h => h) (Or.inl ⟨by rfl, ?_⟩) hHeld ?_
      rotate_left 1
      · intro u hSu
        obtain ⟨q0, q1⟩ := row_cells (kept_row HBr.out.1 hSu.out (by simp))
        obtain ⟨q2, -⟩ := rt_cellsZ (HBr.out.2.keep hSu.out) HY.out
        go_simp
        first | done | with_reducible rfl
      (try simp only [Act.put, List.setIfInBounds_toArray, List.set_cons_zero, List.set_cons_succ])
      refine wpAnyH_take (i := 1) (oi := { dst := some 22, op := Op.move (Operand.tmp 1), type := 3, pos := "ref.go:76", after := #[], guard := none }) (v := ?_) rfl (by kernel_rfl) (by kernel_rfl) (by kernel_rfl) (fun _ _ _ h => h) (Or.inl ⟨by rfl, ?_⟩) hHeld ?_
      rotate_left 1
      · intro u hSu
        obtain ⟨q0, q1⟩ := row_cells (kept_row HBr.out.1 hSu.out (by simp))
        obtain ⟨q2, -⟩ := rt_cellsZ (HBr.out.2.keep hSu.out) HY.out
        go_simp
        first | done | with_reducible rfl
      (try simp only [Act.put, List.setIfInBounds_toArray, List.set_cons_zero, List.set_cons_succ])
      refine wpAnyH_take (i := 2) (oi := { dst := some 23, op := Op.fieldAddr 28 (Operand.tmp 2) 0, type := 0, pos := "ref.go:76", after := #[], guard := none }) (v := ?_) rfl (by kernel_rfl) (by kernel_rfl) (by kernel_rfl) (fun _ _ _ h => h) (Or.inl ⟨by rfl, ?_⟩) hHeld ?_
      rotate_left 1
      · intro u hSu
        obtain ⟨q0, q1⟩ := row_cells (kept_row HBr.out.1 hSu.out (by simp))
        obtain ⟨q2, -⟩ := rt_cellsZ (HBr.out.2.keep hSu.out) HY.out
        go_simp
        first | done | with_reducible rfl
      (try simp only [Act.put, List.setIfInBounds_toArray, List.set_cons_zero, List.set_cons_succ])
      refine wpAnyH_take (i := 3) (oi := { dst := some 24, op := Op.load 25 (Operand.tmp 23), type := 25, pos := "ref.go:76", after := #[{ on := 2, ground := Ground.data }], guard := none }) (v := ?_) rfl (by kernel_rfl) (by kernel_rfl) (by kernel_rfl) (fun _ _ _ h => h) (Or.inl ⟨by rfl, ?_⟩) hHeld ?_
      rotate_left 1
      · intro u hSu
        obtain ⟨q0, q1⟩ := row_cells (kept_row HBr.out.1 hSu.out (by simp))
        obtain ⟨q2, -⟩ := rt_cellsZ (HBr.out.2.keep hSu.out) HY.out
        go_simp
        first | done | with_reducible rfl
      (try simp only [Act.put, List.setIfInBounds_toArray, List.set_cons_zero, List.set_cons_succ])
      refine wpAnyH_take (i := 4) (oi := { dst := some 25, op := Op.move (Operand.tmp 6), type := 3, pos := "ref.go:76", after := #[], guard := none }) (v := ?_) rfl (by kernel_rfl) (by kernel_rfl) (by kernel_rfl) (fun _ _ _ h => h) (Or.inl ⟨by rfl, ?_⟩) hHeld ?_
      rotate_left 1
      · intro u hSu
        obtain ⟨q0, q1⟩ := row_cells (kept_row HBr.out.1 hSu.out (by simp))
        obtain ⟨q2, -⟩ := rt_cellsZ (HBr.out.2.keep hSu.out) HY.out
        go_simp
        first | done | with_reducible rfl
      (try simp only [Act.put, List.setIfInBounds_toArray, List.set_cons_zero, List.set_cons_succ])
      refine wpAnyH_take (i := 5) (oi := { dst := some 26, op := Op.indexAddr 25 (Operand.tmp 24) (Operand.tmp 25), type := 0, pos := "ref.go:76", after := #[{ on := 3, ground := Ground.data }, { on := 4, ground := Ground.data }], guard := none }) (v := ?_) rfl (by kernel_rfl) (by kernel_rfl) (by kernel_rfl) (fun _ _ _ h => h) (Or.inl ⟨by rfl, ?_⟩) hHeld ?_
      rotate_left 1
      · intro u hSu
        obtain ⟨q0, q1⟩ := row_cells (kept_row HBr.out.1 hSu.out (by simp))
        obtain ⟨q2, -⟩ := rt_cellsZ (HBr.out.2.keep hSu.out) HY.out
        go_simp
        first | done | with_reducible rfl
      (try simp only [Act.put, List.setIfInBounds_toArray, List.set_cons_zero, List.set_cons_succ])
      refine wpAnyH_take (i := 6) (oi := { dst := some 27, op := Op.fieldAddr 43 (Operand.tmp 26) 0, type := 0, pos := "ref.go:76", after := #[{ on := 5, ground := Ground.data }], guard := none }) (v := ?_) rfl (by kernel_rfl) (by kernel_rfl) (by kernel_rfl) (fun _ _ _ h => h) (Or.inl ⟨by rfl, ?_⟩) hHeld ?_
      rotate_left 1
      · intro u hSu
        obtain ⟨q0, q1⟩ := row_cells (kept_row HBr.out.1 hSu.out (by simp))
        obtain ⟨q2, -⟩ := rt_cellsZ (HBr.out.2.keep hSu.out) HY.out
        go_simp
        first | done | with_reducible rfl
      (try simp only [Act.put, List.setIfInBounds_toArray, List.set_cons_zero, List.set_cons_succ])
      refine wpAnyH_take (i := 7) (oi := { dst := some 28, op := Op.load 3 (Operand.tmp 27), type := 3, pos := "ref.go:76", after := #[{ on := 6, ground := Ground.data }], guard := none }) (v := ?_) rfl (by kernel_rfl) (by kernel_rfl) (by kernel_rfl) (fun _ _ _ h => h) (Or.inl ⟨by rfl, ?_⟩) hHeld ?_
      rotate_left 1
      · intro u hSu
        obtain ⟨q0, q1⟩ := row_cells (kept_row HBr.out.1 hSu.out (by simp))
        obtain ⟨q2, -⟩ := rt_cellsZ (HBr.out.2.keep hSu.out) HY.out
        go_simp
        first | done | with_reducible rfl
      (try simp only [Act.put, List.setIfInBounds_toArray, List.set_cons_zero, List.set_cons_succ])
      refine wpAnyH_ready (rs := [8]) (by kernel_rfl) (by simp) ?_
      refine AllReadyH.cons (o := { dst := some 29, op := Op.call { callee := Callee.value (Operand.func 10), args := #[Operand.tmp 21, Operand.tmp 22, Operand.tmp 28], argTypes := #[28, 3, 3] }, type := 35, pos := "ref.go:76", after := #[{ on := 0, ground := Ground.data }, { on := 1, ground := Ground.data }, { on := 7, ground := Ground.data }], guard := none }) rfl (fun Kz hK => ?_) AllReadyH.nil
      go_simp
      go_at_call 10
      refine (rcst_any ⟨R, L, some ⟨bR, oR, none⟩, cR, pL, cL⟩ a y.id _ _ (HBr.out.2.keep hHeld.out)).mono ?_
      rintro e w9 ⟨rfl, hg9⟩
      simp only
      rw [HFE.out]
      refine hK.out _ _ (Lib.hid (grown_trans hHeld.out hg9)) (fun hH2 => ?_)
      clear hK Kz hHeld
      have hHeld := hH2
      clear hH2
      (try simp only [Act.put, List.setIfInBounds_toArray, List.set_cons_zero, List.set_cons_succ])
      refine wpAnyH_take (i := 9) (oi := { dst := some 20, op := Op.move (Operand.tmp 29), type := 35, pos := "ref.go:76", after := #[{ on := 8, ground := Ground.data }], guard := none }) (v := ?_) rfl (by kernel_rfl) (by kernel_rfl) (by kernel_rfl) (fun _ _ _ h => h) (Or.inl ⟨by rfl, ?_⟩) hHeld ?_
      rotate_left 1
      · intro u hSu
        obtain ⟨q0, q1⟩ := row_cells (kept_row HBr.out.1 hSu.out (by simp))
        obtain ⟨q2, -⟩ := rt_cellsZ (HBr.out.2.keep hSu.out) HY.out
        go_simp
        first | done | with_reducible rfl
      (try simp only [Act.put, List.setIfInBounds_toArray, List.set_cons_zero, List.set_cons_succ])
      refine wpAnyH_take (i := 10) (oi := { dst := some 30, op := Op.extract (Operand.tmp 20) 0, type := 3, pos := "ref.go:76", after := #[{ on := 9, ground := Ground.data }], guard := none }) (v := ?_) rfl (by kernel_rfl) (by kernel_rfl) (by kernel_rfl) (fun _ _ _ h => h) (Or.inl ⟨by rfl, ?_⟩) hHeld ?_
      rotate_left 1
      · intro u hSu
        obtain ⟨q0, q1⟩ := row_cells (kept_row HBr.out.1 hSu.out (by simp))
        obtain ⟨q2, -⟩ := rt_cellsZ (HBr.out.2.keep hSu.out) HY.out
        go_simp
        first | done | with_reducible rfl
      (try simp only [Act.put, List.setIfInBounds_toArray, List.set_cons_zero, List.set_cons_succ])
      refine wpAnyH_take (i := 11) (oi := { dst := some 31, op := Op.extract (Operand.tmp 20) 1, type := 4, pos := "ref.go:76", after := #[{ on := 9, ground := Ground.data }, { on := 12, ground := Ground.gcOnly Departure.lateStores }], guard := none }) (v := ?_) rfl (by kernel_rfl) (by kernel_rfl) (by kernel_rfl) (fun _ _ _ h => h) (Or.inl ⟨by rfl, ?_⟩) hHeld ?_
      rotate_left 1
      · intro u hSu
        obtain ⟨q0, q1⟩ := row_cells (kept_row HBr.out.1 hSu.out (by simp))
        obtain ⟨q2, -⟩ := rt_cellsZ (HBr.out.2.keep hSu.out) HY.out
        go_simp
        first | done | with_reducible rfl
      (try simp only [Act.put, List.setIfInBounds_toArray, List.set_cons_zero, List.set_cons_succ])
      refine wpAnyH_take (i := 12) (oi := { dst := some 7, op := Op.assign (Operand.tmp 30), type := 3, pos := "ref.go:76", after := #[{ on := 10, ground := Ground.data }, { on := 8, ground := Ground.chain }, { on := 0, ground := Ground.phase }, { on := 1, ground := Ground.phase }, { on := 2, ground := Ground.phase }, { on := 3, ground := Ground.phase }, { on := 4, ground := Ground.phase }, { on := 5, ground := Ground.phase }, { on := 6, ground := Ground.phase }, { on := 7, ground := Ground.phase }, { on := 8, ground := Ground.phase }, { on := 9, ground := Ground.phase }, { on := 10, ground := Ground.phase }, { on := 11, ground := Ground.textOnly Departure.lateStores }], guard := none }) (v := ?_) rfl (by kernel_rfl) (by kernel_rfl) (by kernel_rfl) (fun _ _ _ h => h) (Or.inl ⟨by rfl, ?_⟩) hHeld ?_
      rotate_left 1
      · intro u hSu
        obtain ⟨q0, q1⟩ := row_cells (kept_row HBr.out.1 hSu.out (by simp))
        obtain ⟨q2, -⟩ := rt_cellsZ (HBr.out.2.keep hSu.out) HY.out
        go_simp
        first | done | with_reducible rfl
      (try simp only [Act.put, List.setIfInBounds_toArray, List.set_cons_zero, List.set_cons_succ])
      refine wpAnyH_take (i := 13) (oi := { dst := some 8, op := Op.assign (Operand.tmp 31), type := 4, pos := "ref.go:76", after := #[{ on := 11, ground := Ground.data }, { on := 12, ground := Ground.chain }, { on := 0, ground := Ground.phase }, { on := 1, ground := Ground.phase }, { on := 2, ground := Ground.phase }, { on := 3, ground := Ground.phase }, { on := 4, ground := Ground.phase }, { on := 5, ground := Ground.phase }, { on := 6, ground := Ground.phase }, { on := 7, ground := Ground.phase }, { on := 8, ground := Ground.phase }, { on := 9, ground := Ground.phase }, { on := 10, ground := Ground.phase }, { on := 11, ground := Ground.phase }, { on := 12, ground := Ground.phase }], guard := none }) (v := ?_) rfl (by kernel_rfl) (by kernel_rfl) (by kernel_rfl) (fun _ _ _ h => h) (Or.inl ⟨by rfl, ?_⟩) hHeld ?_
      rotate_left 1
      · intro u hSu
        obtain ⟨q0, q1⟩ := row_cells (kept_row HBr.out.1 hSu.out (by simp))
        obtain ⟨q2, -⟩ := rt_cellsZ (HBr.out.2.keep hSu.out) HY.out
        go_simp
        first | done | with_reducible rfl
      (try simp only [Act.put, List.setIfInBounds_toArray, List.set_cons_zero, List.set_cons_succ])
      refine wpAnyH_done (by kernel_rfl) ?_ _
      have NA := Lib.hid (NN.out.keep hHeld.out)
      have HBa := Lib.hid (And.intro (kept_row HBr.out.1 hHeld.out (by simp)) (HBr.out.2.keep hHeld.out))
      obtain ⟨wa, hwa⟩ : ∃ wa, wa = w9 := ⟨_, rfl⟩
      rw [← hwa] at NA HBa ⊢
      clear hHeld hwa NN HBr c0 c1
      obtain ⟨c0, c1⟩ := row_cells HBa.out.1
      obtain ⟨a0, a1⟩ := rt_cellsZ HBa.out.2 HY.out
      cases hd : f y.id with
      | none =>
        have HS2 : Hid (((ids R).take (k + 1)).filter (fun x => (f x).isSome) = ((ids R).take k).filter (fun x => (f x).isSome)) := Lib.hid (by rw [HS.out, hd]; simp)
        clear hd
        simp only [Option.getD_none, Option.isSome_none]
        go_wp2_with fail
        exact ⟨⟨k + 1, _, rfl, by omega, congrArg _ (by omega), by rw [HS2.out]; exact NA⟩, by simp only [RowKit.intOf]; omega⟩
      | some d =>
        have hdb := HDB.out y.id d hd
        have HS3 : Hid (disF f (((ids R).take (k + 1)).filter fun x => (f x).isSome) = disF f (((ids R).take k).filter fun x => (f x).isSome) ++ [(y.id, d)]) := Lib.hid (by
          rw [HS.out]
          unfold disF
          rw [List.map_append]
          congr 1
          rw [if_pos (by rw [hd]; rfl)]
          simp [hd])
        clear HS
        have HS := HS3
        clear hd HS3
        simp only [Option.getD_some, Option.isSome_some]
        obtain ⟨M, hM⟩ : ∃ M, disF f (((ids R).take k).filter fun x => (f x).isSome) = M := ⟨_, rfl⟩
        have hMl : M.length ≤ 1000 := by rw [← hM]; unfold disF; rw [List.length_map]; exact Nat.le_trans (List.length_filter_le _ _) (by rw [List.length_take]; omega)
        rw [hM] at NA HS
        have NN := NA
        have hown := NN.out.own
        have hsz := NN.out.gr.size
        clear hM NA
        go_wp2_with (at_builtin; refine hold_on ?_)
        refine Lib.hid ?_
        refine wpList_append_lies _ rfl _ _ 31 rfl w1.heap.size 34 i0 (.agg #[.int .i64 0, .int .i64 0]) 2 16 Tryz.underlying31 hi hz0 hz1 hz2 rfl (by decide) _ _ _ rfl (hown.alloc _) ⟨wa.heap.size, 0, none⟩ 1 1 [.int .i64 y.id, .int .i64 d] rfl rfl ?c1 ?c2 (by decide) ?c3 ?c4 ?c5 _ rfl ?_
        try (case c1 => exact cells2 _ _ _ _)
        case c2 => (intro u hu; simp at hu; rcases hu with rfl | rfl <;> rfl)
        case c3 => first | omega | (unfold maxLen; omega)
        case c4 => omega
        case c5 => first | omega | (simp; omega)
        intro gq capq w8 hown8 hg8 hat8 hlt8
        obtain ⟨vq, hvq⟩ : ∃ vq, Value.slice (some ⟨gq, 0, none⟩) (M.length + 1) capq = vq := ⟨_, rfl⟩
        rw [hvq] at hown8 ⊢
        obtain ⟨n1, -⟩ := NN.out.more (x := (y.id, d)) (grown_refl _ _) hown8 hg8
        have N1 : Hid (ND w1 vq (disF f (((ids R).take (k + 1)).filter fun x => (f x).isSome)) w8) := Lib.hid (by rw [HS.out]; exact n1)
        clear hvq hat8 hlt8 hg8 hown n1 hown8
        go_wp2_with fail
        exact ⟨⟨k + 1, _, rfl, by omega, congrArg _ (by omega), N1⟩, by simp only [RowKit.intOf]; omega⟩
    · obtain rfl : k = R.length := by omega
      have hN := NN.out
      rw [List.take_of_length_le (by rw [ids_len]; exact Nat.le_refl _), ← HXE.out] at hN
      have H9 : Hid (w2.ownsRow w.heap.size 34 2 va X.length (X.flatMap dsC) ∧ w.grownBy w2 none) := Lib.hid ⟨hN.own.mono HB1.out.2.1.size, grown_trans HB1.out.2.1 hN.gr⟩
      clear hN NN
      go_wp2_with fail
      go_ret
      exact ⟨_, rfl, H9.out⟩
end Go.Proofs.YtlefjdglcdopeaaGreat
