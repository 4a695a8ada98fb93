/- Parts of the proof, packed: ShRUn, ShUnLaw. -/
import Derived.Test.YtlefjdglcdopeaaUn19
import Derived.Test.YtlefjdglcdopeaaUn23
import Derived.Test.YtlefjdglcdopeaaUn4
import Derived.Test.YtlefjdglcdopeaaUn15
/- The reference's Unique. -/
namespace Go.Proofs.Ytlefjdglcdopeaa
open Go.RowKit Bs
set_option maxRecDepth 100000 in
theorem all_comm (R : List Rt) (L : List Lk) : (ids R).all (unO R L) = (ids R).all (fun a => (ids R).all fun z => decide (pV R L a z ≤ 1)) := by
  rw [Bool.eq_iff_iff, List.all_eq_true, List.all_eq_true]
  constructor
  · intro h a ha
    rw [List.all_eq_true]
    intro z hz
    have := h z hz
    unfold unO at this
    exact List.all_eq_true.1 this a ha
  · intro h z hz
    unfold unO
    rw [List.all_eq_true]
    intro a ha
    exact List.all_eq_true.1 (h a ha) z hz
set_option maxRecDepth 100000 in
theorem rt_cells {w : World} {q : Nat → Prop} {R : List Rt} {L : List Lk} {pL : Option Addr} {cR bR oR cL k : Nat} {l : Rt} (h : TgOk w q ⟨R, L, some ⟨bR, oR, none⟩, cR, pL, cL⟩) (hl : R[k]? = some l) :
    w.cell? ⟨bR, oR + k * 2, none⟩ = some (.int .i64 l.id) ∧ w.cell? ⟨bR, oR + k * 2 + 1, none⟩ = some (.bool l.cap) := by
  have h0 : 0 < R.length := by have := (List.getElem?_eq_some_iff.1 hl).1; omega
  obtain ⟨-, b, o, e, -, hc⟩ := rdr_cells (R := R) h.r h0
  injection e with e
  injection e with e1 e2
  subst e1
  subst e2
  exact hc k l hl
set_option maxRecDepth 100000 in
set_option maxHeartbeats 6400000 in
theorem run_any (T : Tg) (q : Nat → Prop) (w : World) (hT : TgOk w q T) (h1 : T.R.length ≤ 1000) :
    Calls Try.prog 23 #[.agg #[.slice T.pR T.R.length T.cR, .slice T.pL T.L.length T.cL]] w fun e w' => e = .returned (.bool (unV T.R T.L)) ∧ w.grownBy w' none := by
  obtain ⟨R, L, pR, cR, pL, cL⟩ := T
  simp only at h1 ⊢
  obtain ⟨k1, k2⟩ := tone_box w #[.slice pR R.length cR, .slice pL L.length cL] 28
  obtain ⟨G, hG⟩ : ∃ G, w.heap.size = G := ⟨_, rfl⟩
  have HB : Hid (UK w G ⟨R, L, pR, cR, pL, cL⟩ _) := Lib.hid ⟨by rw [← hG]; exact k1, hT.old.keep k2, k2, hG.symm⟩
  clear k1 k2 hT
  obtain ⟨X, hX⟩ : ∃ X, unV R L = X := ⟨_, rfl⟩
  have HX := Lib.hid hX
  rw [hX]
  clear hX
  go_enter Try.func23, Try.ntmps23
  go_upto_region 1 with fail
  generalize w.alloc _ = wb at *
  (try rw [hG])
  have HG := Lib.hid hG
  clear hG
  obtain ⟨c0, c1⟩ := row_cells HB.out.gb
  obtain ⟨k, hk⟩ : ∃ k, chk R L = k := ⟨_, rfl⟩
  have HK := Lib.hid hk
  clear hk
  go_wp2_with fail
  refine (rcheck_any ⟨R, L, pR, cR, pL, cL⟩ _ wb HB.out.t).mono ?_
  rintro e w1 ⟨rfl, hg⟩
  simp only
  rw [HK.out]
  have HB1 := Lib.hid (HB.out.keep hg)
  clear hg c0 c1 HB
  obtain ⟨c0, c1⟩ := row_cells HB1.out.gb
  by_cases hk0 : k = 0
  rotate_left 1
  · have hk1 : (k != 0) = true := by simpa using hk0
    obtain rfl : X = false := by
      rw [← HX.out]; unfold unV okT; rw [HK.out]
      have : (k == 0) = false := by simpa using hk0
      rw [this]; rfl
    go_wp2_with fail
    go_ret
    exact ⟨rfl, HB1.out.gr⟩
  · subst hk0
    have hok : okT R L = true := by unfold okT; rw [HK.out]; rfl
    have HX2 : Hid ((ids R).all (fun a => (ids R).all fun z => decide (pV R L a z ≤ 1)) = X) := Lib.hid (by rw [← HX.out, ← all_comm]; unfold unV; rw [hok]; rfl)
    clear hok
    obtain ⟨pr, hpr⟩ : ∃ pr : Int → Int → Bool, (fun a z => decide (pV R L a z ≤ 1)) = pr := ⟨_, rfl⟩
    have HPR : Hid (∀ a z, decide (pV R L a z ≤ 1) = pr a z) := Lib.hid (fun a z => by rw [← hpr])
    have HX3 : Hid ((ids R).all (fun a => (ids R).all (pr a)) = X) := Lib.hid (by rw [← hpr]; exact HX2.out)
    clear hpr HX2
    have A0 : Hid (((ids R).take 0).all (fun a => (ids R).all (pr a)) = true) := Lib.hid rfl
    go_wp2_with fail
    go_loopw [3] (fun a wr => ∃ i : Nat, i ≤ R.length ∧ a = .int .i64 (i : Int) ∧ Hid (UK w G ⟨R, L, pR, cR, pL, cL⟩ wr) ∧ Hid (((ids R).take i).all (fun a => (ids R).all (pr a)) = true)) (fun a _ => R.length - (RowKit.intOf a).toNat)
    case atStart => exact ⟨0, Nat.zero_le _, rfl, HB1, A0⟩
    case round =>
    obtain ⟨w2, rfl⟩ : ∃ w2, w2 = wr := ⟨_, rfl⟩
    obtain ⟨i, hi, rfl, U, HA⟩ := hrel
    clear HB1 A0 c0 c1
    obtain ⟨c0, c1⟩ := row_cells U.out.gb
    by_cases hlt : i < R.length
    · obtain ⟨y, hy⟩ : ∃ y, R[i]? = some y := ⟨_, List.getElem?_eq_getElem hlt⟩
      have HY := Lib.hid (And.intro hy (ids_at hy))
      have i1 : (i : Int) < (R.length : Int) := by omega
      have i0 : (0 : Int) ≤ (i : Int) := by omega
      obtain ⟨-, bR, oR, rfl, -, -⟩ := rdr_cells (R := R) U.out.t.r (by omega)
      clear hy
      have B0 : Hid (((ids R).take 0).all (pr y.id) = true) := Lib.hid rfl
      go_wp2_with fail
      go_loopw [4] (fun a wr => ∃ j : Nat, j ≤ R.length ∧ a = .int .i64 (j : Int) ∧ Hid (UK w G ⟨R, L, some ⟨bR, oR, none⟩, cR, pL, cL⟩ wr) ∧ Hid (((ids R).take j).all (pr y.id) = true)) (fun a _ => R.length - (RowKit.intOf a).toNat)
      case atStart => exact ⟨0, Nat.zero_le _, rfl, U, B0⟩
      case round =>
      obtain ⟨w3, rfl⟩ : ∃ w3, w3 = wr := ⟨_, rfl⟩
      obtain ⟨j, hj, rfl, V, HC⟩ := hrel
      clear B0 U c0 c1
      obtain ⟨c0, c1⟩ := row_cells V.out.gb
      by_cases hltj : j < R.length
      · obtain ⟨z, hz⟩ : ∃ z, R[j]? = some z := ⟨_, List.getElem?_eq_getElem hltj⟩
        have HZ := Lib.hid (And.intro hz (ids_at hz))
        have j1 : (j : Int) < (R.length : Int) := by omega
        have j0 : (0 : Int) ≤ (j : Int) := by omega
        clear hz
        go_upto_region 9 with fail
        refine wp_region_held_drew (S := fun w' => Hid (w3.grownBy w' none)) (by kernel_rfl) (Lib.hid (grown_drew (grown_refl _ _))) (fun hHeld => ?_)
        refine wpAnyH_take (i := 0) (oi := { dst := some 22, op := Op.load 28 (Operand.tmp 1), type := 28, pos := "ref.go:156", after := #[], guard := none }) (v := ?_) rfl (by kernel_rfl) (by kernel_rfl) (by kernel_rfl) (fun _ _ _ h => h) (Or.inl ⟨by rfl, ?_⟩) hHeld ?_
        rotate_left 1
        · intro u hSu
          obtain ⟨q0, q1⟩ := row_cells (kept_row V.out.gb hSu.out (by simp))
          obtain ⟨q2, -⟩ := rt_cells (V.out.t.keep hSu.out) HY.out.1
          obtain ⟨q3, -⟩ := rt_cells (V.out.t.keep hSu.out) HZ.out.1
          go_simp
          first | done | with_reducible rfl
        (try simp only [Act.put, List.setIfInBounds_toArray, List.set_cons_zero, List.set_cons_succ])
        refine wpAnyH_take (i := 1) (oi := { dst := some 23, op := Op.fieldAddr 28 (Operand.tmp 1) 0, type := 0, pos := "ref.go:156", after := #[], guard := none }) (v := ?_) rfl (by kernel_rfl) (by kernel_rfl) (by kernel_rfl) (fun _ _ _ h => h) (Or.inl ⟨by rfl, ?_⟩) hHeld ?_
        rotate_left 1
        · intro u hSu
          obtain ⟨q0, q1⟩ := row_cells (kept_row V.out.gb hSu.out (by simp))
          obtain ⟨q2, -⟩ := rt_cells (V.out.t.keep hSu.out) HY.out.1
          obtain ⟨q3, -⟩ := rt_cells (V.out.t.keep hSu.out) HZ.out.1
          go_simp
          first | done | with_reducible rfl
        (try simp only [Act.put, List.setIfInBounds_toArray, List.set_cons_zero, List.set_cons_succ])
        refine wpAnyH_take (i := 2) (oi := { dst := some 24, op := Op.load 25 (Operand.tmp 23), type := 25, pos := "ref.go:156", after := #[{ on := 1, ground := Ground.data }], guard := none }) (v := ?_) rfl (by kernel_rfl) (by kernel_rfl) (by kernel_rfl) (fun _ _ _ h => h) (Or.inl ⟨by rfl, ?_⟩) hHeld ?_
        rotate_left 1
        · intro u hSu
          obtain ⟨q0, q1⟩ := row_cells (kept_row V.out.gb hSu.out (by simp))
          obtain ⟨q2, -⟩ := rt_cells (V.out.t.keep hSu.out) HY.out.1
          obtain ⟨q3, -⟩ := rt_cells (V.out.t.keep hSu.out) HZ.out.1
          go_simp
          first | done | with_reducible rfl
        (try simp only [Act.put, List.setIfInBounds_toArray, List.set_cons_zero, List.set_cons_succ])
        refine wpAnyH_take (i := 3) (oi := { dst := some 25, op := Op.move (Operand.tmp 3), type := 3, pos := "ref.go:156", after := #[], guard := none }) (v := ?_) rfl (by kernel_rfl) (by kernel_rfl) (by kernel_rfl) (fun _ _ _ h => h) (Or.inl ⟨by rfl, ?_⟩) hHeld ?_
        rotate_left 1
        · intro u hSu
          obtain ⟨q0, q1⟩ := row_cells (kept_row V.out.gb hSu.out (by simp))
          obtain ⟨q2, -⟩ := rt_cells (V.out.t.keep hSu.out) HY.out.1
          obtain ⟨q3, -⟩ := rt_cells (V.out.t.keep hSu.out) HZ.out.1
          go_simp
          first | done | with_reducible rfl
        (try simp only [Act.put, List.setIfInBounds_toArray, List.set_cons_zero, List.set_cons_succ])
        refine wpAnyH_take (i := 4) (oi := { dst := some 26, op := Op.indexAddr 25 (Operand.tmp 24) (Operand.tmp 25), type := 0, pos := "ref.go:156", after := #[{ on := 2, ground := Ground.data }, { on := 3, ground := Ground.data }], guard := none }) (v := ?_) rfl (by kernel_rfl) (by kernel_rfl) (by kernel_rfl) (fun _ _ _ h => h) (Or.inl ⟨by rfl, ?_⟩) hHeld ?_
        rotate_left 1
        · intro u hSu
          obtain ⟨q0, q1⟩ := row_cells (kept_row V.out.gb hSu.out (by simp))
          obtain ⟨q2, -⟩ := rt_cells (V.out.t.keep hSu.out) HY.out.1
          obtain ⟨q3, -⟩ := rt_cells (V.out.t.keep hSu.out) HZ.out.1
          go_simp
          first | done | with_reducible rfl
        (try simp only [Act.put, List.setIfInBounds_toArray, List.set_cons_zero, List.set_cons_succ])
        refine wpAnyH_take (i := 5) (oi := { dst := some 27, op := Op.fieldAddr 63 (Operand.tmp 26) 0, type := 0, pos := "ref.go:156", after := #[{ on := 4, ground := Ground.data }], guard := none }) (v := ?_) rfl (by kernel_rfl) (by kernel_rfl) (by kernel_rfl) (fun _ _ _ h => h) (Or.inl ⟨by rfl, ?_⟩) hHeld ?_
        rotate_left 1
        · intro u hSu
          obtain ⟨q0, q1⟩ := row_cells (kept_row V.out.gb hSu.out (by simp))
          obtain ⟨q2, -⟩ := rt_cells (V.out.t.keep hSu.out) HY.out.1
          obtain ⟨q3, -⟩ := rt_cells (V.out.t.keep hSu.out) HZ.out.1
          go_simp
          first | done | with_reducible rfl
        (try simp only [Act.put, List.setIfInBounds_toArray, List.set_cons_zero, List.set_cons_succ])
        refine wpAnyH_take (i := 6) (oi := { dst := some 28, op := Op.load 3 (Operand.tmp 27), type := 3, pos := "ref.go:156", after := #[{ on := 5, ground := Ground.data }], guard := none }) (v := ?_) rfl (by kernel_rfl) (by kernel_rfl) (by kernel_rfl) (fun _ _ _ h => h) (Or.inl ⟨by rfl, ?_⟩) hHeld ?_
        rotate_left 1
        · intro u hSu
          obtain ⟨q0, q1⟩ := row_cells (kept_row V.out.gb hSu.out (by simp))
          obtain ⟨q2, -⟩ := rt_cells (V.out.t.keep hSu.out) HY.out.1
          obtain ⟨q3, -⟩ := rt_cells (V.out.t.keep hSu.out) HZ.out.1
          go_simp
          first | done | with_reducible rfl
        (try simp only [Act.put, List.setIfInBounds_toArray, List.set_cons_zero, List.set_cons_succ])
        refine wpAnyH_take (i := 7) (oi := { dst := some 29, op := Op.fieldAddr 28 (Operand.tmp 1) 0, type := 0, pos := "ref.go:156", after := #[], guard := none }) (v := ?_) rfl (by kernel_rfl) (by kernel_rfl) (by kernel_rfl) (fun _ _ _ h => h) (Or.inl ⟨by rfl, ?_⟩) hHeld ?_
        rotate_left 1
        · intro u hSu
          obtain ⟨q0, q1⟩ := row_cells (kept_row V.out.gb hSu.out (by simp))
          obtain ⟨q2, -⟩ := rt_cells (V.out.t.keep hSu.out) HY.out.1
          obtain ⟨q3, -⟩ := rt_cells (V.out.t.keep hSu.out) HZ.out.1
          go_simp
          first | done | with_reducible rfl
        (try simp only [Act.put, List.setIfInBounds_toArray, List.set_cons_zero, List.set_cons_succ])
        refine wpAnyH_take (i := 8) (oi := { dst := some 30, op := Op.load 25 (Operand.tmp 29), type := 25, pos := "ref.go:156", after := #[{ on := 7, ground := Ground.data }], guard := none }) (v := ?_) rfl (by kernel_rfl) (by kernel_rfl) (by kernel_rfl) (fun _ _ _ h => h) (Or.inl ⟨by rfl, ?_⟩) hHeld ?_
        rotate_left 1
        · intro u hSu
          obtain ⟨q0, q1⟩ := row_cells (kept_row V.out.gb hSu.out (by simp))
          obtain ⟨q2, -⟩ := rt_cells (V.out.t.keep hSu.out) HY.out.1
          obtain ⟨q3, -⟩ := rt_cells (V.out.t.keep hSu.out) HZ.out.1
          go_simp
          first | done | with_reducible rfl
        (try simp only [Act.put, List.setIfInBounds_toArray, List.set_cons_zero, List.set_cons_succ])
        refine wpAnyH_take (i := 9) (oi := { dst := some 31, op := Op.move (Operand.tmp 4), type := 3, pos := "ref.go:156", after := #[], guard := none }) (v := ?_) rfl (by kernel_rfl) (by kernel_rfl) (by kernel_rfl) (fun _ _ _ h => h) (Or.inl ⟨by rfl, ?_⟩) hHeld ?_
        rotate_left 1
        · intro u hSu
          obtain ⟨q0, q1⟩ := row_cells (kept_row V.out.gb hSu.out (by simp))
          obtain ⟨q2, -⟩ := rt_cells (V.out.t.keep hSu.out) HY.out.1
          obtain ⟨q3, -⟩ := rt_cells (V.out.t.keep hSu.out) HZ.out.1
          go_simp
          first | done | with_reducible rfl
        (try simp only [Act.put, List.setIfInBounds_toArray, List.set_cons_zero, List.set_cons_succ])
        refine wpAnyH_take (i := 10) (oi := { dst := some 32, op := Op.indexAddr 25 (Operand.tmp 30) (Operand.tmp 31), type := 0, pos := "ref.go:156", after := #[{ on := 8, ground := Ground.data }, { on := 9, ground := Ground.data }], guard := none }) (v := ?_) rfl (by kernel_rfl) (by kernel_rfl) (by kernel_rfl) (fun _ _ _ h => h) (Or.inl ⟨by rfl, ?_⟩) hHeld ?_
        rotate_left 1
        · intro u hSu
          obtain ⟨q0, q1⟩ := row_cells (kept_row V.out.gb hSu.out (by simp))
          obtain ⟨q2, -⟩ := rt_cells (V.out.t.keep hSu.out) HY.out.1
          obtain ⟨q3, -⟩ := rt_cells (V.out.t.keep hSu.out) HZ.out.1
          go_simp
          first | done | with_reducible rfl
        (try simp only [Act.put, List.setIfInBounds_toArray, List.set_cons_zero, List.set_cons_succ])
        refine wpAnyH_take (i := 11) (oi := { dst := some 33, op := Op.fieldAddr 63 (Operand.tmp 32) 0, type := 0, pos := "ref.go:156", after := #[{ on := 10, ground := Ground.data }], guard := none }) (v := ?_) rfl (by kernel_rfl) (by kernel_rfl) (by kernel_rfl) (fun _ _ _ h => h) (Or.inl ⟨by rfl, ?_⟩) hHeld ?_
        rotate_left 1
        · intro u hSu
          obtain ⟨q0, q1⟩ := row_cells (kept_row V.out.gb hSu.out (by simp))
          obtain ⟨q2, -⟩ := rt_cells (V.out.t.keep hSu.out) HY.out.1
          obtain ⟨q3, -⟩ := rt_cells (V.out.t.keep hSu.out) HZ.out.1
          go_simp
          first | done | with_reducible rfl
        (try simp only [Act.put, List.setIfInBounds_toArray, List.set_cons_zero, List.set_cons_succ])
        refine wpAnyH_take (i := 12) (oi := { dst := some 34, op := Op.load 3 (Operand.tmp 33), type := 3, pos := "ref.go:156", after := #[{ on := 11, ground := Ground.data }], guard := none }) (v := ?_) rfl (by kernel_rfl) (by kernel_rfl) (by kernel_rfl) (fun _ _ _ h => h) (Or.inl ⟨by rfl, ?_⟩) hHeld ?_
        rotate_left 1
        · intro u hSu
          obtain ⟨q0, q1⟩ := row_cells (kept_row V.out.gb hSu.out (by simp))
          obtain ⟨q2, -⟩ := rt_cells (V.out.t.keep hSu.out) HY.out.1
          obtain ⟨q3, -⟩ := rt_cells (V.out.t.keep hSu.out) HZ.out.1
          go_simp
          first | done | with_reducible rfl
        (try simp only [Act.put, List.setIfInBounds_toArray, List.set_cons_zero, List.set_cons_succ])
        refine wpAnyH_ready (rs := [13]) (by kernel_rfl) (by simp) ?_
        refine AllReadyH.cons (o := { dst := some 35, op := Op.call { callee := Callee.value (Operand.func 20), args := #[Operand.tmp 22, Operand.tmp 28, Operand.tmp 34], argTypes := #[28, 3, 3] }, type := 3, pos := "ref.go:156", after := #[{ on := 0, ground := Ground.data }, { on := 6, ground := Ground.data }, { on := 12, ground := Ground.data }], guard := none }) rfl (fun Kz hK => ?_) AllReadyH.nil
        go_simp
        go_at_call 20
        refine (rpa_any ⟨R, L, some ⟨bR, oR, none⟩, cR, pL, cL⟩ y.id z.id _ _ (V.out.t.keep hHeld.out)).mono ?_
        rintro e w9 ⟨rfl, hg9⟩
        (try simp only)
        obtain ⟨P, hP⟩ : ∃ P, pV R L y.id z.id = P := ⟨_, rfl⟩
        have HP : Hid (decide (P ≤ 1) = pr y.id z.id) := Lib.hid (by rw [← hP]; exact HPR.out _ _)
        rw [hP]
        clear hP
        refine hK.out _ _ (Lib.hid (grown_trans hHeld.out hg9)) (fun hH2 => ?_)
        clear hK Kz hHeld
        have hHeld := hH2
        clear hH2
        (try simp only [Act.put, List.setIfInBounds_toArray, List.set_cons_zero, List.set_cons_succ])
        refine wpAnyH_take (i := 14) (oi := { dst := some 36, op := Op.binOp BinOp.gtr 3 (Operand.tmp 35) (Operand.const (Value.int IntKind.i64 1)) 3, type := 4, pos := "ref.go:156", after := #[{ on := 13, ground := Ground.data }], guard := none }) (v := ?_) rfl (by kernel_rfl) (by kernel_rfl) (by kernel_rfl) (fun _ _ _ h => h) (Or.inl ⟨by rfl, ?_⟩) hHeld ?_
        rotate_left 1
        · intro u hSu
          obtain ⟨q0, q1⟩ := row_cells (kept_row V.out.gb hSu.out (by simp))
          obtain ⟨q2, -⟩ := rt_cells (V.out.t.keep hSu.out) HY.out.1
          obtain ⟨q3, -⟩ := rt_cells (V.out.t.keep hSu.out) HZ.out.1
          go_simp
          first | done | with_reducible rfl
        (try simp only [Act.put, List.setIfInBounds_toArray, List.set_cons_zero, List.set_cons_succ])
        refine wpAnyH_done (by kernel_rfl) ?_ _
        have V9 := Lib.hid (V.out.keep hHeld.out)
        obtain ⟨wa, hwa⟩ : ∃ wa, wa = w9 := ⟨_, rfl⟩
        rw [← hwa] at V9 ⊢
        clear hHeld hwa V
        by_cases hP1 : 1 < P
        · obtain rfl : X = false := by
            rw [← HX3.out, List.all_eq_false]
            refine ⟨y.id, List.mem_of_getElem? HY.out.2, ?_⟩
            rw [Bool.not_eq_true, List.all_eq_false]
            refine ⟨z.id, List.mem_of_getElem? HZ.out.2, ?_⟩
            rw [← HP.out]
            simp
            omega
          go_wp2_with fail
          go_ret
          exact ⟨rfl, V9.out.gr⟩
        · have HC2 : Hid (((ids R).take (j + 1)).all (pr y.id) = true) := Lib.hid (by
            rw [List.take_add_one, HZ.out.2, List.all_append, HC.out]
            simp only [Option.toList_some, List.all_cons, List.all_nil, Bool.and_true, Bool.true_and]
            rw [← HP.out]
            exact decide_eq_true (by omega))
          go_wp2_with fail
          exact ⟨⟨j + 1, by omega, congrArg _ (by omega), V9, HC2⟩, by simp only [RowKit.intOf]; omega⟩
      · obtain rfl : j = R.length := by omega
        have HA2 : Hid (((ids R).take (i + 1)).all (fun a => (ids R).all (pr a)) = true) := Lib.hid (by
          rw [List.take_add_one, HY.out.2, List.all_append, HA.out]
          simp only [Option.toList_some, List.all_cons, List.all_nil, Bool.and_true, Bool.true_and]
          have := HC.out
          rwa [List.take_of_length_le (by rw [ids_len]; exact Nat.le_refl _)] at this)
        go_wp2_with fail
        exact ⟨⟨i + 1, by omega, congrArg _ (by omega), V, HA2⟩, by simp only [RowKit.intOf]; omega⟩
    · obtain rfl : i = R.length := by omega
      obtain rfl : X = true := by
        rw [← HX3.out]
        have := HA.out
        rwa [List.take_of_length_le (by rw [ids_len]; exact Nat.le_refl _)] at this
      go_wp2_with fail
      go_ret
      exact ⟨rfl, U.out.gr⟩
end Go.Proofs.Ytlefjdglcdopeaa

/- The law ShortestUnique. -/
namespace Go.Proofs.Ytlefjdglcdopeaa
open Go.RowKit Go.Maps Bs
set_option maxRecDepth 100000 in
set_option maxHeartbeats 12800000 in
theorem suniq_walk (v : Value) (w : World) (hv : IntsIn w v) :
    Calls Try.prog 4 #[v] w fun e w' => e = .returned (.bool true) ∧ w.grownBy w' none := by
  go_enter Try.func4, Try.ntmps4
  go_wp2_with fail
  refine (new_any v w hv).mono ?_
  rintro e w2 ⟨rfl, hg1, hT1⟩
  have H2 := Lib.hid (And.intro hg1 hT1)
  obtain ⟨a, ha⟩ : ∃ a, a = w.heap.size := ⟨_, rfl⟩
  rw [← ha] at H2
  have HA := Lib.hid ha
  clear hg1 hT1 hv
  rw [← HA.out]
  clear ha
  go_wp2_with fail
  refine (stopoJ_any a 6 8 (by decide) (by decide) (by unfold I64; omega) w2 H2.out.2).mono ?_
  rintro e w3 ⟨T, rfl, hT, hO, hpT, hs3⟩
  obtain ⟨R, L, pR, cR, pL, cL⟩ := T
  have HVT : Hid (WT ⟨R, L, pR, cR, pL, cL⟩) := Lib.hid (WT.of (by decide) hO hpT)
  simp only at hO hpT ⊢
  have gal := World.grownBy_alloc w3 (.cells #[.slice pR R.length cR, .slice pL L.length cL] 28) none
  have ha2 : a < w2.heap.size := H2.out.2.lt
  have HW4 : Hid (w.grownBy (w3.alloc (.cells #[.slice pR R.length cR, .slice pL L.length cL] 28)) none) := Lib.hid (grown_trans (grown_tape H2.out.1 (by rw [← HA.out]; exact hs3.1)) gal)
  have HG : Hid ((w3.alloc (.cells #[.slice pR R.length cR, .slice pL L.length cL] 28)).heap[w3.heap.size]? = some (.cells #[.slice pR R.length cR, .slice pL L.length cL] 28 (0, 0)) ∧ TgOk (w3.alloc (.cells #[.slice pR R.length cR, .slice pL L.length cL] 28)) (fun b => w2.heap.size ≤ b ∧ b < w3.heap.size) ⟨R, L, pR, cR, pL, cL⟩ ∧ Tp (w3.alloc (.cells #[.slice pR R.length cR, .slice pL L.length cL] 28)) a) :=
    Lib.hid ⟨heap_alloc_new w3 _, hT.keep gal, hs3.2.keep gal⟩
  have ha3 : a < w3.heap.size := Nat.lt_of_lt_of_le ha2 hs3.1.size
  clear hT hs3 gal hO hpT
  go_upto_region 3 with fail
  generalize w3.alloc _ = w4 at *
  have HL : Hid (LW w w3.heap.size ⟨R, L, pR, cR, pL, cL⟩ w4) := Lib.hid ⟨HG.out.1, HG.out.2.1.mono (fun b hb => hb.2), HW4.out⟩
  have hR := HVT.out.len
  have hL := HVT.out.l60
  simp only at hR hL
  obtain ⟨X, hX⟩ : ∃ X, unV R L = X := ⟨_, rfl⟩
  have HX := Lib.hid hX
  clear hX HG HW4 H2 ha2 ha3 HA
  refine wp_region_held_drew (S := fun w' => Hid (w4.grownBy w' none)) (by kernel_rfl) (Lib.hid (grown_drew (grown_refl _ _))) (fun hHeld => ?_)
  refine wpAnyH_take (i := 0) (oi := { dst := some 9, op := Op.load 28 (Operand.tmp 4), type := 28, pos := "law.go:63", after := #[], guard := none }) (v := ?_) rfl (by kernel_rfl) (by kernel_rfl) (by kernel_rfl) (fun _ _ _ h => h) (Or.inl ⟨by rfl, ?_⟩) hHeld ?_
  rotate_left 1
  · intro u hSu
    obtain ⟨q0, q1⟩ := row_cells (kept_row HL.out.gb hSu.out (by simp))
    go_simp
    first | done | with_reducible rfl
  (try simp only [Act.put, List.setIfInBounds_toArray, List.set_cons_zero, List.set_cons_succ])
  refine wpAnyH_take (i := 2) (oi := { dst := some 11, op := Op.load 28 (Operand.tmp 4), type := 28, pos := "law.go:63", after := #[], guard := none }) (v := ?_) rfl (by kernel_rfl) (by kernel_rfl) (by kernel_rfl) (fun _ _ _ h => h) (Or.inl ⟨by rfl, ?_⟩) hHeld ?_
  rotate_left 1
  · intro u hSu
    obtain ⟨q0, q1⟩ := row_cells (kept_row HL.out.gb hSu.out (by simp))
    go_simp
    first | done | with_reducible rfl
  (try simp only [Act.put, List.setIfInBounds_toArray, List.set_cons_zero, List.set_cons_succ])
  refine wpAnyH_ready (rs := [1]) (by kernel_rfl) (by simp) ?_
  refine AllReadyH.cons (o := { dst := some 10, op := Op.call { callee := Callee.value (Operand.func 22), args := #[Operand.tmp 9], argTypes := #[28] }, type := 4, pos := "law.go:63", after := #[{ on := 0, ground := Ground.data }], guard := none }) rfl (fun Kz hK => ?_) AllReadyH.nil
  go_simp
  go_at_call 22
  refine (tun_any ⟨R, L, pR, cR, pL, cL⟩ _ _ (HL.out.t.keep hHeld.out) hR hL HVT.out.pl).mono ?_
  rintro e w5 ⟨rfl, hg5⟩
  (try simp only)
  rw [HX.out]
  refine hK.out _ _ (Lib.hid (grown_trans hHeld.out hg5)) (fun hH2 => ?_)
  clear hK Kz hHeld
  have hHeld := hH2
  clear hH2
  (try simp only [Act.put, List.setIfInBounds_toArray, List.set_cons_zero, List.set_cons_succ])
  refine wpAnyH_ready (rs := [3]) (by kernel_rfl) (by simp) ?_
  refine AllReadyH.cons (o := { dst := some 12, op := Op.call { callee := Callee.value (Operand.func 23), args := #[Operand.tmp 11], argTypes := #[28] }, type := 4, pos := "law.go:63", after := #[{ on := 2, ground := Ground.data }, { on := 1, ground := Ground.chain }], guard := none }) rfl (fun Kz hK => ?_) AllReadyH.nil
  go_simp
  go_at_call 23
  refine (run_any ⟨R, L, pR, cR, pL, cL⟩ _ _ (HL.out.t.keep hHeld.out) hR).mono ?_
  rintro e w6 ⟨rfl, hg6⟩
  (try simp only)
  rw [HX.out]
  refine hK.out _ _ (Lib.hid (grown_trans hHeld.out hg6)) (fun hH2 => ?_)
  clear hK Kz hHeld
  have hHeld := hH2
  clear hH2
  (try simp only [Act.put, List.setIfInBounds_toArray, List.set_cons_zero, List.set_cons_succ])
  refine wpAnyH_take (i := 4) (oi := { dst := some 13, op := Op.binOp BinOp.eql 4 (Operand.tmp 10) (Operand.tmp 12) 4, type := 4, pos := "law.go:63", after := #[{ on := 1, ground := Ground.data }, { on := 3, ground := Ground.data }], guard := none }) (v := (.bool true)) rfl (by kernel_rfl) (by kernel_rfl) (by kernel_rfl) (fun _ _ _ h => h) (Or.inl ⟨by rfl, ?_⟩) hHeld ?_
  · intro u hSu
    obtain ⟨q0, q1⟩ := row_cells (kept_row HL.out.gb hSu.out (by simp))
    go_simp
    first | done | simp
  (try simp only [Act.put, List.setIfInBounds_toArray, List.set_cons_zero, List.set_cons_succ])
  refine wpAnyH_take (i := 5) (oi := { dst := some 14, op := Op.move (Operand.tmp 13), type := 4, pos := "law.go:63", after := #[{ on := 4, ground := Ground.data }, { on := 3, ground := Ground.chain }], guard := none }) (v := ?_) rfl (by kernel_rfl) (by kernel_rfl) (by kernel_rfl) (fun _ _ _ h => h) (Or.inl ⟨by rfl, ?_⟩) hHeld ?_
  rotate_left 1
  · intro u hSu
    obtain ⟨q0, q1⟩ := row_cells (kept_row HL.out.gb hSu.out (by simp))
    go_simp
    first | done | with_reducible rfl
  (try simp only [Act.put, List.setIfInBounds_toArray, List.set_cons_zero, List.set_cons_succ])
  refine wpAnyH_ready (rs := [6]) (by kernel_rfl) (by simp) ?_
  refine AllReadyH.cons (o := { dst := some 15, op := Op.call { callee := Callee.value (Operand.func 21), args := #[], argTypes := #[] }, type := 4, pos := "law.go:63", after := #[{ on := 5, ground := Ground.chain }, { on := 5, ground := Ground.guard }], guard := some (5, true) }) rfl (fun Kz hK => ?_) AllReadyH.nil
  go_simp
  go_at_call 21
  refine (sawake_any _).mono ?_
  rintro e w7 ⟨rfl, hg7⟩
  refine hK.out _ _ (Lib.hid (grown_trans hHeld.out hg7)) (fun hH2 => ?_)
  clear hK Kz hHeld
  have hHeld := hH2
  clear hH2
  (try simp only [Act.put, List.setIfInBounds_toArray, List.set_cons_zero, List.set_cons_succ])
  refine wpAnyH_take (i := 7) (oi := { dst := some 16, op := Op.pick (Operand.tmp 14) (Operand.tmp 15) (Operand.const (Value.bool false)), type := 4, pos := "law.go:63", after := #[{ on := 5, ground := Ground.data }, { on := 6, ground := Ground.data }], guard := none }) (v := ?_) rfl (by kernel_rfl) (by kernel_rfl) (by kernel_rfl) (fun _ _ _ h => h) (Or.inl ⟨by rfl, ?_⟩) hHeld ?_
  rotate_left 1
  · intro u hSu
    obtain ⟨q0, q1⟩ := row_cells (kept_row HL.out.gb hSu.out (by simp))
    go_simp
    first | done | with_reducible rfl
  (try simp only [Act.put, List.setIfInBounds_toArray, List.set_cons_zero, List.set_cons_succ])
  refine wpAnyH_take (i := 8) (oi := { dst := some 2, op := Op.assign (Operand.tmp 16), type := 4, pos := "law.go:63", after := #[{ on := 7, ground := Ground.data }, { on := 6, ground := Ground.chain }, { on := 0, ground := Ground.phase }, { on := 1, ground := Ground.phase }, { on := 2, ground := Ground.phase }, { on := 3, ground := Ground.phase }, { on := 4, ground := Ground.phase }, { on := 5, ground := Ground.phase }, { on := 6, ground := Ground.phase }, { on := 7, ground := Ground.phase }], guard := none }) (v := ?_) rfl (by kernel_rfl) (by kernel_rfl) (by kernel_rfl) (fun _ _ _ h => h) (Or.inl ⟨by rfl, ?_⟩) hHeld ?_
  rotate_left 1
  · intro u hSu
    obtain ⟨q0, q1⟩ := row_cells (kept_row HL.out.gb hSu.out (by simp))
    go_simp
    first | done | with_reducible rfl
  (try simp only [Act.put, List.setIfInBounds_toArray, List.set_cons_zero, List.set_cons_succ])
  refine wpAnyH_done (by kernel_rfl) ?_ _
  have HE := Lib.hid (grown_trans HL.out.gr hHeld.out)
  clear hHeld
  go_wp2_with fail
  go_ret
  exact ⟨rfl, HE.out⟩
end Go.Proofs.Ytlefjdglcdopeaa
