/- Parts of the proof, packed: ToWiR. -/
import Derived.Test.YtnpkihioklpnmaaDo4
import Derived.Test.YtnpkihioklpnmaaDo10
import Derived.Test.YtnpkihioklpnmaaDo5
import Derived.Deep.AppendLies
/- The reference's Without. -/
namespace Go.Proofs.Ytnpkihioklpnmaa
open Go.RowKit Bs
set_option maxRecDepth 100000 in
theorem WR.rt {w wr : World} {R R' : List Rt} {L : List Lk} {b off cR cL Bx base k : Nat} {pL : Option Addr} {F : Fl} {vR : Value} {y : Rt} (h : WR w ⟨R, L, some ⟨b, off, none⟩, cR, pL, cL⟩ F Bx base vR R' wr) (hy : R[k]? = some y) :
    wr.cell? ⟨b, off + k * 2, none⟩ = some (.int .i64 y.id) ∧ wr.cell? ⟨b, off + k * 2 + 1, none⟩ = some (.bool y.cap) := by
  have h1 := (List.getElem?_eq_some_iff.1 hy).1
  obtain ⟨-, b', off', e, -, hc⟩ := rdr_cells (R := R) h.s.t.r (by omega)
  injection e with e
  injection e with e4 e5
  subst e4
  subst e5
  exact hc k y hy
/-- As TWPost; a nil slice of links has no room. -/
def TWPostS (Rr : List Rt) (Lr : List Lk) (w : World) (e : Ending) (w' : World) : Prop :=
  ∃ pR cR pL cL, e = .returned (.agg #[.slice pR Rr.length cR, .slice pL Lr.length cL]) ∧ TgOk w' (w.heap.size ≤ ·) ⟨Rr, Lr, pR, cR, pL, cL⟩ ∧ (pL = none → cL = 0) ∧ w.grownBy w' none
set_option maxRecDepth 100000 in
set_option maxHeartbeats 6400000 in
theorem rwithoutS_any (T : Tg) (F : Fl) (q q2 : Nat → Prop) (w : World) (hT : TgOk w q T) (hF : FlOk w q2 F) :
    Calls Try.prog 45 #[.agg #[.slice T.pR T.R.length T.cR, .slice T.pL T.L.length T.cL], .agg #[.slice F.pH F.H.length F.cH, .slice F.pX F.X.length F.cX]] w fun e w' => TWPostS (if okT T.R T.L then woR F T.R else []) (if okT T.R T.L then woL F T.L else []) w e w' := by
  obtain ⟨ir, hir, hr0, hr1, hr2⟩ := info_parts info_rt
  obtain ⟨il, hil, hl0, hl1, hl2⟩ := info_parts info_lk
  have hmX := Nat.le_trans hF.cx.1 hF.cx.2
  have hmH := Nat.le_trans hF.ch.1 hF.ch.2
  have S0 := Lib.hid (WS.start hT hF)
  have hmR := Nat.le_trans hT.cr.1 hT.cr.2
  have hmL := Nat.le_trans hT.cl.1 hT.cl.2
  clear hT hF
  obtain ⟨R, L, pR, cR, pL, cL⟩ := T
  simp only at hmR hmL S0 ⊢
  obtain ⟨Rr, hRr⟩ : ∃ Rr, (if okT R L = true then woR F R else []) = Rr := ⟨_, rfl⟩
  obtain ⟨Lr, hLr⟩ : ∃ Lr, (if okT R L = true then woL F L else []) = Lr := ⟨_, rfl⟩
  rw [hRr, hLr]
  have HRL := Lib.hid (And.intro hRr hLr)
  clear hRr hLr
  go_enter Try.func45, Try.ntmps45
  go_upto_region 1 with fail
  generalize ((w.alloc _).alloc _).alloc _ = wa at *
  obtain ⟨c0, c1⟩ := row_cells S0.out.tb
  go_wp2_with fail
  refine (rcheck_any ⟨R, L, pR, cR, pL, cL⟩ _ wa S0.out.t).mono ?_
  rintro e w1 ⟨rfl, hg⟩
  simp only
  obtain ⟨X, hX⟩ : ∃ X, chk R L = X := ⟨_, rfl⟩
  rw [hX]
  have HX0 : Hid (okT R L = (X == 0)) := Lib.hid (by unfold okT; rw [hX])
  clear hX
  have S1 := Lib.hid (S0.out.keep hg)
  clear hg S0 c0 c1
  by_cases hx0 : X = 0
  rotate_left 1
  · have hv : okT R L = false := by rw [HX0.out]; simpa using hx0
    have hx1 : (X == 0) = false := by simpa using hx0
    obtain ⟨rfl, rfl⟩ : Rr = [] ∧ Lr = [] := by have := HRL.out; rw [hv] at this; exact ⟨this.1.symm, this.2.symm⟩
    have z0 := S1.out.rb.cell (j := 0) rfl
    have z1 := S1.out.rb.cell (j := 1) rfl
    have y0 := S1.out.rb.frozen 0
    have y1 := S1.out.rb.frozen 1
    clear hv HRL
    have hrow := store2 (u := .slice none 0 0) (z := .slice none 0 0) (show w1.heap[w.heap.size + 2]? = some (.cells #[.slice none 0 0, .slice none 0 0] 59 (0, 0)) from S1.out.rb)
    have HR := Lib.hid (And.intro hrow (grown_new S1.out.gr (grown_store2 w1 (w.heap.size + 2) (.slice none 0 0) (.slice none 0 0)) (by omega)))
    clear hrow
    go_wp2_with fail
    refine bodyPost_ret (res_topo rfl _ _ (w.heap.size + 2) _ _ rfl HR.out.1) rfl ?_
    exact ⟨none, 0, none, 0, rfl, ⟨rdf_nil _ _ _ _, rdf_nil _ _ _ _, ⟨Nat.le_refl _, by show 0 ≤ _; omega⟩, ⟨Nat.le_refl _, by show 0 ≤ _; omega⟩⟩, fun _ => rfl, HR.out.2⟩
  have hv : okT R L = true := by rw [HX0.out, hx0]; rfl
  obtain ⟨h24, h60⟩ := okT_len hv
  have HRL2 : Hid (woR F R = Rr ∧ woL F L = Lr) := Lib.hid (by have := HRL.out; rw [hv] at this; exact this)
  clear hv HRL
  subst hx0
  go_upto_region 4 with fail
  have gal := World.grownBy_alloc w1 (.cells #[.slice none 0 0, .slice none 0 0] 59) none
  have R0 : Hid (WR w ⟨R, L, pR, cR, pL, cL⟩ F w1.heap.size (w1.heap.size + 1) (.slice none 0 0) (woR F (R.take 0)) (w1.alloc (.cells #[.slice none 0 0, .slice none 0 0] 59))) := Lib.hid ⟨S1.out.keep gal, heap_alloc_new w1 _, World.ownsRow_nil _ _ _ _, by have := S1.out.rb.lt; omega, by omega, by simp⟩
  have hbx := R0.out.b1
  clear gal S1
  generalize w1.alloc _ = w2 at *
  generalize w1.heap.size = Bx at *
  obtain ⟨c0, c1⟩ := row_cells R0.out.s.tb
  go_wp2_with fail
  go_loopw [6] (fun a wr => ∃ k : Nat, k ≤ R.length ∧ a = .int .i64 (k : Int) ∧ ∃ vR, Hid (WR w ⟨R, L, pR, cR, pL, cL⟩ F Bx (Bx + 1) vR (woR F (R.take k)) wr)) (fun a _ => R.length - (RowKit.intOf a).toNat)
  case atStart => exact ⟨0, Nat.zero_le _, rfl, _, R0⟩
  case round =>
  obtain ⟨k, hk, rfl, vR, HK⟩ := hrel
  clear R0 c0 c1
  by_cases hlt : k < R.length
  case pos =>
    obtain ⟨-, b, off, rfl, hq, hc⟩ := rdr_cells (R := R) HK.out.s.t.r (by omega)
    obtain ⟨y, hy⟩ : ∃ y, R[k]? = some y := ⟨_, List.getElem?_eq_getElem hlt⟩
    obtain ⟨a0, a1⟩ := hc k y hy
    have HY := Lib.hid hy
    have HL : Hid (woR F (R.take (k + 1)) = woR F (R.take k) ++ (if !hasI F.X y.id then [y] else [])) := Lib.hid (filter_snoc hy)
    have hln : (woR F (R.take k)).length ≤ k := Nat.le_trans (List.length_filter_le _ _) (List.length_take_le _ _)
    obtain ⟨M, hM⟩ : ∃ M, woR F (R.take k) = M := ⟨_, rfl⟩
    rw [hM] at HL hln HK
    clear hc hy a0 a1 hM
    obtain ⟨c0, c1⟩ := row_cells HK.out.s.tb
    have i0 : (0 : Int) ≤ (k : Int) := by omega
    have i1 : (k : Int) < (R.length : Int) := by omega
    go_upto_region 7 with fail
    clear c0 c1
    cases hx : hasI F.X y.id
    · rw [hx] at HL
      have HX := Lib.hid hx
      clear hx
      refine wp_region_held_drew (S := fun w' => Hid (WR w ⟨R, L, some ⟨b, off, none⟩, cR, pL, cL⟩ F Bx (Bx + 1) vR M w')) (by kernel_rfl) (Lib.hid (HK.out.keep (grown_drew (grown_refl _ _)))) (fun hHeld => ?_)
      refine wpAnyH_take (i := 0) (oi := { dst := some 20, op := Op.fieldAddr 85 (Operand.tmp 3) 1, type := 0, pos := "ref.go:146", after := #[], guard := none }) (v := ?_) rfl (by kernel_rfl) (by kernel_rfl) (by kernel_rfl) (fun _ _ _ h => h) (Or.inl ⟨by rfl, ?_⟩) hHeld ?_
      rotate_left 1
      · intro u hSu
        obtain ⟨q0, q1⟩ := row_cells hSu.out.s.tb
        obtain ⟨q2, q3⟩ := row_cells hSu.out.s.fb
        obtain ⟨q4, q5⟩ := hSu.out.rt HY.out
        obtain ⟨q6, q7⟩ := row_cells hSu.out.bx
        go_simp
        first | done | with_reducible rfl
      (try simp only [Act.put, List.setIfInBounds_toArray, List.set_cons_zero, List.set_cons_succ])
      refine wpAnyH_take (i := 1) (oi := { dst := some 21, op := Op.load 22 (Operand.tmp 20), type := 22, pos := "ref.go:146", after := #[{ on := 0, ground := Ground.data }], guard := none }) (v := ?_) rfl (by kernel_rfl) (by kernel_rfl) (by kernel_rfl) (fun _ _ _ h => h) (Or.inl ⟨by rfl, ?_⟩) hHeld ?_
      rotate_left 1
      · intro u hSu
        obtain ⟨q0, q1⟩ := row_cells hSu.out.s.tb
        obtain ⟨q2, q3⟩ := row_cells hSu.out.s.fb
        obtain ⟨q4, q5⟩ := hSu.out.rt HY.out
        obtain ⟨q6, q7⟩ := row_cells hSu.out.bx
        go_simp
        first | done | with_reducible rfl
      (try simp only [Act.put, List.setIfInBounds_toArray, List.set_cons_zero, List.set_cons_succ])
      refine wpAnyH_take (i := 2) (oi := { dst := some 22, op := Op.fieldAddr 59 (Operand.tmp 2) 0, type := 0, pos := "ref.go:146", after := #[], guard := none }) (v := ?_) rfl (by kernel_rfl) (by kernel_rfl) (by kernel_rfl) (fun _ _ _ h => h) (Or.inl ⟨by rfl, ?_⟩) hHeld ?_
      rotate_left 1
      · intro u hSu
        obtain ⟨q0, q1⟩ := row_cells hSu.out.s.tb
        obtain ⟨q2, q3⟩ := row_cells hSu.out.s.fb
        obtain ⟨q4, q5⟩ := hSu.out.rt HY.out
        obtain ⟨q6, q7⟩ := row_cells hSu.out.bx
        go_simp
        first | done | with_reducible rfl
      (try simp only [Act.put, List.setIfInBounds_toArray, List.set_cons_zero, List.set_cons_succ])
      refine wpAnyH_take (i := 3) (oi := { dst := some 23, op := Op.load 56 (Operand.tmp 22), type := 56, pos := "ref.go:146", after := #[{ on := 2, ground := Ground.data }], guard := none }) (v := ?_) rfl (by kernel_rfl) (by kernel_rfl) (by kernel_rfl) (fun _ _ _ h => h) (Or.inl ⟨by rfl, ?_⟩) hHeld ?_
      rotate_left 1
      · intro u hSu
        obtain ⟨q0, q1⟩ := row_cells hSu.out.s.tb
        obtain ⟨q2, q3⟩ := row_cells hSu.out.s.fb
        obtain ⟨q4, q5⟩ := hSu.out.rt HY.out
        obtain ⟨q6, q7⟩ := row_cells hSu.out.bx
        go_simp
        first | done | with_reducible rfl
      (try simp only [Act.put, List.setIfInBounds_toArray, List.set_cons_zero, List.set_cons_succ])
      refine wpAnyH_take (i := 4) (oi := { dst := some 24, op := Op.move (Operand.tmp 6), type := 3, pos := "ref.go:146", after := #[], guard := none }) (v := ?_) rfl (by kernel_rfl) (by kernel_rfl) (by kernel_rfl) (fun _ _ _ h => h) (Or.inl ⟨by rfl, ?_⟩) hHeld ?_
      rotate_left 1
      · intro u hSu
        obtain ⟨q0, q1⟩ := row_cells hSu.out.s.tb
        obtain ⟨q2, q3⟩ := row_cells hSu.out.s.fb
        obtain ⟨q4, q5⟩ := hSu.out.rt HY.out
        obtain ⟨q6, q7⟩ := row_cells hSu.out.bx
        go_simp
        first | done | with_reducible rfl
      (try simp only [Act.put, List.setIfInBounds_toArray, List.set_cons_zero, List.set_cons_succ])
      refine wpAnyH_take (i := 5) (oi := { dst := some 25, op := Op.indexAddr 56 (Operand.tmp 23) (Operand.tmp 24), type := 0, pos := "ref.go:146", after := #[{ on := 3, ground := Ground.data }, { on := 4, ground := Ground.data }], guard := none }) (v := ?_) rfl (by kernel_rfl) (by kernel_rfl) (by kernel_rfl) (fun _ _ _ h => h) (Or.inl ⟨by rfl, ?_⟩) hHeld ?_
      rotate_left 1
      · intro u hSu
        obtain ⟨q0, q1⟩ := row_cells hSu.out.s.tb
        obtain ⟨q2, q3⟩ := row_cells hSu.out.s.fb
        obtain ⟨q4, q5⟩ := hSu.out.rt HY.out
        obtain ⟨q6, q7⟩ := row_cells hSu.out.bx
        go_simp
        first | done | with_reducible rfl
      (try simp only [Act.put, List.setIfInBounds_toArray, List.set_cons_zero, List.set_cons_succ])
      refine wpAnyH_take (i := 6) (oi := { dst := some 26, op := Op.fieldAddr 69 (Operand.tmp 25) 0, type := 0, pos := "ref.go:146", after := #[{ on := 5, ground := Ground.data }], guard := none }) (v := ?_) rfl (by kernel_rfl) (by kernel_rfl) (by kernel_rfl) (fun _ _ _ h => h) (Or.inl ⟨by rfl, ?_⟩) hHeld ?_
      rotate_left 1
      · intro u hSu
        obtain ⟨q0, q1⟩ := row_cells hSu.out.s.tb
        obtain ⟨q2, q3⟩ := row_cells hSu.out.s.fb
        obtain ⟨q4, q5⟩ := hSu.out.rt HY.out
        obtain ⟨q6, q7⟩ := row_cells hSu.out.bx
        go_simp
        first | done | with_reducible rfl
      (try simp only [Act.put, List.setIfInBounds_toArray, List.set_cons_zero, List.set_cons_succ])
      refine wpAnyH_take (i := 7) (oi := { dst := some 27, op := Op.load 3 (Operand.tmp 26), type := 3, pos := "ref.go:146", after := #[{ on := 6, ground := Ground.data }], guard := none }) (v := ?_) rfl (by kernel_rfl) (by kernel_rfl) (by kernel_rfl) (fun _ _ _ h => h) (Or.inl ⟨by rfl, ?_⟩) hHeld ?_
      rotate_left 1
      · intro u hSu
        obtain ⟨q0, q1⟩ := row_cells hSu.out.s.tb
        obtain ⟨q2, q3⟩ := row_cells hSu.out.s.fb
        obtain ⟨q4, q5⟩ := hSu.out.rt HY.out
        obtain ⟨q6, q7⟩ := row_cells hSu.out.bx
        go_simp
        first | done | with_reducible rfl
      (try simp only [Act.put, List.setIfInBounds_toArray, List.set_cons_zero, List.set_cons_succ])
      refine wpAnyH_ready (rs := [8]) (by kernel_rfl) (by simp) ?_
      refine AllReadyH.cons (o := { dst := some 28, op := Op.call { callee := Callee.value (Operand.func 44), args := #[Operand.tmp 21, Operand.tmp 27], argTypes := #[22, 3] }, type := 4, pos := "ref.go:146", after := #[{ on := 1, ground := Ground.data }, { on := 7, ground := Ground.data }], guard := none }) rfl (fun Kz hK => ?_) AllReadyH.nil
      go_simp
      go_at_call 44
      refine (rhas4_any F.X y.id F.pX F.cX _ _ hHeld.out.s.f.x hmX).mono ?_
      rintro e w5 ⟨rfl, rfl⟩
      rw [HX.out]
      refine hK.out _ _ (hHeld) (fun hH2 => ?_)
      clear hK Kz hHeld
      have hHeld := hH2
      clear hH2
      (try simp only [Act.put, List.setIfInBounds_toArray, List.set_cons_zero, List.set_cons_succ])
      refine wpAnyH_take (i := 9) (oi := { dst := some 29, op := Op.unOp UnOp.not 4 (Operand.tmp 28), type := 4, pos := "ref.go:146", after := #[{ on := 8, ground := Ground.data }], guard := none }) (v := ?_) rfl (by kernel_rfl) (by kernel_rfl) (by kernel_rfl) (fun _ _ _ h => h) (Or.inl ⟨by rfl, ?_⟩) hHeld ?_
      rotate_left 1
      · intro u hSu
        obtain ⟨q0, q1⟩ := row_cells hSu.out.s.tb
        obtain ⟨q2, q3⟩ := row_cells hSu.out.s.fb
        obtain ⟨q4, q5⟩ := hSu.out.rt HY.out
        obtain ⟨q6, q7⟩ := row_cells hSu.out.bx
        go_simp
        first | done | with_reducible rfl
      (try simp only [Act.put, List.setIfInBounds_toArray, List.set_cons_zero, List.set_cons_succ])
      refine wpAnyH_done (by kernel_rfl) ?_ _
      have K2 := hHeld
      clear hHeld
      change Exit.then _ _ _ _ wr.drew
      generalize wr.drew = wz at *
      go_upto_region 8 with fail
      refine region_until (S := fun w' => Hid (WR w ⟨R, L, some ⟨b, off, none⟩, cR, pL, cL⟩ F Bx (Bx + 1) vR M w')) (fun j => j == 8 || j == 9 || j == 10) (by kernel_rfl) (Lib.hid (K2.out.keep (grown_drew (grown_refl _ _)))) (fun hHeld => ?_)
      refine anyU_take (i := 0) (oi := { dst := some 30, op := Op.fieldAddr 59 (Operand.tmp 5) 0, type := 0, pos := "ref.go:147", after := #[], guard := none }) (v := ?_) rfl (by kernel_rfl) (by kernel_rfl) (by kernel_rfl) (by kernel_rfl) (by kernel_rfl) (fun _ _ _ h => h) (Or.inl ⟨by rfl, ?_⟩) hHeld ?_
      rotate_left 1
      · intro u hSu
        obtain ⟨q0, q1⟩ := row_cells hSu.out.s.tb
        obtain ⟨q2, q3⟩ := row_cells hSu.out.s.fb
        obtain ⟨q4, q5⟩ := hSu.out.rt HY.out
        obtain ⟨q6, q7⟩ := row_cells hSu.out.bx
        go_simp
        first | done | with_reducible rfl
      (try simp only [Act.put, List.setIfInBounds_toArray, List.set_cons_zero, List.set_cons_succ])
      refine anyU_take (i := 1) (oi := { dst := some 31, op := Op.load 56 (Operand.tmp 30), type := 56, pos := "ref.go:147", after := #[{ on := 0, ground := Ground.data }], guard := none }) (v := ?_) rfl (by kernel_rfl) (by kernel_rfl) (by kernel_rfl) (by kernel_rfl) (by kernel_rfl) (fun _ _ _ h => h) (Or.inl ⟨by rfl, ?_⟩) hHeld ?_
      rotate_left 1
      · intro u hSu
        obtain ⟨q0, q1⟩ := row_cells hSu.out.s.tb
        obtain ⟨q2, q3⟩ := row_cells hSu.out.s.fb
        obtain ⟨q4, q5⟩ := hSu.out.rt HY.out
        obtain ⟨q6, q7⟩ := row_cells hSu.out.bx
        go_simp
        first | done | with_reducible rfl
      (try simp only [Act.put, List.setIfInBounds_toArray, List.set_cons_zero, List.set_cons_succ])
      refine anyU_take (i := 2) (oi := { dst := some 32, op := Op.fieldAddr 59 (Operand.tmp 2) 0, type := 0, pos := "ref.go:147", after := #[], guard := none }) (v := ?_) rfl (by kernel_rfl) (by kernel_rfl) (by kernel_rfl) (by kernel_rfl) (by kernel_rfl) (fun _ _ _ h => h) (Or.inl ⟨by rfl, ?_⟩) hHeld ?_
      rotate_left 1
      · intro u hSu
        obtain ⟨q0, q1⟩ := row_cells hSu.out.s.tb
        obtain ⟨q2, q3⟩ := row_cells hSu.out.s.fb
        obtain ⟨q4, q5⟩ := hSu.out.rt HY.out
        obtain ⟨q6, q7⟩ := row_cells hSu.out.bx
        go_simp
        first | done | with_reducible rfl
      (try simp only [Act.put, List.setIfInBounds_toArray, List.set_cons_zero, List.set_cons_succ])
      refine anyU_take (i := 3) (oi := { dst := some 33, op := Op.load 56 (Operand.tmp 32), type := 56, pos := "ref.go:147", after := #[{ on := 2, ground := Ground.data }], guard := none }) (v := ?_) rfl (by kernel_rfl) (by kernel_rfl) (by kernel_rfl) (by kernel_rfl) (by kernel_rfl) (fun _ _ _ h => h) (Or.inl ⟨by rfl, ?_⟩) hHeld ?_
      rotate_left 1
      · intro u hSu
        obtain ⟨q0, q1⟩ := row_cells hSu.out.s.tb
        obtain ⟨q2, q3⟩ := row_cells hSu.out.s.fb
        obtain ⟨q4, q5⟩ := hSu.out.rt HY.out
        obtain ⟨q6, q7⟩ := row_cells hSu.out.bx
        go_simp
        first | done | with_reducible rfl
      (try simp only [Act.put, List.setIfInBounds_toArray, List.set_cons_zero, List.set_cons_succ])
      refine anyU_take (i := 4) (oi := { dst := some 34, op := Op.move (Operand.tmp 6), type := 3, pos := "ref.go:147", after := #[], guard := none }) (v := ?_) rfl (by kernel_rfl) (by kernel_rfl) (by kernel_rfl) (by kernel_rfl) (by kernel_rfl) (fun _ _ _ h => h) (Or.inl ⟨by rfl, ?_⟩) hHeld ?_
      rotate_left 1
      · intro u hSu
        obtain ⟨q0, q1⟩ := row_cells hSu.out.s.tb
        obtain ⟨q2, q3⟩ := row_cells hSu.out.s.fb
        obtain ⟨q4, q5⟩ := hSu.out.rt HY.out
        obtain ⟨q6, q7⟩ := row_cells hSu.out.bx
        go_simp
        first | done | with_reducible rfl
      (try simp only [Act.put, List.setIfInBounds_toArray, List.set_cons_zero, List.set_cons_succ])
      refine anyU_take (i := 5) (oi := { dst := some 35, op := Op.indexAddr 56 (Operand.tmp 33) (Operand.tmp 34), type := 0, pos := "ref.go:147", after := #[{ on := 3, ground := Ground.data }, { on := 4, ground := Ground.data }], guard := none }) (v := ?_) rfl (by kernel_rfl) (by kernel_rfl) (by kernel_rfl) (by kernel_rfl) (by kernel_rfl) (fun _ _ _ h => h) (Or.inl ⟨by rfl, ?_⟩) hHeld ?_
      rotate_left 1
      · intro u hSu
        obtain ⟨q0, q1⟩ := row_cells hSu.out.s.tb
        obtain ⟨q2, q3⟩ := row_cells hSu.out.s.fb
        obtain ⟨q4, q5⟩ := hSu.out.rt HY.out
        obtain ⟨q6, q7⟩ := row_cells hSu.out.bx
        go_simp
        first | done | with_reducible rfl
      (try simp only [Act.put, List.setIfInBounds_toArray, List.set_cons_zero, List.set_cons_succ])
      refine anyU_take (i := 6) (oi := { dst := some 36, op := Op.load 69 (Operand.tmp 35), type := 69, pos := "ref.go:147", after := #[{ on := 5, ground := Ground.data }], guard := none }) (v := ?_) rfl (by kernel_rfl) (by kernel_rfl) (by kernel_rfl) (by kernel_rfl) (by kernel_rfl) (fun _ _ _ h => h) (Or.inl ⟨by rfl, ?_⟩) hHeld ?_
      rotate_left 1
      · intro u hSu
        obtain ⟨q0, q1⟩ := row_cells hSu.out.s.tb
        obtain ⟨q2, q3⟩ := row_cells hSu.out.s.fb
        obtain ⟨q4, q5⟩ := hSu.out.rt HY.out
        obtain ⟨q6, q7⟩ := row_cells hSu.out.bx
        go_simp
        first | done | with_reducible rfl
      (try simp only [Act.put, List.setIfInBounds_toArray, List.set_cons_zero, List.set_cons_succ])
      refine anyU_ready (rs := [7]) (by kernel_rfl) (by simp) ?_
      refine EachU.cons (o := { dst := some 37, op := Op.buildSlice 56 1 #[(0, Operand.tmp 36)], type := 56, pos := "ref.go:147", after := #[{ on := 6, ground := Ground.data }], guard := none }) rfl (fun Kz hK => ?_) EachU.nil
      have H8 := hHeld
      go_simp
      refine hK.out _ _ (fun _ => Lib.hid (hHeld.out.keep (World.grownBy_alloc _ _ none))) (fun hH2 => ?_)
      clear hK Kz hHeld
      have hHeld := hH2 rfl
      clear hH2
      (try simp only [Act.put, List.setIfInBounds_toArray, List.set_cons_zero, List.set_cons_succ])
      refine anyU_ready (rs := [8]) (by kernel_rfl) (by simp) ?_
      refine EachU.cons (o := { dst := some 38, op := Op.call { callee := Callee.builtin Builtin.append, args := #[Operand.tmp 31, Operand.tmp 37], argTypes := #[56, 56] }, type := 56, pos := "ref.go:147", after := #[{ on := 1, ground := Ground.data }, { on := 7, ground := Ground.data }], guard := none }) rfl (fun Kz hK => ?_) EachU.nil
      refine step_append_lies _ (by rfl) _ _ 56 (by rfl) (Bx + 1) 69 ir (.agg #[.int .i64 0, .bool false]) 2 16 Try.underlying56 hir hr0 hr1 hr2 rfl (by decide) vR M.length (M.flatMap rtC) (by rfl) (H8.out.own.alloc _) ⟨wz.heap.size, 0, none⟩ 1 1 [.int .i64 y.id, .bool y.cap] (by rfl) (by rfl) (cells2 wz.drew _ _ _) (by intro u hu; simp at hu; rcases hu with rfl | rfl <;> rfl) (by omega) (by unfold maxLen; omega) (by omega) (by have := H8.out.b1; simp at this ⊢; omega) _ rfl ?_
      intro g cap w9 hown hgrow hat hlt9
      have m := Lib.hid (H8.out.mid (grown_refl _ none) hown hgrow)
      have cc := row_cells m.out.2.1
      have c90 := cc.1
      have c91 := cc.2
      have fB := frozen_of_row _ _ 0 _ _ m.out.2.1
      clear cc hown hgrow hat hlt9
      refine hK.out _ _ (fun h => by cases h) (fun _ => ?_)
      clear hK Kz
      (try simp only [Act.put, List.setIfInBounds_toArray, List.set_cons_zero, List.set_cons_succ])
      refine anyU_ready (rs := [9]) (by kernel_rfl) (by simp) ?_
      refine EachU.cons (o := { dst := some 39, op := Op.fieldAddr 59 (Operand.tmp 5) 0, type := 0, pos := "ref.go:147", after := #[{ on := 0, ground := Ground.phase }, { on := 1, ground := Ground.phase }, { on := 2, ground := Ground.phase }, { on := 3, ground := Ground.phase }, { on := 4, ground := Ground.phase }, { on := 5, ground := Ground.phase }, { on := 6, ground := Ground.phase }, { on := 7, ground := Ground.phase }, { on := 8, ground := Ground.phase }], guard := none }) rfl (fun Kz hK => ?_) EachU.nil
      go_simp
      refine hK.out _ _ (fun h => by cases h) (fun _ => ?_)
      clear hK Kz
      (try simp only [Act.put, List.setIfInBounds_toArray, List.set_cons_zero, List.set_cons_succ])
      refine anyU_ready (rs := [10]) (by kernel_rfl) (by simp) ?_
      refine EachU.cons (o := { dst := none, op := Op.store 56 (Operand.tmp 39) (Operand.tmp 38), type := 0, pos := "ref.go:147", after := #[{ on := 9, ground := Ground.data }, { on := 8, ground := Ground.data }, { on := 8, ground := Ground.chain }, { on := 0, ground := Ground.phase }, { on := 1, ground := Ground.phase }, { on := 2, ground := Ground.phase }, { on := 3, ground := Ground.phase }, { on := 4, ground := Ground.phase }, { on := 5, ground := Ground.phase }, { on := 6, ground := Ground.phase }, { on := 7, ground := Ground.phase }, { on := 8, ground := Ground.phase }], guard := none }) rfl (fun Kz hK => ?_) EachU.nil
      go_simp
      refine hK.out _ _ (fun h => by cases h) (fun _ => ?_)
      clear hK Kz
      (try simp only [Act.put, List.setIfInBounds_toArray, List.set_cons_zero, List.set_cons_succ])
      refine anyU_done (by kernel_rfl) ?_ _
      have N2 : Hid (WR w ⟨R, L, some ⟨b, off, none⟩, cR, pL, cL⟩ F Bx (Bx + 1) (.slice (some ⟨g, 0, none⟩) (M.length + 1) cap) (woR F (R.take (k + 1))) (w9.setCell ⟨Bx, 0, none⟩ (.slice (some ⟨g, 0, none⟩) (M.length + 1) cap))) := Lib.hid (by rw [HL.out]; exact WR.put ⟨hbx.1, hbx.2.1⟩ m.out)
      clear m c90 c91 fB H8 hHeld
      go_wp2_with fail
      exact ⟨⟨k + 1, by omega, congrArg _ (by omega), _, N2⟩, by simp only [RowKit.intOf]; omega⟩
    · rw [hx] at HL
      have HX := Lib.hid hx
      clear hx
      refine wp_region_held_drew (S := fun w' => Hid (WR w ⟨R, L, some ⟨b, off, none⟩, cR, pL, cL⟩ F Bx (Bx + 1) vR M w')) (by kernel_rfl) (Lib.hid (HK.out.keep (grown_drew (grown_refl _ _)))) (fun hHeld => ?_)
      refine wpAnyH_take (i := 0) (oi := { dst := some 20, op := Op.fieldAddr 85 (Operand.tmp 3) 1, type := 0, pos := "ref.go:146", after := #[], guard := none }) (v := ?_) rfl (by kernel_rfl) (by kernel_rfl) (by kernel_rfl) (fun _ _ _ h => h) (Or.inl ⟨by rfl, ?_⟩) hHeld ?_
      rotate_left 1
      · intro u hSu
        obtain ⟨q0, q1⟩ := row_cells hSu.out.s.tb
        obtain ⟨q2, q3⟩ := row_cells hSu.out.s.fb
        obtain ⟨q4, q5⟩ := hSu.out.rt HY.out
        obtain ⟨q6, q7⟩ := row_cells hSu.out.bx
        go_simp
        first | done | with_reducible rfl
      (try simp only [Act.put, List.setIfInBounds_toArray, List.set_cons_zero, List.set_cons_succ])
      refine wpAnyH_take (i := 1) (oi := { dst := some 21, op := Op.load 22 (Operand.tmp 20), type := 22, pos := "ref.go:146", after := #[{ on := 0, ground := Ground.data }], guard := none }) (v := ?_) rfl (by kernel_rfl) (by kernel_rfl) (by kernel_rfl) (fun _ _ _ h => h) (Or.inl ⟨by rfl, ?_⟩) hHeld ?_
      rotate_left 1
      · intro u hSu
        obtain ⟨q0, q1⟩ := row_cells hSu.out.s.tb
        obtain ⟨q2, q3⟩ := row_cells hSu.out.s.fb
        obtain ⟨q4, q5⟩ := hSu.out.rt HY.out
        obtain ⟨q6, q7⟩ := row_cells hSu.out.bx
        go_simp
        first | done | with_reducible rfl
      (try simp only [Act.put, List.setIfInBounds_toArray, List.set_cons_zero, List.set_cons_succ])
      refine wpAnyH_take (i := 2) (oi := { dst := some 22, op := Op.fieldAddr 59 (Operand.tmp 2) 0, type := 0, pos := "ref.go:146", after := #[], guard := none }) (v := ?_) rfl (by kernel_rfl) (by kernel_rfl) (by kernel_rfl) (fun _ _ _ h => h) (Or.inl ⟨by rfl, ?_⟩) hHeld ?_
      rotate_left 1
      · intro u hSu
        obtain ⟨q0, q1⟩ := row_cells hSu.out.s.tb
        obtain ⟨q2, q3⟩ := row_cells hSu.out.s.fb
        obtain ⟨q4, q5⟩ := hSu.out.rt HY.out
        obtain ⟨q6, q7⟩ := row_cells hSu.out.bx
        go_simp
        first | done | with_reducible rfl
      (try simp only [Act.put, List.setIfInBounds_toArray, List.set_cons_zero, List.set_cons_succ])
      refine wpAnyH_take (i := 3) (oi := { dst := some 23, op := Op.load 56 (Operand.tmp 22), type := 56, pos := "ref.go:146", after := #[{ on := 2, ground := Ground.data }], guard := none }) (v := ?_) rfl (by kernel_rfl) (by kernel_rfl) (by kernel_rfl) (fun _ _ _ h => h) (Or.inl ⟨by rfl, ?_⟩) hHeld ?_
      rotate_left 1
      · intro u hSu
        obtain ⟨q0, q1⟩ := row_cells hSu.out.s.tb
        obtain ⟨q2, q3⟩ := row_cells hSu.out.s.fb
        obtain ⟨q4, q5⟩ := hSu.out.rt HY.out
        obtain ⟨q6, q7⟩ := row_cells hSu.out.bx
        go_simp
        first | done | with_reducible rfl
      (try simp only [Act.put, List.setIfInBounds_toArray, List.set_cons_zero, List.set_cons_succ])
      refine wpAnyH_take (i := 4) (oi := { dst := some 24, op := Op.move (Operand.tmp 6), type := 3, pos := "ref.go:146", after := #[], guard := none }) (v := ?_) rfl (by kernel_rfl) (by kernel_rfl) (by kernel_rfl) (fun _ _ _ h => h) (Or.inl ⟨by rfl, ?_⟩) hHeld ?_
      rotate_left 1
      · intro u hSu
        obtain ⟨q0, q1⟩ := row_cells hSu.out.s.tb
        obtain ⟨q2, q3⟩ := row_cells hSu.out.s.fb
        obtain ⟨q4, q5⟩ := hSu.out.rt HY.out
        obtain ⟨q6, q7⟩ := row_cells hSu.out.bx
        go_simp
        first | done | with_reducible rfl
      (try simp only [Act.put, List.setIfInBounds_toArray, List.set_cons_zero, List.set_cons_succ])
      refine wpAnyH_take (i := 5) (oi := { dst := some 25, op := Op.indexAddr 56 (Operand.tmp 23) (Operand.tmp 24), type := 0, pos := "ref.go:146", after := #[{ on := 3, ground := Ground.data }, { on := 4, ground := Ground.data }], guard := none }) (v := ?_) rfl (by kernel_rfl) (by kernel_rfl) (by kernel_rfl) (fun _ _ _ h => h) (Or.inl ⟨by rfl, ?_⟩) hHeld ?_
      rotate_left 1
      · intro u hSu
        obtain ⟨q0, q1⟩ := row_cells hSu.out.s.tb
        obtain ⟨q2, q3⟩ := row_cells hSu.out.s.fb
        obtain ⟨q4, q5⟩ := hSu.out.rt HY.out
        obtain ⟨q6, q7⟩ := row_cells hSu.out.bx
        go_simp
        first | done | with_reducible rfl
      (try simp only [Act.put, List.setIfInBounds_toArray, List.set_cons_zero, List.set_cons_succ])
      refine wpAnyH_take (i := 6) (oi := { dst := some 26, op := Op.fieldAddr 69 (Operand.tmp 25) 0, type := 0, pos := "ref.go:146", after := #[{ on := 5, ground := Ground.data }], guard := none }) (v := ?_) rfl (by kernel_rfl) (by kernel_rfl) (by kernel_rfl) (fun _ _ _ h => h) (Or.inl ⟨by rfl, ?_⟩) hHeld ?_
      rotate_left 1
      · intro u hSu
        obtain ⟨q0, q1⟩ := row_cells hSu.out.s.tb
        obtain ⟨q2, q3⟩ := row_cells hSu.out.s.fb
        obtain ⟨q4, q5⟩ := hSu.out.rt HY.out
        obtain ⟨q6, q7⟩ := row_cells hSu.out.bx
        go_simp
        first | done | with_reducible rfl
      (try simp only [Act.put, List.setIfInBounds_toArray, List.set_cons_zero, List.set_cons_succ])
      refine wpAnyH_take (i := 7) (oi := { dst := some 27, op := Op.load 3 (Operand.tmp 26), type := 3, pos := "ref.go:146", after := #[{ on := 6, ground := Ground.data }], guard := none }) (v := ?_) rfl (by kernel_rfl) (by kernel_rfl) (by kernel_rfl) (fun _ _ _ h => h) (Or.inl ⟨by rfl, ?_⟩) hHeld ?_
      rotate_left 1
      · intro u hSu
        obtain ⟨q0, q1⟩ := row_cells hSu.out.s.tb
        obtain ⟨q2, q3⟩ := row_cells hSu.out.s.fb
        obtain ⟨q4, q5⟩ := hSu.out.rt HY.out
        obtain ⟨q6, q7⟩ := row_cells hSu.out.bx
        go_simp
        first | done | with_reducible rfl
      (try simp only [Act.put, List.setIfInBounds_toArray, List.set_cons_zero, List.set_cons_succ])
      refine wpAnyH_ready (rs := [8]) (by kernel_rfl) (by simp) ?_
      refine AllReadyH.cons (o := { dst := some 28, op := Op.call { callee := Callee.value (Operand.func 44), args := #[Operand.tmp 21, Operand.tmp 27], argTypes := #[22, 3] }, type := 4, pos := "ref.go:146", after := #[{ on := 1, ground := Ground.data }, { on := 7, ground := Ground.data }], guard := none }) rfl (fun Kz hK => ?_) AllReadyH.nil
      go_simp
      go_at_call 44
      refine (rhas4_any F.X y.id F.pX F.cX _ _ hHeld.out.s.f.x hmX).mono ?_
      rintro e w5 ⟨rfl, rfl⟩
      rw [HX.out]
      refine hK.out _ _ (hHeld) (fun hH2 => ?_)
      clear hK Kz hHeld
      have hHeld := hH2
      clear hH2
      (try simp only [Act.put, List.setIfInBounds_toArray, List.set_cons_zero, List.set_cons_succ])
      refine wpAnyH_take (i := 9) (oi := { dst := some 29, op := Op.unOp UnOp.not 4 (Operand.tmp 28), type := 4, pos := "ref.go:146", after := #[{ on := 8, ground := Ground.data }], guard := none }) (v := ?_) rfl (by kernel_rfl) (by kernel_rfl) (by kernel_rfl) (fun _ _ _ h => h) (Or.inl ⟨by rfl, ?_⟩) hHeld ?_
      rotate_left 1
      · intro u hSu
        obtain ⟨q0, q1⟩ := row_cells hSu.out.s.tb
        obtain ⟨q2, q3⟩ := row_cells hSu.out.s.fb
        obtain ⟨q4, q5⟩ := hSu.out.rt HY.out
        obtain ⟨q6, q7⟩ := row_cells hSu.out.bx
        go_simp
        first | done | with_reducible rfl
      (try simp only [Act.put, List.setIfInBounds_toArray, List.set_cons_zero, List.set_cons_succ])
      refine wpAnyH_done (by kernel_rfl) ?_ _
      have N2 : Hid (WR w ⟨R, L, some ⟨b, off, none⟩, cR, pL, cL⟩ F Bx (Bx + 1) vR (woR F (R.take (k + 1))) wr.drew) := Lib.hid (by rw [HL.out]; show WR _ _ _ _ _ _ (_ ++ []) _; rw [List.append_nil]; exact hHeld.out)
      clear hHeld
      go_wp2_with fail
      exact ⟨⟨k + 1, by omega, congrArg _ (by omega), _, N2⟩, by simp only [RowKit.intOf]; omega⟩
  have hcc := row_cells HK.out.s.tb
  clear hcc
  obtain rfl : k = R.length := by omega
  have hK := HK.out
  rw [List.take_length] at hK
  have hsz := hK.b1.2.2
  have L0 : Hid (WL w ⟨R, L, pR, cR, pL, cL⟩ F Bx wr.heap.size vR (.slice none 0 0) (woR F R) (woL F (L.take 0)) wr) := Lib.hid ⟨hK.s, hK.bx, World.ownsRow_nil _ _ _ _, (rdf_of_own2 hK.own).mono (fun b hb => ⟨by omega, hb.2⟩), own_shape hK.own, hbx.1, by omega, Nat.le_refl _⟩
  obtain ⟨c0, c1⟩ := row_cells hK.s.tb
  obtain ⟨B2, hB2⟩ : ∃ B2, wr.heap.size = B2 := ⟨_, rfl⟩
  rw [hB2] at L0
  have hb2 := L0.out.b1
  clear hK HK hB2 hsz
  obtain ⟨wo, rfl⟩ : ∃ wo : World, wo = wr := ⟨_, rfl⟩
  go_wp2_with fail
  go_loopw [7] (fun a wr => ∃ k : Nat, k ≤ L.length ∧ a = .int .i64 (k : Int) ∧ ∃ vL, Hid (WL w ⟨R, L, pR, cR, pL, cL⟩ F Bx B2 vR vL (woR F R) (woL F (L.take k)) wr)) (fun a _ => L.length - (RowKit.intOf a).toNat)
  case atStart => exact ⟨0, Nat.zero_le _, rfl, _, L0⟩
  case round =>
  obtain ⟨k, hk, rfl, vL, HK⟩ := hrel
  clear L0 c0 c1
  by_cases hlt : k < L.length
  case pos =>
    obtain ⟨-, b, off, rfl, hq, hc⟩ := rdl_cells (L := L) HK.out.s.t.l (by omega)
    obtain ⟨y, hy⟩ : ∃ y, L[k]? = some y := ⟨_, List.getElem?_eq_getElem hlt⟩
    obtain ⟨a0, a1, a2, a3, a4⟩ := hc k y hy
    obtain ⟨c0, c1⟩ := row_cells HK.out.s.tb
    have gal := World.grownBy_alloc wr (.cells #[.int .i64 y.a, .int .i64 y.b, .int .i64 y.ca, .int .i64 y.cb, .int .i64 y.cp] 71) none
    have HB := Lib.hid (And.intro (heap_alloc_new wr (.cells #[.int .i64 y.a, .int .i64 y.b, .int .i64 y.ca, .int .i64 y.cb, .int .i64 y.cp] 71)) gal)
    have HL : Hid (woL F (L.take (k + 1)) = woL F (L.take k) ++ (if woK F y then [y] else [])) := Lib.hid (filter_snoc hy)
    have hln : (woL F (L.take k)).length ≤ k := Nat.le_trans (List.length_filter_le _ _) (List.length_take_le _ _)
    clear hc hy gal
    go_upto_region 13 with fail
    clear a0 a1 a2 a3 a4 c0 c1
    generalize wr.alloc _ = wy at *
    have K2 := Lib.hid (HK.out.keep HB.out.2)
    obtain ⟨d0, d1, d2, d3, d4⟩ := lk_facts HB.out.1
    obtain ⟨x0, x1⟩ := row_cells K2.out.s.fb
    have no : Hid (woK F y = false) → ∀ wz, Hid (wr.grownBy wz none) → Hid (WL w ⟨R, L, pR, cR, some ⟨b, off, none⟩, cL⟩ F Bx B2 vR vL (woR F R) (woL F (L.take (k + 1))) wz) := fun h wz g => Lib.hid (by rw [HL.out, h.out]; show WL _ _ _ _ _ _ _ _ (_ ++ []) _; rw [List.append_nil]; exact HK.out.keep g.out)
    have NO := Lib.hid no
    clear no
    cases h1 : hasI F.X y.a
    · cases h2 : hasI F.X y.b
      · cases h3 : nmd F.H y
        · have HW : Hid (woK F y = true) := Lib.hid (by unfold woK; rw [h1, h2, h3]; rfl)
          have H123 := Lib.hid (And.intro h1 (And.intro h2 h3))
          clear h1 h2 h3 NO
          go_wp2_with fail
          refine (rhas4_any F.X y.a F.pX F.cX _ _ K2.out.s.f.x hmX).mono ?_
          rintro e w' ⟨rfl, rfl⟩
          rw [H123.out.1]
          go_wp2_with fail
          refine (rhas4_any F.X y.b F.pX F.cX _ _ K2.out.s.f.x hmX).mono ?_
          rintro e w' ⟨rfl, rfl⟩
          rw [H123.out.2.1]
          go_wp2_with fail
          refine (rnamed_any F.H y.a y.b F.pH F.cH _ _ K2.out.s.f.h hmH).mono ?_
          rintro e wz ⟨rfl, rfl⟩
          have hg := grown_refl wy none
          rw [nmH_eq]
          have h3n := H123.out.2.2
          unfold nmd at h3n
          rw [h3n]
          clear h3n
          have HG := Lib.hid (grown_trans HB.out.2 hg)
          have HBz := Lib.hid HB.out.1
          have K3 := Lib.hid (HK.out.keep HG.out)
          clear hg d0 d1 d2 d3 d4
          obtain ⟨d0, d1, d2, d3, d4⟩ := lk_facts HBz.out
          obtain ⟨M, hM⟩ : ∃ M, woL F (L.take k) = M := ⟨_, rfl⟩
          rw [hM] at K2 K3 HL hln HK
          rw [HW.out] at HL
          clear hM
          obtain ⟨f0, f1⟩ := row_cells K3.out.bx
          have hown := K3.out.own
          have hbz := K3.out.b1
          go_wp2_with (at_builtin; refine wpList_append_own _ rfl _ _ 57 rfl B2 71 il (.agg #[.int .i64 0, .int .i64 0, .int .i64 0, .int .i64 0, .int .i64 0]) 5 40 Try.underlying57 hil hl0 hl1 hl2 rfl (by decide) _ _ _ rfl (hown.alloc _) ⟨wy.heap.size, 0, none⟩ 1 1 [.int .i64 y.a, .int .i64 y.b, .int .i64 y.ca, .int .i64 y.cb, .int .i64 y.cp] rfl rfl ?c1 ?c2 ?c3 ?c4 ?c5 ?_)
          try (case c1 => exact cells5 _ _ _ _ _ _ _)
          case c2 => intro u hu; simp at hu; rcases hu with rfl | rfl | rfl | rfl | rfl <;> rfl
          case c3 => first | omega | (unfold maxLen; omega)
          case c4 => omega
          case c5 => first | omega | (simp; omega)
          intro v' w3 hown' hg _
          obtain ⟨p', c', rfl, -, -⟩ := own_shape hown'
          have m := HK.out.mid HG.out hown' hg
          obtain ⟨g0, g1⟩ := row_cells m.2.1
          have gf := frozen_of_row w3 Bx 1 _ _ m.2.1
          have N2 : Hid (WL w ⟨R, L, pR, cR, some ⟨b, off, none⟩, cL⟩ F Bx B2 vR (.slice p' (M.length + 1) c') (woR F R) (woL F (L.take (k + 1))) (w3.setCell ⟨Bx, 1, none⟩ (.slice p' (M.length + 1) c'))) := Lib.hid (by rw [HL.out]; exact WL.put ⟨hb2.1, hb2.2.1⟩ m)
          clear m hown' hg hown f0 f1 d0 d1 d2 d3 d4
          go_wp2_with fail
          exact ⟨⟨k + 1, by omega, congrArg _ (by omega), _, N2⟩, by simp only [RowKit.intOf]; omega⟩
        · have HW : Hid (woK F y = false) := Lib.hid (by unfold woK; rw [h1, h2, h3]; rfl)
          have H123 := Lib.hid (And.intro h1 (And.intro h2 h3))
          clear h1 h2 h3
          go_wp2_with fail
          refine (rhas4_any F.X y.a F.pX F.cX _ _ K2.out.s.f.x hmX).mono ?_
          rintro e w' ⟨rfl, rfl⟩
          rw [H123.out.1]
          go_wp2_with fail
          refine (rhas4_any F.X y.b F.pX F.cX _ _ K2.out.s.f.x hmX).mono ?_
          rintro e w' ⟨rfl, rfl⟩
          rw [H123.out.2.1]
          go_wp2_with fail
          refine (rnamed_any F.H y.a y.b F.pH F.cH _ _ K2.out.s.f.h hmH).mono ?_
          rintro e wz ⟨rfl, rfl⟩
          have hg := grown_refl wy none
          rw [nmH_eq]
          have h3n := H123.out.2.2
          unfold nmd at h3n
          rw [h3n]
          clear h3n
          have N2 := NO.out HW wy (Lib.hid (grown_trans HB.out.2 hg))
          clear hg
          go_wp2_with fail
          exact ⟨⟨k + 1, by omega, congrArg _ (by omega), vL, N2⟩, by simp only [RowKit.intOf]; omega⟩
      · have HW : Hid (woK F y = false) := Lib.hid (by unfold woK; rw [h1, h2]; rfl)
        have H123 := Lib.hid (And.intro h1 h2)
        have N2 := NO.out HW wy (Lib.hid HB.out.2)
        clear h1 h2
        go_wp2_with fail
        refine (rhas4_any F.X y.a F.pX F.cX _ _ K2.out.s.f.x hmX).mono ?_
        rintro e w' ⟨rfl, rfl⟩
        rw [H123.out.1]
        go_wp2_with fail
        refine (rhas4_any F.X y.b F.pX F.cX _ _ K2.out.s.f.x hmX).mono ?_
        rintro e w' ⟨rfl, rfl⟩
        rw [H123.out.2]
        go_wp2_with fail
        exact ⟨⟨k + 1, by omega, congrArg _ (by omega), vL, N2⟩, by simp only [RowKit.intOf]; omega⟩
    · have HW : Hid (woK F y = false) := Lib.hid (by unfold woK; rw [h1]; rfl)
      have H123 := Lib.hid h1
      have N2 := NO.out HW wy (Lib.hid HB.out.2)
      clear h1
      go_wp2_with fail
      refine (rhas4_any F.X y.a F.pX F.cX _ _ K2.out.s.f.x hmX).mono ?_
      rintro e w' ⟨rfl, rfl⟩
      rw [H123.out]
      go_wp2_with fail
      exact ⟨⟨k + 1, by omega, congrArg _ (by omega), vL, N2⟩, by simp only [RowKit.intOf]; omega⟩
  obtain rfl : k = L.length := by omega
  have hK := HK.out
  rw [List.take_length] at hK
  obtain ⟨pl', cl', rfl, hl1', hl2'⟩ := own_shape hK.own
  obtain ⟨pr', cr', rfl, hr1', hr2'⟩ := id hK.cv
  have K3 := Lib.hid hK
  obtain ⟨f0, f1⟩ := row_cells hK.bx
  obtain ⟨c0, c1⟩ := row_cells hK.s.tb
  have z0 := hK.s.rb.cell (j := 0) rfl
  have z1 := hK.s.rb.cell (j := 1) rfl
  have y0 := hK.s.rb.frozen 0
  have y1 := hK.s.rb.frozen 1
  have hrow := store2 (u := .slice pr' (woR F R).length cr') (z := .slice pl' (woL F L).length cl') (show wr.heap[w.heap.size + 2]? = some (.cells #[.slice none 0 0, .slice none 0 0] 59 (0, 0)) from hK.s.rb)
  have HR := Lib.hid (And.intro hrow (grown_new hK.s.gr (grown_store2 wr (w.heap.size + 2) (.slice pr' (woR F R).length cr') (.slice pl' (woL F L).length cl')) (by omega)))
  clear hrow hK HK
  go_wp2_with fail
  refine bodyPost_ret (res_topo rfl _ _ (w.heap.size + 2) _ _ rfl HR.out.1) rfl ?_
  rw [← HRL2.out.1, ← HRL2.out.2]
  have q : ∀ b, w.heap.size + 2 < b → some b ≠ some (w.heap.size + 2) := fun b hb e => by have := Option.some.inj e; omega
  have g9 := grown_store2 wr (w.heap.size + 2) (.slice pr' (woR F R).length cr') (.slice pl' (woL F L).length cl')
  refine ⟨pr', cr', pl', cl', rfl, ⟨?_, ?_, ⟨hr1', hr2'⟩, ⟨hl1', hl2'⟩⟩, fun hn => ?_, HR.out.2⟩
  · exact (K3.out.rd.grown g9 (fun b hb => q b (by omega))).mono (fun b hb => by show w.heap.size ≤ b; omega)
  · exact ((rdf_of_own K3.out.own).grown g9 (fun b hb => q b (by have : B2 ≤ b := hb; omega))).mono (fun b hb => by have : B2 ≤ b := hb; show w.heap.size ≤ b; omega)
  · rcases K3.out.own.2 with ⟨e, -⟩ | ⟨g, cap, cur, e, -⟩
    · injection e
    · injection e with e1
      rw [hn] at e1
      cases e1
end Go.Proofs.Ytnpkihioklpnmaa
