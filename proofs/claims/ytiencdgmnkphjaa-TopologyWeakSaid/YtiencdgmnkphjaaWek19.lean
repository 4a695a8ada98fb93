/- Parts of the proof, packed: ToWiR, ToBri. -/
import Derived.Test.YtiencdgmnkphjaaWek6
import Derived.Test.YtiencdgmnkphjaaWek14
import Derived.Test.YtiencdgmnkphjaaWek11
import Derived.Deep.AppendLies
import Derived.Test.YtiencdgmnkphjaaWek8
/- The reference's Without. -/
namespace Go.Proofs.Ytiencdgmnkphjaa
open Go.RowKit Bs
theorem WR.rt {w wr : World} {R R' : List Rt} {L : List Lk} {b off cR cL Bx base k : Nat} {pL : Option Addr} {F : Fl} {vR : Value} {y : Rt} (h : WR w ⟨R, L, some ⟨b, off, none⟩, cR, pL, cL⟩ F Bx base vR R' wr) (hy : R[k]? = some y) :
    wr.cell? ⟨b, off + k * 2, none⟩ = some (.int .i64 y.id) ∧ wr.cell? ⟨b, off + k * 2 + 1, none⟩ = some (.bool y.cap) := by
  have h1 := (List.getElem?_eq_some_iff.1 hy).1
  obtain ⟨-, b', off', e, -, hc⟩ := rdr_cells (R := R) h.s.t.r (by omega)
  injection e with e
  injection e with e4 e5
  subst e4
  subst e5
  exact hc k y hy
set_option maxRecDepth 100000 in
set_option maxHeartbeats 6400000 in
theorem rwithout_any (T : Tg) (F : Fl) (q q2 : Nat → Prop) (w : World) (hT : TgOk w q T) (hF : FlOk w q2 F) :
    Calls Try.prog 33 #[.agg #[.slice T.pR T.R.length T.cR, .slice T.pL T.L.length T.cL], .agg #[.slice F.pH F.H.length F.cH, .slice F.pX F.X.length F.cX]] w fun e w' => TWPost (if okT T.R T.L then woR F T.R else []) (if okT T.R T.L then woL F T.L else []) w e w' := by
  obtain ⟨ir, hir, hr0, hr1, hr2⟩ := info_parts info_rt
  obtain ⟨il, hil, hl0, hl1, hl2⟩ := info_parts info_lk
  have hmX := Nat.le_trans hF.cx.1 hF.cx.2
  have hmH := Nat.le_trans hF.ch.1 hF.ch.2
  have S0 := Lib.hid (WS.start hT hF)
  have hmR := Nat.le_trans hT.cr.1 hT.cr.2
  have hmL := Nat.le_trans hT.cl.1 hT.cl.2
  clear hT hF
  obtain ⟨R, L, pR, cR, pL, cL⟩ := T
  simp only at hmR hmL S0 ⊢
  obtain ⟨Rr, hRr⟩ : ∃ Rr, (if okT R L = true then woR F R else []) = Rr := ⟨_, rfl⟩
  obtain ⟨Lr, hLr⟩ : ∃ Lr, (if okT R L = true then woL F L else []) = Lr := ⟨_, rfl⟩
  rw [hRr, hLr]
  have HRL := Lib.hid (And.intro hRr hLr)
  clear hRr hLr
  go_enter Try.func33, Try.ntmps33
  go_upto_region 1 with fail
  generalize ((w.alloc _).alloc _).alloc _ = wa at *
  obtain ⟨c0, c1⟩ := row_cells S0.out.tb
  go_wp2_with fail
  refine (rcheck_any ⟨R, L, pR, cR, pL, cL⟩ _ wa S0.out.t).mono ?_
  rintro e w1 ⟨rfl, hg⟩
  simp only
  obtain ⟨X, hX⟩ : ∃ X, chk R L = X := ⟨_, rfl⟩
  rw [hX]
  have HX0 : Hid (okT R L = (X == 0)) := Lib.hid (by unfold okT; rw [hX])
  clear hX
  have S1 := Lib.hid (S0.out.keep hg)
  clear hg S0 c0 c1
  by_cases hx0 : X = 0
  rotate_left 1
  · have hv : okT R L = false := by rw [HX0.out]; simpa using hx0
    have hx1 : (X == 0) = false := by simpa using hx0
    obtain ⟨rfl, rfl⟩ : Rr = [] ∧ Lr = [] := by have := HRL.out; rw [hv] at this; exact ⟨this.1.symm, this.2.symm⟩
    have z0 := S1.out.rb.cell (j := 0) rfl
    have z1 := S1.out.rb.cell (j := 1) rfl
    have y0 := S1.out.rb.frozen 0
    have y1 := S1.out.rb.frozen 1
    clear hv HRL
    have hrow := store2 (u := .slice none 0 0) (z := .slice none 0 0) (show w1.heap[w.heap.size + 2]? = some (.cells #[.slice none 0 0, .slice none 0 0] 26 (0, 0)) from S1.out.rb)
    have HR := Lib.hid (And.intro hrow (grown_new S1.out.gr (grown_store2 w1 (w.heap.size + 2) (.slice none 0 0) (.slice none 0 0)) (by omega)))
    clear hrow
    go_wp2_with fail
    refine bodyPost_ret (res_topo rfl _ _ (w.heap.size + 2) _ _ rfl HR.out.1) rfl ?_
    exact ⟨none, 0, none, 0, rfl, ⟨rdf_nil _ _ _ _, rdf_nil _ _ _ _, ⟨Nat.le_refl _, by show 0 ≤ _; omega⟩, ⟨Nat.le_refl _, by show 0 ≤ _; omega⟩⟩, HR.out.2⟩
  have hv : okT R L = true := by rw [HX0.out, hx0]; rfl
  obtain ⟨h24, h60⟩ := okT_len hv
  have HRL2 : Hid (woR F R = Rr ∧ woL F L = Lr) := Lib.hid (by have := HRL.out; rw [hv] at this; exact this)
  clear hv HRL
  subst hx0
  go_upto_region 4 with fail
  have gal := World.grownBy_alloc w1 (.cells #[.slice none 0 0, .slice none 0 0] 26) none
  have R0 : Hid (WR w ⟨R, L, pR, cR, pL, cL⟩ F w1.heap.size (w1.heap.size + 1) (.slice none 0 0) (woR F (R.take 0)) (w1.alloc (.cells #[.slice none 0 0, .slice none 0 0] 26))) := Lib.hid ⟨S1.out.keep gal, heap_alloc_new w1 _, World.ownsRow_nil _ _ _ _, by have := S1.out.rb.lt; omega, by omega, by simp⟩
  have hbx := R0.out.b1
  clear gal S1
  generalize w1.alloc _ = w2 at *
  generalize w1.heap.size = Bx at *
  obtain ⟨c0, c1⟩ := row_cells R0.out.s.tb
  go_wp2_with fail
  go_loopw [6] (fun a wr => ∃ k : Nat, k ≤ R.length ∧ a = .int .i64 (k : Int) ∧ ∃ vR, Hid (WR w ⟨R, L, pR, cR, pL, cL⟩ F Bx (Bx + 1) vR (woR F (R.take k)) wr)) (fun a _ => R.length - (intOf a).toNat)
  case atStart => exact ⟨0, Nat.zero_le _, rfl, _, R0⟩
  case round =>
  obtain ⟨k, hk, rfl, vR, HK⟩ := hrel
  clear R0 c0 c1
  by_cases hlt : k < R.length
  case pos =>
    obtain ⟨-, b, off, rfl, hq, hc⟩ := rdr_cells (R := R) HK.out.s.t.r (by omega)
    obtain ⟨y, hy⟩ : ∃ y, R[k]? = some y := ⟨_, List.getElem?_eq_getElem hlt⟩
    obtain ⟨a0, a1⟩ := hc k y hy
    have HY := Lib.hid hy
    have HL : Hid (woR F (R.take (k + 1)) = woR F (R.take k) ++ (if !hasI F.X y.id then [y] else [])) := Lib.hid (filter_snoc hy)
    have hln : (woR F (R.take k)).length ≤ k := Nat.le_trans (List.length_filter_le _ _) (List.length_take_le _ _)
    obtain ⟨M, hM⟩ : ∃ M, woR F (R.take k) = M := ⟨_, rfl⟩
    rw [hM] at HL hln HK
    clear hc hy a0 a1 hM
    obtain ⟨c0, c1⟩ := row_cells HK.out.s.tb
    have i0 : (0 : Int) ≤ (k : Int) := by omega
    have i1 : (k : Int) < (R.length : Int) := by omega
    go_upto_region 7 with fail
    clear c0 c1
    cases hx : hasI F.X y.id
    · rw [hx] at HL
      have HX := Lib.hid hx
      clear hx
      refine wp_region_held_drew (S := fun w' => Hid (WR w ⟨R, L, some ⟨b, off, none⟩, cR, pL, cL⟩ F Bx (Bx + 1) vR M w')) (by kernel_rfl) (Lib.hid (HK.out.keep (grown_drew (grown_refl _ _)))) (fun hHeld => ?_)
      refine wpAnyH_take (i := 0) (oi := { dst := some 20, op := Op.fieldAddr 47 (Operand.tmp 3) 1, type := 0, pos := "ref.go:146", after := #[], guard := none }) (v := ?_) rfl (by kernel_rfl) (by kernel_rfl) (by kernel_rfl) (fun _ _ _ h => h) (Or.inl ⟨by rfl, ?_⟩) hHeld ?_
      rotate_left 1
      · intro u hSu
        obtain ⟨q0, q1⟩ := row_cells hSu.out.s.tb
        obtain ⟨q2, q3⟩ := row_cells hSu.out.s.fb
        obtain ⟨q4, q5⟩ := hSu.out.rt HY.out
        obtain ⟨q6, q7⟩ := row_cells hSu.out.bx
        go_simp
        first | done | with_reducible rfl
      (try simp only [Act.put, List.setIfInBounds_toArray, List.set_cons_zero, List.set_cons_succ])
      refine wpAnyH_take (i := 1) (oi := { dst := some 21, op := Op.load 22 (Operand.tmp 20), type := 22, pos := "ref.go:146", after := #[{ on := 0, ground := Ground.data }], guard := none }) (v := ?_) rfl (by kernel_rfl) (by kernel_rfl) (by kernel_rfl) (fun _ _ _ h => h) (Or.inl ⟨by rfl, ?_⟩) hHeld ?_
      rotate_left 1
      · intro u hSu
        obtain ⟨q0, q1⟩ := row_cells hSu.out.s.tb
        obtain ⟨q2, q3⟩ := row_cells hSu.out.s.fb
        obtain ⟨q4, q5⟩ := hSu.out.rt HY.out
        obtain ⟨q6, q7⟩ := row_cells hSu.out.bx
        go_simp
        first | done | with_reducible rfl
      (try simp only [Act.put, List.setIfInBounds_toArray, List.set_cons_zero, List.set_cons_succ])
      refine wpAnyH_take (i := 2) (oi := { dst := some 22, op := Op.fieldAddr 26 (Operand.tmp 2) 0, type := 0, pos := "ref.go:146", after := #[], guard := none }) (v := ?_) rfl (by kernel_rfl) (by kernel_rfl) (by kernel_rfl) (fun _ _ _ h => h) (Or.inl ⟨by rfl, ?_⟩) hHeld ?_
      rotate_left 1
      · intro u hSu
        obtain ⟨q0, q1⟩ := row_cells hSu.out.s.tb
        obtain ⟨q2, q3⟩ := row_cells hSu.out.s.fb
        obtain ⟨q4, q5⟩ := hSu.out.rt HY.out
        obtain ⟨q6, q7⟩ := row_cells hSu.out.bx
        go_simp
        first | done | with_reducible rfl
      (try simp only [Act.put, List.setIfInBounds_toArray, List.set_cons_zero, List.set_cons_succ])
      refine wpAnyH_take (i := 3) (oi := { dst := some 23, op := Op.load 23 (Operand.tmp 22), type := 23, pos := "ref.go:146", after := #[{ on := 2, ground := Ground.data }], guard := none }) (v := ?_) rfl (by kernel_rfl) (by kernel_rfl) (by kernel_rfl) (fun _ _ _ h => h) (Or.inl ⟨by rfl, ?_⟩) hHeld ?_
      rotate_left 1
      · intro u hSu
        obtain ⟨q0, q1⟩ := row_cells hSu.out.s.tb
        obtain ⟨q2, q3⟩ := row_cells hSu.out.s.fb
        obtain ⟨q4, q5⟩ := hSu.out.rt HY.out
        obtain ⟨q6, q7⟩ := row_cells hSu.out.bx
        go_simp
        first | done | with_reducible rfl
      (try simp only [Act.put, List.setIfInBounds_toArray, List.set_cons_zero, List.set_cons_succ])
      refine wpAnyH_take (i := 4) (oi := { dst := some 24, op := Op.move (Operand.tmp 6), type := 3, pos := "ref.go:146", after := #[], guard := none }) (v := ?_) rfl (by kernel_rfl) (by kernel_rfl) (by kernel_rfl) (fun _ _ _ h => h) (Or.inl ⟨by rfl, ?_⟩) hHeld ?_
      rotate_left 1
      · intro u hSu
        obtain ⟨q0, q1⟩ := row_cells hSu.out.s.tb
        obtain ⟨q2, q3⟩ := row_cells hSu.out.s.fb
        obtain ⟨q4, q5⟩ := hSu.out.rt HY.out
        obtain ⟨q6, q7⟩ := row_cells hSu.out.bx
        go_simp
        first | done | with_reducible rfl
      (try simp only [Act.put, List.setIfInBounds_toArray, List.set_cons_zero, List.set_cons_succ])
      refine wpAnyH_take (i := 5) (oi := { dst := some 25, op := Op.indexAddr 23 (Operand.tmp 23) (Operand.tmp 24), type := 0, pos := "ref.go:146", after := #[{ on := 3, ground := Ground.data }, { on := 4, ground := Ground.data }], guard := none }) (v := ?_) rfl (by kernel_rfl) (by kernel_rfl) (by kernel_rfl) (fun _ _ _ h => h) (Or.inl ⟨by rfl, ?_⟩) hHeld ?_
      rotate_left 1
      · intro u hSu
        obtain ⟨q0, q1⟩ := row_cells hSu.out.s.tb
        obtain ⟨q2, q3⟩ := row_cells hSu.out.s.fb
        obtain ⟨q4, q5⟩ := hSu.out.rt HY.out
        obtain ⟨q6, q7⟩ := row_cells hSu.out.bx
        go_simp
        first | done | with_reducible rfl
      (try simp only [Act.put, List.setIfInBounds_toArray, List.set_cons_zero, List.set_cons_succ])
      refine wpAnyH_take (i := 6) (oi := { dst := some 26, op := Op.fieldAddr 73 (Operand.tmp 25) 0, type := 0, pos := "ref.go:146", after := #[{ on := 5, ground := Ground.data }], guard := none }) (v := ?_) rfl (by kernel_rfl) (by kernel_rfl) (by kernel_rfl) (fun _ _ _ h => h) (Or.inl ⟨by rfl, ?_⟩) hHeld ?_
      rotate_left 1
      · intro u hSu
        obtain ⟨q0, q1⟩ := row_cells hSu.out.s.tb
        obtain ⟨q2, q3⟩ := row_cells hSu.out.s.fb
        obtain ⟨q4, q5⟩ := hSu.out.rt HY.out
        obtain ⟨q6, q7⟩ := row_cells hSu.out.bx
        go_simp
        first | done | with_reducible rfl
      (try simp only [Act.put, List.setIfInBounds_toArray, List.set_cons_zero, List.set_cons_succ])
      refine wpAnyH_take (i := 7) (oi := { dst := some 27, op := Op.load 3 (Operand.tmp 26), type := 3, pos := "ref.go:146", after := #[{ on := 6, ground := Ground.data }], guard := none }) (v := ?_) rfl (by kernel_rfl) (by kernel_rfl) (by kernel_rfl) (fun _ _ _ h => h) (Or.inl ⟨by rfl, ?_⟩) hHeld ?_
      rotate_left 1
      · intro u hSu
        obtain ⟨q0, q1⟩ := row_cells hSu.out.s.tb
        obtain ⟨q2, q3⟩ := row_cells hSu.out.s.fb
        obtain ⟨q4, q5⟩ := hSu.out.rt HY.out
        obtain ⟨q6, q7⟩ := row_cells hSu.out.bx
        go_simp
        first | done | with_reducible rfl
      (try simp only [Act.put, List.setIfInBounds_toArray, List.set_cons_zero, List.set_cons_succ])
      refine wpAnyH_ready (rs := [8]) (by kernel_rfl) (by simp) ?_
      refine AllReadyH.cons (o := { dst := some 28, op := Op.call { callee := Callee.value (Operand.func 47), args := #[Operand.tmp 21, Operand.tmp 27], argTypes := #[22, 3] }, type := 4, pos := "ref.go:146", after := #[{ on := 1, ground := Ground.data }, { on := 7, ground := Ground.data }], guard := none }) rfl (fun Kz hK => ?_) AllReadyH.nil
      go_simp
      go_at_call 47
      refine (rhas4_any F.X y.id F.pX F.cX _ _ hHeld.out.s.f.x hmX).mono ?_
      rintro e w5 ⟨rfl, rfl⟩
      rw [HX.out]
      refine hK.out _ _ (hHeld) (fun hH2 => ?_)
      clear hK Kz hHeld
      have hHeld := hH2
      clear hH2
      (try simp only [Act.put, List.setIfInBounds_toArray, List.set_cons_zero, List.set_cons_succ])
      refine wpAnyH_take (i := 9) (oi := { dst := some 29, op := Op.unOp UnOp.not 4 (Operand.tmp 28), type := 4, pos := "ref.go:146", after := #[{ on := 8, ground := Ground.data }], guard := none }) (v := ?_) rfl (by kernel_rfl) (by kernel_rfl) (by kernel_rfl) (fun _ _ _ h => h) (Or.inl ⟨by rfl, ?_⟩) hHeld ?_
      rotate_left 1
      · intro u hSu
        obtain ⟨q0, q1⟩ := row_cells hSu.out.s.tb
        obtain ⟨q2, q3⟩ := row_cells hSu.out.s.fb
        obtain ⟨q4, q5⟩ := hSu.out.rt HY.out
        obtain ⟨q6, q7⟩ := row_cells hSu.out.bx
        go_simp
        first | done | with_reducible rfl
      (try simp only [Act.put, List.setIfInBounds_toArray, List.set_cons_zero, List.set_cons_succ])
      refine wpAnyH_done (by kernel_rfl) ?_ _
      have K2 := hHeld
      clear hHeld
      change Exit.then _ _ _ _ wr.drew
      generalize wr.drew = wz at *
      go_upto_region 8 with fail
      refine region_until (S := fun w' => Hid (WR w ⟨R, L, some ⟨b, off, none⟩, cR, pL, cL⟩ F Bx (Bx + 1) vR M w')) (fun j => j == 8 || j == 9 || j == 10) (by kernel_rfl) (Lib.hid (K2.out.keep (grown_drew (grown_refl _ _)))) (fun hHeld => ?_)
      refine anyU_take (i := 0) (oi := { dst := some 30, op := Op.fieldAddr 26 (Operand.tmp 5) 0, type := 0, pos := "ref.go:147", after := #[], guard := none }) (v := ?_) rfl (by kernel_rfl) (by kernel_rfl) (by kernel_rfl) (by kernel_rfl) (by kernel_rfl) (fun _ _ _ h => h) (Or.inl ⟨by rfl, ?_⟩) hHeld ?_
      rotate_left 1
      · intro u hSu
        obtain ⟨q0, q1⟩ := row_cells hSu.out.s.tb
        obtain ⟨q2, q3⟩ := row_cells hSu.out.s.fb
        obtain ⟨q4, q5⟩ := hSu.out.rt HY.out
        obtain ⟨q6, q7⟩ := row_cells hSu.out.bx
        go_simp
        first | done | with_reducible rfl
      (try simp only [Act.put, List.setIfInBounds_toArray, List.set_cons_zero, List.set_cons_succ])
      refine anyU_take (i := 1) (oi := { dst := some 31, op := Op.load 23 (Operand.tmp 30), type := 23, pos := "ref.go:147", after := #[{ on := 0, ground := Ground.data }], guard := none }) (v := ?_) rfl (by kernel_rfl) (by kernel_rfl) (by kernel_rfl) (by kernel_rfl) (by kernel_rfl) (fun _ _ _ h => h) (Or.inl ⟨by rfl, ?_⟩) hHeld ?_
      rotate_left 1
      · intro u hSu
        obtain ⟨q0, q1⟩ := row_cells hSu.out.s.tb
        obtain ⟨q2, q3⟩ := row_cells hSu.out.s.fb
        obtain ⟨q4, q5⟩ := hSu.out.rt HY.out
        obtain ⟨q6, q7⟩ := row_cells hSu.out.bx
        go_simp
        first | done | with_reducible rfl
      (try simp only [Act.put, List.setIfInBounds_toArray, List.set_cons_zero, List.set_cons_succ])
      refine anyU_take (i := 2) (oi := { dst := some 32, op := Op.fieldAddr 26 (Operand.tmp 2) 0, type := 0, pos := "ref.go:147", after := #[], guard := none }) (v := ?_) rfl (by kernel_rfl) (by kernel_rfl) (by kernel_rfl) (by kernel_rfl) (by kernel_rfl) (fun _ _ _ h => h) (Or.inl ⟨by rfl, ?_⟩) hHeld ?_
      rotate_left 1
      · intro u hSu
        obtain ⟨q0, q1⟩ := row_cells hSu.out.s.tb
        obtain ⟨q2, q3⟩ := row_cells hSu.out.s.fb
        obtain ⟨q4, q5⟩ := hSu.out.rt HY.out
        obtain ⟨q6, q7⟩ := row_cells hSu.out.bx
        go_simp
        first | done | with_reducible rfl
      (try simp only [Act.put, List.setIfInBounds_toArray, List.set_cons_zero, List.set_cons_succ])
      refine anyU_take (i := 3) (oi := { dst := some 33, op := Op.load 23 (Operand.tmp 32), type := 23, pos := "ref.go:147", after := #[{ on := 2, ground := Ground.data }], guard := none }) (v := ?_) rfl (by kernel_rfl) (by kernel_rfl) (by kernel_rfl) (by kernel_rfl) (by kernel_rfl) (fun _ _ _ h => h) (Or.inl ⟨by rfl, ?_⟩) hHeld ?_
      rotate_left 1
      · intro u hSu
        obtain ⟨q0, q1⟩ := row_cells hSu.out.s.tb
        obtain ⟨q2, q3⟩ := row_cells hSu.out.s.fb
        obtain ⟨q4, q5⟩ := hSu.out.rt HY.out
        obtain ⟨q6, q7⟩ := row_cells hSu.out.bx
        go_simp
        first | done | with_reducible rfl
      (try simp only [Act.put, List.setIfInBounds_toArray, List.set_cons_zero, List.set_cons_succ])
      refine anyU_take (i := 4) (oi := { dst := some 34, op := Op.move (Operand.tmp 6), type := 3, pos := "ref.go:147", after := #[], guard := none }) (v := ?_) rfl (by kernel_rfl) (by kernel_rfl) (by kernel_rfl) (by kernel_rfl) (by kernel_rfl) (fun _ _ _ h => h) (Or.inl ⟨by rfl, ?_⟩) hHeld ?_
      rotate_left 1
      · intro u hSu
        obtain ⟨q0, q1⟩ := row_cells hSu.out.s.tb
        obtain ⟨q2, q3⟩ := row_cells hSu.out.s.fb
        obtain ⟨q4, q5⟩ := hSu.out.rt HY.out
        obtain ⟨q6, q7⟩ := row_cells hSu.out.bx
        go_simp
        first | done | with_reducible rfl
      (try simp only [Act.put, List.setIfInBounds_toArray, List.set_cons_zero, List.set_cons_succ])
      refine anyU_take (i := 5) (oi := { dst := some 35, op := Op.indexAddr 23 (Operand.tmp 33) (Operand.tmp 34), type := 0, pos := "ref.go:147", after := #[{ on := 3, ground := Ground.data }, { on := 4, ground := Ground.data }], guard := none }) (v := ?_) rfl (by kernel_rfl) (by kernel_rfl) (by kernel_rfl) (by kernel_rfl) (by kernel_rfl) (fun _ _ _ h => h) (Or.inl ⟨by rfl, ?_⟩) hHeld ?_
      rotate_left 1
      · intro u hSu
        obtain ⟨q0, q1⟩ := row_cells hSu.out.s.tb
        obtain ⟨q2, q3⟩ := row_cells hSu.out.s.fb
        obtain ⟨q4, q5⟩ := hSu.out.rt HY.out
        obtain ⟨q6, q7⟩ := row_cells hSu.out.bx
        go_simp
        first | done | with_reducible rfl
      (try simp only [Act.put, List.setIfInBounds_toArray, List.set_cons_zero, List.set_cons_succ])
      refine anyU_take (i := 6) (oi := { dst := some 36, op := Op.load 73 (Operand.tmp 35), type := 73, pos := "ref.go:147", after := #[{ on := 5, ground := Ground.data }], guard := none }) (v := ?_) rfl (by kernel_rfl) (by kernel_rfl) (by kernel_rfl) (by kernel_rfl) (by kernel_rfl) (fun _ _ _ h => h) (Or.inl ⟨by rfl, ?_⟩) hHeld ?_
      rotate_left 1
      · intro u hSu
        obtain ⟨q0, q1⟩ := row_cells hSu.out.s.tb
        obtain ⟨q2, q3⟩ := row_cells hSu.out.s.fb
        obtain ⟨q4, q5⟩ := hSu.out.rt HY.out
        obtain ⟨q6, q7⟩ := row_cells hSu.out.bx
        go_simp
        first | done | with_reducible rfl
      (try simp only [Act.put, List.setIfInBounds_toArray, List.set_cons_zero, List.set_cons_succ])
      refine anyU_ready (rs := [7]) (by kernel_rfl) (by simp) ?_
      refine EachU.cons (o := { dst := some 37, op := Op.buildSlice 23 1 #[(0, Operand.tmp 36)], type := 23, pos := "ref.go:147", after := #[{ on := 6, ground := Ground.data }], guard := none }) rfl (fun Kz hK => ?_) EachU.nil
      have H8 := hHeld
      go_simp
      refine hK.out _ _ (fun _ => Lib.hid (hHeld.out.keep (World.grownBy_alloc _ _ none))) (fun hH2 => ?_)
      clear hK Kz hHeld
      have hHeld := hH2 rfl
      clear hH2
      (try simp only [Act.put, List.setIfInBounds_toArray, List.set_cons_zero, List.set_cons_succ])
      refine anyU_ready (rs := [8]) (by kernel_rfl) (by simp) ?_
      refine EachU.cons (o := { dst := some 38, op := Op.call { callee := Callee.builtin Builtin.append, args := #[Operand.tmp 31, Operand.tmp 37], argTypes := #[23, 23] }, type := 23, pos := "ref.go:147", after := #[{ on := 1, ground := Ground.data }, { on := 7, ground := Ground.data }], guard := none }) rfl (fun Kz hK => ?_) EachU.nil
      refine step_append_lies _ (by rfl) _ _ 23 (by rfl) (Bx + 1) 73 ir (.agg #[.int .i64 0, .bool false]) 2 16 Try.underlying23 hir hr0 hr1 hr2 rfl (by decide) vR M.length (M.flatMap rtC) (by rfl) (H8.out.own.alloc _) ⟨wz.heap.size, 0, none⟩ 1 1 [.int .i64 y.id, .bool y.cap] (by rfl) (by rfl) (cells2 wz.drew _ _ _) (by intro u hu; simp at hu; rcases hu with rfl | rfl <;> rfl) (by omega) (by unfold maxLen; omega) (by omega) (by have := H8.out.b1; simp at this ⊢; omega) _ rfl ?_
      intro g cap w9 hown hgrow hat hlt9
      have m := Lib.hid (H8.out.mid (grown_refl _ none) hown hgrow)
      have cc := row_cells m.out.2.1
      have c90 := cc.1
      have c91 := cc.2
      have fB := frozen_of_row _ _ 0 _ _ m.out.2.1
      clear cc hown hgrow hat hlt9
      refine hK.out _ _ (fun h => by cases h) (fun _ => ?_)
      clear hK Kz
      (try simp only [Act.put, List.setIfInBounds_toArray, List.set_cons_zero, List.set_cons_succ])
      refine anyU_ready (rs := [9]) (by kernel_rfl) (by simp) ?_
      refine EachU.cons (o := { dst := some 39, op := Op.fieldAddr 26 (Operand.tmp 5) 0, type := 0, pos := "ref.go:147", after := #[{ on := 0, ground := Ground.phase }, { on := 1, ground := Ground.phase }, { on := 2, ground := Ground.phase }, { on := 3, ground := Ground.phase }, { on := 4, ground := Ground.phase }, { on := 5, ground := Ground.phase }, { on := 6, ground := Ground.phase }, { on := 7, ground := Ground.phase }, { on := 8, ground := Ground.phase }], guard := none }) rfl (fun Kz hK => ?_) EachU.nil
      go_simp
      refine hK.out _ _ (fun h => by cases h) (fun _ => ?_)
      clear hK Kz
      (try simp only [Act.put, List.setIfInBounds_toArray, List.set_cons_zero, List.set_cons_succ])
      refine anyU_ready (rs := [10]) (by kernel_rfl) (by simp) ?_
      refine EachU.cons (o := { dst := none, op := Op.store 23 (Operand.tmp 39) (Operand.tmp 38), type := 0, pos := "ref.go:147", after := #[{ on := 9, ground := Ground.data }, { on := 8, ground := Ground.data }, { on := 8, ground := Ground.chain }, { on := 0, ground := Ground.phase }, { on := 1, ground := Ground.phase }, { on := 2, ground := Ground.phase }, { on := 3, ground := Ground.phase }, { on := 4, ground := Ground.phase }, { on := 5, ground := Ground.phase }, { on := 6, ground := Ground.phase }, { on := 7, ground := Ground.phase }, { on := 8, ground := Ground.phase }], guard := none }) rfl (fun Kz hK => ?_) EachU.nil
      go_simp
      refine hK.out _ _ (fun h => by cases h) (fun _ => ?_)
      clear hK Kz
      (try simp only [Act.put, List.setIfInBounds_toArray, List.set_cons_zero, List.set_cons_succ])
      refine anyU_done (by kernel_rfl) ?_ _
      have N2 : Hid (WR w ⟨R, L, some ⟨b, off, none⟩, cR, pL, cL⟩ F Bx (Bx + 1) (.slice (some ⟨g, 0, none⟩) (M.length + 1) cap) (woR F (R.take (k + 1))) (w9.setCell ⟨Bx, 0, none⟩ (.slice (some ⟨g, 0, none⟩) (M.length + 1) cap))) := Lib.hid (by rw [HL.out]; exact WR.put ⟨hbx.1, hbx.2.1⟩ m.out)
      clear m c90 c91 fB H8 hHeld
      go_wp2_with fail
      exact ⟨⟨k + 1, by omega, congrArg _ (by omega), _, N2⟩, by simp only [intOf]; omega⟩
    · rw [hx] at HL
      have HX := Lib.hid hx
      clear hx
      refine wp_region_held_drew (S := fun w' => Hid (WR w ⟨R, L, some ⟨b, off, none⟩, cR, pL, cL⟩ F Bx (Bx + 1) vR M w')) (by kernel_rfl) (Lib.hid (HK.out.keep (grown_drew (grown_refl _ _)))) (fun hHeld => ?_)
      refine wpAnyH_take (i := 0) (oi := { dst := some 20, op := Op.fieldAddr 47 (Operand.tmp 3) 1, type := 0, pos := "ref.go:146", after := #[], guard := none }) (v := ?_) rfl (by kernel_rfl) (by kernel_rfl) (by kernel_rfl) (fun _ _ _ h => h) (Or.inl ⟨by rfl, ?_⟩) hHeld ?_
      rotate_left 1
      · intro u hSu
        obtain ⟨q0, q1⟩ := row_cells hSu.out.s.tb
        obtain ⟨q2, q3⟩ := row_cells hSu.out.s.fb
        obtain ⟨q4, q5⟩ := hSu.out.rt HY.out
        obtain ⟨q6, q7⟩ := row_cells hSu.out.bx
        go_simp
        first | done | with_reducible rfl
      (try simp only [Act.put, List.setIfInBounds_toArray, List.set_cons_zero, List.set_cons_succ])
      refine wpAnyH_take (i := 1) (oi := { dst := some 21, op := Op.load 22 (Operand.tmp 20), type := 22, pos := "ref.go:146", after := #[{ on := 0, ground := Ground.data }], guard := none }) (v := ?_) rfl (by kernel_rfl) (by kernel_rfl) (by kernel_rfl) (fun _ _ _ h => h) (Or.inl ⟨by rfl, ?_⟩) hHeld ?_
      rotate_left 1
      · intro u hSu
        obtain ⟨q0, q1⟩ := row_cells hSu.out.s.tb
        obtain ⟨q2, q3⟩ := row_cells hSu.out.s.fb
        obtain ⟨q4, q5⟩ := hSu.out.rt HY.out
        obtain ⟨q6, q7⟩ := row_cells hSu.out.bx
        go_simp
        first | done | with_reducible rfl
      (try simp only [Act.put, List.setIfInBounds_toArray, List.set_cons_zero, List.set_cons_succ])
      refine wpAnyH_take (i := 2) (oi := { dst := some 22, op := Op.fieldAddr 26 (Operand.tmp 2) 0, type := 0, pos := "ref.go:146", after := #[], guard := none }) (v := ?_) rfl (by kernel_rfl) (by kernel_rfl) (by kernel_rfl) (fun _ _ _ h => h) (Or.inl ⟨by rfl, ?_⟩) hHeld ?_
      rotate_left 1
      · intro u hSu
        obtain ⟨q0, q1⟩ := row_cells hSu.out.s.tb
        obtain ⟨q2, q3⟩ := row_cells hSu.out.s.fb
        obtain ⟨q4, q5⟩ := hSu.out.rt HY.out
        obtain ⟨q6, q7⟩ := row_cells hSu.out.bx
        go_simp
        first | done | with_reducible rfl
      (try simp only [Act.put, List.setIfInBounds_toArray, List.set_cons_zero, List.set_cons_succ])
      refine wpAnyH_take (i := 3) (oi := { dst := some 23, op := Op.load 23 (Operand.tmp 22), type := 23, pos := "ref.go:146", after := #[{ on := 2, ground := Ground.data }], guard := none }) (v := ?_) rfl (by kernel_rfl) (by kernel_rfl) (by kernel_rfl) (fun _ _ _ h => h) (Or.inl ⟨by rfl, ?_⟩) hHeld ?_
      rotate_left 1
      · intro u hSu
        obtain ⟨q0, q1⟩ := row_cells hSu.out.s.tb
        obtain ⟨q2, q3⟩ := row_cells hSu.out.s.fb
        obtain ⟨q4, q5⟩ := hSu.out.rt HY.out
        obtain ⟨q6, q7⟩ := row_cells hSu.out.bx
        go_simp
        first | done | with_reducible rfl
      (try simp only [Act.put, List.setIfInBounds_toArray, List.set_cons_zero, List.set_cons_succ])
      refine wpAnyH_take (i := 4) (oi := { dst := some 24, op := Op.move (Operand.tmp 6), type := 3, pos := "ref.go:146", after := #[], guard := none }) (v := ?_) rfl (by kernel_rfl) (by kernel_rfl) (by kernel_rfl) (fun _ _ _ h => h) (Or.inl ⟨by rfl, ?_⟩) hHeld ?_
      rotate_left 1
      · intro u hSu
        obtain ⟨q0, q1⟩ := row_cells hSu.out.s.tb
        obtain ⟨q2, q3⟩ := row_cells hSu.out.s.fb
        obtain ⟨q4, q5⟩ := hSu.out.rt HY.out
        obtain ⟨q6, q7⟩ := row_cells hSu.out.bx
        go_simp
        first | done | with_reducible rfl
      (try simp only [Act.put, List.setIfInBounds_toArray, List.set_cons_zero, List.set_cons_succ])
      refine wpAnyH_take (i := 5) (oi := { dst := some 25, op := Op.indexAddr 23 (Operand.tmp 23) (Operand.tmp 24), type := 0, pos := "ref.go:146", after := #[{ on := 3, ground := Ground.data }, { on := 4, ground := Ground.data }], guard := none }) (v := ?_) rfl (by kernel_rfl) (by kernel_rfl) (by kernel_rfl) (fun _ _ _ h => h) (Or.inl ⟨by rfl, ?_⟩) hHeld ?_
      rotate_left 1
      · intro u hSu
        obtain ⟨q0, q1⟩ := row_cells hSu.out.s.tb
        obtain ⟨q2, q3⟩ := row_cells hSu.out.s.fb
        obtain ⟨q4, q5⟩ := hSu.out.rt HY.out
        obtain ⟨q6, q7⟩ := row_cells hSu.out.bx
        go_simp
        first | done | with_reducible rfl
      (try simp only [Act.put, List.setIfInBounds_toArray, List.set_cons_zero, List.set_cons_succ])
      refine wpAnyH_take (i := 6) (oi := { dst := some 26, op := Op.fieldAddr 73 (Operand.tmp 25) 0, type := 0, pos := "ref.go:146", after := #[{ on := 5, ground := Ground.data }], guard := none }) (v := ?_) rfl (by kernel_rfl) (by kernel_rfl) (by kernel_rfl) (fun _ _ _ h => h) (Or.inl ⟨by rfl, ?_⟩) hHeld ?_
      rotate_left 1
      · intro u hSu
        obtain ⟨q0, q1⟩ := row_cells hSu.out.s.tb
        obtain ⟨q2, q3⟩ := row_cells hSu.out.s.fb
        obtain ⟨q4, q5⟩ := hSu.out.rt HY.out
        obtain ⟨q6, q7⟩ := row_cells hSu.out.bx
        go_simp
        first | done | with_reducible rfl
      (try simp only [Act.put, List.setIfInBounds_toArray, List.set_cons_zero, List.set_cons_succ])
      refine wpAnyH_take (i := 7) (oi := { dst := some 27, op := Op.load 3 (Operand.tmp 26), type := 3, pos := "ref.go:146", after := #[{ on := 6, ground := Ground.data }], guard := none }) (v := ?_) rfl (by kernel_rfl) (by kernel_rfl) (by kernel_rfl) (fun _ _ _ h => h) (Or.inl ⟨by rfl, ?_⟩) hHeld ?_
      rotate_left 1
      · intro u hSu
        obtain ⟨q0, q1⟩ := row_cells hSu.out.s.tb
        obtain ⟨q2, q3⟩ := row_cells hSu.out.s.fb
        obtain ⟨q4, q5⟩ := hSu.out.rt HY.out
        obtain ⟨q6, q7⟩ := row_cells hSu.out.bx
        go_simp
        first | done | with_reducible rfl
      (try simp only [Act.put, List.setIfInBounds_toArray, List.set_cons_zero, List.set_cons_succ])
      refine wpAnyH_ready (rs := [8]) (by kernel_rfl) (by simp) ?_
      refine AllReadyH.cons (o := { dst := some 28, op := Op.call { callee := Callee.value (Operand.func 47), args := #[Operand.tmp 21, Operand.tmp 27], argTypes := #[22, 3] }, type := 4, pos := "ref.go:146", after := #[{ on := 1, ground := Ground.data }, { on := 7, ground := Ground.data }], guard := none }) rfl (fun Kz hK => ?_) AllReadyH.nil
      go_simp
      go_at_call 47
      refine (rhas4_any F.X y.id F.pX F.cX _ _ hHeld.out.s.f.x hmX).mono ?_
      rintro e w5 ⟨rfl, rfl⟩
      rw [HX.out]
      refine hK.out _ _ (hHeld) (fun hH2 => ?_)
      clear hK Kz hHeld
      have hHeld := hH2
      clear hH2
      (try simp only [Act.put, List.setIfInBounds_toArray, List.set_cons_zero, List.set_cons_succ])
      refine wpAnyH_take (i := 9) (oi := { dst := some 29, op := Op.unOp UnOp.not 4 (Operand.tmp 28), type := 4, pos := "ref.go:146", after := #[{ on := 8, ground := Ground.data }], guard := none }) (v := ?_) rfl (by kernel_rfl) (by kernel_rfl) (by kernel_rfl) (fun _ _ _ h => h) (Or.inl ⟨by rfl, ?_⟩) hHeld ?_
      rotate_left 1
      · intro u hSu
        obtain ⟨q0, q1⟩ := row_cells hSu.out.s.tb
        obtain ⟨q2, q3⟩ := row_cells hSu.out.s.fb
        obtain ⟨q4, q5⟩ := hSu.out.rt HY.out
        obtain ⟨q6, q7⟩ := row_cells hSu.out.bx
        go_simp
        first | done | with_reducible rfl
      (try simp only [Act.put, List.setIfInBounds_toArray, List.set_cons_zero, List.set_cons_succ])
      refine wpAnyH_done (by kernel_rfl) ?_ _
      have N2 : Hid (WR w ⟨R, L, some ⟨b, off, none⟩, cR, pL, cL⟩ F Bx (Bx + 1) vR (woR F (R.take (k + 1))) wr.drew) := Lib.hid (by rw [HL.out]; show WR _ _ _ _ _ _ (_ ++ []) _; rw [List.append_nil]; exact hHeld.out)
      clear hHeld
      go_wp2_with fail
      exact ⟨⟨k + 1, by omega, congrArg _ (by omega), _, N2⟩, by simp only [intOf]; omega⟩
  have hcc := row_cells HK.out.s.tb
  clear hcc
  obtain rfl : k = R.length := by omega
  have hK := HK.out
  rw [List.take_length] at hK
  have hsz := hK.b1.2.2
  have L0 : Hid (WL w ⟨R, L, pR, cR, pL, cL⟩ F Bx wr.heap.size vR (.slice none 0 0) (woR F R) (woL F (L.take 0)) wr) := Lib.hid ⟨hK.s, hK.bx, World.ownsRow_nil _ _ _ _, (rdf_of_own2 hK.own).mono (fun b hb => ⟨by omega, hb.2⟩), own_shape hK.own, hbx.1, by omega, Nat.le_refl _⟩
  obtain ⟨c0, c1⟩ := row_cells hK.s.tb
  obtain ⟨B2, hB2⟩ : ∃ B2, wr.heap.size = B2 := ⟨_, rfl⟩
  rw [hB2] at L0
  have hb2 := L0.out.b1
  clear hK HK hB2 hsz
  obtain ⟨wo, rfl⟩ : ∃ wo : World, wo = wr := ⟨_, rfl⟩
  go_wp2_with fail
  go_loopw [7] (fun a wr => ∃ k : Nat, k ≤ L.length ∧ a = .int .i64 (k : Int) ∧ ∃ vL, Hid (WL w ⟨R, L, pR, cR, pL, cL⟩ F Bx B2 vR vL (woR F R) (woL F (L.take k)) wr)) (fun a _ => L.length - (intOf a).toNat)
  case atStart => exact ⟨0, Nat.zero_le _, rfl, _, L0⟩
  case round =>
  obtain ⟨k, hk, rfl, vL, HK⟩ := hrel
  clear L0 c0 c1
  by_cases hlt : k < L.length
  case pos =>
    obtain ⟨-, b, off, rfl, hq, hc⟩ := rdl_cells (L := L) HK.out.s.t.l (by omega)
    obtain ⟨y, hy⟩ : ∃ y, L[k]? = some y := ⟨_, List.getElem?_eq_getElem hlt⟩
    obtain ⟨a0, a1, a2, a3, a4⟩ := hc k y hy
    obtain ⟨c0, c1⟩ := row_cells HK.out.s.tb
    have gal := World.grownBy_alloc wr (.cells #[.int .i64 y.a, .int .i64 y.b, .int .i64 y.ca, .int .i64 y.cb, .int .i64 y.cp] 68) none
    have HB := Lib.hid (And.intro (heap_alloc_new wr (.cells #[.int .i64 y.a, .int .i64 y.b, .int .i64 y.ca, .int .i64 y.cb, .int .i64 y.cp] 68)) gal)
    have HL : Hid (woL F (L.take (k + 1)) = woL F (L.take k) ++ (if woK F y then [y] else [])) := Lib.hid (filter_snoc hy)
    have hln : (woL F (L.take k)).length ≤ k := Nat.le_trans (List.length_filter_le _ _) (List.length_take_le _ _)
    clear hc hy gal
    go_upto_region 13 with fail
    clear a0 a1 a2 a3 a4 c0 c1
    generalize wr.alloc _ = wy at *
    have K2 := Lib.hid (HK.out.keep HB.out.2)
    obtain ⟨d0, d1, d2, d3, d4⟩ := lk_facts HB.out.1
    obtain ⟨x0, x1⟩ := row_cells K2.out.s.fb
    have no : Hid (woK F y = false) → ∀ wz, Hid (wr.grownBy wz none) → Hid (WL w ⟨R, L, pR, cR, some ⟨b, off, none⟩, cL⟩ F Bx B2 vR vL (woR F R) (woL F (L.take (k + 1))) wz) := fun h wz g => Lib.hid (by rw [HL.out, h.out]; show WL _ _ _ _ _ _ _ _ (_ ++ []) _; rw [List.append_nil]; exact HK.out.keep g.out)
    have NO := Lib.hid no
    clear no
    cases h1 : hasI F.X y.a
    · cases h2 : hasI F.X y.b
      · cases h3 : nmd F.H y
        · have HW : Hid (woK F y = true) := Lib.hid (by unfold woK; rw [h1, h2, h3]; rfl)
          have H123 := Lib.hid (And.intro h1 (And.intro h2 h3))
          clear h1 h2 h3 NO
          go_wp2_with fail
          refine (rhas4_any F.X y.a F.pX F.cX _ _ K2.out.s.f.x hmX).mono ?_
          rintro e w' ⟨rfl, rfl⟩
          rw [H123.out.1]
          go_wp2_with fail
          refine (rhas4_any F.X y.b F.pX F.cX _ _ K2.out.s.f.x hmX).mono ?_
          rintro e w' ⟨rfl, rfl⟩
          rw [H123.out.2.1]
          go_wp2_with fail
          refine (rnamed_any F.H y.a y.b F.pH F.cH _ _ K2.out.s.f.h hmH).mono ?_
          rintro e wz ⟨rfl, rfl⟩
          have hg := grown_refl wy none
          rw [nmH_eq]
          have h3n := H123.out.2.2
          unfold nmd at h3n
          rw [h3n]
          clear h3n
          have HG := Lib.hid (grown_trans HB.out.2 hg)
          have HBz := Lib.hid HB.out.1
          have K3 := Lib.hid (HK.out.keep HG.out)
          clear hg d0 d1 d2 d3 d4
          obtain ⟨d0, d1, d2, d3, d4⟩ := lk_facts HBz.out
          obtain ⟨M, hM⟩ : ∃ M, woL F (L.take k) = M := ⟨_, rfl⟩
          rw [hM] at K2 K3 HL hln HK
          rw [HW.out] at HL
          clear hM
          obtain ⟨f0, f1⟩ := row_cells K3.out.bx
          have hown := K3.out.own
          have hbz := K3.out.b1
          go_wp2_with (at_builtin; refine wpList_append_own _ rfl _ _ 24 rfl B2 68 il (.agg #[.int .i64 0, .int .i64 0, .int .i64 0, .int .i64 0, .int .i64 0]) 5 40 Try.underlying24 hil hl0 hl1 hl2 rfl (by decide) _ _ _ rfl (hown.alloc _) ⟨wy.heap.size, 0, none⟩ 1 1 [.int .i64 y.a, .int .i64 y.b, .int .i64 y.ca, .int .i64 y.cb, .int .i64 y.cp] rfl rfl ?c1 ?c2 ?c3 ?c4 ?c5 ?_)
          try (case c1 => exact cells5 _ _ _ _ _ _ _)
          case c2 => intro u hu; simp at hu; rcases hu with rfl | rfl | rfl | rfl | rfl <;> rfl
          case c3 => first | omega | (unfold maxLen; omega)
          case c4 => omega
          case c5 => first | omega | (simp; omega)
          intro v' w3 hown' hg _
          obtain ⟨p', c', rfl, -, -⟩ := own_shape hown'
          have m := HK.out.mid HG.out hown' hg
          obtain ⟨g0, g1⟩ := row_cells m.2.1
          have gf := frozen_of_row w3 Bx 1 _ _ m.2.1
          have N2 : Hid (WL w ⟨R, L, pR, cR, some ⟨b, off, none⟩, cL⟩ F Bx B2 vR (.slice p' (M.length + 1) c') (woR F R) (woL F (L.take (k + 1))) (w3.setCell ⟨Bx, 1, none⟩ (.slice p' (M.length + 1) c'))) := Lib.hid (by rw [HL.out]; exact WL.put ⟨hb2.1, hb2.2.1⟩ m)
          clear m hown' hg hown f0 f1 d0 d1 d2 d3 d4
          go_wp2_with fail
          exact ⟨⟨k + 1, by omega, congrArg _ (by omega), _, N2⟩, by simp only [intOf]; omega⟩
        · have HW : Hid (woK F y = false) := Lib.hid (by unfold woK; rw [h1, h2, h3]; rfl)
          have H123 := Lib.hid (And.intro h1 (And.intro h2 h3))
          clear h1 h2 h3
          go_wp2_with fail
          refine (rhas4_any F.X y.a F.pX F.cX _ _ K2.out.s.f.x hmX).mono ?_
          rintro e w' ⟨rfl, rfl⟩
          rw [H123.out.1]
          go_wp2_with fail
          refine (rhas4_any F.X y.b F.pX F.cX _ _ K2.out.s.f.x hmX).mono ?_
          rintro e w' ⟨rfl, rfl⟩
          rw [H123.out.2.1]
          go_wp2_with fail
          refine (rnamed_any F.H y.a y.b F.pH F.cH _ _ K2.out.s.f.h hmH).mono ?_
          rintro e wz ⟨rfl, rfl⟩
          have hg := grown_refl wy none
          rw [nmH_eq]
          have h3n := H123.out.2.2
          unfold nmd at h3n
          rw [h3n]
          clear h3n
          have N2 := NO.out HW wy (Lib.hid (grown_trans HB.out.2 hg))
          clear hg
          go_wp2_with fail
          exact ⟨⟨k + 1, by omega, congrArg _ (by omega), vL, N2⟩, by simp only [intOf]; omega⟩
      · have HW : Hid (woK F y = false) := Lib.hid (by unfold woK; rw [h1, h2]; rfl)
        have H123 := Lib.hid (And.intro h1 h2)
        have N2 := NO.out HW wy (Lib.hid HB.out.2)
        clear h1 h2
        go_wp2_with fail
        refine (rhas4_any F.X y.a F.pX F.cX _ _ K2.out.s.f.x hmX).mono ?_
        rintro e w' ⟨rfl, rfl⟩
        rw [H123.out.1]
        go_wp2_with fail
        refine (rhas4_any F.X y.b F.pX F.cX _ _ K2.out.s.f.x hmX).mono ?_
        rintro e w' ⟨rfl, rfl⟩
        rw [H123.out.2]
        go_wp2_with fail
        exact ⟨⟨k + 1, by omega, congrArg _ (by omega), vL, N2⟩, by simp only [intOf]; omega⟩
    · have HW : Hid (woK F y = false) := Lib.hid (by unfold woK; rw [h1]; rfl)
      have H123 := Lib.hid h1
      have N2 := NO.out HW wy (Lib.hid HB.out.2)
      clear h1
      go_wp2_with fail
      refine (rhas4_any F.X y.a F.pX F.cX _ _ K2.out.s.f.x hmX).mono ?_
      rintro e w' ⟨rfl, rfl⟩
      rw [H123.out]
      go_wp2_with fail
      exact ⟨⟨k + 1, by omega, congrArg _ (by omega), vL, N2⟩, by simp only [intOf]; omega⟩
  obtain rfl : k = L.length := by omega
  have hK := HK.out
  rw [List.take_length] at hK
  obtain ⟨pl', cl', rfl, hl1', hl2'⟩ := own_shape hK.own
  obtain ⟨pr', cr', rfl, hr1', hr2'⟩ := id hK.cv
  have K3 := Lib.hid hK
  obtain ⟨f0, f1⟩ := row_cells hK.bx
  obtain ⟨c0, c1⟩ := row_cells hK.s.tb
  have z0 := hK.s.rb.cell (j := 0) rfl
  have z1 := hK.s.rb.cell (j := 1) rfl
  have y0 := hK.s.rb.frozen 0
  have y1 := hK.s.rb.frozen 1
  have hrow := store2 (u := .slice pr' (woR F R).length cr') (z := .slice pl' (woL F L).length cl') (show wr.heap[w.heap.size + 2]? = some (.cells #[.slice none 0 0, .slice none 0 0] 26 (0, 0)) from hK.s.rb)
  have HR := Lib.hid (And.intro hrow (grown_new hK.s.gr (grown_store2 wr (w.heap.size + 2) (.slice pr' (woR F R).length cr') (.slice pl' (woL F L).length cl')) (by omega)))
  clear hrow hK HK
  go_wp2_with fail
  refine bodyPost_ret (res_topo rfl _ _ (w.heap.size + 2) _ _ rfl HR.out.1) rfl ?_
  rw [← HRL2.out.1, ← HRL2.out.2]
  have q : ∀ b, w.heap.size + 2 < b → some b ≠ some (w.heap.size + 2) := fun b hb e => by have := Option.some.inj e; omega
  have g9 := grown_store2 wr (w.heap.size + 2) (.slice pr' (woR F R).length cr') (.slice pl' (woL F L).length cl')
  refine ⟨pr', cr', pl', cl', rfl, ⟨?_, ?_, ⟨hr1', hr2'⟩, ⟨hl1', hl2'⟩⟩, HR.out.2⟩
  · exact (K3.out.rd.grown g9 (fun b hb => q b (by omega))).mono (fun b hb => by show w.heap.size ≤ b; omega)
  · exact ((rdf_of_own K3.out.own).grown g9 (fun b hb => q b (by have : B2 ≤ b := hb; omega))).mono (fun b hb => by have : B2 ≤ b := hb; show w.heap.size ≤ b; omega)
end Go.Proofs.Ytiencdgmnkphjaa

/- topology: Bridges. -/
namespace Go.Proofs.Ytiencdgmnkphjaa
open Go.RowKit Bs
/-- Without the hop of a link. -/
def brF (l : Lk) : Fl := ⟨[⟨l.a, l.b⟩], [], none, 0, none, 0⟩
def isBr (R : List Rt) (L : List Lk) (l : Lk) : Bool := !conn (woR (brF l) R) (woL (brF l) L) l.a l.b
def hopOf (l : Lk) : Hp := ⟨l.a, l.b⟩
def bridges (R : List Rt) (L : List Lk) : List Hp := if okT R L then (L.filter (isBr R L)).map hopOf else []
theorem bri_take {R : List Rt} {L : List Lk} {k : Nat} {x : Lk} (h : L[k]? = some x) : ((L.take (k + 1)).filter (isBr R L)).map hopOf = ((L.take k).filter (isBr R L)).map hopOf ++ (if isBr R L x then [hopOf x] else []) := by
  rw [filter_snoc h, List.map_append]
  split <;> rfl
/-- While bridges are found. -/
structure BM (w0 : World) (R : List Rt) (L : List Lk) (pR : Option Addr) (cR : Nat) (pL : Option Addr) (cL : Nat) (Hs : List Hp) (va : Value) (w : World) : Prop where
  topo : w.heap[w0.heap.size]? = some (.cells #[.slice pR R.length cR, .slice pL L.length cL] 26 (0, 0))
  ok : TgOk w (· < w0.heap.size) ⟨R, L, pR, cR, pL, cL⟩
  own : w.ownsRow (w0.heap.size + 1) 70 2 va Hs.length (Hs.flatMap hpC)
  size : w0.heap.size + 1 ≤ w.heap.size
  gr : w0.grownBy w none
theorem BM.keep {w0 w w' : World} {R : List Rt} {L : List Lk} {pR pL : Option Addr} {cR cL : Nat} {Hs : List Hp} {va : Value} (h : BM w0 R L pR cR pL cL Hs va w) (g : w.grownBy w' none) : BM w0 R L pR cR pL cL Hs va w' :=
  ⟨kept_row h.topo g (by simp), h.ok.keep g, h.own.kept g (by cases hv : va.ownBlock <;> simp), Nat.le_trans h.size g.size, grown_trans h.gr g⟩
theorem BM.app {w0 w w1 : World} {R : List Rt} {L : List Lk} {pR pL : Option Addr} {cR cL : Nat} {Hs : List Hp} {va v' : Value} {x : Hp} {o : Obj} (h : BM w0 R L pR cR pL cL Hs va w)
    (hown : w1.ownsRow (w0.heap.size + 1) 70 2 v' (Hs.length + 1) (Hs.flatMap hpC ++ [.int .i64 x.f, .int .i64 x.t])) (hg : (w.alloc o).grownBy w1 va.ownBlock) : BM w0 R L pR cR pL cL (Hs ++ [x]) v' w1 := by
  have k0 := World.grownBy_alloc w o none
  have hne : ∀ b, b < w0.heap.size + 1 → some b ≠ va.ownBlock := fun b hb e => by
    have := (h.own.lt b e.symm).1
    omega
  have hk := h.keep k0
  refine ⟨kept_row hk.topo hg (hne _ (by omega)), hk.ok.grown hg (fun b hb => hne b (by omega)), ?_, Nat.le_trans hk.size hg.size, grown_any hk.gr hg (fun b hb => hne b (by omega))⟩
  rw [List.length_append, List.flatMap_append]
  exact hown
/-- What returns hops that can be read. -/
def THPost (Hs : List Hp) (w : World) (e : Ending) (w' : World) : Prop := ∃ p c, e = .returned (.slice p Hs.length c) ∧ RdH w' (w.heap.size ≤ ·) (.slice p Hs.length c) Hs ∧ (Hs.length ≤ c ∧ c ≤ 9223372036854775807) ∧ w.grownBy w' none
theorem BM.ret {w0 w : World} {R : List Rt} {L : List Lk} {pR pL : Option Addr} {cR cL : Nat} {Hs : List Hp} {va : Value} (h : BM w0 R L pR cR pL cL Hs va w) : THPost Hs w0 (.returned va) w := by
  obtain ⟨p, c, rfl, h1, h2⟩ := own_shape h.own
  exact ⟨p, c, rfl, (rdf_of_own2 h.own).mono (fun b hb => by have := hb.1; show _ ≤ b; omega), ⟨h1, h2⟩, h.gr⟩
theorem fl_one (w : World) (a b : Int) : FlOk (w.alloc (.cells #[.int .i64 a, .int .i64 b] 70)).drew (fun _ => True) ⟨[⟨a, b⟩], [], some ⟨w.heap.size, 0, none⟩, 1, none, 0⟩ := by
  have h0 : (w.alloc (.cells #[.int .i64 a, .int .i64 b] 70)).drew.heap[w.heap.size]? = some (.cells #[.int .i64 a, .int .i64 b] 70 (0, 0)) := heap_alloc_new w _
  obtain ⟨c0, c1⟩ := row_cells h0
  refine ⟨⟨some ⟨w.heap.size, 0, none⟩, 1, rfl, fun _ => ⟨w.heap.size, 0, rfl, trivial, fun i x hi => ?_⟩⟩, ⟨none, 0, rfl, fun h => absurd rfl h⟩, ⟨Nat.le_refl _, by show 1 ≤ _; omega⟩, ⟨Nat.le_refl _, by show 0 ≤ _; omega⟩⟩
  match i, hi with
  | 0, hi =>
    obtain rfl : Value.int .i64 a = x := by simpa [hpC] using hi
    exact c0
  | 1, hi =>
    obtain rfl : Value.int .i64 b = x := by simpa [hpC] using hi
    exact c1
theorem twb_any {R : List Rt} {L : List Lk} (hv : okT R L = true) (x : Lk) (pR pL : Option Addr) (cR cL g : Nat) (q q2 : Nat → Prop) (w : World) (hT : TgOk w q ⟨R, L, pR, cR, pL, cL⟩) (hF : FlOk w q2 ⟨[⟨x.a, x.b⟩], [], some ⟨g, 0, none⟩, 1, none, 0⟩) :
    Calls Try.prog 31 #[.agg #[.slice pR R.length cR, .slice pL L.length cL], .agg #[.slice (some ⟨g, 0, none⟩) 1 1, .slice none 0 0]] w fun e w' => TWPost (woR (brF x) R) (woL (brF x) L) w e w' := by
  have h := twithout_any ⟨R, L, pR, cR, pL, cL⟩ _ q q2 w hT hF
  simp only [hv, if_true] at h
  exact h
theorem tcb_any {R : List Rt} {L : List Lk} (x : Lk) (pR pL : Option Addr) (cR cL : Nat) (q : Nat → Prop) (w : World) (h12 : R.length ≤ 12) (hT : TgOk w q ⟨woR (brF x) R, woL (brF x) L, pR, cR, pL, cL⟩) :
    Calls Try.prog 39 #[.agg #[.slice pR (woR (brF x) R).length cR, .slice pL (woL (brF x) L).length cL], .int .i64 x.a, .int .i64 x.b] w fun e w' => ∃ B, e = .returned (.bool B) ∧ Hid (isBr R L x = !B) ∧ w.grownBy w' none := by
  refine (tconn_any ⟨woR (brF x) R, woL (brF x) L, pR, cR, pL, cL⟩ x.a x.b q w hT (fun _ => Nat.le_trans (List.length_filter_le _ _) h12)).mono ?_
  rintro e w' ⟨rfl, hg⟩
  exact ⟨_, rfl, Lib.hid rfl, hg⟩
set_option maxRecDepth 100000 in
theorem info_hop : (Try.prog.info? 70).map (fun i => (i.zero, i.size, i.bytes)) = some (some (.agg #[.int .i64 0, .int .i64 0]), 2, 16) := by kernel_rfl
set_option maxRecDepth 100000 in
set_option maxHeartbeats 6400000 in
theorem tbri_any (T : Tg) (q : Nat → Prop) (w : World) (hT : TgOk w q T) (h12 : okT T.R T.L = true → T.R.length ≤ 12) :
    Calls Try.prog 41 #[.agg #[.slice T.pR T.R.length T.cR, .slice T.pL T.L.length T.cL]] w fun e w' => THPost (bridges T.R T.L) w e w' := by
  obtain ⟨ii, hii, hi0, hi1, hi2⟩ := info_parts info_hop
  obtain ⟨R, L, pR, cR, pL, cL⟩ := T
  obtain ⟨k1, k2⟩ := tone_box w #[.slice pR R.length cR, .slice pL L.length cL] 26
  have S0 : Hid (BM w R L pR cR pL cL [] (.slice none 0 0) (w.alloc (.cells #[.slice pR R.length cR, .slice pL L.length cL] 26))) := Lib.hid ⟨k1, hT.old.keep k2, World.ownsRow_nil _ _ _ _, by simp, k2⟩
  have hmL := Nat.le_trans hT.cl.1 hT.cl.2
  simp only at h12 hmL ⊢
  clear hT k1 k2
  obtain ⟨Hr, hHr⟩ : ∃ Hr, bridges R L = Hr := ⟨_, rfl⟩
  rw [hHr]
  have HHR := Lib.hid hHr
  clear hHr
  go_enter Try.func41, Try.ntmps41
  go_upto_region 1 with fail
  generalize w.alloc _ = wa at *
  obtain ⟨c0, c1⟩ := row_cells S0.out.topo
  go_wp2_with fail
  refine (tvalid_any ⟨R, L, pR, cR, pL, cL⟩ _ wa S0.out.ok).mono ?_
  rintro e w1 ⟨rfl, hg⟩
  simp only
  have S1 := Lib.hid (S0.out.keep hg)
  clear hg S0 c0 c1
  cases hv : okT R L
  · obtain rfl : Hr = [] := by have := HHR.out; unfold bridges at this; rw [hv] at this; exact this.symm
    go_wp2_with fail
    go_ret
    exact ⟨none, 0, rfl, rdf_nil _ _ _ _, ⟨Nat.le_refl _, by show 0 ≤ _; omega⟩, S1.out.gr⟩
  have HV := Lib.hid hv
  obtain ⟨h24, h60⟩ := okT_len hv
  replace h12 := h12 hv
  have HH2 : Hid ((L.filter (isBr R L)).map hopOf = Hr) := Lib.hid (by have := HHR.out; unfold bridges at this; rw [hv] at this; exact this)
  clear hv HHR
  have M0 : Hid (BM w R L pR cR pL cL (((L.take 0).filter (isBr R L)).map hopOf) (.slice none 0 0) w1) := S1
  obtain ⟨c0, c1⟩ := row_cells S1.out.topo
  clear S1
  go_wp2_with fail
  go_loopw [3, 13] (fun va a wr => ∃ (k : Nat), k ≤ L.length ∧ a = .int .i64 (k : Int) ∧ Hid (BM w R L pR cR pL cL (((L.take k).filter (isBr R L)).map hopOf) va wr)) (fun _ a _ => L.length - (intOf a).toNat)
  case atStart => exact ⟨0, Nat.zero_le _, rfl, M0⟩
  case round =>
    obtain ⟨k, hk, rfl, M⟩ := hrel
    clear M0 c0 c1
    by_cases hlt : k < L.length
    · obtain ⟨-, b, off, rfl, hq, hc⟩ := rdl_cells (L := L) M.out.ok.l (by omega)
      obtain ⟨x, hx⟩ : ∃ x, L[k]? = some x := ⟨_, List.getElem?_eq_getElem hlt⟩
      obtain ⟨a0, a1, a2, a3, a4⟩ := hc k x hx
      have HK := Lib.hid (bri_take (R := R) hx)
      have hln : ((((L.take k).filter (isBr R L)).map hopOf)).length ≤ 60 := by
        rw [List.length_map]
        have := List.length_filter_le (isBr R L) (L.take k)
        have := List.length_take_le k L
        omega
      have gal := World.grownBy_alloc wr (.cells #[.int .i64 x.a, .int .i64 x.b, .int .i64 x.ca, .int .i64 x.cb, .int .i64 x.cp] 68) none
      have hbx := heap_alloc_new wr (.cells #[.int .i64 x.a, .int .i64 x.b, .int .i64 x.ca, .int .i64 x.cb, .int .i64 x.cp] 68)
      have M2 := Lib.hid (M.out.keep gal)
      clear hc hx gal M
      obtain ⟨Hs, hHs⟩ : ∃ Hs, (((L.take k).filter (isBr R L)).map hopOf) = Hs := ⟨_, rfl⟩
      rw [hHs] at M2 HK hln
      clear hHs
      go_upto_region 7 with fail
      clear a0 a1 a2 a3 a4
      generalize wr.alloc _ = wy at *
      obtain ⟨d0, d1, d2, d3, d4⟩ := lk_facts hbx
      have gal := World.grownBy_alloc wy (.cells #[.int .i64 x.a, .int .i64 x.b] 70) none
      have hbh := heap_alloc_new wy (.cells #[.int .i64 x.a, .int .i64 x.b] 70)
      have hbx2 := kept_row hbx gal (by simp)
      have M3 := Lib.hid (M2.out.keep gal)
      have HZ := Lib.hid (And.intro M3.out.topo (And.intro hbx2 (And.intro hbh M3.out.ok)))
      clear gal hbh hbx hbx2 M2
      go_upto_region 8 with fail
      clear d0 d1 d2 d3 d4
      generalize wy.alloc _ = wz at *
      refine wp_region_held_drew (S := fun w' => Hid (wz.grownBy w' none)) (by kernel_rfl) (Lib.hid (grown_drew (grown_refl _ _))) (fun hHeld => ?_)
      refine wpAnyH_take (i := 0) (oi := { dst := some 22, op := Op.load 26 (Operand.tmp 1), type := 26, pos := "topology.go:165", after := #[], guard := none }) (v := ?_) rfl (by kernel_rfl) (by kernel_rfl) (by kernel_rfl) (fun _ _ _ h => h) (Or.inl ⟨by rfl, ?_⟩) hHeld ?_
      rotate_left 1
      · intro u hSu
        obtain ⟨z0, z1⟩ := row_cells (kept_row HZ.out.1 hSu.out (by simp))
        obtain ⟨z2, z3, z4, z5, z6⟩ := lk_facts (kept_row HZ.out.2.1 hSu.out (by simp))
        obtain ⟨z7, z8⟩ := row_cells (kept_row HZ.out.2.2.1 hSu.out (by simp))
        go_simp
        first | done | with_reducible rfl
      (try simp only [Act.put, List.setIfInBounds_toArray, List.set_cons_zero, List.set_cons_succ])
      refine wpAnyH_take (i := 1) (oi := { dst := some 23, op := Op.load 70 (Operand.tmp 6), type := 70, pos := "topology.go:165", after := #[], guard := none }) (v := ?_) rfl (by kernel_rfl) (by kernel_rfl) (by kernel_rfl) (fun _ _ _ h => h) (Or.inl ⟨by rfl, ?_⟩) hHeld ?_
      rotate_left 1
      · intro u hSu
        obtain ⟨z0, z1⟩ := row_cells (kept_row HZ.out.1 hSu.out (by simp))
        obtain ⟨z2, z3, z4, z5, z6⟩ := lk_facts (kept_row HZ.out.2.1 hSu.out (by simp))
        obtain ⟨z7, z8⟩ := row_cells (kept_row HZ.out.2.2.1 hSu.out (by simp))
        go_simp
        first | done | with_reducible rfl
      (try simp only [Act.put, List.setIfInBounds_toArray, List.set_cons_zero, List.set_cons_succ])
      refine wpAnyH_take (i := 5) (oi := { dst := some 27, op := Op.fieldAddr 68 (Operand.tmp 5) 0, type := 0, pos := "topology.go:165", after := #[], guard := none }) (v := ?_) rfl (by kernel_rfl) (by kernel_rfl) (by kernel_rfl) (fun _ _ _ h => h) (Or.inl ⟨by rfl, ?_⟩) hHeld ?_
      rotate_left 1
      · intro u hSu
        obtain ⟨z0, z1⟩ := row_cells (kept_row HZ.out.1 hSu.out (by simp))
        obtain ⟨z2, z3, z4, z5, z6⟩ := lk_facts (kept_row HZ.out.2.1 hSu.out (by simp))
        obtain ⟨z7, z8⟩ := row_cells (kept_row HZ.out.2.2.1 hSu.out (by simp))
        go_simp
        first | done | with_reducible rfl
      (try simp only [Act.put, List.setIfInBounds_toArray, List.set_cons_zero, List.set_cons_succ])
      refine wpAnyH_take (i := 6) (oi := { dst := some 28, op := Op.load 3 (Operand.tmp 27), type := 3, pos := "topology.go:165", after := #[{ on := 5, ground := Ground.data }], guard := none }) (v := ?_) rfl (by kernel_rfl) (by kernel_rfl) (by kernel_rfl) (fun _ _ _ h => h) (Or.inl ⟨by rfl, ?_⟩) hHeld ?_
      rotate_left 1
      · intro u hSu
        obtain ⟨z0, z1⟩ := row_cells (kept_row HZ.out.1 hSu.out (by simp))
        obtain ⟨z2, z3, z4, z5, z6⟩ := lk_facts (kept_row HZ.out.2.1 hSu.out (by simp))
        obtain ⟨z7, z8⟩ := row_cells (kept_row HZ.out.2.2.1 hSu.out (by simp))
        go_simp
        first | done | with_reducible rfl
      (try simp only [Act.put, List.setIfInBounds_toArray, List.set_cons_zero, List.set_cons_succ])
      refine wpAnyH_take (i := 7) (oi := { dst := some 29, op := Op.fieldAddr 68 (Operand.tmp 5) 1, type := 0, pos := "topology.go:165", after := #[], guard := none }) (v := ?_) rfl (by kernel_rfl) (by kernel_rfl) (by kernel_rfl) (fun _ _ _ h => h) (Or.inl ⟨by rfl, ?_⟩) hHeld ?_
      rotate_left 1
      · intro u hSu
        obtain ⟨z0, z1⟩ := row_cells (kept_row HZ.out.1 hSu.out (by simp))
        obtain ⟨z2, z3, z4, z5, z6⟩ := lk_facts (kept_row HZ.out.2.1 hSu.out (by simp))
        obtain ⟨z7, z8⟩ := row_cells (kept_row HZ.out.2.2.1 hSu.out (by simp))
        go_simp
        first | done | with_reducible rfl
      (try simp only [Act.put, List.setIfInBounds_toArray, List.set_cons_zero, List.set_cons_succ])
      refine wpAnyH_take (i := 8) (oi := { dst := some 30, op := Op.load 3 (Operand.tmp 29), type := 3, pos := "topology.go:165", after := #[{ on := 7, ground := Ground.data }], guard := none }) (v := ?_) rfl (by kernel_rfl) (by kernel_rfl) (by kernel_rfl) (fun _ _ _ h => h) (Or.inl ⟨by rfl, ?_⟩) hHeld ?_
      rotate_left 1
      · intro u hSu
        obtain ⟨z0, z1⟩ := row_cells (kept_row HZ.out.1 hSu.out (by simp))
        obtain ⟨z2, z3, z4, z5, z6⟩ := lk_facts (kept_row HZ.out.2.1 hSu.out (by simp))
        obtain ⟨z7, z8⟩ := row_cells (kept_row HZ.out.2.2.1 hSu.out (by simp))
        go_simp
        first | done | with_reducible rfl
      (try simp only [Act.put, List.setIfInBounds_toArray, List.set_cons_zero, List.set_cons_succ])
      refine wpAnyH_ready (rs := [2]) (by kernel_rfl) (by simp) ?_
      refine AllReadyH.cons (o := { dst := some 24, op := Op.buildSlice 45 1 #[(0, Operand.tmp 23)], type := 45, pos := "topology.go:165", after := #[{ on := 1, ground := Ground.data }], guard := none }) rfl (fun K hK => ?_) AllReadyH.nil
      go_simp
      refine hK.out _ _ (hid_more hHeld (World.grownBy_alloc _ _ _)) (fun hH2 => ?_)
      clear hK K hHeld
      have hHeld := hH2
      clear hH2
      (try simp only [Act.put, List.setIfInBounds_toArray, List.set_cons_zero, List.set_cons_succ])
      refine wpAnyH_take (i := 3) (oi := { dst := some 25, op := Op.build 47 #[(0, Operand.tmp 24)], type := 47, pos := "topology.go:165", after := #[{ on := 2, ground := Ground.data }], guard := none }) (v := ?_) rfl (by kernel_rfl) (by kernel_rfl) (by kernel_rfl) (fun _ _ _ h => h) (Or.inl ⟨by rfl, ?_⟩) hHeld ?_
      rotate_left 1
      · intro u hSu
        obtain ⟨z0, z1⟩ := row_cells (kept_row HZ.out.1 hSu.out (by simp))
        obtain ⟨z2, z3, z4, z5, z6⟩ := lk_facts (kept_row HZ.out.2.1 hSu.out (by simp))
        obtain ⟨z7, z8⟩ := row_cells (kept_row HZ.out.2.2.1 hSu.out (by simp))
        go_simp
        first | done | with_reducible rfl
      (try simp only [Act.put, List.setIfInBounds_toArray, List.set_cons_zero, List.set_cons_succ])
      refine wpAnyH_ready (rs := [4]) (by kernel_rfl) (by simp) ?_
      refine AllReadyH.cons (o := { dst := some 26, op := Op.call { callee := Callee.value (Operand.func 31), args := #[Operand.tmp 22, Operand.tmp 25], argTypes := #[26, 47] }, type := 26, pos := "topology.go:165", after := #[{ on := 0, ground := Ground.data }, { on := 3, ground := Ground.data }], guard := none }) rfl (fun K hK => ?_) AllReadyH.nil
      go_simp
      go_at_call 31
      refine (twb_any HV.out x pR (some ⟨b, off, none⟩) cR cL wz.heap.size _ _ _ (HZ.out.2.2.2.keep hHeld.out) (fl_one wz x.a x.b)).mono ?_
      rintro e w2 ⟨pR2, cR2, pL2, cL2, rfl, hT2, hg2⟩
      have HT2 := Lib.hid hT2
      clear hT2
      refine hK.out _ _ (Lib.hid (grown_trans hHeld.out hg2)) (fun hH2 => ?_)
      clear hK K hHeld
      have hHeld := hH2
      clear hH2
      (try simp only [Act.put, List.setIfInBounds_toArray, List.set_cons_zero, List.set_cons_succ])
      refine wpAnyH_ready (rs := [9]) (by kernel_rfl) (by simp) ?_
      refine AllReadyH.cons (o := { dst := some 31, op := Op.call { callee := Callee.value (Operand.func 39), args := #[Operand.tmp 26, Operand.tmp 28, Operand.tmp 30], argTypes := #[26, 3, 3] }, type := 4, pos := "topology.go:165", after := #[{ on := 4, ground := Ground.data }, { on := 6, ground := Ground.data }, { on := 8, ground := Ground.data }, { on := 4, ground := Ground.chain }], guard := none }) rfl (fun K hK => ?_) AllReadyH.nil
      go_simp
      go_at_call 39
      refine (tcb_any x pR2 pL2 cR2 cL2 _ _ h12 HT2.out).mono ?_
      rintro e w3 ⟨B, rfl, hB, hg3⟩
      refine hK.out _ _ (Lib.hid (grown_trans hHeld.out hg3)) (fun hH2 => ?_)
      clear hK K hHeld
      have hHeld := hH2
      clear hH2
      (try simp only [Act.put, List.setIfInBounds_toArray, List.set_cons_zero, List.set_cons_succ])
      refine wpAnyH_take (i := 10) (oi := { dst := some 32, op := Op.unOp UnOp.not 4 (Operand.tmp 31), type := 4, pos := "topology.go:165", after := #[{ on := 9, ground := Ground.data }], guard := none }) (v := ?_) rfl (by kernel_rfl) (by kernel_rfl) (by kernel_rfl) (fun _ _ _ h => h) (Or.inl ⟨by rfl, ?_⟩) hHeld ?_
      rotate_left 1
      · intro u hSu
        obtain ⟨z0, z1⟩ := row_cells (kept_row HZ.out.1 hSu.out (by simp))
        obtain ⟨z2, z3, z4, z5, z6⟩ := lk_facts (kept_row HZ.out.2.1 hSu.out (by simp))
        obtain ⟨z7, z8⟩ := row_cells (kept_row HZ.out.2.2.1 hSu.out (by simp))
        go_simp
        first | done | with_reducible rfl
      (try simp only [Act.put, List.setIfInBounds_toArray, List.set_cons_zero, List.set_cons_succ])
      refine wpAnyH_done (by kernel_rfl) ?_ _
      have M4 := Lib.hid (M3.out.keep hHeld.out)
      obtain ⟨z7, z8⟩ := row_cells (kept_row HZ.out.2.2.1 hHeld.out (by simp))
      clear M3 HZ HT2 hHeld
      cases B
      · have HB : Hid (((L.take (k + 1)).filter (isBr R L)).map hopOf = Hs ++ [hopOf x]) := Lib.hid (by rw [HK.out, hB.out]; rfl)
        have hown := M4.out.own
        have hsz4 := M4.out.size
        go_wp2_with (at_builtin; refine wpList_append_own _ rfl _ _ 45 rfl (w.heap.size + 1) 70 ii (.agg #[.int .i64 0, .int .i64 0]) 2 16 Try.underlying45 hii hi0 hi1 hi2 rfl (by decide) _ _ _ rfl (hown.alloc _) ⟨w3.heap.size, 0, none⟩ 1 1 [.int .i64 x.a, .int .i64 x.b] rfl rfl ?c1 ?c2 ?c3 ?c4 ?c5 ?_)
        try (case c1 => exact cells2 _ _ _ _)
        case c2 => intro u hu; simp at hu; rcases hu with rfl | rfl <;> rfl
        case c3 => first | omega | (unfold maxLen; omega)
        case c4 => omega
        case c5 => first | omega | (simp; omega)
        intro v' w4 hown' hg _
        have M5 := Lib.hid (M4.out.app (x := hopOf x) hown' hg)
        clear hown' hg hown z7 z8
        go_wp2_with fail
        refine ⟨⟨k + 1, by omega, congrArg _ (by omega), Lib.hid ?_⟩, by simp only [intOf]; omega⟩
        rw [HB.out]
        exact M5.out
      · have HB : Hid (((L.take (k + 1)).filter (isBr R L)).map hopOf = Hs) := Lib.hid (by rw [HK.out, hB.out]; simp)
        go_wp2_with fail
        refine ⟨⟨k + 1, by omega, congrArg _ (by omega), Lib.hid ?_⟩, by simp only [intOf]; omega⟩
        rw [HB.out]
        exact M4.out

    · obtain rfl : k = L.length := by omega
      go_wp2_with fail
      go_ret
      have hM := M.out
      rw [List.take_length, HH2.out] at hM
      exact hM.ret
end Go.Proofs.Ytiencdgmnkphjaa
