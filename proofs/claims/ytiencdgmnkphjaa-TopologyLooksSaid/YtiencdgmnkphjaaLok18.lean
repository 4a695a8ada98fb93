/- Parts of the proof, packed: ToLkLaw. -/
import Derived.Test.YtiencdgmnkphjaaLok12
import Derived.Test.YtiencdgmnkphjaaLok14
import Derived.Test.YtiencdgmnkphjaaLok16
import Derived.Test.YtiencdgmnkphjaaLok17
/- The law TopologyLooks. -/
namespace Go.Proofs.Ytiencdgmnkphjaa
open Go.RowKit Bs
/-- What the law's loops read: the argument's box, the list of three topologies, the list of four numbers. -/
structure LK3 (w : World) (Bt Bi Br : Nat) (T0 T1 T2 : Tg) (x0 x1 x2 x3 : Int) (wr : World) : Prop where
  rb : wr.heap[Br]? = some (.cells #[.slice T2.pR T2.R.length T2.cR, .slice T2.pL T2.L.length T2.cL] 26 (0, 0))
  lb : wr.heap[Bt]? = some (.cells #[.slice T0.pR T0.R.length T0.cR, .slice T0.pL T0.L.length T0.cL, .slice T1.pR T1.R.length T1.cR, .slice T1.pL T1.L.length T1.cL, .slice T2.pR T2.R.length T2.cR, .slice T2.pL T2.L.length T2.cL] 26 (0, 0))
  ib : wr.heap[Bi]? = some (.cells #[.int .i64 x0, .int .i64 x1, .int .i64 x2, .int .i64 x3] 3 (0, 0))
  t0 : TgOk wr (fun _ => True) T0
  t1 : TgOk wr (fun _ => True) T1
  t2 : TgOk wr (fun _ => True) T2
  gr : w.grownBy wr none
theorem LK3.keep {w wr w' : World} {Bt Bi Br : Nat} {T0 T1 T2 : Tg} {x0 x1 x2 x3 : Int} (h : LK3 w Bt Bi Br T0 T1 T2 x0 x1 x2 x3 wr) (g : wr.grownBy w' none) : LK3 w Bt Bi Br T0 T1 T2 x0 x1 x2 x3 w' :=
  ⟨kept_row h.rb g (by simp), kept_row h.lb g (by simp), kept_row h.ib g (by simp), h.t0.keep g, h.t1.keep g, h.t2.keep g, grown_trans h.gr g⟩
theorem LK3.at_ (w : World) (Bt Bi Br : Nat) (T0 T1 T2 : Tg) (x0 x1 x2 x3 : Int) (k : Nat) (hk : k < 3) (b0 : T0.R.length ≤ 1000 ∧ T0.L.length ≤ 1000) (b1 : T1.R.length ≤ 1000 ∧ T1.L.length ≤ 1000) (b2 : T2.R.length ≤ 1000 ∧ T2.L.length ≤ 1000) :
    ∃ T : Tg, (T.R.length ≤ 1000 ∧ T.L.length ≤ 1000) ∧ ∀ wr, LK3 w Bt Bi Br T0 T1 T2 x0 x1 x2 x3 wr → TgOk wr (fun _ => True) T ∧ wr.cell? ⟨Bt, k * 2, none⟩ = some (.slice T.pR T.R.length T.cR) ∧ wr.cell? ⟨Bt, k * 2 + 1, none⟩ = some (.slice T.pL T.L.length T.cL) := by
  rcases (show k = 0 ∨ k = 1 ∨ k = 2 by omega) with rfl | rfl | rfl
  · exact ⟨T0, b0, fun wr h => ⟨h.t0, (by rw [cell_of_row _ _ _ _ _ _ h.lb]; rfl), (by rw [cell_of_row _ _ _ _ _ _ h.lb]; rfl)⟩⟩
  · exact ⟨T1, b1, fun wr h => ⟨h.t1, (by rw [cell_of_row _ _ _ _ _ _ h.lb]; rfl), (by rw [cell_of_row _ _ _ _ _ _ h.lb]; rfl)⟩⟩
  · exact ⟨T2, b2, fun wr h => ⟨h.t2, (by rw [cell_of_row _ _ _ _ _ _ h.lb]; rfl), (by rw [cell_of_row _ _ _ _ _ _ h.lb]; rfl)⟩⟩
theorem LK3.int_ (w : World) (Bt Bi Br : Nat) (T0 T1 T2 : Tg) (x0 x1 x2 x3 : Int) (k : Nat) (hk : k < 4) :
    ∃ x : Int, ∀ wr, LK3 w Bt Bi Br T0 T1 T2 x0 x1 x2 x3 wr → wr.cell? ⟨Bi, k, none⟩ = some (.int .i64 x) := by
  rcases (show k = 0 ∨ k = 1 ∨ k = 2 ∨ k = 3 by omega) with rfl | rfl | rfl | rfl
  · exact ⟨x0, fun wr h => by rw [cell_of_row _ _ _ _ _ _ h.ib]; rfl⟩
  · exact ⟨x1, fun wr h => by rw [cell_of_row _ _ _ _ _ _ h.ib]; rfl⟩
  · exact ⟨x2, fun wr h => by rw [cell_of_row _ _ _ _ _ _ h.ib]; rfl⟩
  · exact ⟨x3, fun wr h => by rw [cell_of_row _ _ _ _ _ _ h.ib]; rfl⟩
theorem big_len {R : List Rt} {L : List Lk} (h : tbig R L = false) : R.length ≤ 1000 ∧ L.length ≤ 1000 := by
  unfold tbig at h
  rw [Bool.or_eq_false_iff] at h
  have h1 := of_decide_eq_false h.1
  have h2 := of_decide_eq_false h.2
  omega
set_option maxRecDepth 100000 in
set_option maxHeartbeats 12800000 in
theorem tlooks_walk (v : Value) (T2 : Tg) (x y : Int) (w : World) (hv : IntsIn w v) (hF : TgOk w (· < w.heap.size) T2) :
    Calls Try.prog 4 #[v, .agg #[.slice T2.pR T2.R.length T2.cR, .slice T2.pL T2.L.length T2.cL], .int .i64 x, .int .i64 y] w fun e w' => e = .returned (.bool true) ∧ w.grownBy w' none := by
  obtain ⟨k1, k2⟩ := tone_box w #[.slice T2.pR T2.R.length T2.cR, .slice T2.pL T2.L.length T2.cL] 26
  have HB := Lib.hid (And.intro k1 (And.intro k2 (hF.keep k2)))
  have HV := Lib.hid (hv.keepT k2)
  have hws : w.heap.size < (w.alloc (.cells #[.slice T2.pR T2.R.length T2.cR, .slice T2.pL T2.L.length T2.cL] 26)).heap.size := by simp
  clear k1 k2 hF hv
  go_enter Try.func4, Try.ntmps4
  go_upto_region 1 with fail
  generalize w.alloc _ = wa at *
  go_wp2_with fail
  refine (new_any v wa HV.out).mono ?_
  rintro e w2 ⟨rfl, hg1, hT1⟩
  have H2 := Lib.hid (And.intro hg1 hT1)
  obtain ⟨a, ha⟩ : ∃ a, a = wa.heap.size := ⟨_, rfl⟩
  rw [← ha] at H2
  have HA := Lib.hid ha
  clear hg1 hT1 HV
  rw [← HA.out]
  clear ha
  go_wp2_with fail
  refine (topo_tg a 7 6 (by decide) (by decide) (by unfold I64; omega) w2 H2.out.2).mono ?_
  rintro e w3 ⟨T, rfl, hT, hO, hs3⟩
  obtain ⟨R, L, pR, cR, pL, cL⟩ := T
  simp only at hO ⊢
  have hR1 : 0 < R.length := hO.1
  have hRL : R.length ≤ 1000 ∧ L.length ≤ 1000 := ⟨by have := hO.2.2.1; omega, by have := hO.2.2.2.1; omega⟩
  have gal := World.grownBy_alloc w3 (.cells #[.slice pR R.length cR, .slice pL L.length cL] 26) none
  have ha2 : a < w2.heap.size := H2.out.2.lt
  have ha3 : a < w3.heap.size := Nat.lt_of_lt_of_le ha2 hs3.1.size
  have hwa : w.heap.size < a := by have := HA.out; omega
  have gw4 : wa.grownBy (w3.alloc (.cells #[.slice pR R.length cR, .slice pL L.length cL] 26)) none := grown_trans (grown_tape H2.out.1 (by rw [← HA.out]; exact hs3.1)) gal
  have HG : Hid ((w3.alloc (.cells #[.slice pR R.length cR, .slice pL L.length cL] 26)).heap[w3.heap.size]? = some (.cells #[.slice pR R.length cR, .slice pL L.length cL] 26 (0, 0)) ∧ (w3.alloc (.cells #[.slice pR R.length cR, .slice pL L.length cL] 26)).heap[w.heap.size]? = some (.cells #[.slice T2.pR T2.R.length T2.cR, .slice T2.pL T2.L.length T2.cL] 26 (0, 0)) ∧ TgOk (w3.alloc (.cells #[.slice pR R.length cR, .slice pL L.length cL] 26)) (fun b => b ≠ a) ⟨R, L, pR, cR, pL, cL⟩ ∧ Tp (w3.alloc (.cells #[.slice pR R.length cR, .slice pL L.length cL] 26)) a ∧ TgOk (w3.alloc (.cells #[.slice pR R.length cR, .slice pL L.length cL] 26)) (fun b => b ≠ a) T2 ∧ w3.heap.size < (w3.alloc (.cells #[.slice pR R.length cR, .slice pL L.length cL] 26)).heap.size) :=
    Lib.hid ⟨heap_alloc_new w3 _, kept_row HB.out.1 gw4 (by simp), (hT.keep gal).mono (fun b hb => by have := hb.1; omega), hs3.2.keep gal, (HB.out.2.2.keep gw4).mono (fun b (hb : b < w.heap.size) => by omega), by simp⟩
  have HW4 := Lib.hid (grown_trans HB.out.2.1 gw4)
  clear hT hs3 gal gw4 HB hO
  go_upto_region 3 with fail
  generalize w3.alloc _ = w4 at *
  refine wp_region_held_drew (S := fun w' => Hid (w4.grownBy w' (some a) ∧ Tp w' a)) (by kernel_rfl) (Lib.hid ⟨grown_drew (grown_refl _ _), HG.out.2.2.2.1.drew⟩) (fun hHeld => ?_)
  refine wpAnyH_take (i := 0) (oi := { dst := some 25, op := Op.move (Operand.tmp 2), type := 3, pos := "law.go:37", after := #[], guard := none }) (v := ?_) rfl (by kernel_rfl) (by kernel_rfl) (by kernel_rfl) (fun _ _ _ h => h) (Or.inl ⟨by rfl, ?_⟩) hHeld ?_
  rotate_left 1
  · intro u hSu
    obtain ⟨q0, q1⟩ := row_cells (kept_row HG.out.1 hSu.out.1 (fun e => by have := Option.some.inj e; omega))
    go_simp
    first | done | with_reducible rfl
  (try simp only [Act.put, List.setIfInBounds_toArray, List.set_cons_zero, List.set_cons_succ])
  refine wpAnyH_take (i := 1) (oi := { dst := some 26, op := Op.move (Operand.tmp 3), type := 3, pos := "law.go:37", after := #[], guard := none }) (v := ?_) rfl (by kernel_rfl) (by kernel_rfl) (by kernel_rfl) (fun _ _ _ h => h) (Or.inl ⟨by rfl, ?_⟩) hHeld ?_
  rotate_left 1
  · intro u hSu
    obtain ⟨q0, q1⟩ := row_cells (kept_row HG.out.1 hSu.out.1 (fun e => by have := Option.some.inj e; omega))
    go_simp
    first | done | with_reducible rfl
  (try simp only [Act.put, List.setIfInBounds_toArray, List.set_cons_zero, List.set_cons_succ])
  refine wpAnyH_take (i := 2) (oi := { dst := some 27, op := Op.move (Operand.tmp 9), type := 27, pos := "law.go:37", after := #[], guard := none }) (v := ?_) rfl (by kernel_rfl) (by kernel_rfl) (by kernel_rfl) (fun _ _ _ h => h) (Or.inl ⟨by rfl, ?_⟩) hHeld ?_
  rotate_left 1
  · intro u hSu
    obtain ⟨q0, q1⟩ := row_cells (kept_row HG.out.1 hSu.out.1 (fun e => by have := Option.some.inj e; omega))
    go_simp
    first | done | with_reducible rfl
  (try simp only [Act.put, List.setIfInBounds_toArray, List.set_cons_zero, List.set_cons_succ])
  refine wpAnyH_take (i := 4) (oi := { dst := some 29, op := Op.move (Operand.tmp 9), type := 27, pos := "law.go:37", after := #[], guard := none }) (v := ?_) rfl (by kernel_rfl) (by kernel_rfl) (by kernel_rfl) (fun _ _ _ h => h) (Or.inl ⟨by rfl, ?_⟩) hHeld ?_
  rotate_left 1
  · intro u hSu
    obtain ⟨q0, q1⟩ := row_cells (kept_row HG.out.1 hSu.out.1 (fun e => by have := Option.some.inj e; omega))
    go_simp
    first | done | with_reducible rfl
  (try simp only [Act.put, List.setIfInBounds_toArray, List.set_cons_zero, List.set_cons_succ])
  refine wpAnyH_take (i := 5) (oi := { dst := some 30, op := Op.load 26 (Operand.tmp 10), type := 26, pos := "law.go:37", after := #[], guard := none }) (v := ?_) rfl (by kernel_rfl) (by kernel_rfl) (by kernel_rfl) (fun _ _ _ h => h) (Or.inl ⟨by rfl, ?_⟩) hHeld ?_
  rotate_left 1
  · intro u hSu
    obtain ⟨q0, q1⟩ := row_cells (kept_row HG.out.1 hSu.out.1 (fun e => by have := Option.some.inj e; omega))
    go_simp
    first | done | with_reducible rfl
  (try simp only [Act.put, List.setIfInBounds_toArray, List.set_cons_zero, List.set_cons_succ])
  refine wpAnyH_ready (rs := [3]) (by kernel_rfl) (by simp) ?_
  refine AllReadyH.cons (o := { dst := some 28, op := Op.call { callee := Callee.value (Operand.func 17), args := #[Operand.tmp 27, Operand.const (Value.int IntKind.i64 9)], argTypes := #[27, 3] }, type := 3, pos := "law.go:37", after := #[{ on := 2, ground := Ground.data }], guard := none }) rfl (fun Kz hK => ?_) AllReadyH.nil
  go_simp
  go_at_call 17
  refine (next_any a 9 (by unfold I64; omega) _ hHeld.out.2).mono ?_
  rintro e w5 ⟨xn, rfl, -, hs⟩
  refine hK.out _ _ (Lib.hid ⟨grown_trans hHeld.out.1 hs.1, hs.2⟩) (fun hH2 => ?_)
  clear hK Kz hHeld
  have hHeld := hH2
  clear hH2
  (try simp only [Act.put, List.setIfInBounds_toArray, List.set_cons_zero, List.set_cons_succ])
  refine wpAnyH_ready (rs := [6]) (by kernel_rfl) (by simp) ?_
  refine AllReadyH.cons (o := { dst := some 31, op := Op.call { callee := Callee.value (Operand.func 18), args := #[Operand.tmp 29, Operand.tmp 30, Operand.const (Value.int IntKind.i64 0)], argTypes := #[27, 26, 3] }, type := 3, pos := "law.go:37", after := #[{ on := 4, ground := Ground.data }, { on := 5, ground := Ground.data }, { on := 3, ground := Ground.chain }], guard := none }) rfl (fun Kz hK => ?_) AllReadyH.nil
  go_simp
  go_at_call 18
  refine (router_any a ⟨R, L, pR, cR, pL, cL⟩ 0 (by unfold I64; omega) hR1 _ _ (HG.out.2.2.1.grown hHeld.out.1 (fun b hb e => hb (Option.some.inj e))) (fun b hb => hb) hHeld.out.2).mono ?_
  rintro e w6 ⟨xr, rfl, hs⟩
  refine hK.out _ _ (Lib.hid ⟨grown_trans hHeld.out.1 hs.1, hs.2⟩) (fun hH2 => ?_)
  clear hK Kz hHeld
  have hHeld := hH2
  clear hH2
  (try simp only [Act.put, List.setIfInBounds_toArray, List.set_cons_zero, List.set_cons_succ])
  refine wpAnyH_ready (rs := [7]) (by kernel_rfl) (by simp) ?_
  refine AllReadyH.cons (o := { dst := some 32, op := Op.buildSlice 22 4 #[(0, Operand.tmp 25), (1, Operand.tmp 26), (2, Operand.tmp 28), (3, Operand.tmp 31)], type := 22, pos := "law.go:37", after := #[{ on := 0, ground := Ground.data }, { on := 1, ground := Ground.data }, { on := 3, ground := Ground.data }, { on := 6, ground := Ground.data }], guard := none }) rfl (fun Kz hK => ?_) AllReadyH.nil
  go_simp
  have HI := Lib.hid (heap_alloc_new w6 (.cells #[.int .i64 x, .int .i64 y, .int .i64 xn, .int .i64 xr] 3))
  have haBi : a < w6.heap.size := hHeld.out.2.lt
  refine hK.out _ _ (Lib.hid ⟨grown_trans hHeld.out.1 (grown_none (World.grownBy_alloc _ _ none) _), hHeld.out.2.alloc _⟩) (fun hH2 => ?_)
  clear hK Kz hHeld
  have hHeld := hH2
  clear hH2
  (try simp only [Act.put, List.setIfInBounds_toArray, List.set_cons_zero, List.set_cons_succ])
  refine wpAnyH_take (i := 8) (oi := { dst := some 11, op := Op.assign (Operand.tmp 32), type := 22, pos := "law.go:37", after := #[{ on := 7, ground := Ground.data }, { on := 6, ground := Ground.chain }, { on := 0, ground := Ground.phase }, { on := 1, ground := Ground.phase }, { on := 2, ground := Ground.phase }, { on := 3, ground := Ground.phase }, { on := 4, ground := Ground.phase }, { on := 5, ground := Ground.phase }, { on := 6, ground := Ground.phase }, { on := 7, ground := Ground.phase }], guard := none }) (v := ?_) rfl (by kernel_rfl) (by kernel_rfl) (by kernel_rfl) (fun _ _ _ h => h) (Or.inl ⟨by rfl, ?_⟩) hHeld ?_
  rotate_left 1
  · intro u hSu
    obtain ⟨q0, q1⟩ := row_cells (kept_row HG.out.1 hSu.out.1 (fun e => by have := Option.some.inj e; omega))
    go_simp
    first | done | with_reducible rfl
  (try simp only [Act.put, List.setIfInBounds_toArray, List.set_cons_zero, List.set_cons_succ])
  refine wpAnyH_done (by kernel_rfl) ?_ _
  have HW7 := hHeld
  clear hHeld
  go_upto_region 4 with fail
  generalize w6.alloc _ = w7 at *
  generalize w6.heap.size = Bi at *
  refine wp_region_held_drew (S := fun w' => Hid (w7.grownBy w' (some a) ∧ Tp w' a)) (by kernel_rfl) (Lib.hid ⟨grown_drew (grown_refl _ _), HW7.out.2.drew⟩) (fun hHeld => ?_)
  refine wpAnyH_take (i := 0) (oi := { dst := some 33, op := Op.load 26 (Operand.tmp 10), type := 26, pos := "law.go:38", after := #[], guard := none }) (v := ?_) rfl (by kernel_rfl) (by kernel_rfl) (by kernel_rfl) (fun _ _ _ h => h) (Or.inl ⟨by rfl, ?_⟩) hHeld ?_
  rotate_left 1
  · intro u hSu
    obtain ⟨q0, q1⟩ := row_cells (kept_row (kept_row HG.out.1 HW7.out.1 (fun e => by have := Option.some.inj e; omega)) hSu.out.1 (fun e => by have := Option.some.inj e; omega))
    obtain ⟨q2, q3⟩ := row_cells (kept_row (kept_row HG.out.2.1 HW7.out.1 (fun e => by have := Option.some.inj e; omega)) hSu.out.1 (fun e => by have := Option.some.inj e; omega))
    go_simp
    first | done | with_reducible rfl
  (try simp only [Act.put, List.setIfInBounds_toArray, List.set_cons_zero, List.set_cons_succ])
  refine wpAnyH_take (i := 1) (oi := { dst := some 34, op := Op.move (Operand.tmp 9), type := 27, pos := "law.go:38", after := #[], guard := none }) (v := ?_) rfl (by kernel_rfl) (by kernel_rfl) (by kernel_rfl) (fun _ _ _ h => h) (Or.inl ⟨by rfl, ?_⟩) hHeld ?_
  rotate_left 1
  · intro u hSu
    obtain ⟨q0, q1⟩ := row_cells (kept_row (kept_row HG.out.1 HW7.out.1 (fun e => by have := Option.some.inj e; omega)) hSu.out.1 (fun e => by have := Option.some.inj e; omega))
    obtain ⟨q2, q3⟩ := row_cells (kept_row (kept_row HG.out.2.1 HW7.out.1 (fun e => by have := Option.some.inj e; omega)) hSu.out.1 (fun e => by have := Option.some.inj e; omega))
    go_simp
    first | done | with_reducible rfl
  (try simp only [Act.put, List.setIfInBounds_toArray, List.set_cons_zero, List.set_cons_succ])
  refine wpAnyH_take (i := 3) (oi := { dst := some 36, op := Op.load 26 (Operand.tmp 5), type := 26, pos := "law.go:38", after := #[], guard := none }) (v := ?_) rfl (by kernel_rfl) (by kernel_rfl) (by kernel_rfl) (fun _ _ _ h => h) (Or.inl ⟨by rfl, ?_⟩) hHeld ?_
  rotate_left 1
  · intro u hSu
    obtain ⟨q0, q1⟩ := row_cells (kept_row (kept_row HG.out.1 HW7.out.1 (fun e => by have := Option.some.inj e; omega)) hSu.out.1 (fun e => by have := Option.some.inj e; omega))
    obtain ⟨q2, q3⟩ := row_cells (kept_row (kept_row HG.out.2.1 HW7.out.1 (fun e => by have := Option.some.inj e; omega)) hSu.out.1 (fun e => by have := Option.some.inj e; omega))
    go_simp
    first | done | with_reducible rfl
  (try simp only [Act.put, List.setIfInBounds_toArray, List.set_cons_zero, List.set_cons_succ])
  refine wpAnyH_ready (rs := [2]) (by kernel_rfl) (by simp) ?_
  refine AllReadyH.cons (o := { dst := some 35, op := Op.call { callee := Callee.value (Operand.func 19), args := #[Operand.tmp 34, Operand.const (Value.int IntKind.i64 5)], argTypes := #[27, 3] }, type := 26, pos := "law.go:38", after := #[{ on := 1, ground := Ground.data }], guard := none }) rfl (fun Kz hK => ?_) AllReadyH.nil
  go_simp
  go_at_call 19
  refine (mixed_any a 5 (by decide) (by decide) _ hHeld.out.2).mono ?_
  rintro e w8 ⟨R0, R1, L1, vR, vL, rfl, hR, hL, hO1, hids, hs⟩
  obtain ⟨pR1, cR1, pL1, cL1, rfl, rfl, hT1⟩ := tg_of_own hR hL
  have hRL1 : R1.length ≤ 1000 ∧ L1.length ≤ 1000 := ⟨by have h1 := hO1.2.2.1; have h2 := congrArg List.length hids; rw [List.length_map, List.length_map] at h2; omega, by have := hO1.2.2.2.1; omega⟩
  have HT1 := Lib.hid (tg_all hT1)
  clear hR hL hO1 hids hT1
  refine hK.out _ _ (Lib.hid ⟨grown_trans hHeld.out.1 hs.1, hs.2⟩) (fun hH2 => ?_)
  clear hK Kz hHeld
  have hHeld := hH2
  clear hH2
  (try simp only [Act.put, List.setIfInBounds_toArray, List.set_cons_zero, List.set_cons_succ])
  refine wpAnyH_ready (rs := [4]) (by kernel_rfl) (by simp) ?_
  refine AllReadyH.cons (o := { dst := some 37, op := Op.buildSlice 38 3 #[(0, Operand.tmp 33), (1, Operand.tmp 35), (2, Operand.tmp 36)], type := 38, pos := "law.go:38", after := #[{ on := 0, ground := Ground.data }, { on := 2, ground := Ground.data }, { on := 3, ground := Ground.data }], guard := none }) rfl (fun Kz hK => ?_) AllReadyH.nil
  go_simp
  have gal2 := World.grownBy_alloc w8 (.cells #[.slice pR R.length cR, .slice pL L.length cL, .slice pR1 R1.length cR1, .slice pL1 L1.length cL1, .slice T2.pR T2.R.length T2.cR, .slice T2.pL T2.L.length T2.cL] 26) none
  have g48 := grown_trans HW7.out.1 hHeld.out.1
  have ne : ∀ b, b ≠ a → some b ≠ some a := fun b hb e => hb (Option.some.inj e)
  have HL : Hid (LK3 w w8.heap.size Bi w.heap.size ⟨R, L, pR, cR, pL, cL⟩ ⟨R1, L1, pR1, cR1, pL1, cL1⟩ T2 x y xn xr (w8.alloc (.cells #[.slice pR R.length cR, .slice pL L.length cL, .slice pR1 R1.length cR1, .slice pL1 L1.length cL1, .slice T2.pR T2.R.length T2.cR, .slice T2.pL T2.L.length T2.cL] 26))) := Lib.hid ⟨kept_row (kept_row HG.out.2.1 g48 (ne _ (by omega))) gal2 (by simp), heap_alloc_new w8 _, kept_row (kept_row HI.out hHeld.out.1 (ne _ (by omega))) gal2 (by simp), tg_all ((HG.out.2.2.1.grown g48 (fun b hb => ne b hb)).keep gal2), HT1.out.keep gal2, tg_all ((HG.out.2.2.2.2.1.grown g48 (fun b hb => ne b hb)).keep gal2), grown_trans (grown_new HW4.out g48 (by omega)) gal2⟩
  clear gal2 g48 ne
  refine hK.out _ _ (Lib.hid ⟨grown_trans hHeld.out.1 (grown_none (World.grownBy_alloc _ _ none) _), hHeld.out.2.alloc _⟩) (fun hH2 => ?_)
  clear hK Kz hHeld
  have hHeld := hH2
  clear hH2
  (try simp only [Act.put, List.setIfInBounds_toArray, List.set_cons_zero, List.set_cons_succ])
  refine wpAnyH_take (i := 5) (oi := { dst := some 12, op := Op.assign (Operand.tmp 37), type := 38, pos := "law.go:38", after := #[{ on := 4, ground := Ground.data }, { on := 2, ground := Ground.chain }, { on := 0, ground := Ground.phase }, { on := 1, ground := Ground.phase }, { on := 2, ground := Ground.phase }, { on := 3, ground := Ground.phase }, { on := 4, ground := Ground.phase }], guard := none }) (v := ?_) rfl (by kernel_rfl) (by kernel_rfl) (by kernel_rfl) (fun _ _ _ h => h) (Or.inl ⟨by rfl, ?_⟩) hHeld ?_
  rotate_left 1
  · intro u hSu
    obtain ⟨q0, q1⟩ := row_cells (kept_row (kept_row HG.out.1 HW7.out.1 (fun e => by have := Option.some.inj e; omega)) hSu.out.1 (fun e => by have := Option.some.inj e; omega))
    obtain ⟨q2, q3⟩ := row_cells (kept_row (kept_row HG.out.2.1 HW7.out.1 (fun e => by have := Option.some.inj e; omega)) hSu.out.1 (fun e => by have := Option.some.inj e; omega))
    go_simp
    first | done | with_reducible rfl
  (try simp only [Act.put, List.setIfInBounds_toArray, List.set_cons_zero, List.set_cons_succ])
  refine wpAnyH_done (by kernel_rfl) ?_ _
  clear hHeld HG HW4 HW7 HI HT1 H2
  go_upto_region 5 with fail
  generalize w8.alloc _ = w9 at *
  generalize w8.heap.size = Bt at *
  go_wp2_with fail
  go_loopw [13] (fun i wr => ∃ k : Nat, k ≤ 3 ∧ i = .int .i64 (k : Int) ∧ Hid (LK3 w Bt Bi w.heap.size ⟨R, L, pR, cR, pL, cL⟩ ⟨R1, L1, pR1, cR1, pL1, cL1⟩ T2 x y xn xr wr)) (fun i _ => 3 - (intOf i).toNat)
  case atStart => exact ⟨0, by omega, rfl, HL⟩
  case round =>
  obtain ⟨i, hi, rfl, HK⟩ := hrel
  clear HL
  obtain ⟨r0, r1⟩ := row_cells HK.out.rb
  go_upto_region 6 with fail
  go_cut [46] from 38 to 46 (fun bb wx => ∃ z, bb = .bool z ∧ (z = true → i < 3 ∧ tbig T2.R T2.L = false) ∧ Hid (LK3 w Bt Bi w.heap.size ⟨R, L, pR, cR, pL, cL⟩ ⟨R1, L1, pR1, cR1, pL1, cL1⟩ T2 x y xn xr wx))
  case first =>
    by_cases hi3 : i < 3
    · have hi3' : (i : Int) < 3 := by omega
      go_wp2_with fail
      refine (big_any T2 wr).mono ?_
      rintro e w10 ⟨rfl, hg⟩
      have H10 := Lib.hid (HK.out.keep hg)
      clear hg HK
      cases hb : tbig T2.R T2.L
      · have HBG := Lib.hid hb
        go_wp2_with fail
        go_meet
        exact ⟨true, rfl, fun _ => ⟨hi3, HBG.out⟩, H10⟩
      · clear hb
        go_wp2_with fail
        go_meet
        exact ⟨false, rfl, fun h => (by cases h), H10⟩
    · have hi5 : decide ((i : Int) < 3) = false := decide_eq_false (by omega)
      have hi4 : ¬ ((i : Int) < 3) := by omega
      go_wp2_with fail
      go_meet
      exact ⟨false, rfl, fun h => (by cases h), HK⟩
  case rest =>
  obtain ⟨z, rfl, hz, HK2⟩ := hcut
  clear HK r0 r1
  go_upto_if 46 with fail
  cases z
  · clear hz
    go_wp2_with fail
    refine (tawake_any wc).mono ?_
    rintro e w10 ⟨rfl, hg⟩
    go_wp2_with fail
    go_ret
    exact ⟨rfl, grown_trans HK2.out.gr hg⟩
  have hi3 := (hz rfl).1
  obtain ⟨T, hTl, hTT⟩ := LK3.at_ w Bt Bi w.heap.size ⟨R, L, pR, cR, pL, cL⟩ ⟨R1, L1, pR1, cR1, pL1, cL1⟩ T2 x y xn xr i hi3 hRL hRL1 (big_len (hz rfl).2)
  have HT := Lib.hid hTT
  have hTR := hTl.1
  have hTL := hTl.2
  have i0 : (0 : Int) ≤ (i : Int) := by omega
  have i1 : (i : Int) < 3 := by omega
  clear hz hTT hTl
  go_wp2_with fail
  go_loopw [14] (fun v wr => ∃ k : Nat, k ≤ 4 ∧ v = .int .i64 (k : Int) ∧ Hid (LK3 w Bt Bi w.heap.size ⟨R, L, pR, cR, pL, cL⟩ ⟨R1, L1, pR1, cR1, pL1, cL1⟩ T2 x y xn xr wr)) (fun v _ => 4 - (intOf v).toNat)
  case atStart => exact ⟨0, by omega, rfl, HK2⟩
  case round =>
  obtain ⟨k, hk, rfl, HK⟩ := hrel
  clear HK2
  by_cases hk4 : k < 4
  rotate_left 1
  · obtain rfl : k = 4 := by omega
    have H10 := HK
    go_wp2_with fail
    exact ⟨⟨i + 1, by omega, congrArg _ (by omega), H10⟩, by simp only [intOf]; omega⟩
  obtain ⟨xk, hxk⟩ := LK3.int_ w Bt Bi w.heap.size ⟨R, L, pR, cR, pL, cL⟩ ⟨R1, L1, pR1, cR1, pL1, cL1⟩ T2 x y xn xr k hk4
  have HXK := Lib.hid hxk
  have k0 : (0 : Int) ≤ (k : Int) := by omega
  have k1 : (k : Int) < 4 := by omega
  have cx := hxk wr HK.out
  clear hxk
  go_upto_region 12 with fail
  clear cx
  refine wp_region_held_drew (S := fun w' => Hid (LK3 w Bt Bi w.heap.size ⟨R, L, pR, cR, pL, cL⟩ ⟨R1, L1, pR1, cR1, pL1, cL1⟩ T2 x y xn xr w')) (by kernel_rfl) (Lib.hid (HK.out.keep (grown_drew (grown_refl _ _)))) (fun hHeld => ?_)
  refine wpAnyH_take (i := 0) (oi := { dst := some 59, op := Op.move (Operand.tmp 12), type := 38, pos := "law.go:42", after := #[], guard := none }) (v := ?_) rfl (by kernel_rfl) (by kernel_rfl) (by kernel_rfl) (fun _ _ _ h => h) (Or.inl ⟨by rfl, ?_⟩) hHeld ?_
  rotate_left 1
  · intro u hSu
    obtain ⟨q0, q1⟩ := (HT.out _ hSu.out).2
    go_simp
    first | done | with_reducible rfl
  (try simp only [Act.put, List.setIfInBounds_toArray, List.set_cons_zero, List.set_cons_succ])
  refine wpAnyH_take (i := 1) (oi := { dst := some 60, op := Op.move (Operand.tmp 13), type := 3, pos := "law.go:42", after := #[], guard := none }) (v := ?_) rfl (by kernel_rfl) (by kernel_rfl) (by kernel_rfl) (fun _ _ _ h => h) (Or.inl ⟨by rfl, ?_⟩) hHeld ?_
  rotate_left 1
  · intro u hSu
    obtain ⟨q0, q1⟩ := (HT.out _ hSu.out).2
    go_simp
    first | done | with_reducible rfl
  (try simp only [Act.put, List.setIfInBounds_toArray, List.set_cons_zero, List.set_cons_succ])
  refine wpAnyH_take (i := 2) (oi := { dst := some 61, op := Op.indexAddr 38 (Operand.tmp 59) (Operand.tmp 60), type := 0, pos := "law.go:42", after := #[{ on := 0, ground := Ground.data }, { on := 1, ground := Ground.data }], guard := none }) (v := ?_) rfl (by kernel_rfl) (by kernel_rfl) (by kernel_rfl) (fun _ _ _ h => h) (Or.inl ⟨by rfl, ?_⟩) hHeld ?_
  rotate_left 1
  · intro u hSu
    obtain ⟨q0, q1⟩ := (HT.out _ hSu.out).2
    go_simp
    first | done | with_reducible rfl
  (try simp only [Act.put, List.setIfInBounds_toArray, List.set_cons_zero, List.set_cons_succ])
  refine wpAnyH_take (i := 3) (oi := { dst := some 62, op := Op.load 26 (Operand.tmp 61), type := 26, pos := "law.go:42", after := #[{ on := 2, ground := Ground.data }], guard := none }) (v := ?_) rfl (by kernel_rfl) (by kernel_rfl) (by kernel_rfl) (fun _ _ _ h => h) (Or.inl ⟨by rfl, ?_⟩) hHeld ?_
  rotate_left 1
  · intro u hSu
    obtain ⟨q0, q1⟩ := (HT.out _ hSu.out).2
    go_simp
    first | done | with_reducible rfl
  (try simp only [Act.put, List.setIfInBounds_toArray, List.set_cons_zero, List.set_cons_succ])
  refine wpAnyH_take (i := 4) (oi := { dst := some 63, op := Op.move (Operand.tmp 15), type := 3, pos := "law.go:42", after := #[], guard := none }) (v := ?_) rfl (by kernel_rfl) (by kernel_rfl) (by kernel_rfl) (fun _ _ _ h => h) (Or.inl ⟨by rfl, ?_⟩) hHeld ?_
  rotate_left 1
  · intro u hSu
    obtain ⟨q0, q1⟩ := (HT.out _ hSu.out).2
    go_simp
    first | done | with_reducible rfl
  (try simp only [Act.put, List.setIfInBounds_toArray, List.set_cons_zero, List.set_cons_succ])
  refine wpAnyH_take (i := 6) (oi := { dst := some 65, op := Op.move (Operand.tmp 12), type := 38, pos := "law.go:42", after := #[], guard := none }) (v := ?_) rfl (by kernel_rfl) (by kernel_rfl) (by kernel_rfl) (fun _ _ _ h => h) (Or.inl ⟨by rfl, ?_⟩) hHeld ?_
  rotate_left 1
  · intro u hSu
    obtain ⟨q0, q1⟩ := (HT.out _ hSu.out).2
    go_simp
    first | done | with_reducible rfl
  (try simp only [Act.put, List.setIfInBounds_toArray, List.set_cons_zero, List.set_cons_succ])
  refine wpAnyH_take (i := 7) (oi := { dst := some 66, op := Op.move (Operand.tmp 13), type := 3, pos := "law.go:42", after := #[], guard := none }) (v := ?_) rfl (by kernel_rfl) (by kernel_rfl) (by kernel_rfl) (fun _ _ _ h => h) (Or.inl ⟨by rfl, ?_⟩) hHeld ?_
  rotate_left 1
  · intro u hSu
    obtain ⟨q0, q1⟩ := (HT.out _ hSu.out).2
    go_simp
    first | done | with_reducible rfl
  (try simp only [Act.put, List.setIfInBounds_toArray, List.set_cons_zero, List.set_cons_succ])
  refine wpAnyH_take (i := 8) (oi := { dst := some 67, op := Op.indexAddr 38 (Operand.tmp 65) (Operand.tmp 66), type := 0, pos := "law.go:42", after := #[{ on := 6, ground := Ground.data }, { on := 7, ground := Ground.data }], guard := none }) (v := ?_) rfl (by kernel_rfl) (by kernel_rfl) (by kernel_rfl) (fun _ _ _ h => h) (Or.inl ⟨by rfl, ?_⟩) hHeld ?_
  rotate_left 1
  · intro u hSu
    obtain ⟨q0, q1⟩ := (HT.out _ hSu.out).2
    go_simp
    first | done | with_reducible rfl
  (try simp only [Act.put, List.setIfInBounds_toArray, List.set_cons_zero, List.set_cons_succ])
  refine wpAnyH_take (i := 9) (oi := { dst := some 68, op := Op.load 26 (Operand.tmp 67), type := 26, pos := "law.go:42", after := #[{ on := 8, ground := Ground.data }], guard := none }) (v := ?_) rfl (by kernel_rfl) (by kernel_rfl) (by kernel_rfl) (fun _ _ _ h => h) (Or.inl ⟨by rfl, ?_⟩) hHeld ?_
  rotate_left 1
  · intro u hSu
    obtain ⟨q0, q1⟩ := (HT.out _ hSu.out).2
    go_simp
    first | done | with_reducible rfl
  (try simp only [Act.put, List.setIfInBounds_toArray, List.set_cons_zero, List.set_cons_succ])
  refine wpAnyH_take (i := 10) (oi := { dst := some 69, op := Op.move (Operand.tmp 15), type := 3, pos := "law.go:42", after := #[], guard := none }) (v := ?_) rfl (by kernel_rfl) (by kernel_rfl) (by kernel_rfl) (fun _ _ _ h => h) (Or.inl ⟨by rfl, ?_⟩) hHeld ?_
  rotate_left 1
  · intro u hSu
    obtain ⟨q0, q1⟩ := (HT.out _ hSu.out).2
    go_simp
    first | done | with_reducible rfl
  (try simp only [Act.put, List.setIfInBounds_toArray, List.set_cons_zero, List.set_cons_succ])
  refine wpAnyH_ready (rs := [5]) (by kernel_rfl) (by simp) ?_
  refine AllReadyH.cons (o := { dst := some 64, op := Op.call { callee := Callee.value (Operand.func 20), args := #[Operand.tmp 62, Operand.tmp 63], argTypes := #[26, 3] }, type := 4, pos := "law.go:42", after := #[{ on := 3, ground := Ground.data }, { on := 4, ground := Ground.data }], guard := none }) rfl (fun Kz hK => ?_) AllReadyH.nil
  go_simp
  go_at_call 20
  refine (thas_any T xk _ _ (HT.out _ hHeld.out).1 (by omega)).mono ?_
  rintro e w11 ⟨rfl, hg⟩
  refine hK.out _ _ (Lib.hid (hHeld.out.keep hg)) (fun hH2 => ?_)
  clear hK Kz hHeld
  have hHeld := hH2
  clear hH2
  (try simp only [Act.put, List.setIfInBounds_toArray, List.set_cons_zero, List.set_cons_succ])
  refine wpAnyH_ready (rs := [11]) (by kernel_rfl) (by simp) ?_
  refine AllReadyH.cons (o := { dst := some 70, op := Op.call { callee := Callee.value (Operand.func 21), args := #[Operand.tmp 68, Operand.tmp 69], argTypes := #[26, 3] }, type := 4, pos := "law.go:42", after := #[{ on := 9, ground := Ground.data }, { on := 10, ground := Ground.data }, { on := 5, ground := Ground.chain }], guard := none }) rfl (fun Kz hK => ?_) AllReadyH.nil
  go_simp
  go_at_call 21
  refine (rhasV_any T xk _ _ (HT.out _ hHeld.out).1).mono ?_
  rintro e w12 ⟨rfl, hg⟩
  refine hK.out _ _ (Lib.hid (hHeld.out.keep hg)) (fun hH2 => ?_)
  clear hK Kz hHeld
  have hHeld := hH2
  clear hH2
  (try simp only [Act.put, List.setIfInBounds_toArray, List.set_cons_zero, List.set_cons_succ])
  refine wpAnyH_take (i := 12) (oi := { dst := some 71, op := Op.binOp BinOp.neq 4 (Operand.tmp 64) (Operand.tmp 70) 4, type := 4, pos := "law.go:42", after := #[{ on := 5, ground := Ground.data }, { on := 11, ground := Ground.data }], guard := none }) (v := (.bool false)) rfl (by kernel_rfl) (by kernel_rfl) (by kernel_rfl) (fun _ _ _ h => h) (Or.inl ⟨by rfl, ?_⟩) hHeld ?_
  · intro u hSu
    obtain ⟨q0, q1⟩ := (HT.out _ hSu.out).2
    go_simp
    first | done | with_reducible rfl | (simp; done)
  (try simp only [Act.put, List.setIfInBounds_toArray, List.set_cons_zero, List.set_cons_succ])
  refine wpAnyH_take (i := 13) (oi := { dst := some 72, op := Op.move (Operand.tmp 71), type := 4, pos := "law.go:42", after := #[{ on := 12, ground := Ground.data }, { on := 11, ground := Ground.chain }], guard := none }) (v := (.bool false)) rfl (by kernel_rfl) (by kernel_rfl) (by kernel_rfl) (fun _ _ _ h => h) (Or.inl ⟨by rfl, ?_⟩) hHeld ?_
  · intro u hSu
    obtain ⟨q0, q1⟩ := (HT.out _ hSu.out).2
    go_simp
    first | done | with_reducible rfl | (simp; done)
  (try simp only [Act.put, List.setIfInBounds_toArray, List.set_cons_zero, List.set_cons_succ])
  refine wpAnyH_take (i := 14) (oi := { dst := some 73, op := Op.move (Operand.tmp 12), type := 38, pos := "law.go:42", after := #[{ on := 13, ground := Ground.guard }], guard := some (13, false) }) (v := ?_) rfl (by kernel_rfl) (by kernel_rfl) (by kernel_rfl) (fun _ _ _ h => h) (Or.inl ⟨by rfl, ?_⟩) hHeld ?_
  rotate_left 1
  · intro u hSu
    obtain ⟨q0, q1⟩ := (HT.out _ hSu.out).2
    go_simp
    first | done | with_reducible rfl
  (try simp only [Act.put, List.setIfInBounds_toArray, List.set_cons_zero, List.set_cons_succ])
  refine wpAnyH_take (i := 15) (oi := { dst := some 74, op := Op.move (Operand.tmp 13), type := 3, pos := "law.go:42", after := #[{ on := 13, ground := Ground.guard }], guard := some (13, false) }) (v := ?_) rfl (by kernel_rfl) (by kernel_rfl) (by kernel_rfl) (fun _ _ _ h => h) (Or.inl ⟨by rfl, ?_⟩) hHeld ?_
  rotate_left 1
  · intro u hSu
    obtain ⟨q0, q1⟩ := (HT.out _ hSu.out).2
    go_simp
    first | done | with_reducible rfl
  (try simp only [Act.put, List.setIfInBounds_toArray, List.set_cons_zero, List.set_cons_succ])
  refine wpAnyH_take (i := 16) (oi := { dst := some 75, op := Op.indexAddr 38 (Operand.tmp 73) (Operand.tmp 74), type := 0, pos := "law.go:42", after := #[{ on := 14, ground := Ground.data }, { on := 15, ground := Ground.data }, { on := 13, ground := Ground.guard }], guard := some (13, false) }) (v := ?_) rfl (by kernel_rfl) (by kernel_rfl) (by kernel_rfl) (fun _ _ _ h => h) (Or.inl ⟨by rfl, ?_⟩) hHeld ?_
  rotate_left 1
  · intro u hSu
    obtain ⟨q0, q1⟩ := (HT.out _ hSu.out).2
    go_simp
    first | done | with_reducible rfl
  (try simp only [Act.put, List.setIfInBounds_toArray, List.set_cons_zero, List.set_cons_succ])
  refine wpAnyH_take (i := 17) (oi := { dst := some 76, op := Op.load 26 (Operand.tmp 75), type := 26, pos := "law.go:42", after := #[{ on := 16, ground := Ground.data }, { on := 13, ground := Ground.guard }], guard := some (13, false) }) (v := ?_) rfl (by kernel_rfl) (by kernel_rfl) (by kernel_rfl) (fun _ _ _ h => h) (Or.inl ⟨by rfl, ?_⟩) hHeld ?_
  rotate_left 1
  · intro u hSu
    obtain ⟨q0, q1⟩ := (HT.out _ hSu.out).2
    go_simp
    first | done | with_reducible rfl
  (try simp only [Act.put, List.setIfInBounds_toArray, List.set_cons_zero, List.set_cons_succ])
  refine wpAnyH_take (i := 18) (oi := { dst := some 77, op := Op.move (Operand.tmp 15), type := 3, pos := "law.go:42", after := #[{ on := 13, ground := Ground.guard }], guard := some (13, false) }) (v := ?_) rfl (by kernel_rfl) (by kernel_rfl) (by kernel_rfl) (fun _ _ _ h => h) (Or.inl ⟨by rfl, ?_⟩) hHeld ?_
  rotate_left 1
  · intro u hSu
    obtain ⟨q0, q1⟩ := (HT.out _ hSu.out).2
    go_simp
    first | done | with_reducible rfl
  (try simp only [Act.put, List.setIfInBounds_toArray, List.set_cons_zero, List.set_cons_succ])
  refine wpAnyH_take (i := 20) (oi := { dst := some 79, op := Op.move (Operand.tmp 12), type := 38, pos := "law.go:42", after := #[{ on := 13, ground := Ground.guard }], guard := some (13, false) }) (v := ?_) rfl (by kernel_rfl) (by kernel_rfl) (by kernel_rfl) (fun _ _ _ h => h) (Or.inl ⟨by rfl, ?_⟩) hHeld ?_
  rotate_left 1
  · intro u hSu
    obtain ⟨q0, q1⟩ := (HT.out _ hSu.out).2
    go_simp
    first | done | with_reducible rfl
  (try simp only [Act.put, List.setIfInBounds_toArray, List.set_cons_zero, List.set_cons_succ])
  refine wpAnyH_take (i := 21) (oi := { dst := some 80, op := Op.move (Operand.tmp 13), type := 3, pos := "law.go:42", after := #[{ on := 13, ground := Ground.guard }], guard := some (13, false) }) (v := ?_) rfl (by kernel_rfl) (by kernel_rfl) (by kernel_rfl) (fun _ _ _ h => h) (Or.inl ⟨by rfl, ?_⟩) hHeld ?_
  rotate_left 1
  · intro u hSu
    obtain ⟨q0, q1⟩ := (HT.out _ hSu.out).2
    go_simp
    first | done | with_reducible rfl
  (try simp only [Act.put, List.setIfInBounds_toArray, List.set_cons_zero, List.set_cons_succ])
  refine wpAnyH_take (i := 22) (oi := { dst := some 81, op := Op.indexAddr 38 (Operand.tmp 79) (Operand.tmp 80), type := 0, pos := "law.go:42", after := #[{ on := 20, ground := Ground.data }, { on := 21, ground := Ground.data }, { on := 13, ground := Ground.guard }], guard := some (13, false) }) (v := ?_) rfl (by kernel_rfl) (by kernel_rfl) (by kernel_rfl) (fun _ _ _ h => h) (Or.inl ⟨by rfl, ?_⟩) hHeld ?_
  rotate_left 1
  · intro u hSu
    obtain ⟨q0, q1⟩ := (HT.out _ hSu.out).2
    go_simp
    first | done | with_reducible rfl
  (try simp only [Act.put, List.setIfInBounds_toArray, List.set_cons_zero, List.set_cons_succ])
  refine wpAnyH_take (i := 23) (oi := { dst := some 82, op := Op.load 26 (Operand.tmp 81), type := 26, pos := "law.go:42", after := #[{ on := 22, ground := Ground.data }, { on := 13, ground := Ground.guard }], guard := some (13, false) }) (v := ?_) rfl (by kernel_rfl) (by kernel_rfl) (by kernel_rfl) (fun _ _ _ h => h) (Or.inl ⟨by rfl, ?_⟩) hHeld ?_
  rotate_left 1
  · intro u hSu
    obtain ⟨q0, q1⟩ := (HT.out _ hSu.out).2
    go_simp
    first | done | with_reducible rfl
  (try simp only [Act.put, List.setIfInBounds_toArray, List.set_cons_zero, List.set_cons_succ])
  refine wpAnyH_take (i := 24) (oi := { dst := some 83, op := Op.move (Operand.tmp 15), type := 3, pos := "law.go:42", after := #[{ on := 13, ground := Ground.guard }], guard := some (13, false) }) (v := ?_) rfl (by kernel_rfl) (by kernel_rfl) (by kernel_rfl) (fun _ _ _ h => h) (Or.inl ⟨by rfl, ?_⟩) hHeld ?_
  rotate_left 1
  · intro u hSu
    obtain ⟨q0, q1⟩ := (HT.out _ hSu.out).2
    go_simp
    first | done | with_reducible rfl
  (try simp only [Act.put, List.setIfInBounds_toArray, List.set_cons_zero, List.set_cons_succ])
  refine wpAnyH_ready (rs := [19]) (by kernel_rfl) (by simp) ?_
  refine AllReadyH.cons (o := { dst := some 78, op := Op.call { callee := Callee.value (Operand.func 22), args := #[Operand.tmp 76, Operand.tmp 77], argTypes := #[26, 3] }, type := 4, pos := "law.go:42", after := #[{ on := 17, ground := Ground.data }, { on := 18, ground := Ground.data }, { on := 13, ground := Ground.chain }, { on := 13, ground := Ground.guard }], guard := some (13, false) }) rfl (fun Kz hK => ?_) AllReadyH.nil
  go_simp
  go_at_call 22
  refine (tcap_any T xk _ _ (HT.out _ hHeld.out).1 (by omega)).mono ?_
  rintro e w13 ⟨rfl, hg⟩
  refine hK.out _ _ (Lib.hid (hHeld.out.keep hg)) (fun hH2 => ?_)
  clear hK Kz hHeld
  have hHeld := hH2
  clear hH2
  (try simp only [Act.put, List.setIfInBounds_toArray, List.set_cons_zero, List.set_cons_succ])
  refine wpAnyH_ready (rs := [25]) (by kernel_rfl) (by simp) ?_
  refine AllReadyH.cons (o := { dst := some 84, op := Op.call { callee := Callee.value (Operand.func 23), args := #[Operand.tmp 82, Operand.tmp 83], argTypes := #[26, 3] }, type := 4, pos := "law.go:42", after := #[{ on := 23, ground := Ground.data }, { on := 24, ground := Ground.data }, { on := 19, ground := Ground.chain }, { on := 13, ground := Ground.guard }], guard := some (13, false) }) rfl (fun Kz hK => ?_) AllReadyH.nil
  go_simp
  go_at_call 23
  refine (rcap_any T xk _ _ (HT.out _ hHeld.out).1).mono ?_
  rintro e w14 ⟨rfl, hg⟩
  refine hK.out _ _ (Lib.hid (hHeld.out.keep hg)) (fun hH2 => ?_)
  clear hK Kz hHeld
  have hHeld := hH2
  clear hH2
  (try simp only [Act.put, List.setIfInBounds_toArray, List.set_cons_zero, List.set_cons_succ])
  refine wpAnyH_take (i := 26) (oi := { dst := some 85, op := Op.binOp BinOp.neq 4 (Operand.tmp 78) (Operand.tmp 84) 4, type := 4, pos := "law.go:42", after := #[{ on := 19, ground := Ground.data }, { on := 25, ground := Ground.data }, { on := 13, ground := Ground.guard }], guard := some (13, false) }) (v := (.bool false)) rfl (by kernel_rfl) (by kernel_rfl) (by kernel_rfl) (fun _ _ _ h => h) (Or.inl ⟨by rfl, ?_⟩) hHeld ?_
  · intro u hSu
    obtain ⟨q0, q1⟩ := (HT.out _ hSu.out).2
    go_simp
    first | done | with_reducible rfl | (simp; done)
  (try simp only [Act.put, List.setIfInBounds_toArray, List.set_cons_zero, List.set_cons_succ])
  refine wpAnyH_take (i := 27) (oi := { dst := some 86, op := Op.pick (Operand.tmp 72) (Operand.const (Value.bool true)) (Operand.tmp 85), type := 4, pos := "law.go:42", after := #[{ on := 13, ground := Ground.data }, { on := 26, ground := Ground.data }], guard := none }) (v := (.bool false)) rfl (by kernel_rfl) (by kernel_rfl) (by kernel_rfl) (fun _ _ _ h => h) (Or.inl ⟨by rfl, ?_⟩) hHeld ?_
  · intro u hSu
    obtain ⟨q0, q1⟩ := (HT.out _ hSu.out).2
    go_simp
    first | done | with_reducible rfl | (simp; done)
  (try simp only [Act.put, List.setIfInBounds_toArray, List.set_cons_zero, List.set_cons_succ])
  refine wpAnyH_take (i := 28) (oi := { dst := some 87, op := Op.move (Operand.tmp 86), type := 4, pos := "law.go:42", after := #[{ on := 27, ground := Ground.data }, { on := 25, ground := Ground.chain }], guard := none }) (v := (.bool false)) rfl (by kernel_rfl) (by kernel_rfl) (by kernel_rfl) (fun _ _ _ h => h) (Or.inl ⟨by rfl, ?_⟩) hHeld ?_
  · intro u hSu
    obtain ⟨q0, q1⟩ := (HT.out _ hSu.out).2
    go_simp
    first | done | with_reducible rfl | (simp; done)
  (try simp only [Act.put, List.setIfInBounds_toArray, List.set_cons_zero, List.set_cons_succ])
  refine wpAnyH_take (i := 29) (oi := { dst := some 88, op := Op.move (Operand.tmp 12), type := 38, pos := "law.go:42", after := #[{ on := 28, ground := Ground.guard }], guard := some (28, false) }) (v := ?_) rfl (by kernel_rfl) (by kernel_rfl) (by kernel_rfl) (fun _ _ _ h => h) (Or.inl ⟨by rfl, ?_⟩) hHeld ?_
  rotate_left 1
  · intro u hSu
    obtain ⟨q0, q1⟩ := (HT.out _ hSu.out).2
    go_simp
    first | done | with_reducible rfl
  (try simp only [Act.put, List.setIfInBounds_toArray, List.set_cons_zero, List.set_cons_succ])
  refine wpAnyH_take (i := 30) (oi := { dst := some 89, op := Op.move (Operand.tmp 13), type := 3, pos := "law.go:42", after := #[{ on := 28, ground := Ground.guard }], guard := some (28, false) }) (v := ?_) rfl (by kernel_rfl) (by kernel_rfl) (by kernel_rfl) (fun _ _ _ h => h) (Or.inl ⟨by rfl, ?_⟩) hHeld ?_
  rotate_left 1
  · intro u hSu
    obtain ⟨q0, q1⟩ := (HT.out _ hSu.out).2
    go_simp
    first | done | with_reducible rfl
  (try simp only [Act.put, List.setIfInBounds_toArray, List.set_cons_zero, List.set_cons_succ])
  refine wpAnyH_take (i := 31) (oi := { dst := some 90, op := Op.indexAddr 38 (Operand.tmp 88) (Operand.tmp 89), type := 0, pos := "law.go:42", after := #[{ on := 29, ground := Ground.data }, { on := 30, ground := Ground.data }, { on := 28, ground := Ground.guard }], guard := some (28, false) }) (v := ?_) rfl (by kernel_rfl) (by kernel_rfl) (by kernel_rfl) (fun _ _ _ h => h) (Or.inl ⟨by rfl, ?_⟩) hHeld ?_
  rotate_left 1
  · intro u hSu
    obtain ⟨q0, q1⟩ := (HT.out _ hSu.out).2
    go_simp
    first | done | with_reducible rfl
  (try simp only [Act.put, List.setIfInBounds_toArray, List.set_cons_zero, List.set_cons_succ])
  refine wpAnyH_take (i := 32) (oi := { dst := some 91, op := Op.load 26 (Operand.tmp 90), type := 26, pos := "law.go:42", after := #[{ on := 31, ground := Ground.data }, { on := 28, ground := Ground.guard }], guard := some (28, false) }) (v := ?_) rfl (by kernel_rfl) (by kernel_rfl) (by kernel_rfl) (fun _ _ _ h => h) (Or.inl ⟨by rfl, ?_⟩) hHeld ?_
  rotate_left 1
  · intro u hSu
    obtain ⟨q0, q1⟩ := (HT.out _ hSu.out).2
    go_simp
    first | done | with_reducible rfl
  (try simp only [Act.put, List.setIfInBounds_toArray, List.set_cons_zero, List.set_cons_succ])
  refine wpAnyH_take (i := 33) (oi := { dst := some 92, op := Op.move (Operand.tmp 15), type := 3, pos := "law.go:42", after := #[{ on := 28, ground := Ground.guard }], guard := some (28, false) }) (v := ?_) rfl (by kernel_rfl) (by kernel_rfl) (by kernel_rfl) (fun _ _ _ h => h) (Or.inl ⟨by rfl, ?_⟩) hHeld ?_
  rotate_left 1
  · intro u hSu
    obtain ⟨q0, q1⟩ := (HT.out _ hSu.out).2
    go_simp
    first | done | with_reducible rfl
  (try simp only [Act.put, List.setIfInBounds_toArray, List.set_cons_zero, List.set_cons_succ])
  refine wpAnyH_take (i := 35) (oi := { dst := some 94, op := Op.move (Operand.tmp 12), type := 38, pos := "law.go:42", after := #[{ on := 28, ground := Ground.guard }], guard := some (28, false) }) (v := ?_) rfl (by kernel_rfl) (by kernel_rfl) (by kernel_rfl) (fun _ _ _ h => h) (Or.inl ⟨by rfl, ?_⟩) hHeld ?_
  rotate_left 1
  · intro u hSu
    obtain ⟨q0, q1⟩ := (HT.out _ hSu.out).2
    go_simp
    first | done | with_reducible rfl
  (try simp only [Act.put, List.setIfInBounds_toArray, List.set_cons_zero, List.set_cons_succ])
  refine wpAnyH_take (i := 36) (oi := { dst := some 95, op := Op.move (Operand.tmp 13), type := 3, pos := "law.go:42", after := #[{ on := 28, ground := Ground.guard }], guard := some (28, false) }) (v := ?_) rfl (by kernel_rfl) (by kernel_rfl) (by kernel_rfl) (fun _ _ _ h => h) (Or.inl ⟨by rfl, ?_⟩) hHeld ?_
  rotate_left 1
  · intro u hSu
    obtain ⟨q0, q1⟩ := (HT.out _ hSu.out).2
    go_simp
    first | done | with_reducible rfl
  (try simp only [Act.put, List.setIfInBounds_toArray, List.set_cons_zero, List.set_cons_succ])
  refine wpAnyH_take (i := 37) (oi := { dst := some 96, op := Op.indexAddr 38 (Operand.tmp 94) (Operand.tmp 95), type := 0, pos := "law.go:42", after := #[{ on := 35, ground := Ground.data }, { on := 36, ground := Ground.data }, { on := 28, ground := Ground.guard }], guard := some (28, false) }) (v := ?_) rfl (by kernel_rfl) (by kernel_rfl) (by kernel_rfl) (fun _ _ _ h => h) (Or.inl ⟨by rfl, ?_⟩) hHeld ?_
  rotate_left 1
  · intro u hSu
    obtain ⟨q0, q1⟩ := (HT.out _ hSu.out).2
    go_simp
    first | done | with_reducible rfl
  (try simp only [Act.put, List.setIfInBounds_toArray, List.set_cons_zero, List.set_cons_succ])
  refine wpAnyH_take (i := 38) (oi := { dst := some 97, op := Op.load 26 (Operand.tmp 96), type := 26, pos := "law.go:42", after := #[{ on := 37, ground := Ground.data }, { on := 28, ground := Ground.guard }], guard := some (28, false) }) (v := ?_) rfl (by kernel_rfl) (by kernel_rfl) (by kernel_rfl) (fun _ _ _ h => h) (Or.inl ⟨by rfl, ?_⟩) hHeld ?_
  rotate_left 1
  · intro u hSu
    obtain ⟨q0, q1⟩ := (HT.out _ hSu.out).2
    go_simp
    first | done | with_reducible rfl
  (try simp only [Act.put, List.setIfInBounds_toArray, List.set_cons_zero, List.set_cons_succ])
  refine wpAnyH_take (i := 39) (oi := { dst := some 98, op := Op.move (Operand.tmp 15), type := 3, pos := "law.go:42", after := #[{ on := 28, ground := Ground.guard }], guard := some (28, false) }) (v := ?_) rfl (by kernel_rfl) (by kernel_rfl) (by kernel_rfl) (fun _ _ _ h => h) (Or.inl ⟨by rfl, ?_⟩) hHeld ?_
  rotate_left 1
  · intro u hSu
    obtain ⟨q0, q1⟩ := (HT.out _ hSu.out).2
    go_simp
    first | done | with_reducible rfl
  (try simp only [Act.put, List.setIfInBounds_toArray, List.set_cons_zero, List.set_cons_succ])
  refine wpAnyH_ready (rs := [34]) (by kernel_rfl) (by simp) ?_
  refine AllReadyH.cons (o := { dst := some 93, op := Op.call { callee := Callee.value (Operand.func 25), args := #[Operand.tmp 91, Operand.tmp 92], argTypes := #[26, 3] }, type := 22, pos := "law.go:42", after := #[{ on := 32, ground := Ground.data }, { on := 33, ground := Ground.data }, { on := 28, ground := Ground.chain }, { on := 28, ground := Ground.guard }], guard := some (28, false) }) rfl (fun Kz hK => ?_) AllReadyH.nil
  go_simp
  go_at_call 25
  refine (tnbs_any T xk _ _ (HT.out _ hHeld.out).1 (fun _ => by omega)).mono ?_
  rintro e w15 ⟨pn, cn, rfl, hRn, hln, -, hg⟩
  have HN1 := Lib.hid hRn
  have hnl := Nat.le_trans hln.1 hln.2
  clear hRn hln
  refine hK.out _ _ (Lib.hid (hHeld.out.keep hg)) (fun hH2 => ?_)
  clear hK Kz hHeld
  have hHeld := hH2
  clear hH2
  (try simp only [Act.put, List.setIfInBounds_toArray, List.set_cons_zero, List.set_cons_succ])
  refine wpAnyH_ready (rs := [40]) (by kernel_rfl) (by simp) ?_
  refine AllReadyH.cons (o := { dst := some 99, op := Op.call { callee := Callee.value (Operand.func 26), args := #[Operand.tmp 97, Operand.tmp 98], argTypes := #[26, 3] }, type := 22, pos := "law.go:42", after := #[{ on := 38, ground := Ground.data }, { on := 39, ground := Ground.data }, { on := 34, ground := Ground.chain }, { on := 28, ground := Ground.guard }], guard := some (28, false) }) rfl (fun Kz hK => ?_) AllReadyH.nil
  go_simp
  go_at_call 26
  refine (rnbs_any T xk _ _ (HT.out _ hHeld.out).1 (fun _ => by omega)).mono ?_
  rintro e w16 ⟨pm, cm, rfl, hRm, -, -, hg⟩
  have HN2 := Lib.hid (And.intro (HN1.out.keep hg) hRm)
  clear hRm
  refine hK.out _ _ (Lib.hid (hHeld.out.keep hg)) (fun hH2 => ?_)
  clear hK Kz hHeld
  have hHeld := hH2
  clear hH2
  (try simp only [Act.put, List.setIfInBounds_toArray, List.set_cons_zero, List.set_cons_succ])
  refine wpAnyH_ready (rs := [41]) (by kernel_rfl) (by simp) ?_
  refine AllReadyH.cons (o := { dst := some 100, op := Op.call { callee := Callee.value (Operand.func 24), args := #[Operand.tmp 93, Operand.tmp 99], argTypes := #[22, 22] }, type := 4, pos := "law.go:42", after := #[{ on := 34, ground := Ground.data }, { on := 40, ground := Ground.data }, { on := 40, ground := Ground.chain }, { on := 28, ground := Ground.guard }], guard := some (28, false) }) rfl (fun Kz hK => ?_) AllReadyH.nil
  go_simp
  go_at_call 24
  refine (rints_any (nearV T.R T.L xk) pn pm cn cm _ _ _ HN2.out.1 HN2.out.2 hnl).mono ?_
  rintro e w17 ⟨rfl, hg⟩
  refine hK.out _ _ (Lib.hid (hHeld.out.keep hg)) (fun hH2 => ?_)
  clear hK Kz hHeld
  have hHeld := hH2
  clear hH2
  (try simp only [Act.put, List.setIfInBounds_toArray, List.set_cons_zero, List.set_cons_succ])
  refine wpAnyH_take (i := 42) (oi := { dst := some 101, op := Op.unOp UnOp.not 4 (Operand.tmp 100), type := 4, pos := "law.go:42", after := #[{ on := 41, ground := Ground.data }, { on := 28, ground := Ground.guard }], guard := some (28, false) }) (v := (.bool false)) rfl (by kernel_rfl) (by kernel_rfl) (by kernel_rfl) (fun _ _ _ h => h) (Or.inl ⟨by rfl, ?_⟩) hHeld ?_
  · intro u hSu
    obtain ⟨q0, q1⟩ := (HT.out _ hSu.out).2
    go_simp
    first | done | with_reducible rfl | (simp; done)
  (try simp only [Act.put, List.setIfInBounds_toArray, List.set_cons_zero, List.set_cons_succ])
  refine wpAnyH_take (i := 43) (oi := { dst := some 102, op := Op.pick (Operand.tmp 87) (Operand.const (Value.bool true)) (Operand.tmp 101), type := 4, pos := "law.go:42", after := #[{ on := 28, ground := Ground.data }, { on := 42, ground := Ground.data }], guard := none }) (v := (.bool false)) rfl (by kernel_rfl) (by kernel_rfl) (by kernel_rfl) (fun _ _ _ h => h) (Or.inl ⟨by rfl, ?_⟩) hHeld ?_
  · intro u hSu
    obtain ⟨q0, q1⟩ := (HT.out _ hSu.out).2
    go_simp
    first | done | with_reducible rfl | (simp; done)
  (try simp only [Act.put, List.setIfInBounds_toArray, List.set_cons_zero, List.set_cons_succ])
  refine wpAnyH_done (by kernel_rfl) ?_ _
  have H18 := hHeld
  clear hHeld HN1 HN2 hnl
  go_wp2_with fail
  go_loopw [16] (fun v wr => ∃ k : Nat, k ≤ 4 ∧ v = .int .i64 (k : Int) ∧ Hid (LK3 w Bt Bi w.heap.size ⟨R, L, pR, cR, pL, cL⟩ ⟨R1, L1, pR1, cR1, pL1, cL1⟩ T2 x y xn xr wr)) (fun v _ => 4 - (intOf v).toNat)
  case atStart => exact ⟨0, by omega, rfl, H18⟩
  case round =>
  obtain ⟨j, hj, rfl, HJ⟩ := hrel
  clear H18 HK
  by_cases hj4 : j < 4
  rotate_left 1
  · obtain rfl : j = 4 := by omega
    have H10 := HJ
    go_wp2_with fail
    exact ⟨⟨k + 1, by omega, congrArg _ (by omega), H10⟩, by simp only [intOf]; omega⟩
  obtain ⟨xj, hxj⟩ := LK3.int_ w Bt Bi w.heap.size ⟨R, L, pR, cR, pL, cL⟩ ⟨R1, L1, pR1, cR1, pL1, cL1⟩ T2 x y xn xr j hj4
  have HXJ := Lib.hid hxj
  have j0 : (0 : Int) ≤ (j : Int) := by omega
  have j1 : (j : Int) < 4 := by omega
  clear hxj
  go_upto_region 17 with fail
  refine wp_region_held_drew (S := fun w' => Hid (LK3 w Bt Bi w.heap.size ⟨R, L, pR, cR, pL, cL⟩ ⟨R1, L1, pR1, cR1, pL1, cL1⟩ T2 x y xn xr w')) (by kernel_rfl) (Lib.hid (HJ.out.keep (grown_drew (grown_refl _ _)))) (fun hHeld => ?_)
  refine wpAnyH_take (i := 0) (oi := { dst := some 110, op := Op.move (Operand.tmp 12), type := 38, pos := "law.go:46", after := #[], guard := none }) (v := ?_) rfl (by kernel_rfl) (by kernel_rfl) (by kernel_rfl) (fun _ _ _ h => h) (Or.inl ⟨by rfl, ?_⟩) hHeld ?_
  rotate_left 1
  · intro u hSu
    obtain ⟨q0, q1⟩ := (HT.out _ hSu.out).2
    have q2 := HXJ.out _ hSu.out
    go_simp
    first | done | with_reducible rfl
  (try simp only [Act.put, List.setIfInBounds_toArray, List.set_cons_zero, List.set_cons_succ])
  refine wpAnyH_take (i := 1) (oi := { dst := some 111, op := Op.move (Operand.tmp 13), type := 3, pos := "law.go:46", after := #[], guard := none }) (v := ?_) rfl (by kernel_rfl) (by kernel_rfl) (by kernel_rfl) (fun _ _ _ h => h) (Or.inl ⟨by rfl, ?_⟩) hHeld ?_
  rotate_left 1
  · intro u hSu
    obtain ⟨q0, q1⟩ := (HT.out _ hSu.out).2
    have q2 := HXJ.out _ hSu.out
    go_simp
    first | done | with_reducible rfl
  (try simp only [Act.put, List.setIfInBounds_toArray, List.set_cons_zero, List.set_cons_succ])
  refine wpAnyH_take (i := 2) (oi := { dst := some 112, op := Op.indexAddr 38 (Operand.tmp 110) (Operand.tmp 111), type := 0, pos := "law.go:46", after := #[{ on := 0, ground := Ground.data }, { on := 1, ground := Ground.data }], guard := none }) (v := ?_) rfl (by kernel_rfl) (by kernel_rfl) (by kernel_rfl) (fun _ _ _ h => h) (Or.inl ⟨by rfl, ?_⟩) hHeld ?_
  rotate_left 1
  · intro u hSu
    obtain ⟨q0, q1⟩ := (HT.out _ hSu.out).2
    have q2 := HXJ.out _ hSu.out
    go_simp
    first | done | with_reducible rfl
  (try simp only [Act.put, List.setIfInBounds_toArray, List.set_cons_zero, List.set_cons_succ])
  refine wpAnyH_take (i := 3) (oi := { dst := some 113, op := Op.load 26 (Operand.tmp 112), type := 26, pos := "law.go:46", after := #[{ on := 2, ground := Ground.data }], guard := none }) (v := ?_) rfl (by kernel_rfl) (by kernel_rfl) (by kernel_rfl) (fun _ _ _ h => h) (Or.inl ⟨by rfl, ?_⟩) hHeld ?_
  rotate_left 1
  · intro u hSu
    obtain ⟨q0, q1⟩ := (HT.out _ hSu.out).2
    have q2 := HXJ.out _ hSu.out
    go_simp
    first | done | with_reducible rfl
  (try simp only [Act.put, List.setIfInBounds_toArray, List.set_cons_zero, List.set_cons_succ])
  refine wpAnyH_take (i := 4) (oi := { dst := some 114, op := Op.move (Operand.tmp 15), type := 3, pos := "law.go:46", after := #[], guard := none }) (v := ?_) rfl (by kernel_rfl) (by kernel_rfl) (by kernel_rfl) (fun _ _ _ h => h) (Or.inl ⟨by rfl, ?_⟩) hHeld ?_
  rotate_left 1
  · intro u hSu
    obtain ⟨q0, q1⟩ := (HT.out _ hSu.out).2
    have q2 := HXJ.out _ hSu.out
    go_simp
    first | done | with_reducible rfl
  (try simp only [Act.put, List.setIfInBounds_toArray, List.set_cons_zero, List.set_cons_succ])
  refine wpAnyH_take (i := 5) (oi := { dst := some 115, op := Op.move (Operand.tmp 11), type := 22, pos := "law.go:46", after := #[], guard := none }) (v := ?_) rfl (by kernel_rfl) (by kernel_rfl) (by kernel_rfl) (fun _ _ _ h => h) (Or.inl ⟨by rfl, ?_⟩) hHeld ?_
  rotate_left 1
  · intro u hSu
    obtain ⟨q0, q1⟩ := (HT.out _ hSu.out).2
    have q2 := HXJ.out _ hSu.out
    go_simp
    first | done | with_reducible rfl
  (try simp only [Act.put, List.setIfInBounds_toArray, List.set_cons_zero, List.set_cons_succ])
  refine wpAnyH_take (i := 6) (oi := { dst := some 116, op := Op.move (Operand.tmp 16), type := 3, pos := "law.go:46", after := #[], guard := none }) (v := ?_) rfl (by kernel_rfl) (by kernel_rfl) (by kernel_rfl) (fun _ _ _ h => h) (Or.inl ⟨by rfl, ?_⟩) hHeld ?_
  rotate_left 1
  · intro u hSu
    obtain ⟨q0, q1⟩ := (HT.out _ hSu.out).2
    have q2 := HXJ.out _ hSu.out
    go_simp
    first | done | with_reducible rfl
  (try simp only [Act.put, List.setIfInBounds_toArray, List.set_cons_zero, List.set_cons_succ])
  refine wpAnyH_take (i := 7) (oi := { dst := some 117, op := Op.indexAddr 22 (Operand.tmp 115) (Operand.tmp 116), type := 0, pos := "law.go:46", after := #[{ on := 5, ground := Ground.data }, { on := 6, ground := Ground.data }], guard := none }) (v := ?_) rfl (by kernel_rfl) (by kernel_rfl) (by kernel_rfl) (fun _ _ _ h => h) (Or.inl ⟨by rfl, ?_⟩) hHeld ?_
  rotate_left 1
  · intro u hSu
    obtain ⟨q0, q1⟩ := (HT.out _ hSu.out).2
    have q2 := HXJ.out _ hSu.out
    go_simp
    first | done | with_reducible rfl
  (try simp only [Act.put, List.setIfInBounds_toArray, List.set_cons_zero, List.set_cons_succ])
  refine wpAnyH_take (i := 8) (oi := { dst := some 118, op := Op.load 3 (Operand.tmp 117), type := 3, pos := "law.go:46", after := #[{ on := 7, ground := Ground.data }], guard := none }) (v := ?_) rfl (by kernel_rfl) (by kernel_rfl) (by kernel_rfl) (fun _ _ _ h => h) (Or.inl ⟨by rfl, ?_⟩) hHeld ?_
  rotate_left 1
  · intro u hSu
    obtain ⟨q0, q1⟩ := (HT.out _ hSu.out).2
    have q2 := HXJ.out _ hSu.out
    go_simp
    first | done | with_reducible rfl
  (try simp only [Act.put, List.setIfInBounds_toArray, List.set_cons_zero, List.set_cons_succ])
  refine wpAnyH_ready (rs := [9]) (by kernel_rfl) (by simp) ?_
  refine AllReadyH.cons (o := { dst := some 119, op := Op.call { callee := Callee.value (Operand.func 27), args := #[Operand.tmp 113, Operand.tmp 114, Operand.tmp 118], argTypes := #[26, 3, 3] }, type := 42, pos := "law.go:46", after := #[{ on := 3, ground := Ground.data }, { on := 4, ground := Ground.data }, { on := 8, ground := Ground.data }], guard := none }) rfl (fun Kz hK => ?_) AllReadyH.nil
  go_simp
  go_at_call 27
  refine (tcost_any T xk xj _ _ (HT.out _ hHeld.out).1 (by omega)).mono ?_
  rintro e w19 ⟨rfl, hg⟩
  refine hK.out _ _ (Lib.hid (hHeld.out.keep hg)) (fun hH2 => ?_)
  clear hK Kz hHeld
  have hHeld := hH2
  clear hH2
  (try simp only [Act.put, List.setIfInBounds_toArray, List.set_cons_zero, List.set_cons_succ])
  refine wpAnyH_take (i := 10) (oi := { dst := some 109, op := Op.move (Operand.tmp 119), type := 42, pos := "law.go:46", after := #[{ on := 9, ground := Ground.data }], guard := none }) (v := ?_) rfl (by kernel_rfl) (by kernel_rfl) (by kernel_rfl) (fun _ _ _ h => h) (Or.inl ⟨by rfl, ?_⟩) hHeld ?_
  rotate_left 1
  · intro u hSu
    obtain ⟨q0, q1⟩ := (HT.out _ hSu.out).2
    have q2 := HXJ.out _ hSu.out
    go_simp
    first | done | with_reducible rfl
  (try simp only [Act.put, List.setIfInBounds_toArray, List.set_cons_zero, List.set_cons_succ])
  refine wpAnyH_take (i := 11) (oi := { dst := some 120, op := Op.extract (Operand.tmp 109) 0, type := 3, pos := "law.go:46", after := #[{ on := 10, ground := Ground.data }], guard := none }) (v := ?_) rfl (by kernel_rfl) (by kernel_rfl) (by kernel_rfl) (fun _ _ _ h => h) (Or.inl ⟨by rfl, ?_⟩) hHeld ?_
  rotate_left 1
  · intro u hSu
    obtain ⟨q0, q1⟩ := (HT.out _ hSu.out).2
    have q2 := HXJ.out _ hSu.out
    go_simp
    first | done | with_reducible rfl
  (try simp only [Act.put, List.setIfInBounds_toArray, List.set_cons_zero, List.set_cons_succ])
  refine wpAnyH_take (i := 12) (oi := { dst := some 121, op := Op.extract (Operand.tmp 109) 1, type := 4, pos := "law.go:46", after := #[{ on := 10, ground := Ground.data }, { on := 13, ground := Ground.gcOnly Departure.lateStores }], guard := none }) (v := ?_) rfl (by kernel_rfl) (by kernel_rfl) (by kernel_rfl) (fun _ _ _ h => h) (Or.inl ⟨by rfl, ?_⟩) hHeld ?_
  rotate_left 1
  · intro u hSu
    obtain ⟨q0, q1⟩ := (HT.out _ hSu.out).2
    have q2 := HXJ.out _ hSu.out
    go_simp
    first | done | with_reducible rfl
  (try simp only [Act.put, List.setIfInBounds_toArray, List.set_cons_zero, List.set_cons_succ])
  refine wpAnyH_take (i := 13) (oi := { dst := some 17, op := Op.assign (Operand.tmp 120), type := 3, pos := "law.go:46", after := #[{ on := 11, ground := Ground.data }, { on := 9, ground := Ground.chain }, { on := 0, ground := Ground.phase }, { on := 1, ground := Ground.phase }, { on := 2, ground := Ground.phase }, { on := 3, ground := Ground.phase }, { on := 4, ground := Ground.phase }, { on := 5, ground := Ground.phase }, { on := 6, ground := Ground.phase }, { on := 7, ground := Ground.phase }, { on := 8, ground := Ground.phase }, { on := 9, ground := Ground.phase }, { on := 10, ground := Ground.phase }, { on := 11, ground := Ground.phase }, { on := 12, ground := Ground.textOnly Departure.lateStores }], guard := none }) (v := ?_) rfl (by kernel_rfl) (by kernel_rfl) (by kernel_rfl) (fun _ _ _ h => h) (Or.inl ⟨by rfl, ?_⟩) hHeld ?_
  rotate_left 1
  · intro u hSu
    obtain ⟨q0, q1⟩ := (HT.out _ hSu.out).2
    have q2 := HXJ.out _ hSu.out
    go_simp
    first | done | with_reducible rfl
  (try simp only [Act.put, List.setIfInBounds_toArray, List.set_cons_zero, List.set_cons_succ])
  refine wpAnyH_take (i := 14) (oi := { dst := some 18, op := Op.assign (Operand.tmp 121), type := 4, pos := "law.go:46", after := #[{ on := 12, ground := Ground.data }, { on := 13, ground := Ground.chain }, { on := 0, ground := Ground.phase }, { on := 1, ground := Ground.phase }, { on := 2, ground := Ground.phase }, { on := 3, ground := Ground.phase }, { on := 4, ground := Ground.phase }, { on := 5, ground := Ground.phase }, { on := 6, ground := Ground.phase }, { on := 7, ground := Ground.phase }, { on := 8, ground := Ground.phase }, { on := 9, ground := Ground.phase }, { on := 10, ground := Ground.phase }, { on := 11, ground := Ground.phase }, { on := 12, ground := Ground.phase }, { on := 13, ground := Ground.phase }], guard := none }) (v := ?_) rfl (by kernel_rfl) (by kernel_rfl) (by kernel_rfl) (fun _ _ _ h => h) (Or.inl ⟨by rfl, ?_⟩) hHeld ?_
  rotate_left 1
  · intro u hSu
    obtain ⟨q0, q1⟩ := (HT.out _ hSu.out).2
    have q2 := HXJ.out _ hSu.out
    go_simp
    first | done | with_reducible rfl
  (try simp only [Act.put, List.setIfInBounds_toArray, List.set_cons_zero, List.set_cons_succ])
  refine wpAnyH_done (by kernel_rfl) ?_ _
  have H19 := hHeld
  clear hHeld HJ
  go_upto_region 18 with fail
  refine wp_region_held_drew (S := fun w' => Hid (LK3 w Bt Bi w.heap.size ⟨R, L, pR, cR, pL, cL⟩ ⟨R1, L1, pR1, cR1, pL1, cL1⟩ T2 x y xn xr w')) (by kernel_rfl) (Lib.hid (H19.out.keep (grown_drew (grown_refl _ _)))) (fun hHeld => ?_)
  refine wpAnyH_take (i := 0) (oi := { dst := some 123, op := Op.move (Operand.tmp 12), type := 38, pos := "law.go:47", after := #[], guard := none }) (v := ?_) rfl (by kernel_rfl) (by kernel_rfl) (by kernel_rfl) (fun _ _ _ h => h) (Or.inl ⟨by rfl, ?_⟩) hHeld ?_
  rotate_left 1
  · intro u hSu
    obtain ⟨q0, q1⟩ := (HT.out _ hSu.out).2
    have q2 := HXJ.out _ hSu.out
    go_simp
    first | done | with_reducible rfl
  (try simp only [Act.put, List.setIfInBounds_toArray, List.set_cons_zero, List.set_cons_succ])
  refine wpAnyH_take (i := 1) (oi := { dst := some 124, op := Op.move (Operand.tmp 13), type := 3, pos := "law.go:47", after := #[], guard := none }) (v := ?_) rfl (by kernel_rfl) (by kernel_rfl) (by kernel_rfl) (fun _ _ _ h => h) (Or.inl ⟨by rfl, ?_⟩) hHeld ?_
  rotate_left 1
  · intro u hSu
    obtain ⟨q0, q1⟩ := (HT.out _ hSu.out).2
    have q2 := HXJ.out _ hSu.out
    go_simp
    first | done | with_reducible rfl
  (try simp only [Act.put, List.setIfInBounds_toArray, List.set_cons_zero, List.set_cons_succ])
  refine wpAnyH_take (i := 2) (oi := { dst := some 125, op := Op.indexAddr 38 (Operand.tmp 123) (Operand.tmp 124), type := 0, pos := "law.go:47", after := #[{ on := 0, ground := Ground.data }, { on := 1, ground := Ground.data }], guard := none }) (v := ?_) rfl (by kernel_rfl) (by kernel_rfl) (by kernel_rfl) (fun _ _ _ h => h) (Or.inl ⟨by rfl, ?_⟩) hHeld ?_
  rotate_left 1
  · intro u hSu
    obtain ⟨q0, q1⟩ := (HT.out _ hSu.out).2
    have q2 := HXJ.out _ hSu.out
    go_simp
    first | done | with_reducible rfl
  (try simp only [Act.put, List.setIfInBounds_toArray, List.set_cons_zero, List.set_cons_succ])
  refine wpAnyH_take (i := 3) (oi := { dst := some 126, op := Op.load 26 (Operand.tmp 125), type := 26, pos := "law.go:47", after := #[{ on := 2, ground := Ground.data }], guard := none }) (v := ?_) rfl (by kernel_rfl) (by kernel_rfl) (by kernel_rfl) (fun _ _ _ h => h) (Or.inl ⟨by rfl, ?_⟩) hHeld ?_
  rotate_left 1
  · intro u hSu
    obtain ⟨q0, q1⟩ := (HT.out _ hSu.out).2
    have q2 := HXJ.out _ hSu.out
    go_simp
    first | done | with_reducible rfl
  (try simp only [Act.put, List.setIfInBounds_toArray, List.set_cons_zero, List.set_cons_succ])
  refine wpAnyH_take (i := 4) (oi := { dst := some 127, op := Op.move (Operand.tmp 15), type := 3, pos := "law.go:47", after := #[], guard := none }) (v := ?_) rfl (by kernel_rfl) (by kernel_rfl) (by kernel_rfl) (fun _ _ _ h => h) (Or.inl ⟨by rfl, ?_⟩) hHeld ?_
  rotate_left 1
  · intro u hSu
    obtain ⟨q0, q1⟩ := (HT.out _ hSu.out).2
    have q2 := HXJ.out _ hSu.out
    go_simp
    first | done | with_reducible rfl
  (try simp only [Act.put, List.setIfInBounds_toArray, List.set_cons_zero, List.set_cons_succ])
  refine wpAnyH_take (i := 5) (oi := { dst := some 128, op := Op.move (Operand.tmp 11), type := 22, pos := "law.go:47", after := #[], guard := none }) (v := ?_) rfl (by kernel_rfl) (by kernel_rfl) (by kernel_rfl) (fun _ _ _ h => h) (Or.inl ⟨by rfl, ?_⟩) hHeld ?_
  rotate_left 1
  · intro u hSu
    obtain ⟨q0, q1⟩ := (HT.out _ hSu.out).2
    have q2 := HXJ.out _ hSu.out
    go_simp
    first | done | with_reducible rfl
  (try simp only [Act.put, List.setIfInBounds_toArray, List.set_cons_zero, List.set_cons_succ])
  refine wpAnyH_take (i := 6) (oi := { dst := some 129, op := Op.move (Operand.tmp 16), type := 3, pos := "law.go:47", after := #[], guard := none }) (v := ?_) rfl (by kernel_rfl) (by kernel_rfl) (by kernel_rfl) (fun _ _ _ h => h) (Or.inl ⟨by rfl, ?_⟩) hHeld ?_
  rotate_left 1
  · intro u hSu
    obtain ⟨q0, q1⟩ := (HT.out _ hSu.out).2
    have q2 := HXJ.out _ hSu.out
    go_simp
    first | done | with_reducible rfl
  (try simp only [Act.put, List.setIfInBounds_toArray, List.set_cons_zero, List.set_cons_succ])
  refine wpAnyH_take (i := 7) (oi := { dst := some 130, op := Op.indexAddr 22 (Operand.tmp 128) (Operand.tmp 129), type := 0, pos := "law.go:47", after := #[{ on := 5, ground := Ground.data }, { on := 6, ground := Ground.data }], guard := none }) (v := ?_) rfl (by kernel_rfl) (by kernel_rfl) (by kernel_rfl) (fun _ _ _ h => h) (Or.inl ⟨by rfl, ?_⟩) hHeld ?_
  rotate_left 1
  · intro u hSu
    obtain ⟨q0, q1⟩ := (HT.out _ hSu.out).2
    have q2 := HXJ.out _ hSu.out
    go_simp
    first | done | with_reducible rfl
  (try simp only [Act.put, List.setIfInBounds_toArray, List.set_cons_zero, List.set_cons_succ])
  refine wpAnyH_take (i := 8) (oi := { dst := some 131, op := Op.load 3 (Operand.tmp 130), type := 3, pos := "law.go:47", after := #[{ on := 7, ground := Ground.data }], guard := none }) (v := ?_) rfl (by kernel_rfl) (by kernel_rfl) (by kernel_rfl) (fun _ _ _ h => h) (Or.inl ⟨by rfl, ?_⟩) hHeld ?_
  rotate_left 1
  · intro u hSu
    obtain ⟨q0, q1⟩ := (HT.out _ hSu.out).2
    have q2 := HXJ.out _ hSu.out
    go_simp
    first | done | with_reducible rfl
  (try simp only [Act.put, List.setIfInBounds_toArray, List.set_cons_zero, List.set_cons_succ])
  refine wpAnyH_ready (rs := [9]) (by kernel_rfl) (by simp) ?_
  refine AllReadyH.cons (o := { dst := some 132, op := Op.call { callee := Callee.value (Operand.func 28), args := #[Operand.tmp 126, Operand.tmp 127, Operand.tmp 131], argTypes := #[26, 3, 3] }, type := 42, pos := "law.go:47", after := #[{ on := 3, ground := Ground.data }, { on := 4, ground := Ground.data }, { on := 8, ground := Ground.data }], guard := none }) rfl (fun Kz hK => ?_) AllReadyH.nil
  go_simp
  go_at_call 28
  refine (rcostV_any T xk xj _ _ (HT.out _ hHeld.out).1).mono ?_
  rintro e w20 ⟨rfl, hg⟩
  refine hK.out _ _ (Lib.hid (hHeld.out.keep hg)) (fun hH2 => ?_)
  clear hK Kz hHeld
  have hHeld := hH2
  clear hH2
  (try simp only [Act.put, List.setIfInBounds_toArray, List.set_cons_zero, List.set_cons_succ])
  refine wpAnyH_take (i := 10) (oi := { dst := some 122, op := Op.move (Operand.tmp 132), type := 42, pos := "law.go:47", after := #[{ on := 9, ground := Ground.data }], guard := none }) (v := ?_) rfl (by kernel_rfl) (by kernel_rfl) (by kernel_rfl) (fun _ _ _ h => h) (Or.inl ⟨by rfl, ?_⟩) hHeld ?_
  rotate_left 1
  · intro u hSu
    obtain ⟨q0, q1⟩ := (HT.out _ hSu.out).2
    have q2 := HXJ.out _ hSu.out
    go_simp
    first | done | with_reducible rfl
  (try simp only [Act.put, List.setIfInBounds_toArray, List.set_cons_zero, List.set_cons_succ])
  refine wpAnyH_take (i := 11) (oi := { dst := some 133, op := Op.extract (Operand.tmp 122) 0, type := 3, pos := "law.go:47", after := #[{ on := 10, ground := Ground.data }], guard := none }) (v := ?_) rfl (by kernel_rfl) (by kernel_rfl) (by kernel_rfl) (fun _ _ _ h => h) (Or.inl ⟨by rfl, ?_⟩) hHeld ?_
  rotate_left 1
  · intro u hSu
    obtain ⟨q0, q1⟩ := (HT.out _ hSu.out).2
    have q2 := HXJ.out _ hSu.out
    go_simp
    first | done | with_reducible rfl
  (try simp only [Act.put, List.setIfInBounds_toArray, List.set_cons_zero, List.set_cons_succ])
  refine wpAnyH_take (i := 12) (oi := { dst := some 134, op := Op.extract (Operand.tmp 122) 1, type := 4, pos := "law.go:47", after := #[{ on := 10, ground := Ground.data }, { on := 13, ground := Ground.gcOnly Departure.lateStores }], guard := none }) (v := ?_) rfl (by kernel_rfl) (by kernel_rfl) (by kernel_rfl) (fun _ _ _ h => h) (Or.inl ⟨by rfl, ?_⟩) hHeld ?_
  rotate_left 1
  · intro u hSu
    obtain ⟨q0, q1⟩ := (HT.out _ hSu.out).2
    have q2 := HXJ.out _ hSu.out
    go_simp
    first | done | with_reducible rfl
  (try simp only [Act.put, List.setIfInBounds_toArray, List.set_cons_zero, List.set_cons_succ])
  refine wpAnyH_take (i := 13) (oi := { dst := some 19, op := Op.assign (Operand.tmp 133), type := 3, pos := "law.go:47", after := #[{ on := 11, ground := Ground.data }, { on := 9, ground := Ground.chain }, { on := 0, ground := Ground.phase }, { on := 1, ground := Ground.phase }, { on := 2, ground := Ground.phase }, { on := 3, ground := Ground.phase }, { on := 4, ground := Ground.phase }, { on := 5, ground := Ground.phase }, { on := 6, ground := Ground.phase }, { on := 7, ground := Ground.phase }, { on := 8, ground := Ground.phase }, { on := 9, ground := Ground.phase }, { on := 10, ground := Ground.phase }, { on := 11, ground := Ground.phase }, { on := 12, ground := Ground.textOnly Departure.lateStores }], guard := none }) (v := ?_) rfl (by kernel_rfl) (by kernel_rfl) (by kernel_rfl) (fun _ _ _ h => h) (Or.inl ⟨by rfl, ?_⟩) hHeld ?_
  rotate_left 1
  · intro u hSu
    obtain ⟨q0, q1⟩ := (HT.out _ hSu.out).2
    have q2 := HXJ.out _ hSu.out
    go_simp
    first | done | with_reducible rfl
  (try simp only [Act.put, List.setIfInBounds_toArray, List.set_cons_zero, List.set_cons_succ])
  refine wpAnyH_take (i := 14) (oi := { dst := some 20, op := Op.assign (Operand.tmp 134), type := 4, pos := "law.go:47", after := #[{ on := 12, ground := Ground.data }, { on := 13, ground := Ground.chain }, { on := 0, ground := Ground.phase }, { on := 1, ground := Ground.phase }, { on := 2, ground := Ground.phase }, { on := 3, ground := Ground.phase }, { on := 4, ground := Ground.phase }, { on := 5, ground := Ground.phase }, { on := 6, ground := Ground.phase }, { on := 7, ground := Ground.phase }, { on := 8, ground := Ground.phase }, { on := 9, ground := Ground.phase }, { on := 10, ground := Ground.phase }, { on := 11, ground := Ground.phase }, { on := 12, ground := Ground.phase }, { on := 13, ground := Ground.phase }], guard := none }) (v := ?_) rfl (by kernel_rfl) (by kernel_rfl) (by kernel_rfl) (fun _ _ _ h => h) (Or.inl ⟨by rfl, ?_⟩) hHeld ?_
  rotate_left 1
  · intro u hSu
    obtain ⟨q0, q1⟩ := (HT.out _ hSu.out).2
    have q2 := HXJ.out _ hSu.out
    go_simp
    first | done | with_reducible rfl
  (try simp only [Act.put, List.setIfInBounds_toArray, List.set_cons_zero, List.set_cons_succ])
  refine wpAnyH_done (by kernel_rfl) ?_ _
  have H20 := hHeld
  clear hHeld
  go_wp2_with fail
  exact ⟨⟨j + 1, by omega, congrArg _ (by omega), H20⟩, by simp only [intOf]; omega⟩
end Go.Proofs.Ytiencdgmnkphjaa
