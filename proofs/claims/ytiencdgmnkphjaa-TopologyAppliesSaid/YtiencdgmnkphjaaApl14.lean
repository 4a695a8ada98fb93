/- Parts of the proof, packed: ToChkLaw, ToApM. -/
import Derived.Test.YtiencdgmnkphjaaApl10
import Derived.Test.YtiencdgmnkphjaaApl5
import Derived.Test.YtiencdgmnkphjaaApl13
import Derived.Test.YtiencdgmnkphjaaApl2
import Derived.Test.YtiencdgmnkphjaaApl8
/- The law TopologyChecks. -/
namespace Go.Proofs.Ytiencdgmnkphjaa
open Go.RowKit Bs
theorem IntsIn.keepT {w w' : World} {v : Value} (h : IntsIn w v) (g : w.grownBy w' none) : IntsIn w' v := by
  obtain ⟨p, n, c, hv, h1, h2, hc⟩ := h
  refine ⟨p, n, c, hv, h1, h2, fun hn => ?_⟩
  obtain ⟨b, off, hp, hb, hx⟩ := hc hn
  refine ⟨b, off, hp, Nat.lt_of_lt_of_le hb g.size, fun i hi => ?_⟩
  obtain ⟨x, hx1, hcell⟩ := hx i hi
  exact ⟨x, hx1, g.cell hcell (by simp)⟩
/-- More than a law looks at. -/
def tbig (R : List Rt) (L : List Lk) : Bool := decide (100 < R.length) || decide (200 < L.length)
set_option maxRecDepth 100000 in
set_option maxHeartbeats 1600000 in
theorem big_any (T : Tg) (w : World) :
    Calls Try.prog 15 #[.agg #[.slice T.pR T.R.length T.cR, .slice T.pL T.L.length T.cL]] w fun e w' => e = .returned (.bool (tbig T.R T.L)) ∧ w.grownBy w' none := by
  obtain ⟨R, L, pR, cR, pL, cL⟩ := T
  simp only
  obtain ⟨k1, k2⟩ := tone_box w #[.slice pR R.length cR, .slice pL L.length cL] 26
  have HB := Lib.hid (And.intro k1 k2)
  clear k1 k2
  obtain ⟨z, hz⟩ : ∃ z, tbig R L = z := ⟨_, rfl⟩
  rw [hz]
  have HZ := Lib.hid hz
  clear hz
  go_enter Try.func15, Try.ntmps15
  go_upto_region 1 with fail
  generalize w.alloc _ = wa at *
  obtain ⟨c0, c1⟩ := row_cells HB.out.1
  by_cases h1 : 100 < R.length
  · obtain rfl : true = z := by have := HZ.out; unfold tbig at this; rw [decide_eq_true h1] at this; simpa using this
    have h1' : decide ((100 : Int) < (R.length : Int)) = true := decide_eq_true (by omega)
    go_wp2_with fail
    go_ret
    exact ⟨rfl, HB.out.2⟩
  · obtain rfl : decide (200 < L.length) = z := by have := HZ.out; unfold tbig at this; rw [decide_eq_false h1] at this; simpa using this
    have h1' : decide ((100 : Int) < (R.length : Int)) = false := decide_eq_false (by omega)
    have h2' : decide ((200 : Int) < (L.length : Int)) = decide (200 < L.length) := by congr 1; exact propext (by omega)
    go_wp2_with fail
    go_ret
    first | exact ⟨rfl, HB.out.2⟩ | exact ⟨by rw [h2'], HB.out.2⟩ | exact ⟨by congr 2, HB.out.2⟩ | (refine ⟨?_, HB.out.2⟩; simp; done) | (refine ⟨?_, HB.out.2⟩; simp; omega)
theorem tg_all {w : World} {q : Nat → Prop} {T : Tg} (h : TgOk w q T) : TgOk w (fun _ => True) T := h.mono (fun _ _ => trivial)
/-- A topology of the tape's as the laws take it. -/
theorem topo_tg (a most : Nat) (n : Int) (hm1 : 1 ≤ most) (hm8 : most ≤ 8) (hn : I64 n) (w : World) (hT : Tp w a) :
    Calls Try.prog 12 #[.pointer (some ⟨a, 0, none⟩), .int .i64 (most : Int), .int .i64 n] w fun e w' => ∃ T : Tg, e = .returned (.agg #[.slice T.pR T.R.length T.cR, .slice T.pL T.L.length T.cL]) ∧ TgOk w' (fun b => w.heap.size ≤ b ∧ b < w'.heap.size) T ∧ TopOf most n T.R T.L ∧ St a w w' := by
  refine (topo_any a most n hm1 hm8 hn w hT).mono ?_
  rintro e w' ⟨R, L, vR, vL, rfl, hR, hL, _, hO, hs⟩
  obtain ⟨pR, cR, pL, cL, rfl, rfl, hT⟩ := tg_of_own hR hL
  exact ⟨⟨R, L, pR, cR, pL, cL⟩, rfl, hT, hO, hs⟩
set_option maxRecDepth 100000 in
set_option maxHeartbeats 6400000 in
theorem tchecks_walk (v : Value) (T : Tg) (w : World) (hv : IntsIn w v) (hT : TgOk w (· < w.heap.size) T) :
    Calls Try.prog 3 #[v, .agg #[.slice T.pR T.R.length T.cR, .slice T.pL T.L.length T.cL]] w fun e w' => e = .returned (.bool true) ∧ w.grownBy w' none := by
  obtain ⟨k1, k2⟩ := tone_box w #[.slice T.pR T.R.length T.cR, .slice T.pL T.L.length T.cL] 26
  have HB := Lib.hid (And.intro k1 (And.intro k2 (hT.keep k2)))
  have HV := Lib.hid (hv.keepT k2)
  have hws : w.heap.size < (w.alloc (.cells #[.slice T.pR T.R.length T.cR, .slice T.pL T.L.length T.cL] 26)).heap.size := by simp
  clear k1 k2 hT hv
  go_enter Try.func3, Try.ntmps3
  go_upto_region 1 with fail
  generalize w.alloc _ = wa at *
  go_wp2_with fail
  refine (new_any v wa HV.out).mono ?_
  rintro e w2 ⟨rfl, hg1, hT1⟩
  have H2 := Lib.hid (And.intro hg1 hT1)
  obtain ⟨a, ha⟩ : ∃ a, a = wa.heap.size := ⟨_, rfl⟩
  rw [← ha] at H2
  have HA := Lib.hid ha
  clear hg1 hT1 HV
  rw [← HA.out]
  clear ha
  go_wp2_with fail
  refine (topo_tg a 7 2 (by decide) (by decide) (by unfold I64; omega) w2 H2.out.2).mono ?_
  rintro e w3 ⟨TA, rfl, hA, -, hs3⟩
  have H3 := Lib.hid (And.intro hA hs3)
  clear hA hs3
  go_wp2_with fail
  refine (topo_tg a 7 1 (by decide) (by decide) (by unfold I64; omega) w3 H3.out.2.2).mono ?_
  rintro e w4 ⟨TB, rfl, hB, -, hs4⟩
  have H4 := Lib.hid (And.intro hB hs4)
  clear hB hs4
  obtain ⟨wb, hwb, b1, b2, b3⟩ : ∃ wb, wb = (w4.alloc (.cells #[.slice TA.pR TA.R.length TA.cR, .slice TA.pL TA.L.length TA.cL] 26)).alloc (.cells #[.slice TB.pR TB.R.length TB.cR, .slice TB.pL TB.L.length TB.cL] 26) ∧ wb.heap[w4.heap.size]? = some (.cells #[.slice TA.pR TA.R.length TA.cR, .slice TA.pL TA.L.length TA.cL] 26 (0, 0)) ∧ wb.heap[w4.heap.size + 1]? = some (.cells #[.slice TB.pR TB.R.length TB.cR, .slice TB.pL TB.L.length TB.cL] 26 (0, 0)) ∧ w4.grownBy wb none := by
    obtain ⟨k1, k2, k3, _⟩ := two_boxes w4 #[.slice TA.pR TA.R.length TA.cR, .slice TA.pL TA.L.length TA.cL] #[.slice TB.pR TB.R.length TB.cR, .slice TB.pL TB.L.length TB.cL] 26 26
    exact ⟨_, rfl, k1, k2, k3⟩
  have hat : wa.heap.size = a := HA.out.symm
  have G : Hid ((wb.heap[w.heap.size]? = some (.cells #[.slice T.pR T.R.length T.cR, .slice T.pL T.L.length T.cL] 26 (0, 0)) ∧ wb.heap[w4.heap.size]? = some (.cells #[.slice TA.pR TA.R.length TA.cR, .slice TA.pL TA.L.length TA.cL] 26 (0, 0)) ∧ wb.heap[w4.heap.size + 1]? = some (.cells #[.slice TB.pR TB.R.length TB.cR, .slice TB.pL TB.L.length TB.cL] 26 (0, 0))) ∧
      (TgOk wb (fun _ => True) T ∧ TgOk wb (fun _ => True) TA ∧ TgOk wb (fun _ => True) TB) ∧ w.grownBy wb none) := by
    have g3 := H3.out.2.1
    have g4 := H4.out.2.1
    have g34 := grown_trans g3 g4
    have haw : ∀ b, b < wa.heap.size → some b ≠ some a := fun b hb e => by have := Option.some.inj e; omega
    have gw : wa.grownBy w4 none := grown_tape H2.out.1 (hat ▸ g34)
    have gw2 : wa.grownBy wb none := grown_trans gw b3
    have ha2 : a < w2.heap.size := H2.out.2.lt
    have ha3 : a < w3.heap.size := Nat.lt_of_lt_of_le ha2 g3.size
    refine Lib.hid ⟨⟨kept_row HB.out.1 gw2 (by simp), b1, b2⟩, ⟨tg_all (HB.out.2.2.keep gw2), tg_all ((H3.out.1.grown g4 (fun b hb e => by have := Option.some.inj e; omega)).keep b3), tg_all (H4.out.1.keep b3)⟩, grown_trans HB.out.2.1 gw2⟩
  clear b1 b2 b3 H3 H4 H2 HB
  go_upto_region 3 with fail
  rw [← hwb]
  clear hwb
  obtain ⟨R, L, pR, cR, pL, cL⟩ := T
  obtain ⟨RA, LA, pRA, cRA, pLA, cLA⟩ := TA
  obtain ⟨RB, LB, pRB, cRB, pLB, cLB⟩ := TB
  obtain ⟨X, hX⟩ : ∃ X, X = chk R L := ⟨_, rfl⟩
  obtain ⟨XA, hXA⟩ : ∃ X, X = chk RA LA := ⟨_, rfl⟩
  obtain ⟨XB, hXB⟩ : ∃ X, X = chk RB LB := ⟨_, rfl⟩
  have HX := Lib.hid (And.intro hX (And.intro hXA hXB))
  clear hX hXA hXB
  cases hbg : tbig R L
  · skip
    refine wp_region_held_drew (S := fun w' => Hid (wb.grownBy w' none)) (by kernel_rfl) (Lib.hid (grown_drew (grown_refl _ _))) (fun hHeld => ?_)
    refine wpAnyH_take (i := 0) (oi := { dst := some 14, op := Op.load 26 (Operand.tmp 6), type := 26, pos := "law.go:30", after := #[], guard := none }) (v := ?_) rfl (by kernel_rfl) (by kernel_rfl) (by kernel_rfl) (fun _ _ _ h => h) (Or.inl ⟨by rfl, ?_⟩) hHeld ?_
    rotate_left 1
    · intro u hSu
      obtain ⟨z0, z1⟩ := row_cells (kept_row G.out.1.1 hSu.out (by simp))
      obtain ⟨z2, z3⟩ := row_cells (kept_row G.out.1.2.1 hSu.out (by simp))
      obtain ⟨z4, z5⟩ := row_cells (kept_row G.out.1.2.2 hSu.out (by simp))
      go_simp
      first | done | with_reducible rfl
    (try simp only [Act.put, List.setIfInBounds_toArray, List.set_cons_zero, List.set_cons_succ])
    refine wpAnyH_take (i := 2) (oi := { dst := some 16, op := Op.load 26 (Operand.tmp 6), type := 26, pos := "law.go:30", after := #[], guard := none }) (v := ?_) rfl (by kernel_rfl) (by kernel_rfl) (by kernel_rfl) (fun _ _ _ h => h) (Or.inl ⟨by rfl, ?_⟩) hHeld ?_
    rotate_left 1
    · intro u hSu
      obtain ⟨z0, z1⟩ := row_cells (kept_row G.out.1.1 hSu.out (by simp))
      obtain ⟨z2, z3⟩ := row_cells (kept_row G.out.1.2.1 hSu.out (by simp))
      obtain ⟨z4, z5⟩ := row_cells (kept_row G.out.1.2.2 hSu.out (by simp))
      go_simp
      first | done | with_reducible rfl
    (try simp only [Act.put, List.setIfInBounds_toArray, List.set_cons_zero, List.set_cons_succ])
    refine wpAnyH_ready (rs := [1]) (by kernel_rfl) (by simp) ?_
    refine AllReadyH.cons (o := { dst := some 15, op := Op.call { callee := Callee.value (Operand.func 13), args := #[Operand.tmp 14], argTypes := #[26] }, type := 30, pos := "law.go:30", after := #[{ on := 0, ground := Ground.data }], guard := none }) rfl (fun K hK => ?_) AllReadyH.nil
    go_simp
    go_at_call 13
    refine (tcheck_any ⟨RA, LA, pRA, cRA, pLA, cLA⟩ _ _ (G.out.2.1.2.1.keep hHeld.out)).mono ?_
    rintro e w5 ⟨rfl, hg⟩
    simp only
    rw [← HX.out.2.1]
    refine hK.out _ _ (Lib.hid (grown_trans hHeld.out hg)) (fun hH2 => ?_)
    clear hK K hHeld
    have hHeld := hH2
    clear hH2
    (try simp only [Act.put, List.setIfInBounds_toArray, List.set_cons_zero, List.set_cons_succ])
    refine wpAnyH_ready (rs := [3]) (by kernel_rfl) (by simp) ?_
    refine AllReadyH.cons (o := { dst := some 17, op := Op.call { callee := Callee.value (Operand.func 14), args := #[Operand.tmp 16], argTypes := #[26] }, type := 30, pos := "law.go:30", after := #[{ on := 2, ground := Ground.data }, { on := 1, ground := Ground.chain }], guard := none }) rfl (fun K hK => ?_) AllReadyH.nil
    go_simp
    go_at_call 14
    refine (rcheck_any ⟨RA, LA, pRA, cRA, pLA, cLA⟩ _ _ (G.out.2.1.2.1.keep hHeld.out)).mono ?_
    rintro e w5 ⟨rfl, hg⟩
    simp only
    rw [← HX.out.2.1]
    refine hK.out _ _ (Lib.hid (grown_trans hHeld.out hg)) (fun hH2 => ?_)
    clear hK K hHeld
    have hHeld := hH2
    clear hH2
    (try simp only [Act.put, List.setIfInBounds_toArray, List.set_cons_zero, List.set_cons_succ])
    refine wpAnyH_take (i := 4) (oi := { dst := some 18, op := Op.binOp BinOp.eql 30 (Operand.tmp 15) (Operand.tmp 17) 30, type := 4, pos := "law.go:30", after := #[{ on := 1, ground := Ground.data }, { on := 3, ground := Ground.data }], guard := none }) (v := (.bool true)) rfl (by kernel_rfl) (by kernel_rfl) (by kernel_rfl) (fun _ _ _ h => h) (Or.inl ⟨by rfl, ?_⟩) hHeld ?_
    · intro u hSu
      obtain ⟨z0, z1⟩ := row_cells (kept_row G.out.1.1 hSu.out (by simp))
      obtain ⟨z2, z3⟩ := row_cells (kept_row G.out.1.2.1 hSu.out (by simp))
      obtain ⟨z4, z5⟩ := row_cells (kept_row G.out.1.2.2 hSu.out (by simp))
      go_simp
      first | done | with_reducible rfl | (simp; done)
    (try simp only [Act.put, List.setIfInBounds_toArray, List.set_cons_zero, List.set_cons_succ])
    refine wpAnyH_take (i := 5) (oi := { dst := some 19, op := Op.move (Operand.tmp 18), type := 4, pos := "law.go:30", after := #[{ on := 4, ground := Ground.data }, { on := 3, ground := Ground.chain }], guard := none }) (v := (.bool true)) rfl (by kernel_rfl) (by kernel_rfl) (by kernel_rfl) (fun _ _ _ h => h) (Or.inl ⟨by rfl, ?_⟩) hHeld ?_
    · intro u hSu
      obtain ⟨z0, z1⟩ := row_cells (kept_row G.out.1.1 hSu.out (by simp))
      obtain ⟨z2, z3⟩ := row_cells (kept_row G.out.1.2.1 hSu.out (by simp))
      obtain ⟨z4, z5⟩ := row_cells (kept_row G.out.1.2.2 hSu.out (by simp))
      go_simp
      first | done | with_reducible rfl | (simp; done)
    (try simp only [Act.put, List.setIfInBounds_toArray, List.set_cons_zero, List.set_cons_succ])
    refine wpAnyH_take (i := 6) (oi := { dst := some 20, op := Op.load 26 (Operand.tmp 7), type := 26, pos := "law.go:30", after := #[{ on := 5, ground := Ground.guard }], guard := some (5, true) }) (v := ?_) rfl (by kernel_rfl) (by kernel_rfl) (by kernel_rfl) (fun _ _ _ h => h) (Or.inl ⟨by rfl, ?_⟩) hHeld ?_
    rotate_left 1
    · intro u hSu
      obtain ⟨z0, z1⟩ := row_cells (kept_row G.out.1.1 hSu.out (by simp))
      obtain ⟨z2, z3⟩ := row_cells (kept_row G.out.1.2.1 hSu.out (by simp))
      obtain ⟨z4, z5⟩ := row_cells (kept_row G.out.1.2.2 hSu.out (by simp))
      go_simp
      first | done | with_reducible rfl
    (try simp only [Act.put, List.setIfInBounds_toArray, List.set_cons_zero, List.set_cons_succ])
    refine wpAnyH_take (i := 8) (oi := { dst := some 22, op := Op.load 26 (Operand.tmp 7), type := 26, pos := "law.go:30", after := #[{ on := 5, ground := Ground.guard }], guard := some (5, true) }) (v := ?_) rfl (by kernel_rfl) (by kernel_rfl) (by kernel_rfl) (fun _ _ _ h => h) (Or.inl ⟨by rfl, ?_⟩) hHeld ?_
    rotate_left 1
    · intro u hSu
      obtain ⟨z0, z1⟩ := row_cells (kept_row G.out.1.1 hSu.out (by simp))
      obtain ⟨z2, z3⟩ := row_cells (kept_row G.out.1.2.1 hSu.out (by simp))
      obtain ⟨z4, z5⟩ := row_cells (kept_row G.out.1.2.2 hSu.out (by simp))
      go_simp
      first | done | with_reducible rfl
    (try simp only [Act.put, List.setIfInBounds_toArray, List.set_cons_zero, List.set_cons_succ])
    refine wpAnyH_ready (rs := [7]) (by kernel_rfl) (by simp) ?_
    refine AllReadyH.cons (o := { dst := some 21, op := Op.call { callee := Callee.value (Operand.func 13), args := #[Operand.tmp 20], argTypes := #[26] }, type := 30, pos := "law.go:30", after := #[{ on := 6, ground := Ground.data }, { on := 5, ground := Ground.chain }, { on := 5, ground := Ground.guard }], guard := some (5, true) }) rfl (fun K hK => ?_) AllReadyH.nil
    go_simp
    go_at_call 13
    refine (tcheck_any ⟨RB, LB, pRB, cRB, pLB, cLB⟩ _ _ (G.out.2.1.2.2.keep hHeld.out)).mono ?_
    rintro e w5 ⟨rfl, hg⟩
    simp only
    rw [← HX.out.2.2]
    refine hK.out _ _ (Lib.hid (grown_trans hHeld.out hg)) (fun hH2 => ?_)
    clear hK K hHeld
    have hHeld := hH2
    clear hH2
    (try simp only [Act.put, List.setIfInBounds_toArray, List.set_cons_zero, List.set_cons_succ])
    refine wpAnyH_ready (rs := [9]) (by kernel_rfl) (by simp) ?_
    refine AllReadyH.cons (o := { dst := some 23, op := Op.call { callee := Callee.value (Operand.func 14), args := #[Operand.tmp 22], argTypes := #[26] }, type := 30, pos := "law.go:30", after := #[{ on := 8, ground := Ground.data }, { on := 7, ground := Ground.chain }, { on := 5, ground := Ground.guard }], guard := some (5, true) }) rfl (fun K hK => ?_) AllReadyH.nil
    go_simp
    go_at_call 14
    refine (rcheck_any ⟨RB, LB, pRB, cRB, pLB, cLB⟩ _ _ (G.out.2.1.2.2.keep hHeld.out)).mono ?_
    rintro e w5 ⟨rfl, hg⟩
    simp only
    rw [← HX.out.2.2]
    refine hK.out _ _ (Lib.hid (grown_trans hHeld.out hg)) (fun hH2 => ?_)
    clear hK K hHeld
    have hHeld := hH2
    clear hH2
    (try simp only [Act.put, List.setIfInBounds_toArray, List.set_cons_zero, List.set_cons_succ])
    refine wpAnyH_take (i := 10) (oi := { dst := some 24, op := Op.binOp BinOp.eql 30 (Operand.tmp 21) (Operand.tmp 23) 30, type := 4, pos := "law.go:30", after := #[{ on := 7, ground := Ground.data }, { on := 9, ground := Ground.data }, { on := 5, ground := Ground.guard }], guard := some (5, true) }) (v := (.bool true)) rfl (by kernel_rfl) (by kernel_rfl) (by kernel_rfl) (fun _ _ _ h => h) (Or.inl ⟨by rfl, ?_⟩) hHeld ?_
    · intro u hSu
      obtain ⟨z0, z1⟩ := row_cells (kept_row G.out.1.1 hSu.out (by simp))
      obtain ⟨z2, z3⟩ := row_cells (kept_row G.out.1.2.1 hSu.out (by simp))
      obtain ⟨z4, z5⟩ := row_cells (kept_row G.out.1.2.2 hSu.out (by simp))
      go_simp
      first | done | with_reducible rfl | (simp; done)
    (try simp only [Act.put, List.setIfInBounds_toArray, List.set_cons_zero, List.set_cons_succ])
    refine wpAnyH_take (i := 11) (oi := { dst := some 25, op := Op.pick (Operand.tmp 19) (Operand.tmp 24) (Operand.const (Value.bool false)), type := 4, pos := "law.go:30", after := #[{ on := 5, ground := Ground.data }, { on := 10, ground := Ground.data }], guard := none }) (v := (.bool true)) rfl (by kernel_rfl) (by kernel_rfl) (by kernel_rfl) (fun _ _ _ h => h) (Or.inl ⟨by rfl, ?_⟩) hHeld ?_
    · intro u hSu
      obtain ⟨z0, z1⟩ := row_cells (kept_row G.out.1.1 hSu.out (by simp))
      obtain ⟨z2, z3⟩ := row_cells (kept_row G.out.1.2.1 hSu.out (by simp))
      obtain ⟨z4, z5⟩ := row_cells (kept_row G.out.1.2.2 hSu.out (by simp))
      go_simp
      first | done | with_reducible rfl | (simp; done)
    (try simp only [Act.put, List.setIfInBounds_toArray, List.set_cons_zero, List.set_cons_succ])
    refine wpAnyH_take (i := 12) (oi := { dst := some 26, op := Op.move (Operand.tmp 25), type := 4, pos := "law.go:30", after := #[{ on := 11, ground := Ground.data }, { on := 9, ground := Ground.chain }], guard := none }) (v := (.bool true)) rfl (by kernel_rfl) (by kernel_rfl) (by kernel_rfl) (fun _ _ _ h => h) (Or.inl ⟨by rfl, ?_⟩) hHeld ?_
    · intro u hSu
      obtain ⟨z0, z1⟩ := row_cells (kept_row G.out.1.1 hSu.out (by simp))
      obtain ⟨z2, z3⟩ := row_cells (kept_row G.out.1.2.1 hSu.out (by simp))
      obtain ⟨z4, z5⟩ := row_cells (kept_row G.out.1.2.2 hSu.out (by simp))
      go_simp
      first | done | with_reducible rfl | (simp; done)
    (try simp only [Act.put, List.setIfInBounds_toArray, List.set_cons_zero, List.set_cons_succ])
    refine wpAnyH_take (i := 13) (oi := { dst := some 27, op := Op.load 26 (Operand.tmp 3), type := 26, pos := "law.go:30", after := #[{ on := 12, ground := Ground.guard }], guard := some (12, true) }) (v := ?_) rfl (by kernel_rfl) (by kernel_rfl) (by kernel_rfl) (fun _ _ _ h => h) (Or.inl ⟨by rfl, ?_⟩) hHeld ?_
    rotate_left 1
    · intro u hSu
      obtain ⟨z0, z1⟩ := row_cells (kept_row G.out.1.1 hSu.out (by simp))
      obtain ⟨z2, z3⟩ := row_cells (kept_row G.out.1.2.1 hSu.out (by simp))
      obtain ⟨z4, z5⟩ := row_cells (kept_row G.out.1.2.2 hSu.out (by simp))
      go_simp
      first | done | with_reducible rfl
    (try simp only [Act.put, List.setIfInBounds_toArray, List.set_cons_zero, List.set_cons_succ])
    refine wpAnyH_ready (rs := [14]) (by kernel_rfl) (by simp) ?_
    refine AllReadyH.cons (o := { dst := some 28, op := Op.call { callee := Callee.value (Operand.func 15), args := #[Operand.tmp 27], argTypes := #[26] }, type := 4, pos := "law.go:30", after := #[{ on := 13, ground := Ground.data }, { on := 12, ground := Ground.chain }, { on := 12, ground := Ground.guard }], guard := some (12, true) }) rfl (fun K hK => ?_) AllReadyH.nil
    go_simp
    go_at_call 15
    refine (big_any ⟨R, L, pR, cR, pL, cL⟩ _).mono ?_
    rintro e w5 ⟨rfl, hg⟩
    simp only
    rw [hbg]
    refine hK.out _ _ (Lib.hid (grown_trans hHeld.out hg)) (fun hH2 => ?_)
    clear hK K hHeld
    have hHeld := hH2
    clear hH2
    (try simp only [Act.put, List.setIfInBounds_toArray, List.set_cons_zero, List.set_cons_succ])
    refine wpAnyH_take (i := 15) (oi := { dst := some 29, op := Op.move (Operand.tmp 28), type := 4, pos := "law.go:30", after := #[{ on := 14, ground := Ground.data }, { on := 14, ground := Ground.chain }, { on := 12, ground := Ground.guard }], guard := some (12, true) }) (v := ?_) rfl (by kernel_rfl) (by kernel_rfl) (by kernel_rfl) (fun _ _ _ h => h) (Or.inl ⟨by rfl, ?_⟩) hHeld ?_
    rotate_left 1
    · intro u hSu
      obtain ⟨z0, z1⟩ := row_cells (kept_row G.out.1.1 hSu.out (by simp))
      obtain ⟨z2, z3⟩ := row_cells (kept_row G.out.1.2.1 hSu.out (by simp))
      obtain ⟨z4, z5⟩ := row_cells (kept_row G.out.1.2.2 hSu.out (by simp))
      go_simp
      first | done | with_reducible rfl
    (try simp only [Act.put, List.setIfInBounds_toArray, List.set_cons_zero, List.set_cons_succ])
    refine wpAnyH_take (i := 16) (oi := { dst := some 30, op := Op.load 26 (Operand.tmp 3), type := 26, pos := "law.go:30", after := #[{ on := 15, ground := Ground.guard }], guard := some (15, false) }) (v := ?_) rfl (by kernel_rfl) (by kernel_rfl) (by kernel_rfl) (fun _ _ _ h => h) (Or.inl ⟨by rfl, ?_⟩) hHeld ?_
    rotate_left 1
    · intro u hSu
      obtain ⟨z0, z1⟩ := row_cells (kept_row G.out.1.1 hSu.out (by simp))
      obtain ⟨z2, z3⟩ := row_cells (kept_row G.out.1.2.1 hSu.out (by simp))
      obtain ⟨z4, z5⟩ := row_cells (kept_row G.out.1.2.2 hSu.out (by simp))
      go_simp
      first | done | with_reducible rfl
    (try simp only [Act.put, List.setIfInBounds_toArray, List.set_cons_zero, List.set_cons_succ])
    refine wpAnyH_take (i := 18) (oi := { dst := some 32, op := Op.load 26 (Operand.tmp 3), type := 26, pos := "law.go:30", after := #[{ on := 15, ground := Ground.guard }], guard := some (15, false) }) (v := ?_) rfl (by kernel_rfl) (by kernel_rfl) (by kernel_rfl) (fun _ _ _ h => h) (Or.inl ⟨by rfl, ?_⟩) hHeld ?_
    rotate_left 1
    · intro u hSu
      obtain ⟨z0, z1⟩ := row_cells (kept_row G.out.1.1 hSu.out (by simp))
      obtain ⟨z2, z3⟩ := row_cells (kept_row G.out.1.2.1 hSu.out (by simp))
      obtain ⟨z4, z5⟩ := row_cells (kept_row G.out.1.2.2 hSu.out (by simp))
      go_simp
      first | done | with_reducible rfl
    (try simp only [Act.put, List.setIfInBounds_toArray, List.set_cons_zero, List.set_cons_succ])
    refine wpAnyH_ready (rs := [17]) (by kernel_rfl) (by simp) ?_
    refine AllReadyH.cons (o := { dst := some 31, op := Op.call { callee := Callee.value (Operand.func 13), args := #[Operand.tmp 30], argTypes := #[26] }, type := 30, pos := "law.go:30", after := #[{ on := 16, ground := Ground.data }, { on := 15, ground := Ground.chain }, { on := 15, ground := Ground.guard }], guard := some (15, false) }) rfl (fun K hK => ?_) AllReadyH.nil
    go_simp
    go_at_call 13
    refine (tcheck_any ⟨R, L, pR, cR, pL, cL⟩ _ _ (G.out.2.1.1.keep hHeld.out)).mono ?_
    rintro e w5 ⟨rfl, hg⟩
    simp only
    rw [← HX.out.1]
    refine hK.out _ _ (Lib.hid (grown_trans hHeld.out hg)) (fun hH2 => ?_)
    clear hK K hHeld
    have hHeld := hH2
    clear hH2
    (try simp only [Act.put, List.setIfInBounds_toArray, List.set_cons_zero, List.set_cons_succ])
    refine wpAnyH_ready (rs := [19]) (by kernel_rfl) (by simp) ?_
    refine AllReadyH.cons (o := { dst := some 33, op := Op.call { callee := Callee.value (Operand.func 14), args := #[Operand.tmp 32], argTypes := #[26] }, type := 30, pos := "law.go:30", after := #[{ on := 18, ground := Ground.data }, { on := 17, ground := Ground.chain }, { on := 15, ground := Ground.guard }], guard := some (15, false) }) rfl (fun K hK => ?_) AllReadyH.nil
    go_simp
    go_at_call 14
    refine (rcheck_any ⟨R, L, pR, cR, pL, cL⟩ _ _ (G.out.2.1.1.keep hHeld.out)).mono ?_
    rintro e w5 ⟨rfl, hg⟩
    simp only
    rw [← HX.out.1]
    refine hK.out _ _ (Lib.hid (grown_trans hHeld.out hg)) (fun hH2 => ?_)
    clear hK K hHeld
    have hHeld := hH2
    clear hH2
    (try simp only [Act.put, List.setIfInBounds_toArray, List.set_cons_zero, List.set_cons_succ])
    refine wpAnyH_take (i := 20) (oi := { dst := some 34, op := Op.binOp BinOp.eql 30 (Operand.tmp 31) (Operand.tmp 33) 30, type := 4, pos := "law.go:30", after := #[{ on := 17, ground := Ground.data }, { on := 19, ground := Ground.data }, { on := 15, ground := Ground.guard }], guard := some (15, false) }) (v := (.bool true)) rfl (by kernel_rfl) (by kernel_rfl) (by kernel_rfl) (fun _ _ _ h => h) (Or.inl ⟨by rfl, ?_⟩) hHeld ?_
    · intro u hSu
      obtain ⟨z0, z1⟩ := row_cells (kept_row G.out.1.1 hSu.out (by simp))
      obtain ⟨z2, z3⟩ := row_cells (kept_row G.out.1.2.1 hSu.out (by simp))
      obtain ⟨z4, z5⟩ := row_cells (kept_row G.out.1.2.2 hSu.out (by simp))
      go_simp
      first | done | with_reducible rfl | (simp; done)
    (try simp only [Act.put, List.setIfInBounds_toArray, List.set_cons_zero, List.set_cons_succ])
    refine wpAnyH_take (i := 21) (oi := { dst := some 35, op := Op.pick (Operand.tmp 29) (Operand.const (Value.bool true)) (Operand.tmp 34), type := 4, pos := "law.go:30", after := #[{ on := 15, ground := Ground.data }, { on := 20, ground := Ground.data }, { on := 12, ground := Ground.guard }], guard := some (12, true) }) (v := (.bool true)) rfl (by kernel_rfl) (by kernel_rfl) (by kernel_rfl) (fun _ _ _ h => h) (Or.inl ⟨by rfl, ?_⟩) hHeld ?_
    · intro u hSu
      obtain ⟨z0, z1⟩ := row_cells (kept_row G.out.1.1 hSu.out (by simp))
      obtain ⟨z2, z3⟩ := row_cells (kept_row G.out.1.2.1 hSu.out (by simp))
      obtain ⟨z4, z5⟩ := row_cells (kept_row G.out.1.2.2 hSu.out (by simp))
      go_simp
      first | done | with_reducible rfl | (simp; done)
    (try simp only [Act.put, List.setIfInBounds_toArray, List.set_cons_zero, List.set_cons_succ])
    refine wpAnyH_take (i := 22) (oi := { dst := some 36, op := Op.pick (Operand.tmp 26) (Operand.tmp 35) (Operand.const (Value.bool false)), type := 4, pos := "law.go:30", after := #[{ on := 12, ground := Ground.data }, { on := 21, ground := Ground.data }], guard := none }) (v := (.bool true)) rfl (by kernel_rfl) (by kernel_rfl) (by kernel_rfl) (fun _ _ _ h => h) (Or.inl ⟨by rfl, ?_⟩) hHeld ?_
    · intro u hSu
      obtain ⟨z0, z1⟩ := row_cells (kept_row G.out.1.1 hSu.out (by simp))
      obtain ⟨z2, z3⟩ := row_cells (kept_row G.out.1.2.1 hSu.out (by simp))
      obtain ⟨z4, z5⟩ := row_cells (kept_row G.out.1.2.2 hSu.out (by simp))
      go_simp
      first | done | with_reducible rfl | (simp; done)
    (try simp only [Act.put, List.setIfInBounds_toArray, List.set_cons_zero, List.set_cons_succ])
    refine wpAnyH_take (i := 23) (oi := { dst := some 37, op := Op.move (Operand.tmp 36), type := 4, pos := "law.go:30", after := #[{ on := 22, ground := Ground.data }, { on := 19, ground := Ground.chain }], guard := none }) (v := (.bool true)) rfl (by kernel_rfl) (by kernel_rfl) (by kernel_rfl) (fun _ _ _ h => h) (Or.inl ⟨by rfl, ?_⟩) hHeld ?_
    · intro u hSu
      obtain ⟨z0, z1⟩ := row_cells (kept_row G.out.1.1 hSu.out (by simp))
      obtain ⟨z2, z3⟩ := row_cells (kept_row G.out.1.2.1 hSu.out (by simp))
      obtain ⟨z4, z5⟩ := row_cells (kept_row G.out.1.2.2 hSu.out (by simp))
      go_simp
      first | done | with_reducible rfl | (simp; done)
    (try simp only [Act.put, List.setIfInBounds_toArray, List.set_cons_zero, List.set_cons_succ])
    refine wpAnyH_ready (rs := [24]) (by kernel_rfl) (by simp) ?_
    refine AllReadyH.cons (o := { dst := some 38, op := Op.call { callee := Callee.value (Operand.func 16), args := #[], argTypes := #[] }, type := 4, pos := "law.go:30", after := #[{ on := 23, ground := Ground.chain }, { on := 23, ground := Ground.guard }], guard := some (23, true) }) rfl (fun K hK => ?_) AllReadyH.nil
    go_simp
    go_at_call 16
    refine (tawake_any _).mono ?_
    rintro e w5 ⟨rfl, hg⟩
    refine hK.out _ _ (Lib.hid (grown_trans hHeld.out hg)) (fun hH2 => ?_)
    clear hK K hHeld
    have hHeld := hH2
    clear hH2
    (try simp only [Act.put, List.setIfInBounds_toArray, List.set_cons_zero, List.set_cons_succ])
    refine wpAnyH_take (i := 25) (oi := { dst := some 39, op := Op.pick (Operand.tmp 37) (Operand.tmp 38) (Operand.const (Value.bool false)), type := 4, pos := "law.go:30", after := #[{ on := 23, ground := Ground.data }, { on := 24, ground := Ground.data }], guard := none }) (v := (.bool true)) rfl (by kernel_rfl) (by kernel_rfl) (by kernel_rfl) (fun _ _ _ h => h) (Or.inl ⟨by rfl, ?_⟩) hHeld ?_
    · intro u hSu
      obtain ⟨z0, z1⟩ := row_cells (kept_row G.out.1.1 hSu.out (by simp))
      obtain ⟨z2, z3⟩ := row_cells (kept_row G.out.1.2.1 hSu.out (by simp))
      obtain ⟨z4, z5⟩ := row_cells (kept_row G.out.1.2.2 hSu.out (by simp))
      go_simp
      first | done | with_reducible rfl | (simp; done)
    (try simp only [Act.put, List.setIfInBounds_toArray, List.set_cons_zero, List.set_cons_succ])
    refine wpAnyH_take (i := 26) (oi := { dst := some 4, op := Op.assign (Operand.tmp 39), type := 4, pos := "law.go:30", after := #[{ on := 25, ground := Ground.data }, { on := 24, ground := Ground.chain }, { on := 0, ground := Ground.phase }, { on := 1, ground := Ground.phase }, { on := 2, ground := Ground.phase }, { on := 3, ground := Ground.phase }, { on := 4, ground := Ground.phase }, { on := 5, ground := Ground.phase }, { on := 6, ground := Ground.phase }, { on := 7, ground := Ground.phase }, { on := 8, ground := Ground.phase }, { on := 9, ground := Ground.phase }, { on := 10, ground := Ground.phase }, { on := 11, ground := Ground.phase }, { on := 12, ground := Ground.phase }, { on := 13, ground := Ground.phase }, { on := 14, ground := Ground.phase }, { on := 15, ground := Ground.phase }, { on := 16, ground := Ground.phase }, { on := 17, ground := Ground.phase }, { on := 18, ground := Ground.phase }, { on := 19, ground := Ground.phase }, { on := 20, ground := Ground.phase }, { on := 21, ground := Ground.phase }, { on := 22, ground := Ground.phase }, { on := 23, ground := Ground.phase }, { on := 24, ground := Ground.phase }, { on := 25, ground := Ground.phase }], guard := none }) (v := ?_) rfl (by kernel_rfl) (by kernel_rfl) (by kernel_rfl) (fun _ _ _ h => h) (Or.inl ⟨by rfl, ?_⟩) hHeld ?_
    rotate_left 1
    · intro u hSu
      obtain ⟨z0, z1⟩ := row_cells (kept_row G.out.1.1 hSu.out (by simp))
      obtain ⟨z2, z3⟩ := row_cells (kept_row G.out.1.2.1 hSu.out (by simp))
      obtain ⟨z4, z5⟩ := row_cells (kept_row G.out.1.2.2 hSu.out (by simp))
      go_simp
      first | done | with_reducible rfl
    (try simp only [Act.put, List.setIfInBounds_toArray, List.set_cons_zero, List.set_cons_succ])
    refine wpAnyH_done (by kernel_rfl) ?_ _
    have H9 := hHeld
    go_wp2_with fail
    go_ret
    exact ⟨rfl, grown_trans G.out.2.2 H9.out⟩

  · skip
    refine wp_region_held_drew (S := fun w' => Hid (wb.grownBy w' none)) (by kernel_rfl) (Lib.hid (grown_drew (grown_refl _ _))) (fun hHeld => ?_)
    refine wpAnyH_take (i := 0) (oi := { dst := some 14, op := Op.load 26 (Operand.tmp 6), type := 26, pos := "law.go:30", after := #[], guard := none }) (v := ?_) rfl (by kernel_rfl) (by kernel_rfl) (by kernel_rfl) (fun _ _ _ h => h) (Or.inl ⟨by rfl, ?_⟩) hHeld ?_
    rotate_left 1
    · intro u hSu
      obtain ⟨z0, z1⟩ := row_cells (kept_row G.out.1.1 hSu.out (by simp))
      obtain ⟨z2, z3⟩ := row_cells (kept_row G.out.1.2.1 hSu.out (by simp))
      obtain ⟨z4, z5⟩ := row_cells (kept_row G.out.1.2.2 hSu.out (by simp))
      go_simp
      first | done | with_reducible rfl
    (try simp only [Act.put, List.setIfInBounds_toArray, List.set_cons_zero, List.set_cons_succ])
    refine wpAnyH_take (i := 2) (oi := { dst := some 16, op := Op.load 26 (Operand.tmp 6), type := 26, pos := "law.go:30", after := #[], guard := none }) (v := ?_) rfl (by kernel_rfl) (by kernel_rfl) (by kernel_rfl) (fun _ _ _ h => h) (Or.inl ⟨by rfl, ?_⟩) hHeld ?_
    rotate_left 1
    · intro u hSu
      obtain ⟨z0, z1⟩ := row_cells (kept_row G.out.1.1 hSu.out (by simp))
      obtain ⟨z2, z3⟩ := row_cells (kept_row G.out.1.2.1 hSu.out (by simp))
      obtain ⟨z4, z5⟩ := row_cells (kept_row G.out.1.2.2 hSu.out (by simp))
      go_simp
      first | done | with_reducible rfl
    (try simp only [Act.put, List.setIfInBounds_toArray, List.set_cons_zero, List.set_cons_succ])
    refine wpAnyH_ready (rs := [1]) (by kernel_rfl) (by simp) ?_
    refine AllReadyH.cons (o := { dst := some 15, op := Op.call { callee := Callee.value (Operand.func 13), args := #[Operand.tmp 14], argTypes := #[26] }, type := 30, pos := "law.go:30", after := #[{ on := 0, ground := Ground.data }], guard := none }) rfl (fun K hK => ?_) AllReadyH.nil
    go_simp
    go_at_call 13
    refine (tcheck_any ⟨RA, LA, pRA, cRA, pLA, cLA⟩ _ _ (G.out.2.1.2.1.keep hHeld.out)).mono ?_
    rintro e w5 ⟨rfl, hg⟩
    simp only
    rw [← HX.out.2.1]
    refine hK.out _ _ (Lib.hid (grown_trans hHeld.out hg)) (fun hH2 => ?_)
    clear hK K hHeld
    have hHeld := hH2
    clear hH2
    (try simp only [Act.put, List.setIfInBounds_toArray, List.set_cons_zero, List.set_cons_succ])
    refine wpAnyH_ready (rs := [3]) (by kernel_rfl) (by simp) ?_
    refine AllReadyH.cons (o := { dst := some 17, op := Op.call { callee := Callee.value (Operand.func 14), args := #[Operand.tmp 16], argTypes := #[26] }, type := 30, pos := "law.go:30", after := #[{ on := 2, ground := Ground.data }, { on := 1, ground := Ground.chain }], guard := none }) rfl (fun K hK => ?_) AllReadyH.nil
    go_simp
    go_at_call 14
    refine (rcheck_any ⟨RA, LA, pRA, cRA, pLA, cLA⟩ _ _ (G.out.2.1.2.1.keep hHeld.out)).mono ?_
    rintro e w5 ⟨rfl, hg⟩
    simp only
    rw [← HX.out.2.1]
    refine hK.out _ _ (Lib.hid (grown_trans hHeld.out hg)) (fun hH2 => ?_)
    clear hK K hHeld
    have hHeld := hH2
    clear hH2
    (try simp only [Act.put, List.setIfInBounds_toArray, List.set_cons_zero, List.set_cons_succ])
    refine wpAnyH_take (i := 4) (oi := { dst := some 18, op := Op.binOp BinOp.eql 30 (Operand.tmp 15) (Operand.tmp 17) 30, type := 4, pos := "law.go:30", after := #[{ on := 1, ground := Ground.data }, { on := 3, ground := Ground.data }], guard := none }) (v := (.bool true)) rfl (by kernel_rfl) (by kernel_rfl) (by kernel_rfl) (fun _ _ _ h => h) (Or.inl ⟨by rfl, ?_⟩) hHeld ?_
    · intro u hSu
      obtain ⟨z0, z1⟩ := row_cells (kept_row G.out.1.1 hSu.out (by simp))
      obtain ⟨z2, z3⟩ := row_cells (kept_row G.out.1.2.1 hSu.out (by simp))
      obtain ⟨z4, z5⟩ := row_cells (kept_row G.out.1.2.2 hSu.out (by simp))
      go_simp
      first | done | with_reducible rfl | (simp; done)
    (try simp only [Act.put, List.setIfInBounds_toArray, List.set_cons_zero, List.set_cons_succ])
    refine wpAnyH_take (i := 5) (oi := { dst := some 19, op := Op.move (Operand.tmp 18), type := 4, pos := "law.go:30", after := #[{ on := 4, ground := Ground.data }, { on := 3, ground := Ground.chain }], guard := none }) (v := (.bool true)) rfl (by kernel_rfl) (by kernel_rfl) (by kernel_rfl) (fun _ _ _ h => h) (Or.inl ⟨by rfl, ?_⟩) hHeld ?_
    · intro u hSu
      obtain ⟨z0, z1⟩ := row_cells (kept_row G.out.1.1 hSu.out (by simp))
      obtain ⟨z2, z3⟩ := row_cells (kept_row G.out.1.2.1 hSu.out (by simp))
      obtain ⟨z4, z5⟩ := row_cells (kept_row G.out.1.2.2 hSu.out (by simp))
      go_simp
      first | done | with_reducible rfl | (simp; done)
    (try simp only [Act.put, List.setIfInBounds_toArray, List.set_cons_zero, List.set_cons_succ])
    refine wpAnyH_take (i := 6) (oi := { dst := some 20, op := Op.load 26 (Operand.tmp 7), type := 26, pos := "law.go:30", after := #[{ on := 5, ground := Ground.guard }], guard := some (5, true) }) (v := ?_) rfl (by kernel_rfl) (by kernel_rfl) (by kernel_rfl) (fun _ _ _ h => h) (Or.inl ⟨by rfl, ?_⟩) hHeld ?_
    rotate_left 1
    · intro u hSu
      obtain ⟨z0, z1⟩ := row_cells (kept_row G.out.1.1 hSu.out (by simp))
      obtain ⟨z2, z3⟩ := row_cells (kept_row G.out.1.2.1 hSu.out (by simp))
      obtain ⟨z4, z5⟩ := row_cells (kept_row G.out.1.2.2 hSu.out (by simp))
      go_simp
      first | done | with_reducible rfl
    (try simp only [Act.put, List.setIfInBounds_toArray, List.set_cons_zero, List.set_cons_succ])
    refine wpAnyH_take (i := 8) (oi := { dst := some 22, op := Op.load 26 (Operand.tmp 7), type := 26, pos := "law.go:30", after := #[{ on := 5, ground := Ground.guard }], guard := some (5, true) }) (v := ?_) rfl (by kernel_rfl) (by kernel_rfl) (by kernel_rfl) (fun _ _ _ h => h) (Or.inl ⟨by rfl, ?_⟩) hHeld ?_
    rotate_left 1
    · intro u hSu
      obtain ⟨z0, z1⟩ := row_cells (kept_row G.out.1.1 hSu.out (by simp))
      obtain ⟨z2, z3⟩ := row_cells (kept_row G.out.1.2.1 hSu.out (by simp))
      obtain ⟨z4, z5⟩ := row_cells (kept_row G.out.1.2.2 hSu.out (by simp))
      go_simp
      first | done | with_reducible rfl
    (try simp only [Act.put, List.setIfInBounds_toArray, List.set_cons_zero, List.set_cons_succ])
    refine wpAnyH_ready (rs := [7]) (by kernel_rfl) (by simp) ?_
    refine AllReadyH.cons (o := { dst := some 21, op := Op.call { callee := Callee.value (Operand.func 13), args := #[Operand.tmp 20], argTypes := #[26] }, type := 30, pos := "law.go:30", after := #[{ on := 6, ground := Ground.data }, { on := 5, ground := Ground.chain }, { on := 5, ground := Ground.guard }], guard := some (5, true) }) rfl (fun K hK => ?_) AllReadyH.nil
    go_simp
    go_at_call 13
    refine (tcheck_any ⟨RB, LB, pRB, cRB, pLB, cLB⟩ _ _ (G.out.2.1.2.2.keep hHeld.out)).mono ?_
    rintro e w5 ⟨rfl, hg⟩
    simp only
    rw [← HX.out.2.2]
    refine hK.out _ _ (Lib.hid (grown_trans hHeld.out hg)) (fun hH2 => ?_)
    clear hK K hHeld
    have hHeld := hH2
    clear hH2
    (try simp only [Act.put, List.setIfInBounds_toArray, List.set_cons_zero, List.set_cons_succ])
    refine wpAnyH_ready (rs := [9]) (by kernel_rfl) (by simp) ?_
    refine AllReadyH.cons (o := { dst := some 23, op := Op.call { callee := Callee.value (Operand.func 14), args := #[Operand.tmp 22], argTypes := #[26] }, type := 30, pos := "law.go:30", after := #[{ on := 8, ground := Ground.data }, { on := 7, ground := Ground.chain }, { on := 5, ground := Ground.guard }], guard := some (5, true) }) rfl (fun K hK => ?_) AllReadyH.nil
    go_simp
    go_at_call 14
    refine (rcheck_any ⟨RB, LB, pRB, cRB, pLB, cLB⟩ _ _ (G.out.2.1.2.2.keep hHeld.out)).mono ?_
    rintro e w5 ⟨rfl, hg⟩
    simp only
    rw [← HX.out.2.2]
    refine hK.out _ _ (Lib.hid (grown_trans hHeld.out hg)) (fun hH2 => ?_)
    clear hK K hHeld
    have hHeld := hH2
    clear hH2
    (try simp only [Act.put, List.setIfInBounds_toArray, List.set_cons_zero, List.set_cons_succ])
    refine wpAnyH_take (i := 10) (oi := { dst := some 24, op := Op.binOp BinOp.eql 30 (Operand.tmp 21) (Operand.tmp 23) 30, type := 4, pos := "law.go:30", after := #[{ on := 7, ground := Ground.data }, { on := 9, ground := Ground.data }, { on := 5, ground := Ground.guard }], guard := some (5, true) }) (v := (.bool true)) rfl (by kernel_rfl) (by kernel_rfl) (by kernel_rfl) (fun _ _ _ h => h) (Or.inl ⟨by rfl, ?_⟩) hHeld ?_
    · intro u hSu
      obtain ⟨z0, z1⟩ := row_cells (kept_row G.out.1.1 hSu.out (by simp))
      obtain ⟨z2, z3⟩ := row_cells (kept_row G.out.1.2.1 hSu.out (by simp))
      obtain ⟨z4, z5⟩ := row_cells (kept_row G.out.1.2.2 hSu.out (by simp))
      go_simp
      first | done | with_reducible rfl | (simp; done)
    (try simp only [Act.put, List.setIfInBounds_toArray, List.set_cons_zero, List.set_cons_succ])
    refine wpAnyH_take (i := 11) (oi := { dst := some 25, op := Op.pick (Operand.tmp 19) (Operand.tmp 24) (Operand.const (Value.bool false)), type := 4, pos := "law.go:30", after := #[{ on := 5, ground := Ground.data }, { on := 10, ground := Ground.data }], guard := none }) (v := (.bool true)) rfl (by kernel_rfl) (by kernel_rfl) (by kernel_rfl) (fun _ _ _ h => h) (Or.inl ⟨by rfl, ?_⟩) hHeld ?_
    · intro u hSu
      obtain ⟨z0, z1⟩ := row_cells (kept_row G.out.1.1 hSu.out (by simp))
      obtain ⟨z2, z3⟩ := row_cells (kept_row G.out.1.2.1 hSu.out (by simp))
      obtain ⟨z4, z5⟩ := row_cells (kept_row G.out.1.2.2 hSu.out (by simp))
      go_simp
      first | done | with_reducible rfl | (simp; done)
    (try simp only [Act.put, List.setIfInBounds_toArray, List.set_cons_zero, List.set_cons_succ])
    refine wpAnyH_take (i := 12) (oi := { dst := some 26, op := Op.move (Operand.tmp 25), type := 4, pos := "law.go:30", after := #[{ on := 11, ground := Ground.data }, { on := 9, ground := Ground.chain }], guard := none }) (v := (.bool true)) rfl (by kernel_rfl) (by kernel_rfl) (by kernel_rfl) (fun _ _ _ h => h) (Or.inl ⟨by rfl, ?_⟩) hHeld ?_
    · intro u hSu
      obtain ⟨z0, z1⟩ := row_cells (kept_row G.out.1.1 hSu.out (by simp))
      obtain ⟨z2, z3⟩ := row_cells (kept_row G.out.1.2.1 hSu.out (by simp))
      obtain ⟨z4, z5⟩ := row_cells (kept_row G.out.1.2.2 hSu.out (by simp))
      go_simp
      first | done | with_reducible rfl | (simp; done)
    (try simp only [Act.put, List.setIfInBounds_toArray, List.set_cons_zero, List.set_cons_succ])
    refine wpAnyH_take (i := 13) (oi := { dst := some 27, op := Op.load 26 (Operand.tmp 3), type := 26, pos := "law.go:30", after := #[{ on := 12, ground := Ground.guard }], guard := some (12, true) }) (v := ?_) rfl (by kernel_rfl) (by kernel_rfl) (by kernel_rfl) (fun _ _ _ h => h) (Or.inl ⟨by rfl, ?_⟩) hHeld ?_
    rotate_left 1
    · intro u hSu
      obtain ⟨z0, z1⟩ := row_cells (kept_row G.out.1.1 hSu.out (by simp))
      obtain ⟨z2, z3⟩ := row_cells (kept_row G.out.1.2.1 hSu.out (by simp))
      obtain ⟨z4, z5⟩ := row_cells (kept_row G.out.1.2.2 hSu.out (by simp))
      go_simp
      first | done | with_reducible rfl
    (try simp only [Act.put, List.setIfInBounds_toArray, List.set_cons_zero, List.set_cons_succ])
    refine wpAnyH_ready (rs := [14]) (by kernel_rfl) (by simp) ?_
    refine AllReadyH.cons (o := { dst := some 28, op := Op.call { callee := Callee.value (Operand.func 15), args := #[Operand.tmp 27], argTypes := #[26] }, type := 4, pos := "law.go:30", after := #[{ on := 13, ground := Ground.data }, { on := 12, ground := Ground.chain }, { on := 12, ground := Ground.guard }], guard := some (12, true) }) rfl (fun K hK => ?_) AllReadyH.nil
    go_simp
    go_at_call 15
    refine (big_any ⟨R, L, pR, cR, pL, cL⟩ _).mono ?_
    rintro e w5 ⟨rfl, hg⟩
    simp only
    rw [hbg]
    refine hK.out _ _ (Lib.hid (grown_trans hHeld.out hg)) (fun hH2 => ?_)
    clear hK K hHeld
    have hHeld := hH2
    clear hH2
    (try simp only [Act.put, List.setIfInBounds_toArray, List.set_cons_zero, List.set_cons_succ])
    refine wpAnyH_take (i := 15) (oi := { dst := some 29, op := Op.move (Operand.tmp 28), type := 4, pos := "law.go:30", after := #[{ on := 14, ground := Ground.data }, { on := 14, ground := Ground.chain }, { on := 12, ground := Ground.guard }], guard := some (12, true) }) (v := ?_) rfl (by kernel_rfl) (by kernel_rfl) (by kernel_rfl) (fun _ _ _ h => h) (Or.inl ⟨by rfl, ?_⟩) hHeld ?_
    rotate_left 1
    · intro u hSu
      obtain ⟨z0, z1⟩ := row_cells (kept_row G.out.1.1 hSu.out (by simp))
      obtain ⟨z2, z3⟩ := row_cells (kept_row G.out.1.2.1 hSu.out (by simp))
      obtain ⟨z4, z5⟩ := row_cells (kept_row G.out.1.2.2 hSu.out (by simp))
      go_simp
      first | done | with_reducible rfl
    (try simp only [Act.put, List.setIfInBounds_toArray, List.set_cons_zero, List.set_cons_succ])
    refine wpAnyH_take (i := 16) (oi := { dst := some 30, op := Op.load 26 (Operand.tmp 3), type := 26, pos := "law.go:30", after := #[{ on := 15, ground := Ground.guard }], guard := some (15, false) }) (v := undef) rfl (by kernel_rfl) (by kernel_rfl) (by kernel_rfl) (fun _ _ _ h => h) (Or.inr ⟨by rfl, rfl⟩) hHeld ?_
    (try simp only [Act.put, List.setIfInBounds_toArray, List.set_cons_zero, List.set_cons_succ])
    refine wpAnyH_take (i := 17) (oi := { dst := some 31, op := Op.call { callee := Callee.value (Operand.func 13), args := #[Operand.tmp 30], argTypes := #[26] }, type := 30, pos := "law.go:30", after := #[{ on := 16, ground := Ground.data }, { on := 15, ground := Ground.chain }, { on := 15, ground := Ground.guard }], guard := some (15, false) }) (v := undef) rfl (by kernel_rfl) (by kernel_rfl) (by kernel_rfl) (fun _ _ _ h => h) (Or.inr ⟨by rfl, rfl⟩) hHeld ?_
    (try simp only [Act.put, List.setIfInBounds_toArray, List.set_cons_zero, List.set_cons_succ])
    refine wpAnyH_take (i := 18) (oi := { dst := some 32, op := Op.load 26 (Operand.tmp 3), type := 26, pos := "law.go:30", after := #[{ on := 15, ground := Ground.guard }], guard := some (15, false) }) (v := undef) rfl (by kernel_rfl) (by kernel_rfl) (by kernel_rfl) (fun _ _ _ h => h) (Or.inr ⟨by rfl, rfl⟩) hHeld ?_
    (try simp only [Act.put, List.setIfInBounds_toArray, List.set_cons_zero, List.set_cons_succ])
    refine wpAnyH_take (i := 19) (oi := { dst := some 33, op := Op.call { callee := Callee.value (Operand.func 14), args := #[Operand.tmp 32], argTypes := #[26] }, type := 30, pos := "law.go:30", after := #[{ on := 18, ground := Ground.data }, { on := 17, ground := Ground.chain }, { on := 15, ground := Ground.guard }], guard := some (15, false) }) (v := undef) rfl (by kernel_rfl) (by kernel_rfl) (by kernel_rfl) (fun _ _ _ h => h) (Or.inr ⟨by rfl, rfl⟩) hHeld ?_
    (try simp only [Act.put, List.setIfInBounds_toArray, List.set_cons_zero, List.set_cons_succ])
    refine wpAnyH_take (i := 20) (oi := { dst := some 34, op := Op.binOp BinOp.eql 30 (Operand.tmp 31) (Operand.tmp 33) 30, type := 4, pos := "law.go:30", after := #[{ on := 17, ground := Ground.data }, { on := 19, ground := Ground.data }, { on := 15, ground := Ground.guard }], guard := some (15, false) }) (v := undef) rfl (by kernel_rfl) (by kernel_rfl) (by kernel_rfl) (fun _ _ _ h => h) (Or.inr ⟨by rfl, rfl⟩) hHeld ?_
    (try simp only [Act.put, List.setIfInBounds_toArray, List.set_cons_zero, List.set_cons_succ])
    refine wpAnyH_take (i := 21) (oi := { dst := some 35, op := Op.pick (Operand.tmp 29) (Operand.const (Value.bool true)) (Operand.tmp 34), type := 4, pos := "law.go:30", after := #[{ on := 15, ground := Ground.data }, { on := 20, ground := Ground.data }, { on := 12, ground := Ground.guard }], guard := some (12, true) }) (v := (.bool true)) rfl (by kernel_rfl) (by kernel_rfl) (by kernel_rfl) (fun _ _ _ h => h) (Or.inl ⟨by rfl, ?_⟩) hHeld ?_
    · intro u hSu
      obtain ⟨z0, z1⟩ := row_cells (kept_row G.out.1.1 hSu.out (by simp))
      obtain ⟨z2, z3⟩ := row_cells (kept_row G.out.1.2.1 hSu.out (by simp))
      obtain ⟨z4, z5⟩ := row_cells (kept_row G.out.1.2.2 hSu.out (by simp))
      go_simp
      first | done | with_reducible rfl | (simp; done)
    (try simp only [Act.put, List.setIfInBounds_toArray, List.set_cons_zero, List.set_cons_succ])
    refine wpAnyH_take (i := 22) (oi := { dst := some 36, op := Op.pick (Operand.tmp 26) (Operand.tmp 35) (Operand.const (Value.bool false)), type := 4, pos := "law.go:30", after := #[{ on := 12, ground := Ground.data }, { on := 21, ground := Ground.data }], guard := none }) (v := (.bool true)) rfl (by kernel_rfl) (by kernel_rfl) (by kernel_rfl) (fun _ _ _ h => h) (Or.inl ⟨by rfl, ?_⟩) hHeld ?_
    · intro u hSu
      obtain ⟨z0, z1⟩ := row_cells (kept_row G.out.1.1 hSu.out (by simp))
      obtain ⟨z2, z3⟩ := row_cells (kept_row G.out.1.2.1 hSu.out (by simp))
      obtain ⟨z4, z5⟩ := row_cells (kept_row G.out.1.2.2 hSu.out (by simp))
      go_simp
      first | done | with_reducible rfl | (simp; done)
    (try simp only [Act.put, List.setIfInBounds_toArray, List.set_cons_zero, List.set_cons_succ])
    refine wpAnyH_take (i := 23) (oi := { dst := some 37, op := Op.move (Operand.tmp 36), type := 4, pos := "law.go:30", after := #[{ on := 22, ground := Ground.data }, { on := 19, ground := Ground.chain }], guard := none }) (v := (.bool true)) rfl (by kernel_rfl) (by kernel_rfl) (by kernel_rfl) (fun _ _ _ h => h) (Or.inl ⟨by rfl, ?_⟩) hHeld ?_
    · intro u hSu
      obtain ⟨z0, z1⟩ := row_cells (kept_row G.out.1.1 hSu.out (by simp))
      obtain ⟨z2, z3⟩ := row_cells (kept_row G.out.1.2.1 hSu.out (by simp))
      obtain ⟨z4, z5⟩ := row_cells (kept_row G.out.1.2.2 hSu.out (by simp))
      go_simp
      first | done | with_reducible rfl | (simp; done)
    (try simp only [Act.put, List.setIfInBounds_toArray, List.set_cons_zero, List.set_cons_succ])
    refine wpAnyH_ready (rs := [24]) (by kernel_rfl) (by simp) ?_
    refine AllReadyH.cons (o := { dst := some 38, op := Op.call { callee := Callee.value (Operand.func 16), args := #[], argTypes := #[] }, type := 4, pos := "law.go:30", after := #[{ on := 23, ground := Ground.chain }, { on := 23, ground := Ground.guard }], guard := some (23, true) }) rfl (fun K hK => ?_) AllReadyH.nil
    go_simp
    go_at_call 16
    refine (tawake_any _).mono ?_
    rintro e w5 ⟨rfl, hg⟩
    refine hK.out _ _ (Lib.hid (grown_trans hHeld.out hg)) (fun hH2 => ?_)
    clear hK K hHeld
    have hHeld := hH2
    clear hH2
    (try simp only [Act.put, List.setIfInBounds_toArray, List.set_cons_zero, List.set_cons_succ])
    refine wpAnyH_take (i := 25) (oi := { dst := some 39, op := Op.pick (Operand.tmp 37) (Operand.tmp 38) (Operand.const (Value.bool false)), type := 4, pos := "law.go:30", after := #[{ on := 23, ground := Ground.data }, { on := 24, ground := Ground.data }], guard := none }) (v := (.bool true)) rfl (by kernel_rfl) (by kernel_rfl) (by kernel_rfl) (fun _ _ _ h => h) (Or.inl ⟨by rfl, ?_⟩) hHeld ?_
    · intro u hSu
      obtain ⟨z0, z1⟩ := row_cells (kept_row G.out.1.1 hSu.out (by simp))
      obtain ⟨z2, z3⟩ := row_cells (kept_row G.out.1.2.1 hSu.out (by simp))
      obtain ⟨z4, z5⟩ := row_cells (kept_row G.out.1.2.2 hSu.out (by simp))
      go_simp
      first | done | with_reducible rfl | (simp; done)
    (try simp only [Act.put, List.setIfInBounds_toArray, List.set_cons_zero, List.set_cons_succ])
    refine wpAnyH_take (i := 26) (oi := { dst := some 4, op := Op.assign (Operand.tmp 39), type := 4, pos := "law.go:30", after := #[{ on := 25, ground := Ground.data }, { on := 24, ground := Ground.chain }, { on := 0, ground := Ground.phase }, { on := 1, ground := Ground.phase }, { on := 2, ground := Ground.phase }, { on := 3, ground := Ground.phase }, { on := 4, ground := Ground.phase }, { on := 5, ground := Ground.phase }, { on := 6, ground := Ground.phase }, { on := 7, ground := Ground.phase }, { on := 8, ground := Ground.phase }, { on := 9, ground := Ground.phase }, { on := 10, ground := Ground.phase }, { on := 11, ground := Ground.phase }, { on := 12, ground := Ground.phase }, { on := 13, ground := Ground.phase }, { on := 14, ground := Ground.phase }, { on := 15, ground := Ground.phase }, { on := 16, ground := Ground.phase }, { on := 17, ground := Ground.phase }, { on := 18, ground := Ground.phase }, { on := 19, ground := Ground.phase }, { on := 20, ground := Ground.phase }, { on := 21, ground := Ground.phase }, { on := 22, ground := Ground.phase }, { on := 23, ground := Ground.phase }, { on := 24, ground := Ground.phase }, { on := 25, ground := Ground.phase }], guard := none }) (v := ?_) rfl (by kernel_rfl) (by kernel_rfl) (by kernel_rfl) (fun _ _ _ h => h) (Or.inl ⟨by rfl, ?_⟩) hHeld ?_
    rotate_left 1
    · intro u hSu
      obtain ⟨z0, z1⟩ := row_cells (kept_row G.out.1.1 hSu.out (by simp))
      obtain ⟨z2, z3⟩ := row_cells (kept_row G.out.1.2.1 hSu.out (by simp))
      obtain ⟨z4, z5⟩ := row_cells (kept_row G.out.1.2.2 hSu.out (by simp))
      go_simp
      first | done | with_reducible rfl
    (try simp only [Act.put, List.setIfInBounds_toArray, List.set_cons_zero, List.set_cons_succ])
    refine wpAnyH_done (by kernel_rfl) ?_ _
    have H9 := hHeld
    go_wp2_with fail
    go_ret
    exact ⟨rfl, grown_trans G.out.2.2 H9.out⟩

end Go.Proofs.Ytiencdgmnkphjaa

/- Apply: the values. -/
namespace Go.Proofs.Ytiencdgmnkphjaa
open Go.RowKit Bs
def sameE (x l : Lk) : Bool := decide (l.a = x.a ∧ l.b = x.b)
def goneC (c : Ch) : Bool := c.ca == 0 && c.cb == 0
def fndL (L : List Lk) (x : Lk) : Bool := L.any (sameE x)
/-- The error of Apply. -/
def errV (R : List Rt) (L : List Lk) (c : Ch) : Int :=
  if !okT R L then 1
  else if !(hasR R c.a && hasR R c.b) then 4
  else if c.a = c.b then 8
  else if !goneC c && wrNum (lkOf c) then 2
  else if goneC c && !fndL L (lkOf c) then 9
  else if !fndL L (lkOf c) && decide (L.length = 60) then 3 else 0
def chgL (x l : Lk) : Lk := if sameE x l then ⟨l.a, l.b, x.ca, x.cb, l.cp⟩ else l
/-- The links behind Apply. -/
def linksV (L : List Lk) (c : Ch) : List Lk :=
  if goneC c then L.filter (fun l => !sameE (lkOf c) l) else if fndL L (lkOf c) then L.map (chgL (lkOf c)) else insL L (lkOf c)
theorem lkOf_ends (c : Ch) : (lkOf c).cp = 0 ∧ (((lkOf c).a = c.a ∧ (lkOf c).b = c.b ∧ (lkOf c).ca = c.ca ∧ (lkOf c).cb = c.cb ∧ c.a ≤ c.b) ∨ ((lkOf c).a = c.b ∧ (lkOf c).b = c.a ∧ (lkOf c).ca = c.cb ∧ (lkOf c).cb = c.ca ∧ c.b < c.a)) := by
  unfold lkOf
  by_cases h : c.b < c.a
  · rw [if_pos h]
    exact ⟨rfl, .inr ⟨rfl, rfl, rfl, rfl, h⟩⟩
  · rw [if_neg h]
    exact ⟨rfl, .inl ⟨rfl, rfl, rfl, rfl, by omega⟩⟩
theorem sameE_iff (x l : Lk) : sameE x l = true ↔ l.a = x.a ∧ l.b = x.b := by unfold sameE; rw [decide_eq_true_eq]
theorem fnd_iff (L : List Lk) (x : Lk) : fndL L x = true ↔ ∃ l ∈ L, l.a = x.a ∧ l.b = x.b := by
  unfold fndL
  rw [List.any_eq_true]
  simp only [sameE_iff]
/-- What the binary search tells. -/
theorem bs_fnd {R : List Rt} {L : List Lk} (ho : OkAll R L) {x : Lk} {b : Bool} {i : Nat} (h : BsP cvL L ⟨x.a, x.b, 0, 0, 0⟩ i b) : fndL L x = b := by
  obtain ⟨h1, h2⟩ := bs_link ho h
  rw [Bool.eq_iff_iff, fnd_iff]
  constructor
  · rintro ⟨l, hl, e1, e2⟩
    exact (h2 l hl e1 e2).1
  · intro hb
    obtain ⟨l, hl, e1, e2⟩ := h1 hb
    exact ⟨l, List.mem_of_getElem? hl, e1, e2⟩
theorem ends_inj {R : List Rt} {L : List Lk} (ho : OkAll R L) {i j : Nat} {l m : Lk} (hi : L[i]? = some l) (hj : L[j]? = some m) (e1 : l.a = m.a) (e2 : l.b = m.b) : i = j := by
  have hp := pair_of_asc ltL (fun _ _ _ => ltL_trans) L ho.ls
  rcases Nat.lt_trichotomy i j with h | h | h
  · have := of_decide_eq_true (pair_get hp h hi hj)
    omega
  · exact h
  · have := of_decide_eq_true (pair_get hp h hj hi)
    omega
theorem map_at {α : Type} {f : α → α} {L : List α} {i : Nat} {l : α} (hl : L[i]? = some l) (h : ∀ j m, j ≠ i → L[j]? = some m → f m = m) : L.map f = L.set i (f l) := by
  apply List.ext_getElem?
  intro j
  rw [List.getElem?_map, List.getElem?_set]
  by_cases e : i = j
  · subst e
    rw [if_pos rfl, hl, if_pos (List.getElem?_eq_some_iff.1 hl).1]
    rfl
  · rw [if_neg e]
    cases hj : L[j]? with
    | none => rfl
    | some m => exact congrArg some (h j m (fun h => e h.symm) hj)
theorem set_links {R : List Rt} {L : List Lk} (ho : OkAll R L) {x l : Lk} {i : Nat} (hl : L[i]? = some l) (e1 : l.a = x.a) (e2 : l.b = x.b) : L.map (chgL x) = L.set i ⟨l.a, l.b, x.ca, x.cb, l.cp⟩ := by
  have h1 : chgL x l = ⟨l.a, l.b, x.ca, x.cb, l.cp⟩ := by
    unfold chgL
    rw [if_pos ((sameE_iff x l).2 ⟨e1, e2⟩)]
  rw [← h1]
  refine map_at hl (fun j m hj hm => ?_)
  unfold chgL
  rw [if_neg]
  rw [sameE_iff]
  rintro ⟨k1, k2⟩
  exact hj (ends_inj ho hm hl (by omega) (by omega))
theorem flat_set2 (l x : Lk) : ∀ (L : List Lk) (i : Nat), L[i]? = some l → (L.set i ⟨l.a, l.b, x.ca, x.cb, l.cp⟩).flatMap lkC = ((L.flatMap lkC).set (i * 5 + 2) (.int .i64 x.ca)).set (i * 5 + 3) (.int .i64 x.cb)
  | [], i, h => by simp at h
  | m :: t, 0, h => by
    obtain rfl : m = l := by simpa using h
    rfl
  | m :: t, i + 1, h => by
    have ih := flat_set2 l x t i (by simpa using h)
    rw [List.set_cons_succ, List.flatMap_cons, ih, List.flatMap_cons]
    have e2 : (i + 1) * 5 + 2 = (lkC m).length + (i * 5 + 2) := by
      show (i + 1) * 5 + 2 = 5 + (i * 5 + 2)
      omega
    have e3 : (i + 1) * 5 + 3 = (lkC m).length + (i * 5 + 3) := by
      show (i + 1) * 5 + 3 = 5 + (i * 5 + 3)
      omega
    rw [e2, e3, List.set_append_right _ _ (Nat.le_add_right _ _), Nat.add_sub_cancel_left, List.set_append_right _ _ (Nat.le_add_right _ _), Nat.add_sub_cancel_left]
/-- A row of links, two cells of one link stored. -/
theorem own_set2 {w : World} {base n cap g i : Nat} {L : List Lk} {l x : Lk} (h : w.ownsRow base 68 5 (.slice (some ⟨g, 0, none⟩) n cap) L.length (L.flatMap lkC)) (hl : L[i]? = some l) :
    ((w.setCell ⟨g, i * 5 + 2, none⟩ (.int .i64 x.ca)).setCell ⟨g, i * 5 + 3, none⟩ (.int .i64 x.cb)).ownsRow base 68 5 (.slice (some ⟨g, 0, none⟩) n cap) (L.set i ⟨l.a, l.b, x.ca, x.cb, l.cp⟩).length ((L.set i ⟨l.a, l.b, x.ca, x.cb, l.cp⟩).flatMap lkC) := by
  have hn : n = L.length := by
    obtain ⟨p, c, e, _⟩ := own_shape h
    injection e
  subst hn
  obtain ⟨s1, -⟩ := h.stored (i * 5 + 2) (.int .i64 x.ca)
  obtain ⟨s2, -⟩ := s1.stored (i * 5 + 3) (.int .i64 x.cb)
  rw [List.length_set, flat_set2 l x L i hl]
  exact s2
theorem own_set2' {w : World} {base n cap g i : Nat} {L : List Lk} {l x : Lk} (h : w.ownsRow base 68 5 (.slice (some ⟨g, 0, none⟩) n cap) L.length (L.flatMap lkC)) (hl : L[i]? = some l) :
    ((w.setCell ⟨g, i * 5 + 3, none⟩ (.int .i64 x.cb)).setCell ⟨g, i * 5 + 2, none⟩ (.int .i64 x.ca)).ownsRow base 68 5 (.slice (some ⟨g, 0, none⟩) n cap) (L.set i ⟨l.a, l.b, x.ca, x.cb, l.cp⟩).length ((L.set i ⟨l.a, l.b, x.ca, x.cb, l.cp⟩).flatMap lkC) := by
  have hn : n = L.length := by
    obtain ⟨p, c, e, _⟩ := own_shape h
    injection e
  subst hn
  obtain ⟨s1, -⟩ := h.stored (i * 5 + 3) (.int .i64 x.cb)
  obtain ⟨s2, -⟩ := s1.stored (i * 5 + 2) (.int .i64 x.ca)
  rw [List.length_set, flat_set2 l x L i hl, List.set_comm _ _ (by omega)]
  exact s2
end Go.Proofs.Ytiencdgmnkphjaa
