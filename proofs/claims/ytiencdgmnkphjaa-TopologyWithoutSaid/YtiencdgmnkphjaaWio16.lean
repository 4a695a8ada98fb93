/- Parts of the proof, packed: ToWoLaw. -/
import Derived.Test.YtiencdgmnkphjaaWio13
import Derived.Test.YtiencdgmnkphjaaWio14
import Derived.Test.YtiencdgmnkphjaaWio8
import Derived.Test.YtiencdgmnkphjaaWio15
import Derived.Test.YtiencdgmnkphjaaWio10
/- The law TopologyWithout. -/
namespace Go.Proofs.Ytiencdgmnkphjaa
open Go.RowKit Bs
theorem FlOk.all {w : World} {q : Nat → Prop} {F : Fl} (h : FlOk w q F) : FlOk w (fun _ => True) F := h.mono (fun _ _ => trivial)
/-- What the law's loop reads, all of it below B: the topology's box G, the list's block Bl of three failures, the argument's box. -/
structure WL3 (w : World) (T : Tg) (G Bl Br B : Nat) (F0 F1 F2 : Fl) (wr : World) : Prop where
  gb : wr.heap[G]? = some (.cells #[.slice T.pR T.R.length T.cR, .slice T.pL T.L.length T.cL] 26 (0, 0))
  lb : wr.heap[Bl]? = some (.cells #[.slice F0.pH F0.H.length F0.cH, .slice F0.pX F0.X.length F0.cX, .slice F1.pH F1.H.length F1.cH, .slice F1.pX F1.X.length F1.cX, .slice F2.pH F2.H.length F2.cH, .slice F2.pX F2.X.length F2.cX] 47 (0, 0))
  rb : wr.heap[Br]? = some (.cells #[.slice F2.pH F2.H.length F2.cH, .slice F2.pX F2.X.length F2.cX] 47 (0, 0))
  t : TgOk wr (· < B) T
  f0 : FlOk wr (· < B) F0
  f1 : FlOk wr (· < B) F1
  f2 : FlOk wr (· < B) F2
  gr : w.grownBy wr none
  lt : (G < B ∧ Bl < B ∧ Br < B) ∧ w.heap.size ≤ B ∧ B ≤ wr.heap.size
theorem WL3.keep {w wr w' : World} {T : Tg} {G Bl Br B : Nat} {F0 F1 F2 : Fl} (h : WL3 w T G Bl Br B F0 F1 F2 wr) (g : wr.grownBy w' none) : WL3 w T G Bl Br B F0 F1 F2 w' :=
  ⟨kept_row h.gb g (by simp), kept_row h.lb g (by simp), kept_row h.rb g (by simp), h.t.keep g, h.f0.keep g, h.f1.keep g, h.f2.keep g, grown_trans h.gr g, h.lt.1, h.lt.2.1, Nat.le_trans h.lt.2.2 g.size⟩
theorem WL3.other {w wr w' : World} {T : Tg} {G Bl Br B g : Nat} {F0 F1 F2 : Fl} (h : WL3 w T G Bl Br B F0 F1 F2 wr) (k : wr.grownBy w' (some g)) (hg : B ≤ g) : WL3 w T G Bl Br B F0 F1 F2 w' := by
  have hl := h.lt
  have ne : ∀ b, b < B → some b ≠ some g := fun b hb e => by have := Option.some.inj e; omega
  exact ⟨kept_row h.gb k (ne _ hl.1.1), kept_row h.lb k (ne _ hl.1.2.1), kept_row h.rb k (ne _ hl.1.2.2), h.t.grown k ne, h.f0.grown k ne, h.f1.grown k ne, h.f2.grown k ne, grown_new h.gr k (by omega), hl.1, hl.2.1, Nat.le_trans hl.2.2 k.size⟩
theorem WL3.at_ (w : World) (T : Tg) (G Bl Br B : Nat) (F0 F1 F2 : Fl) (k : Nat) (hk : k < 3) :
    ∃ F : Fl, ∀ wr, WL3 w T G Bl Br B F0 F1 F2 wr → FlOk wr (· < B) F ∧ wr.cell? ⟨Bl, k * 2, none⟩ = some (.slice F.pH F.H.length F.cH) ∧ wr.cell? ⟨Bl, k * 2 + 1, none⟩ = some (.slice F.pX F.X.length F.cX) := by
  rcases (show k = 0 ∨ k = 1 ∨ k = 2 by omega) with rfl | rfl | rfl
  · exact ⟨F0, fun wr h => ⟨h.f0, (by rw [cell_of_row _ _ _ _ _ _ h.lb]; rfl), (by rw [cell_of_row _ _ _ _ _ _ h.lb]; rfl)⟩⟩
  · exact ⟨F1, fun wr h => ⟨h.f1, (by rw [cell_of_row _ _ _ _ _ _ h.lb]; rfl), (by rw [cell_of_row _ _ _ _ _ _ h.lb]; rfl)⟩⟩
  · exact ⟨F2, fun wr h => ⟨h.f2, (by rw [cell_of_row _ _ _ _ _ _ h.lb]; rfl), (by rw [cell_of_row _ _ _ _ _ _ h.lb]; rfl)⟩⟩
set_option maxRecDepth 100000 in
set_option maxHeartbeats 6400000 in
theorem twithout_walk (v : Value) (F2 : Fl) (w : World) (hv : IntsIn w v) (hF : FlOk w (· < w.heap.size) F2) :
    Calls Try.prog 5 #[v, .agg #[.slice F2.pH F2.H.length F2.cH, .slice F2.pX F2.X.length F2.cX]] w fun e w' => e = .returned (.bool true) ∧ w.grownBy w' none := by
  obtain ⟨k1, k2⟩ := tone_box w #[.slice F2.pH F2.H.length F2.cH, .slice F2.pX F2.X.length F2.cX] 47
  have HB := Lib.hid (And.intro k1 (And.intro k2 (hF.keep k2)))
  have HV := Lib.hid (hv.keepT k2)
  have hmF := Nat.le_trans hF.ch.1 hF.ch.2
  have hmX := Nat.le_trans hF.cx.1 hF.cx.2
  have hws : w.heap.size < (w.alloc (.cells #[.slice F2.pH F2.H.length F2.cH, .slice F2.pX F2.X.length F2.cX] 47)).heap.size := by simp
  clear k1 k2 hF hv
  go_enter Try.func5, Try.ntmps5
  go_upto_region 1 with fail
  generalize w.alloc _ = wa at *
  go_wp2_with fail
  refine (new_any v wa HV.out).mono ?_
  rintro e w2 ⟨rfl, hg1, hT1⟩
  have H2 := Lib.hid (And.intro hg1 hT1)
  obtain ⟨a, ha⟩ : ∃ a, a = wa.heap.size := ⟨_, rfl⟩
  rw [← ha] at H2
  have HA := Lib.hid ha
  clear hg1 hT1 HV
  rw [← HA.out]
  clear ha
  go_wp2_with fail
  refine (topo_tg a 7 8 (by decide) (by decide) (by unfold I64; omega) w2 H2.out.2).mono ?_
  rintro e w3 ⟨T, rfl, hT, -, hs3⟩
  obtain ⟨R, L, pR, cR, pL, cL⟩ := T
  simp only
  have gal := World.grownBy_alloc w3 (.cells #[.slice pR R.length cR, .slice pL L.length cL] 26) none
  have ha2 : a < w2.heap.size := H2.out.2.lt
  have ha3 : a < w3.heap.size := Nat.lt_of_lt_of_le ha2 hs3.1.size
  have hwa : w.heap.size < a := by have := HA.out; omega
  have gw4 : wa.grownBy (w3.alloc (.cells #[.slice pR R.length cR, .slice pL L.length cL] 26)) none := grown_trans (grown_tape H2.out.1 (by rw [← HA.out]; exact hs3.1)) gal
  have HG : Hid ((w3.alloc (.cells #[.slice pR R.length cR, .slice pL L.length cL] 26)).heap[w3.heap.size]? = some (.cells #[.slice pR R.length cR, .slice pL L.length cL] 26 (0, 0)) ∧ (w3.alloc (.cells #[.slice pR R.length cR, .slice pL L.length cL] 26)).heap[w.heap.size]? = some (.cells #[.slice F2.pH F2.H.length F2.cH, .slice F2.pX F2.X.length F2.cX] 47 (0, 0)) ∧ TgOk (w3.alloc (.cells #[.slice pR R.length cR, .slice pL L.length cL] 26)) (fun b => w2.heap.size ≤ b ∧ b < w3.heap.size) ⟨R, L, pR, cR, pL, cL⟩ ∧ Tp (w3.alloc (.cells #[.slice pR R.length cR, .slice pL L.length cL] 26)) a ∧ FlOk (w3.alloc (.cells #[.slice pR R.length cR, .slice pL L.length cL] 26)) (· < wa.heap.size) F2 ∧ w3.heap.size < (w3.alloc (.cells #[.slice pR R.length cR, .slice pL L.length cL] 26)).heap.size) :=
    Lib.hid ⟨heap_alloc_new w3 _, kept_row HB.out.1 gw4 (by simp), hT.keep gal, hs3.2.keep gal, (HB.out.2.2.keep gw4).mono (fun b hb => Nat.lt_trans hb hws), by simp⟩
  have HW4 := Lib.hid (grown_trans HB.out.2.1 gw4)
  have hm1 := Nat.le_trans hT.cr.1 hT.cr.2
  have hm2 := Nat.le_trans hT.cl.1 hT.cl.2
  simp only at hm1 hm2
  clear hT hs3 gal gw4 HB
  go_upto_region 3 with fail
  generalize w3.alloc _ = w4 at *
  have HQ : Hid (∀ (u : World), w4.grownBy u (some a) → Tp u a → (TgOk u (fun b => w2.heap.size ≤ b ∧ b < w3.heap.size) ⟨R, L, pR, cR, pL, cL⟩ ∧ (∀ b, (w2.heap.size ≤ b ∧ b < w3.heap.size) → b ≠ a ∧ b < u.heap.size))) :=
    Lib.hid (fun u g _ => ⟨HG.out.2.2.1.grown g (fun b hb e => by have := Option.some.inj e; omega), fun b hb => ⟨by omega, Nat.lt_of_lt_of_le hb.2 (Nat.le_trans (Nat.le_of_lt HG.out.2.2.2.2.2) g.size)⟩⟩)
  refine region_until (S := fun w' => Hid (w4.grownBy w' (some a) ∧ Tp w' a)) (fun j => j == 8) (by kernel_rfl) (Lib.hid ⟨grown_drew (grown_refl _ _), HG.out.2.2.2.1.drew⟩) (fun hHeld => ?_)
  refine anyU_take (i := 0) (oi := { dst := some 14, op := Op.move (Operand.tmp 5), type := 27, pos := "law.go:61", after := #[], guard := none }) (v := ?_) rfl (by kernel_rfl) (by kernel_rfl) (by kernel_rfl) (by kernel_rfl) (by kernel_rfl) (fun _ _ _ h => h) (Or.inl ⟨by rfl, ?_⟩) hHeld ?_
  rotate_left 1
  · intro u hSu
    obtain ⟨q0, q1⟩ := row_cells (kept_row HG.out.1 hSu.out.1 (fun e => by have := Option.some.inj e; omega))
    obtain ⟨q2, q3⟩ := row_cells (kept_row HG.out.2.1 hSu.out.1 (fun e => by have := Option.some.inj e; omega))
    go_simp
    first | done | with_reducible rfl
  (try simp only [Act.put, List.setIfInBounds_toArray, List.set_cons_zero, List.set_cons_succ])
  refine anyU_take (i := 1) (oi := { dst := some 15, op := Op.load 26 (Operand.tmp 6), type := 26, pos := "law.go:61", after := #[], guard := none }) (v := ?_) rfl (by kernel_rfl) (by kernel_rfl) (by kernel_rfl) (by kernel_rfl) (by kernel_rfl) (fun _ _ _ h => h) (Or.inl ⟨by rfl, ?_⟩) hHeld ?_
  rotate_left 1
  · intro u hSu
    obtain ⟨q0, q1⟩ := row_cells (kept_row HG.out.1 hSu.out.1 (fun e => by have := Option.some.inj e; omega))
    obtain ⟨q2, q3⟩ := row_cells (kept_row HG.out.2.1 hSu.out.1 (fun e => by have := Option.some.inj e; omega))
    go_simp
    first | done | with_reducible rfl
  (try simp only [Act.put, List.setIfInBounds_toArray, List.set_cons_zero, List.set_cons_succ])
  refine anyU_take (i := 3) (oi := { dst := some 17, op := Op.move (Operand.tmp 5), type := 27, pos := "law.go:61", after := #[], guard := none }) (v := ?_) rfl (by kernel_rfl) (by kernel_rfl) (by kernel_rfl) (by kernel_rfl) (by kernel_rfl) (fun _ _ _ h => h) (Or.inl ⟨by rfl, ?_⟩) hHeld ?_
  rotate_left 1
  · intro u hSu
    obtain ⟨q0, q1⟩ := row_cells (kept_row HG.out.1 hSu.out.1 (fun e => by have := Option.some.inj e; omega))
    obtain ⟨q2, q3⟩ := row_cells (kept_row HG.out.2.1 hSu.out.1 (fun e => by have := Option.some.inj e; omega))
    go_simp
    first | done | with_reducible rfl
  (try simp only [Act.put, List.setIfInBounds_toArray, List.set_cons_zero, List.set_cons_succ])
  refine anyU_take (i := 4) (oi := { dst := some 18, op := Op.load 26 (Operand.tmp 6), type := 26, pos := "law.go:61", after := #[], guard := none }) (v := ?_) rfl (by kernel_rfl) (by kernel_rfl) (by kernel_rfl) (by kernel_rfl) (by kernel_rfl) (fun _ _ _ h => h) (Or.inl ⟨by rfl, ?_⟩) hHeld ?_
  rotate_left 1
  · intro u hSu
    obtain ⟨q0, q1⟩ := row_cells (kept_row HG.out.1 hSu.out.1 (fun e => by have := Option.some.inj e; omega))
    obtain ⟨q2, q3⟩ := row_cells (kept_row HG.out.2.1 hSu.out.1 (fun e => by have := Option.some.inj e; omega))
    go_simp
    first | done | with_reducible rfl
  (try simp only [Act.put, List.setIfInBounds_toArray, List.set_cons_zero, List.set_cons_succ])
  refine anyU_take (i := 6) (oi := { dst := some 20, op := Op.load 47 (Operand.tmp 3), type := 47, pos := "law.go:61", after := #[], guard := none }) (v := ?_) rfl (by kernel_rfl) (by kernel_rfl) (by kernel_rfl) (by kernel_rfl) (by kernel_rfl) (fun _ _ _ h => h) (Or.inl ⟨by rfl, ?_⟩) hHeld ?_
  rotate_left 1
  · intro u hSu
    obtain ⟨q0, q1⟩ := row_cells (kept_row HG.out.1 hSu.out.1 (fun e => by have := Option.some.inj e; omega))
    obtain ⟨q2, q3⟩ := row_cells (kept_row HG.out.2.1 hSu.out.1 (fun e => by have := Option.some.inj e; omega))
    go_simp
    first | done | with_reducible rfl
  (try simp only [Act.put, List.setIfInBounds_toArray, List.set_cons_zero, List.set_cons_succ])
  refine anyU_ready (rs := [2]) (by kernel_rfl) (by simp) ?_
  refine EachU.cons (o := { dst := some 16, op := Op.call { callee := Callee.value (Operand.func 29), args := #[Operand.tmp 14, Operand.tmp 15], argTypes := #[27, 26] }, type := 47, pos := "law.go:61", after := #[{ on := 0, ground := Ground.data }, { on := 1, ground := Ground.data }], guard := none }) rfl (fun Kz hK => ?_) EachU.nil
  go_simp
  go_at_call 29
  refine (fail_any a ⟨R, L, pR, cR, pL, cL⟩ _ _ (HQ.out _ hHeld.out.1 hHeld.out.2).1 (HQ.out _ hHeld.out.1 hHeld.out.2).2 hHeld.out.2).mono ?_
  rintro e w5 ⟨Hh, Xh, vh, vx, rfl, hH, hX, -, -, hs⟩
  obtain ⟨F0, rfl, rfl, hF0⟩ := fl_of_own hH hX
  have HF0 := Lib.hid (And.intro hF0 hHeld.out.1.size)
  clear hH hX hF0
  refine hK.out _ _ (fun _ => Lib.hid ⟨grown_trans hHeld.out.1 hs.1, hs.2⟩) (fun hH2 => ?_)
  clear hK Kz hHeld
  have hHeld := hH2 rfl
  clear hH2
  (try simp only [Act.put, List.setIfInBounds_toArray, List.set_cons_zero, List.set_cons_succ])
  refine anyU_ready (rs := [5]) (by kernel_rfl) (by simp) ?_
  refine EachU.cons (o := { dst := some 19, op := Op.call { callee := Callee.value (Operand.func 30), args := #[Operand.tmp 17, Operand.tmp 18], argTypes := #[27, 26] }, type := 47, pos := "law.go:61", after := #[{ on := 3, ground := Ground.data }, { on := 4, ground := Ground.data }, { on := 2, ground := Ground.chain }], guard := none }) rfl (fun Kz hK => ?_) EachU.nil
  go_simp
  go_at_call 30
  refine (fails_any a ⟨R, L, pR, cR, pL, cL⟩ _ _ (HQ.out _ hHeld.out.1 hHeld.out.2).1 (HQ.out _ hHeld.out.1 hHeld.out.2).2 hHeld.out.2).mono ?_
  rintro e w6 ⟨Hh, Xh, vh, vx, rfl, hH, hX, -, -, hs⟩
  obtain ⟨F1, rfl, rfl, hF1⟩ := fl_of_own hH hX
  have HF1 : Hid (FlOk w6 (· < w6.heap.size) F1) := Lib.hid (hF1.mono (fun b hb => hb.2))
  have HF0b : Hid (FlOk w6 (· < w6.heap.size) F0) := Lib.hid ((HF0.out.1.grown hs.1 (fun b hb e => by have h1 := Option.some.inj e; have h2 := HF0.out.2; have h3 := HG.out.2.2.2.1.lt; have h4 := hb.1; omega)).mono (fun b hb => Nat.lt_of_lt_of_le hb.2 hs.1.size))
  clear hH hX hF1 HF0
  refine hK.out _ _ (fun _ => Lib.hid ⟨grown_trans hHeld.out.1 hs.1, hs.2⟩) (fun hH2 => ?_)
  clear hK Kz hHeld
  have hHeld := hH2 rfl
  clear hH2
  (try simp only [Act.put, List.setIfInBounds_toArray, List.set_cons_zero, List.set_cons_succ])
  refine anyU_ready (rs := [7]) (by kernel_rfl) (by simp) ?_
  refine EachU.cons (o := { dst := some 21, op := Op.buildSlice 49 3 #[(0, Operand.tmp 16), (1, Operand.tmp 19), (2, Operand.tmp 20)], type := 49, pos := "law.go:61", after := #[{ on := 2, ground := Ground.data }, { on := 5, ground := Ground.data }, { on := 6, ground := Ground.data }], guard := none }) rfl (fun Kz hK => ?_) EachU.nil
  go_simp
  have gal2 := World.grownBy_alloc w6 (.cells #[.slice F0.pH F0.H.length F0.cH, .slice F0.pX F0.X.length F0.cX, .slice F1.pH F1.H.length F1.cH, .slice F1.pX F1.X.length F1.cX, .slice F2.pH F2.H.length F2.cH, .slice F2.pX F2.X.length F2.cX] 47) none
  have g46 := hHeld.out.1
  have hsz6 : w4.heap.size ≤ w6.heap.size := g46.size
  have hw46 := grown_new HW4.out g46 (by omega)
  have HL : Hid (WL3 w ⟨R, L, pR, cR, pL, cL⟩ w3.heap.size w6.heap.size w.heap.size (w6.heap.size + 1) F0 F1 F2 (w6.alloc (.cells #[.slice F0.pH F0.H.length F0.cH, .slice F0.pX F0.X.length F0.cX, .slice F1.pH F1.H.length F1.cH, .slice F1.pX F1.X.length F1.cX, .slice F2.pH F2.H.length F2.cH, .slice F2.pX F2.X.length F2.cX] 47))) := Lib.hid ⟨kept_row (kept_row HG.out.1 g46 (fun e => by have := Option.some.inj e; omega)) gal2 (by simp), heap_alloc_new w6 _, kept_row (kept_row HG.out.2.1 g46 (fun e => by have := Option.some.inj e; omega)) gal2 (by simp), ((HQ.out w6 g46 hHeld.out.2).1.keep gal2).mono (fun b hb => by have := HG.out.2.2.2.2.2; omega), (HF0b.out.keep gal2).mono (fun b hb => by omega), (HF1.out.keep gal2).mono (fun b hb => by omega), ((HG.out.2.2.2.2.1.grown g46 (fun b (hb : b < wa.heap.size) e => by have := Option.some.inj e; have := HA.out; omega)).keep gal2).mono (fun b (hb : b < wa.heap.size) => by have := HA.out; have := HG.out.2.2.2.2.2; omega), grown_trans hw46 gal2, ⟨by have := HG.out.2.2.2.2.2; omega, by omega, by have := hw46.size; omega⟩, by have := hw46.size; omega, by simp⟩
  clear gal2 g46 hw46 hsz6
  refine hK.out _ _ (fun _ => Lib.hid ⟨grown_trans hHeld.out.1 (grown_none (World.grownBy_alloc _ _ none) _), hHeld.out.2.alloc _⟩) (fun hH2 => ?_)
  clear hK Kz hHeld
  have hHeld := hH2 rfl
  clear hH2
  (try simp only [Act.put, List.setIfInBounds_toArray, List.set_cons_zero, List.set_cons_succ])
  refine anyU_ready (rs := [8]) (by kernel_rfl) (by simp) ?_
  refine EachU.cons (o := { dst := some 7, op := Op.assign (Operand.tmp 21), type := 49, pos := "law.go:61", after := #[{ on := 7, ground := Ground.data }, { on := 5, ground := Ground.chain }, { on := 0, ground := Ground.phase }, { on := 1, ground := Ground.phase }, { on := 2, ground := Ground.phase }, { on := 3, ground := Ground.phase }, { on := 4, ground := Ground.phase }, { on := 5, ground := Ground.phase }, { on := 6, ground := Ground.phase }, { on := 7, ground := Ground.phase }], guard := none }) rfl (fun Kz hK => ?_) EachU.nil
  go_simp
  refine hK.out _ _ (fun h => by cases h) (fun _ => ?_)
  clear hK Kz
  (try simp only [Act.put, List.setIfInBounds_toArray, List.set_cons_zero, List.set_cons_succ])
  refine anyU_done (by kernel_rfl) ?_ _
  clear hHeld HF0b HF1 HG HQ HW4 H2
  go_upto_region 4 with fail
  generalize w6.alloc _ = w7 at *
  generalize hB6 : w6.heap.size + 1 = B at *
  generalize w6.heap.size = Bl at *
  generalize w3.heap.size = G at *
  clear hB6
  go_wp2_with fail
  go_loopw [8] (fun i wr => ∃ k : Nat, k ≤ 3 ∧ i = .int .i64 (k : Int) ∧ Hid (WL3 w ⟨R, L, pR, cR, pL, cL⟩ G Bl w.heap.size B F0 F1 F2 wr)) (fun i _ => 3 - (intOf i).toNat)
  case atStart => exact ⟨0, by omega, rfl, HL⟩
  case round =>
    obtain ⟨k, hk, rfl, HK⟩ := hrel
    clear HL
    obtain ⟨r0, r1⟩ := row_cells HK.out.rb
    go_upto_region 5 with fail
    go_cut [35] from 22 to 35 (fun bb wx => ∃ z, bb = .bool z ∧ (z = true → k < 3) ∧ wr = wx)
    case first =>
      by_cases hk3 : k < 3
      · have hk3' : (k : Int) < 3 := by omega
        go_wp2_with fail
        go_meet
        exact ⟨_, rfl, fun _ => hk3, rfl⟩
      · have hk5 : decide ((k : Int) < 3) = false := decide_eq_false (by omega)
        have hk4 : ¬ ((k : Int) < 3) := by omega
        go_wp2_with fail
        go_meet
        exact ⟨false, rfl, fun h => (by cases h), rfl⟩
    case rest =>
    obtain ⟨z, rfl, hz, rfl⟩ := hcut
    go_upto_if 35 with fail
    cases z
    rotate_left 1
    · have hcond := hz rfl
      clear hz
      obtain ⟨F, hF⟩ := WL3.at_ w ⟨R, L, pR, cR, pL, cL⟩ G Bl w.heap.size B F0 F1 F2 k hcond
      have HF := Lib.hid hF
      clear hF
      have hk3 : (k : Int) < 3 := by omega
      have hk0 : (0 : Int) ≤ (k : Int) := by omega
      have hk3n : k < 3 := hcond
      have HKD := Lib.hid (HK.out.keep (grown_drew (grown_refl wr none)))
      have hBw := HK.out.lt.2.2
      obtain ⟨Rw, hRw⟩ : ∃ Rw, (if okT R L = true then woR F R else []) = Rw := ⟨_, rfl⟩
      obtain ⟨Lw, hLw⟩ : ∃ Lw, (if okT R L = true then woL F L else []) = Lw := ⟨_, rfl⟩
      have HC : Hid (chk Rw Lw = 0) := Lib.hid (by rw [← hRw, ← hLw]; exact wo_chk F R L)
      have HRL := Lib.hid (And.intro hRw hLw)
      clear hRw hLw hcond
      go_upto_region 7 with fail
      clear r0 r1 HK
      refine region_until (S := fun w' => Hid (WL3 w ⟨R, L, pR, cR, pL, cL⟩ G Bl w.heap.size B F0 F1 F2 w')) (fun j => j == 7) (by kernel_rfl) (HKD) (fun hHeld => ?_)
      refine anyU_take (i := 0) (oi := { dst := some 38, op := Op.load 26 (Operand.tmp 6), type := 26, pos := "law.go:63", after := #[], guard := none }) (v := ?_) rfl (by kernel_rfl) (by kernel_rfl) (by kernel_rfl) (by kernel_rfl) (by kernel_rfl) (fun _ _ _ h => h) (Or.inl ⟨by rfl, ?_⟩) hHeld ?_
      rotate_left 1
      · intro u hSu
        obtain ⟨q0, q1⟩ := row_cells hSu.out.gb
        obtain ⟨q2, q3⟩ := (HF.out _ hSu.out).2
        go_simp
        first | done | with_reducible rfl
      (try simp only [Act.put, List.setIfInBounds_toArray, List.set_cons_zero, List.set_cons_succ])
      refine anyU_take (i := 1) (oi := { dst := some 39, op := Op.move (Operand.tmp 7), type := 49, pos := "law.go:63", after := #[], guard := none }) (v := ?_) rfl (by kernel_rfl) (by kernel_rfl) (by kernel_rfl) (by kernel_rfl) (by kernel_rfl) (fun _ _ _ h => h) (Or.inl ⟨by rfl, ?_⟩) hHeld ?_
      rotate_left 1
      · intro u hSu
        obtain ⟨q0, q1⟩ := row_cells hSu.out.gb
        obtain ⟨q2, q3⟩ := (HF.out _ hSu.out).2
        go_simp
        first | done | with_reducible rfl
      (try simp only [Act.put, List.setIfInBounds_toArray, List.set_cons_zero, List.set_cons_succ])
      refine anyU_take (i := 2) (oi := { dst := some 40, op := Op.move (Operand.tmp 8), type := 3, pos := "law.go:63", after := #[], guard := none }) (v := ?_) rfl (by kernel_rfl) (by kernel_rfl) (by kernel_rfl) (by kernel_rfl) (by kernel_rfl) (fun _ _ _ h => h) (Or.inl ⟨by rfl, ?_⟩) hHeld ?_
      rotate_left 1
      · intro u hSu
        obtain ⟨q0, q1⟩ := row_cells hSu.out.gb
        obtain ⟨q2, q3⟩ := (HF.out _ hSu.out).2
        go_simp
        first | done | with_reducible rfl
      (try simp only [Act.put, List.setIfInBounds_toArray, List.set_cons_zero, List.set_cons_succ])
      refine anyU_take (i := 3) (oi := { dst := some 41, op := Op.indexAddr 49 (Operand.tmp 39) (Operand.tmp 40), type := 0, pos := "law.go:63", after := #[{ on := 1, ground := Ground.data }, { on := 2, ground := Ground.data }], guard := none }) (v := ?_) rfl (by kernel_rfl) (by kernel_rfl) (by kernel_rfl) (by kernel_rfl) (by kernel_rfl) (fun _ _ _ h => h) (Or.inl ⟨by rfl, ?_⟩) hHeld ?_
      rotate_left 1
      · intro u hSu
        obtain ⟨q0, q1⟩ := row_cells hSu.out.gb
        obtain ⟨q2, q3⟩ := (HF.out _ hSu.out).2
        go_simp
        first | done | with_reducible rfl
      (try simp only [Act.put, List.setIfInBounds_toArray, List.set_cons_zero, List.set_cons_succ])
      refine anyU_take (i := 4) (oi := { dst := some 42, op := Op.load 47 (Operand.tmp 41), type := 47, pos := "law.go:63", after := #[{ on := 3, ground := Ground.data }], guard := none }) (v := ?_) rfl (by kernel_rfl) (by kernel_rfl) (by kernel_rfl) (by kernel_rfl) (by kernel_rfl) (fun _ _ _ h => h) (Or.inl ⟨by rfl, ?_⟩) hHeld ?_
      rotate_left 1
      · intro u hSu
        obtain ⟨q0, q1⟩ := row_cells hSu.out.gb
        obtain ⟨q2, q3⟩ := (HF.out _ hSu.out).2
        go_simp
        first | done | with_reducible rfl
      (try simp only [Act.put, List.setIfInBounds_toArray, List.set_cons_zero, List.set_cons_succ])
      refine anyU_ready (rs := [5, 6]) (by kernel_rfl) (by simp) ?_
      refine EachU.cons (o := { dst := some 43, op := Op.call { callee := Callee.value (Operand.func 31), args := #[Operand.tmp 38, Operand.tmp 42], argTypes := #[26, 47] }, type := 26, pos := "law.go:63", after := #[{ on := 0, ground := Ground.data }, { on := 4, ground := Ground.data }], guard := none }) rfl (fun Kz hK => ?_) (EachU.cons (o := { dst := some 9, op := Op.alloc 26, type := 0, pos := "law.go:63", after := #[], guard := none }) rfl (fun Kz hK => ?_) EachU.nil)
      · go_simp
        go_at_call 31
        refine (twithout_any ⟨R, L, pR, cR, pL, cL⟩ F _ _ _ hHeld.out.t (HF.out _ hHeld.out).1).mono ?_
        rintro e w8 ⟨pu, cu, pv, cv, rfl, hTu, hg⟩
        simp only at hTu ⊢
        rw [HRL.out.1, HRL.out.2] at hTu
        rw [HRL.out.1, HRL.out.2]
        have HTu := Lib.hid hTu
        have H5n := Lib.hid (hHeld.out.keep hg)
        first | (have HB9 : Hid (w8.heap[wr.heap.size]? = some (.cells #[.slice none 0 0, .slice none 0 0] 26 (0, 0))) := Lib.hid (kept_row (heap_alloc_new wr.drew (.cells #[.slice none 0 0, .slice none 0 0] 26)) hg (by simp))) | skip
        clear hTu hg
        refine hK.out _ _ (fun _ => H5n) (fun hH2 => ?_)
        clear hK Kz hHeld
        have hHeld := hH2 rfl
        clear hH2
        (try simp only [Act.put, List.setIfInBounds_toArray, List.set_cons_zero, List.set_cons_succ])
        refine anyU_ready (rs := [6]) (by kernel_rfl) (by simp) ?_
        refine EachU.cons (o := { dst := some 9, op := Op.alloc 26, type := 0, pos := "law.go:63", after := #[], guard := none }) rfl (fun Kz hK => ?_) EachU.nil
        have HA9 := hHeld
        go_simp
        refine hK.out _ _ (fun _ => Lib.hid (hHeld.out.keep (World.grownBy_alloc _ _ none))) (fun hH2 => ?_)
        clear hK Kz hHeld
        have hHeld := hH2 rfl
        clear hH2
        (try simp only [Act.put, List.setIfInBounds_toArray, List.set_cons_zero, List.set_cons_succ])
        refine anyU_ready (rs := [7]) (by kernel_rfl) (by simp) ?_
        refine EachU.cons (o := { dst := none, op := Op.store 26 (Operand.tmp 9) (Operand.tmp 43), type := 0, pos := "law.go:63", after := #[{ on := 6, ground := Ground.data }, { on := 5, ground := Ground.data }, { on := 5, ground := Ground.chain }, { on := 0, ground := Ground.phase }, { on := 1, ground := Ground.phase }, { on := 2, ground := Ground.phase }, { on := 3, ground := Ground.phase }, { on := 4, ground := Ground.phase }, { on := 5, ground := Ground.phase }, { on := 6, ground := Ground.phase }], guard := none }) rfl (fun Kz hK => ?_) EachU.nil
        first | (have z0 := (row_cells HB9.out).1; have z1 := (row_cells HB9.out).2; have y0 := frozen_of_row _ _ 0 _ _ HB9.out; have y1 := frozen_of_row _ _ 1 _ _ HB9.out) | skip
        go_simp
        refine hK.out _ _ (fun h => by cases h) (fun _ => ?_)
        clear hK Kz
        (try simp only [Act.put, List.setIfInBounds_toArray, List.set_cons_zero, List.set_cons_succ])
        refine anyU_done (by kernel_rfl) ?_ _
        first | (have HU := Lib.hid (And.intro (store2 (u := .slice pu Rw.length cu) (z := .slice pv Lw.length cv) HB9.out) (And.intro (WL3.other hHeld.out (grown_store2 w8 wr.heap.size (.slice pu Rw.length cu) (.slice pv Lw.length cv)) hBw) (tg_all (HTu.out.grown (grown_store2 w8 wr.heap.size (.slice pu Rw.length cu) (.slice pv Lw.length cv)) (fun b hb e => by have h1 := Option.some.inj e; simp at hb; omega)))))) | (have HU := Lib.hid (And.intro (heap_alloc_new w8 (.cells #[.slice pu Rw.length cu, .slice pv Lw.length cv] 26)) (And.intro (HA9.out.keep (World.grownBy_alloc w8 (.cells #[.slice pu Rw.length cu, .slice pv Lw.length cv] 26) none)) (tg_all (HTu.out.keep (World.grownBy_alloc w8 (.cells #[.slice pu Rw.length cu, .slice pv Lw.length cv] 26) none))))))
        clear hHeld HTu HKD HA9
        try clear z0 z1 y0 y1
        try clear HB9
        go_upto_region 8 with fail
        have HUD := Lib.hid (And.intro (HU.out.2.1.keep (grown_drew (grown_refl _ _))) (And.intro HU.out.1 (HU.out.2.2.keep (grown_drew (grown_refl _ _)))))
        refine wp_region_held_drew (S := fun w' => Hid (WL3 w ⟨R, L, pR, cR, pL, cL⟩ G Bl w.heap.size B F0 F1 F2 w' ∧ w'.heap[w8.heap.size]? = some (.cells #[.slice pu Rw.length cu, .slice pv Lw.length cv] 26 (0, 0)) ∧ TgOk w' (fun _ => True) ⟨Rw, Lw, pu, cu, pv, cv⟩)) (by kernel_rfl) (HUD) (fun hHeld => ?_)
        refine wpAnyH_take (i := 0) (oi := { dst := some 44, op := Op.load 26 (Operand.tmp 9), type := 26, pos := "law.go:64", after := #[], guard := none }) (v := ?_) rfl (by kernel_rfl) (by kernel_rfl) (by kernel_rfl) (fun _ _ _ h => h) (Or.inl ⟨by rfl, ?_⟩) hHeld ?_
        rotate_left 1
        · intro u hSu
          obtain ⟨q0, q1⟩ := row_cells hSu.out.1.gb
          obtain ⟨q2, q3⟩ := (HF.out _ hSu.out.1).2
          obtain ⟨q4, q5⟩ := row_cells hSu.out.2.1
          go_simp
          first | done | with_reducible rfl
        (try simp only [Act.put, List.setIfInBounds_toArray, List.set_cons_zero, List.set_cons_succ])
        refine wpAnyH_take (i := 1) (oi := { dst := some 45, op := Op.load 26 (Operand.tmp 6), type := 26, pos := "law.go:64", after := #[], guard := none }) (v := ?_) rfl (by kernel_rfl) (by kernel_rfl) (by kernel_rfl) (fun _ _ _ h => h) (Or.inl ⟨by rfl, ?_⟩) hHeld ?_
        rotate_left 1
        · intro u hSu
          obtain ⟨q0, q1⟩ := row_cells hSu.out.1.gb
          obtain ⟨q2, q3⟩ := (HF.out _ hSu.out.1).2
          obtain ⟨q4, q5⟩ := row_cells hSu.out.2.1
          go_simp
          first | done | with_reducible rfl
        (try simp only [Act.put, List.setIfInBounds_toArray, List.set_cons_zero, List.set_cons_succ])
        refine wpAnyH_take (i := 2) (oi := { dst := some 46, op := Op.move (Operand.tmp 7), type := 49, pos := "law.go:64", after := #[], guard := none }) (v := ?_) rfl (by kernel_rfl) (by kernel_rfl) (by kernel_rfl) (fun _ _ _ h => h) (Or.inl ⟨by rfl, ?_⟩) hHeld ?_
        rotate_left 1
        · intro u hSu
          obtain ⟨q0, q1⟩ := row_cells hSu.out.1.gb
          obtain ⟨q2, q3⟩ := (HF.out _ hSu.out.1).2
          obtain ⟨q4, q5⟩ := row_cells hSu.out.2.1
          go_simp
          first | done | with_reducible rfl
        (try simp only [Act.put, List.setIfInBounds_toArray, List.set_cons_zero, List.set_cons_succ])
        refine wpAnyH_take (i := 3) (oi := { dst := some 47, op := Op.move (Operand.tmp 8), type := 3, pos := "law.go:64", after := #[], guard := none }) (v := ?_) rfl (by kernel_rfl) (by kernel_rfl) (by kernel_rfl) (fun _ _ _ h => h) (Or.inl ⟨by rfl, ?_⟩) hHeld ?_
        rotate_left 1
        · intro u hSu
          obtain ⟨q0, q1⟩ := row_cells hSu.out.1.gb
          obtain ⟨q2, q3⟩ := (HF.out _ hSu.out.1).2
          obtain ⟨q4, q5⟩ := row_cells hSu.out.2.1
          go_simp
          first | done | with_reducible rfl
        (try simp only [Act.put, List.setIfInBounds_toArray, List.set_cons_zero, List.set_cons_succ])
        refine wpAnyH_take (i := 4) (oi := { dst := some 48, op := Op.indexAddr 49 (Operand.tmp 46) (Operand.tmp 47), type := 0, pos := "law.go:64", after := #[{ on := 2, ground := Ground.data }, { on := 3, ground := Ground.data }], guard := none }) (v := ?_) rfl (by kernel_rfl) (by kernel_rfl) (by kernel_rfl) (fun _ _ _ h => h) (Or.inl ⟨by rfl, ?_⟩) hHeld ?_
        rotate_left 1
        · intro u hSu
          obtain ⟨q0, q1⟩ := row_cells hSu.out.1.gb
          obtain ⟨q2, q3⟩ := (HF.out _ hSu.out.1).2
          obtain ⟨q4, q5⟩ := row_cells hSu.out.2.1
          go_simp
          first | done | with_reducible rfl
        (try simp only [Act.put, List.setIfInBounds_toArray, List.set_cons_zero, List.set_cons_succ])
        refine wpAnyH_take (i := 5) (oi := { dst := some 49, op := Op.load 47 (Operand.tmp 48), type := 47, pos := "law.go:64", after := #[{ on := 4, ground := Ground.data }], guard := none }) (v := ?_) rfl (by kernel_rfl) (by kernel_rfl) (by kernel_rfl) (fun _ _ _ h => h) (Or.inl ⟨by rfl, ?_⟩) hHeld ?_
        rotate_left 1
        · intro u hSu
          obtain ⟨q0, q1⟩ := row_cells hSu.out.1.gb
          obtain ⟨q2, q3⟩ := (HF.out _ hSu.out.1).2
          obtain ⟨q4, q5⟩ := row_cells hSu.out.2.1
          go_simp
          first | done | with_reducible rfl
        (try simp only [Act.put, List.setIfInBounds_toArray, List.set_cons_zero, List.set_cons_succ])
        refine wpAnyH_ready (rs := [6]) (by kernel_rfl) (by simp) ?_
        refine AllReadyH.cons (o := { dst := some 50, op := Op.call { callee := Callee.value (Operand.func 33), args := #[Operand.tmp 45, Operand.tmp 49], argTypes := #[26, 47] }, type := 26, pos := "law.go:64", after := #[{ on := 1, ground := Ground.data }, { on := 5, ground := Ground.data }], guard := none }) rfl (fun Kz hK => ?_) AllReadyH.nil
        go_simp
        go_at_call 33
        refine (rwithout_any ⟨R, L, pR, cR, pL, cL⟩ F _ _ _ hHeld.out.1.t (HF.out _ hHeld.out.1).1).mono ?_
        rintro e w10 ⟨pu2, cu2, pv2, cv2, rfl, hTr, hg⟩
        simp only at hTr ⊢
        rw [HRL.out.1, HRL.out.2] at hTr
        rw [HRL.out.1, HRL.out.2]
        have HTr := Lib.hid hTr
        clear hTr
        refine hK.out _ _ (Lib.hid ⟨hHeld.out.1.keep hg, kept_row hHeld.out.2.1 hg (by simp), hHeld.out.2.2.keep hg⟩) (fun hH2 => ?_)
        clear hK Kz hHeld
        have hHeld := hH2
        clear hH2
        (try simp only [Act.put, List.setIfInBounds_toArray, List.set_cons_zero, List.set_cons_succ])
        refine wpAnyH_ready (rs := [7]) (by kernel_rfl) (by simp) ?_
        refine AllReadyH.cons (o := { dst := some 51, op := Op.call { callee := Callee.value (Operand.func 32), args := #[Operand.tmp 44, Operand.tmp 50], argTypes := #[26, 26] }, type := 4, pos := "law.go:64", after := #[{ on := 0, ground := Ground.data }, { on := 6, ground := Ground.data }, { on := 6, ground := Ground.chain }], guard := none }) rfl (fun Kz hK => ?_) AllReadyH.nil
        go_simp
        go_at_call 32
        refine (rsameT_any ⟨Rw, Lw, pu, cu, pv, cv⟩ ⟨Rw, Lw, pu2, cu2, pv2, cv2⟩ rfl rfl _ _ _ hHeld.out.2.2 HTr.out).mono ?_
        rintro e w11 ⟨rfl, hg⟩
        refine hK.out _ _ (Lib.hid ⟨hHeld.out.1.keep hg, kept_row hHeld.out.2.1 hg (by simp), hHeld.out.2.2.keep hg⟩) (fun hH2 => ?_)
        clear hK Kz hHeld
        have hHeld := hH2
        clear hH2
        (try simp only [Act.put, List.setIfInBounds_toArray, List.set_cons_zero, List.set_cons_succ])
        refine wpAnyH_take (i := 8) (oi := { dst := some 52, op := Op.unOp UnOp.not 4 (Operand.tmp 51), type := 4, pos := "law.go:64", after := #[{ on := 7, ground := Ground.data }], guard := none }) (v := (.bool false)) rfl (by kernel_rfl) (by kernel_rfl) (by kernel_rfl) (fun _ _ _ h => h) (Or.inl ⟨by rfl, ?_⟩) hHeld ?_
        · intro u hSu
          obtain ⟨q0, q1⟩ := row_cells hSu.out.1.gb
          obtain ⟨q2, q3⟩ := (HF.out _ hSu.out.1).2
          obtain ⟨q4, q5⟩ := row_cells hSu.out.2.1
          go_simp
          first | done | with_reducible rfl | (simp; done)
        (try simp only [Act.put, List.setIfInBounds_toArray, List.set_cons_zero, List.set_cons_succ])
        refine wpAnyH_take (i := 9) (oi := { dst := some 53, op := Op.move (Operand.tmp 52), type := 4, pos := "law.go:64", after := #[{ on := 8, ground := Ground.data }, { on := 7, ground := Ground.chain }], guard := none }) (v := (.bool false)) rfl (by kernel_rfl) (by kernel_rfl) (by kernel_rfl) (fun _ _ _ h => h) (Or.inl ⟨by rfl, ?_⟩) hHeld ?_
        · intro u hSu
          obtain ⟨q0, q1⟩ := row_cells hSu.out.1.gb
          obtain ⟨q2, q3⟩ := (HF.out _ hSu.out.1).2
          obtain ⟨q4, q5⟩ := row_cells hSu.out.2.1
          go_simp
          first | done | with_reducible rfl | (simp; done)
        (try simp only [Act.put, List.setIfInBounds_toArray, List.set_cons_zero, List.set_cons_succ])
        refine wpAnyH_take (i := 10) (oi := { dst := some 54, op := Op.load 26 (Operand.tmp 9), type := 26, pos := "law.go:64", after := #[{ on := 9, ground := Ground.guard }], guard := some (9, false) }) (v := ?_) rfl (by kernel_rfl) (by kernel_rfl) (by kernel_rfl) (fun _ _ _ h => h) (Or.inl ⟨by rfl, ?_⟩) hHeld ?_
        rotate_left 1
        · intro u hSu
          obtain ⟨q0, q1⟩ := row_cells hSu.out.1.gb
          obtain ⟨q2, q3⟩ := (HF.out _ hSu.out.1).2
          obtain ⟨q4, q5⟩ := row_cells hSu.out.2.1
          go_simp
          first | done | with_reducible rfl
        (try simp only [Act.put, List.setIfInBounds_toArray, List.set_cons_zero, List.set_cons_succ])
        refine wpAnyH_ready (rs := [11]) (by kernel_rfl) (by simp) ?_
        refine AllReadyH.cons (o := { dst := some 55, op := Op.call { callee := Callee.value (Operand.func 13), args := #[Operand.tmp 54], argTypes := #[26] }, type := 30, pos := "law.go:64", after := #[{ on := 10, ground := Ground.data }, { on := 9, ground := Ground.chain }, { on := 9, ground := Ground.guard }], guard := some (9, false) }) rfl (fun Kz hK => ?_) AllReadyH.nil
        go_simp
        go_at_call 13
        refine (tcheck_any ⟨Rw, Lw, pu, cu, pv, cv⟩ _ _ hHeld.out.2.2).mono ?_
        rintro e w12 ⟨rfl, hg⟩
        simp only
        rw [HC.out]
        refine hK.out _ _ (Lib.hid ⟨hHeld.out.1.keep hg, kept_row hHeld.out.2.1 hg (by simp), hHeld.out.2.2.keep hg⟩) (fun hH2 => ?_)
        clear hK Kz hHeld
        have hHeld := hH2
        clear hH2
        (try simp only [Act.put, List.setIfInBounds_toArray, List.set_cons_zero, List.set_cons_succ])
        refine wpAnyH_take (i := 12) (oi := { dst := some 56, op := Op.binOp BinOp.neq 30 (Operand.tmp 55) (Operand.const (Value.int IntKind.i64 0)) 30, type := 4, pos := "law.go:64", after := #[{ on := 11, ground := Ground.data }, { on := 9, ground := Ground.guard }], guard := some (9, false) }) (v := (.bool false)) rfl (by kernel_rfl) (by kernel_rfl) (by kernel_rfl) (fun _ _ _ h => h) (Or.inl ⟨by rfl, ?_⟩) hHeld ?_
        · intro u hSu
          obtain ⟨q0, q1⟩ := row_cells hSu.out.1.gb
          obtain ⟨q2, q3⟩ := (HF.out _ hSu.out.1).2
          obtain ⟨q4, q5⟩ := row_cells hSu.out.2.1
          go_simp
          first | done | with_reducible rfl | (simp; done)
        (try simp only [Act.put, List.setIfInBounds_toArray, List.set_cons_zero, List.set_cons_succ])
        refine wpAnyH_take (i := 13) (oi := { dst := some 57, op := Op.pick (Operand.tmp 53) (Operand.const (Value.bool true)) (Operand.tmp 56), type := 4, pos := "law.go:64", after := #[{ on := 9, ground := Ground.data }, { on := 12, ground := Ground.data }], guard := none }) (v := (.bool false)) rfl (by kernel_rfl) (by kernel_rfl) (by kernel_rfl) (fun _ _ _ h => h) (Or.inl ⟨by rfl, ?_⟩) hHeld ?_
        · intro u hSu
          obtain ⟨q0, q1⟩ := row_cells hSu.out.1.gb
          obtain ⟨q2, q3⟩ := (HF.out _ hSu.out.1).2
          obtain ⟨q4, q5⟩ := row_cells hSu.out.2.1
          go_simp
          first | done | with_reducible rfl | (simp; done)
        (try simp only [Act.put, List.setIfInBounds_toArray, List.set_cons_zero, List.set_cons_succ])
        refine wpAnyH_done (by kernel_rfl) ?_ _
        have H9 := hHeld.out.1
        clear hHeld HU HUD
        have H10 := Lib.hid H9
        clear H9
        go_wp2_with fail
        exact ⟨⟨k + 1, by omega, congrArg _ (by omega), H10⟩, by simp only [intOf]; omega⟩
      · have HA9 := hHeld
        go_simp
        refine hK.out _ _ (fun _ => Lib.hid (hHeld.out.keep (World.grownBy_alloc _ _ none))) (fun hH2 => ?_)
        clear hK Kz hHeld
        have hHeld := hH2 rfl
        clear hH2
        (try simp only [Act.put, List.setIfInBounds_toArray, List.set_cons_zero, List.set_cons_succ])
        refine anyU_ready (rs := [5]) (by kernel_rfl) (by simp) ?_
        refine EachU.cons (o := { dst := some 43, op := Op.call { callee := Callee.value (Operand.func 31), args := #[Operand.tmp 38, Operand.tmp 42], argTypes := #[26, 47] }, type := 26, pos := "law.go:63", after := #[{ on := 0, ground := Ground.data }, { on := 4, ground := Ground.data }], guard := none }) rfl (fun Kz hK => ?_) EachU.nil
        go_simp
        go_at_call 31
        refine (twithout_any ⟨R, L, pR, cR, pL, cL⟩ F _ _ _ hHeld.out.t (HF.out _ hHeld.out).1).mono ?_
        rintro e w8 ⟨pu, cu, pv, cv, rfl, hTu, hg⟩
        simp only at hTu ⊢
        rw [HRL.out.1, HRL.out.2] at hTu
        rw [HRL.out.1, HRL.out.2]
        have HTu := Lib.hid hTu
        have H5n := Lib.hid (hHeld.out.keep hg)
        first | (have HB9 : Hid (w8.heap[wr.heap.size]? = some (.cells #[.slice none 0 0, .slice none 0 0] 26 (0, 0))) := Lib.hid (kept_row (heap_alloc_new wr.drew (.cells #[.slice none 0 0, .slice none 0 0] 26)) hg (by simp))) | skip
        clear hTu hg
        refine hK.out _ _ (fun _ => H5n) (fun hH2 => ?_)
        clear hK Kz hHeld
        have hHeld := hH2 rfl
        clear hH2
        (try simp only [Act.put, List.setIfInBounds_toArray, List.set_cons_zero, List.set_cons_succ])
        refine anyU_ready (rs := [7]) (by kernel_rfl) (by simp) ?_
        refine EachU.cons (o := { dst := none, op := Op.store 26 (Operand.tmp 9) (Operand.tmp 43), type := 0, pos := "law.go:63", after := #[{ on := 6, ground := Ground.data }, { on := 5, ground := Ground.data }, { on := 5, ground := Ground.chain }, { on := 0, ground := Ground.phase }, { on := 1, ground := Ground.phase }, { on := 2, ground := Ground.phase }, { on := 3, ground := Ground.phase }, { on := 4, ground := Ground.phase }, { on := 5, ground := Ground.phase }, { on := 6, ground := Ground.phase }], guard := none }) rfl (fun Kz hK => ?_) EachU.nil
        first | (have z0 := (row_cells HB9.out).1; have z1 := (row_cells HB9.out).2; have y0 := frozen_of_row _ _ 0 _ _ HB9.out; have y1 := frozen_of_row _ _ 1 _ _ HB9.out) | skip
        go_simp
        refine hK.out _ _ (fun h => by cases h) (fun _ => ?_)
        clear hK Kz
        (try simp only [Act.put, List.setIfInBounds_toArray, List.set_cons_zero, List.set_cons_succ])
        refine anyU_done (by kernel_rfl) ?_ _
        first | (have HU := Lib.hid (And.intro (store2 (u := .slice pu Rw.length cu) (z := .slice pv Lw.length cv) HB9.out) (And.intro (WL3.other hHeld.out (grown_store2 w8 wr.heap.size (.slice pu Rw.length cu) (.slice pv Lw.length cv)) hBw) (tg_all (HTu.out.grown (grown_store2 w8 wr.heap.size (.slice pu Rw.length cu) (.slice pv Lw.length cv)) (fun b hb e => by have h1 := Option.some.inj e; simp at hb; omega)))))) | (have HU := Lib.hid (And.intro (heap_alloc_new w8 (.cells #[.slice pu Rw.length cu, .slice pv Lw.length cv] 26)) (And.intro (HA9.out.keep (World.grownBy_alloc w8 (.cells #[.slice pu Rw.length cu, .slice pv Lw.length cv] 26) none)) (tg_all (HTu.out.keep (World.grownBy_alloc w8 (.cells #[.slice pu Rw.length cu, .slice pv Lw.length cv] 26) none))))))
        clear hHeld HTu HKD HA9
        try clear z0 z1 y0 y1
        try clear HB9
        go_upto_region 8 with fail
        have HUD := Lib.hid (And.intro (HU.out.2.1.keep (grown_drew (grown_refl _ _))) (And.intro HU.out.1 (HU.out.2.2.keep (grown_drew (grown_refl _ _)))))
        refine wp_region_held_drew (S := fun w' => Hid (WL3 w ⟨R, L, pR, cR, pL, cL⟩ G Bl w.heap.size B F0 F1 F2 w' ∧ w'.heap[wr.heap.size]? = some (.cells #[.slice pu Rw.length cu, .slice pv Lw.length cv] 26 (0, 0)) ∧ TgOk w' (fun _ => True) ⟨Rw, Lw, pu, cu, pv, cv⟩)) (by kernel_rfl) (HUD) (fun hHeld => ?_)
        refine wpAnyH_take (i := 0) (oi := { dst := some 44, op := Op.load 26 (Operand.tmp 9), type := 26, pos := "law.go:64", after := #[], guard := none }) (v := ?_) rfl (by kernel_rfl) (by kernel_rfl) (by kernel_rfl) (fun _ _ _ h => h) (Or.inl ⟨by rfl, ?_⟩) hHeld ?_
        rotate_left 1
        · intro u hSu
          obtain ⟨q0, q1⟩ := row_cells hSu.out.1.gb
          obtain ⟨q2, q3⟩ := (HF.out _ hSu.out.1).2
          obtain ⟨q4, q5⟩ := row_cells hSu.out.2.1
          go_simp
          first | done | with_reducible rfl
        (try simp only [Act.put, List.setIfInBounds_toArray, List.set_cons_zero, List.set_cons_succ])
        refine wpAnyH_take (i := 1) (oi := { dst := some 45, op := Op.load 26 (Operand.tmp 6), type := 26, pos := "law.go:64", after := #[], guard := none }) (v := ?_) rfl (by kernel_rfl) (by kernel_rfl) (by kernel_rfl) (fun _ _ _ h => h) (Or.inl ⟨by rfl, ?_⟩) hHeld ?_
        rotate_left 1
        · intro u hSu
          obtain ⟨q0, q1⟩ := row_cells hSu.out.1.gb
          obtain ⟨q2, q3⟩ := (HF.out _ hSu.out.1).2
          obtain ⟨q4, q5⟩ := row_cells hSu.out.2.1
          go_simp
          first | done | with_reducible rfl
        (try simp only [Act.put, List.setIfInBounds_toArray, List.set_cons_zero, List.set_cons_succ])
        refine wpAnyH_take (i := 2) (oi := { dst := some 46, op := Op.move (Operand.tmp 7), type := 49, pos := "law.go:64", after := #[], guard := none }) (v := ?_) rfl (by kernel_rfl) (by kernel_rfl) (by kernel_rfl) (fun _ _ _ h => h) (Or.inl ⟨by rfl, ?_⟩) hHeld ?_
        rotate_left 1
        · intro u hSu
          obtain ⟨q0, q1⟩ := row_cells hSu.out.1.gb
          obtain ⟨q2, q3⟩ := (HF.out _ hSu.out.1).2
          obtain ⟨q4, q5⟩ := row_cells hSu.out.2.1
          go_simp
          first | done | with_reducible rfl
        (try simp only [Act.put, List.setIfInBounds_toArray, List.set_cons_zero, List.set_cons_succ])
        refine wpAnyH_take (i := 3) (oi := { dst := some 47, op := Op.move (Operand.tmp 8), type := 3, pos := "law.go:64", after := #[], guard := none }) (v := ?_) rfl (by kernel_rfl) (by kernel_rfl) (by kernel_rfl) (fun _ _ _ h => h) (Or.inl ⟨by rfl, ?_⟩) hHeld ?_
        rotate_left 1
        · intro u hSu
          obtain ⟨q0, q1⟩ := row_cells hSu.out.1.gb
          obtain ⟨q2, q3⟩ := (HF.out _ hSu.out.1).2
          obtain ⟨q4, q5⟩ := row_cells hSu.out.2.1
          go_simp
          first | done | with_reducible rfl
        (try simp only [Act.put, List.setIfInBounds_toArray, List.set_cons_zero, List.set_cons_succ])
        refine wpAnyH_take (i := 4) (oi := { dst := some 48, op := Op.indexAddr 49 (Operand.tmp 46) (Operand.tmp 47), type := 0, pos := "law.go:64", after := #[{ on := 2, ground := Ground.data }, { on := 3, ground := Ground.data }], guard := none }) (v := ?_) rfl (by kernel_rfl) (by kernel_rfl) (by kernel_rfl) (fun _ _ _ h => h) (Or.inl ⟨by rfl, ?_⟩) hHeld ?_
        rotate_left 1
        · intro u hSu
          obtain ⟨q0, q1⟩ := row_cells hSu.out.1.gb
          obtain ⟨q2, q3⟩ := (HF.out _ hSu.out.1).2
          obtain ⟨q4, q5⟩ := row_cells hSu.out.2.1
          go_simp
          first | done | with_reducible rfl
        (try simp only [Act.put, List.setIfInBounds_toArray, List.set_cons_zero, List.set_cons_succ])
        refine wpAnyH_take (i := 5) (oi := { dst := some 49, op := Op.load 47 (Operand.tmp 48), type := 47, pos := "law.go:64", after := #[{ on := 4, ground := Ground.data }], guard := none }) (v := ?_) rfl (by kernel_rfl) (by kernel_rfl) (by kernel_rfl) (fun _ _ _ h => h) (Or.inl ⟨by rfl, ?_⟩) hHeld ?_
        rotate_left 1
        · intro u hSu
          obtain ⟨q0, q1⟩ := row_cells hSu.out.1.gb
          obtain ⟨q2, q3⟩ := (HF.out _ hSu.out.1).2
          obtain ⟨q4, q5⟩ := row_cells hSu.out.2.1
          go_simp
          first | done | with_reducible rfl
        (try simp only [Act.put, List.setIfInBounds_toArray, List.set_cons_zero, List.set_cons_succ])
        refine wpAnyH_ready (rs := [6]) (by kernel_rfl) (by simp) ?_
        refine AllReadyH.cons (o := { dst := some 50, op := Op.call { callee := Callee.value (Operand.func 33), args := #[Operand.tmp 45, Operand.tmp 49], argTypes := #[26, 47] }, type := 26, pos := "law.go:64", after := #[{ on := 1, ground := Ground.data }, { on := 5, ground := Ground.data }], guard := none }) rfl (fun Kz hK => ?_) AllReadyH.nil
        go_simp
        go_at_call 33
        refine (rwithout_any ⟨R, L, pR, cR, pL, cL⟩ F _ _ _ hHeld.out.1.t (HF.out _ hHeld.out.1).1).mono ?_
        rintro e w10 ⟨pu2, cu2, pv2, cv2, rfl, hTr, hg⟩
        simp only at hTr ⊢
        rw [HRL.out.1, HRL.out.2] at hTr
        rw [HRL.out.1, HRL.out.2]
        have HTr := Lib.hid hTr
        clear hTr
        refine hK.out _ _ (Lib.hid ⟨hHeld.out.1.keep hg, kept_row hHeld.out.2.1 hg (by simp), hHeld.out.2.2.keep hg⟩) (fun hH2 => ?_)
        clear hK Kz hHeld
        have hHeld := hH2
        clear hH2
        (try simp only [Act.put, List.setIfInBounds_toArray, List.set_cons_zero, List.set_cons_succ])
        refine wpAnyH_ready (rs := [7]) (by kernel_rfl) (by simp) ?_
        refine AllReadyH.cons (o := { dst := some 51, op := Op.call { callee := Callee.value (Operand.func 32), args := #[Operand.tmp 44, Operand.tmp 50], argTypes := #[26, 26] }, type := 4, pos := "law.go:64", after := #[{ on := 0, ground := Ground.data }, { on := 6, ground := Ground.data }, { on := 6, ground := Ground.chain }], guard := none }) rfl (fun Kz hK => ?_) AllReadyH.nil
        go_simp
        go_at_call 32
        refine (rsameT_any ⟨Rw, Lw, pu, cu, pv, cv⟩ ⟨Rw, Lw, pu2, cu2, pv2, cv2⟩ rfl rfl _ _ _ hHeld.out.2.2 HTr.out).mono ?_
        rintro e w11 ⟨rfl, hg⟩
        refine hK.out _ _ (Lib.hid ⟨hHeld.out.1.keep hg, kept_row hHeld.out.2.1 hg (by simp), hHeld.out.2.2.keep hg⟩) (fun hH2 => ?_)
        clear hK Kz hHeld
        have hHeld := hH2
        clear hH2
        (try simp only [Act.put, List.setIfInBounds_toArray, List.set_cons_zero, List.set_cons_succ])
        refine wpAnyH_take (i := 8) (oi := { dst := some 52, op := Op.unOp UnOp.not 4 (Operand.tmp 51), type := 4, pos := "law.go:64", after := #[{ on := 7, ground := Ground.data }], guard := none }) (v := (.bool false)) rfl (by kernel_rfl) (by kernel_rfl) (by kernel_rfl) (fun _ _ _ h => h) (Or.inl ⟨by rfl, ?_⟩) hHeld ?_
        · intro u hSu
          obtain ⟨q0, q1⟩ := row_cells hSu.out.1.gb
          obtain ⟨q2, q3⟩ := (HF.out _ hSu.out.1).2
          obtain ⟨q4, q5⟩ := row_cells hSu.out.2.1
          go_simp
          first | done | with_reducible rfl | (simp; done)
        (try simp only [Act.put, List.setIfInBounds_toArray, List.set_cons_zero, List.set_cons_succ])
        refine wpAnyH_take (i := 9) (oi := { dst := some 53, op := Op.move (Operand.tmp 52), type := 4, pos := "law.go:64", after := #[{ on := 8, ground := Ground.data }, { on := 7, ground := Ground.chain }], guard := none }) (v := (.bool false)) rfl (by kernel_rfl) (by kernel_rfl) (by kernel_rfl) (fun _ _ _ h => h) (Or.inl ⟨by rfl, ?_⟩) hHeld ?_
        · intro u hSu
          obtain ⟨q0, q1⟩ := row_cells hSu.out.1.gb
          obtain ⟨q2, q3⟩ := (HF.out _ hSu.out.1).2
          obtain ⟨q4, q5⟩ := row_cells hSu.out.2.1
          go_simp
          first | done | with_reducible rfl | (simp; done)
        (try simp only [Act.put, List.setIfInBounds_toArray, List.set_cons_zero, List.set_cons_succ])
        refine wpAnyH_take (i := 10) (oi := { dst := some 54, op := Op.load 26 (Operand.tmp 9), type := 26, pos := "law.go:64", after := #[{ on := 9, ground := Ground.guard }], guard := some (9, false) }) (v := ?_) rfl (by kernel_rfl) (by kernel_rfl) (by kernel_rfl) (fun _ _ _ h => h) (Or.inl ⟨by rfl, ?_⟩) hHeld ?_
        rotate_left 1
        · intro u hSu
          obtain ⟨q0, q1⟩ := row_cells hSu.out.1.gb
          obtain ⟨q2, q3⟩ := (HF.out _ hSu.out.1).2
          obtain ⟨q4, q5⟩ := row_cells hSu.out.2.1
          go_simp
          first | done | with_reducible rfl
        (try simp only [Act.put, List.setIfInBounds_toArray, List.set_cons_zero, List.set_cons_succ])
        refine wpAnyH_ready (rs := [11]) (by kernel_rfl) (by simp) ?_
        refine AllReadyH.cons (o := { dst := some 55, op := Op.call { callee := Callee.value (Operand.func 13), args := #[Operand.tmp 54], argTypes := #[26] }, type := 30, pos := "law.go:64", after := #[{ on := 10, ground := Ground.data }, { on := 9, ground := Ground.chain }, { on := 9, ground := Ground.guard }], guard := some (9, false) }) rfl (fun Kz hK => ?_) AllReadyH.nil
        go_simp
        go_at_call 13
        refine (tcheck_any ⟨Rw, Lw, pu, cu, pv, cv⟩ _ _ hHeld.out.2.2).mono ?_
        rintro e w12 ⟨rfl, hg⟩
        simp only
        rw [HC.out]
        refine hK.out _ _ (Lib.hid ⟨hHeld.out.1.keep hg, kept_row hHeld.out.2.1 hg (by simp), hHeld.out.2.2.keep hg⟩) (fun hH2 => ?_)
        clear hK Kz hHeld
        have hHeld := hH2
        clear hH2
        (try simp only [Act.put, List.setIfInBounds_toArray, List.set_cons_zero, List.set_cons_succ])
        refine wpAnyH_take (i := 12) (oi := { dst := some 56, op := Op.binOp BinOp.neq 30 (Operand.tmp 55) (Operand.const (Value.int IntKind.i64 0)) 30, type := 4, pos := "law.go:64", after := #[{ on := 11, ground := Ground.data }, { on := 9, ground := Ground.guard }], guard := some (9, false) }) (v := (.bool false)) rfl (by kernel_rfl) (by kernel_rfl) (by kernel_rfl) (fun _ _ _ h => h) (Or.inl ⟨by rfl, ?_⟩) hHeld ?_
        · intro u hSu
          obtain ⟨q0, q1⟩ := row_cells hSu.out.1.gb
          obtain ⟨q2, q3⟩ := (HF.out _ hSu.out.1).2
          obtain ⟨q4, q5⟩ := row_cells hSu.out.2.1
          go_simp
          first | done | with_reducible rfl | (simp; done)
        (try simp only [Act.put, List.setIfInBounds_toArray, List.set_cons_zero, List.set_cons_succ])
        refine wpAnyH_take (i := 13) (oi := { dst := some 57, op := Op.pick (Operand.tmp 53) (Operand.const (Value.bool true)) (Operand.tmp 56), type := 4, pos := "law.go:64", after := #[{ on := 9, ground := Ground.data }, { on := 12, ground := Ground.data }], guard := none }) (v := (.bool false)) rfl (by kernel_rfl) (by kernel_rfl) (by kernel_rfl) (fun _ _ _ h => h) (Or.inl ⟨by rfl, ?_⟩) hHeld ?_
        · intro u hSu
          obtain ⟨q0, q1⟩ := row_cells hSu.out.1.gb
          obtain ⟨q2, q3⟩ := (HF.out _ hSu.out.1).2
          obtain ⟨q4, q5⟩ := row_cells hSu.out.2.1
          go_simp
          first | done | with_reducible rfl | (simp; done)
        (try simp only [Act.put, List.setIfInBounds_toArray, List.set_cons_zero, List.set_cons_succ])
        refine wpAnyH_done (by kernel_rfl) ?_ _
        have H9 := hHeld.out.1
        clear hHeld HU HUD
        have H10 := Lib.hid H9
        clear H9
        go_wp2_with fail
        exact ⟨⟨k + 1, by omega, congrArg _ (by omega), H10⟩, by simp only [intOf]; omega⟩
    · clear hz
      go_wp2_with fail
      refine (tawake_any wr).mono ?_
      rintro e w9 ⟨rfl, hg⟩
      go_wp2_with fail
      go_ret
      exact ⟨rfl, grown_trans HK.out.gr hg⟩
end Go.Proofs.Ytiencdgmnkphjaa
