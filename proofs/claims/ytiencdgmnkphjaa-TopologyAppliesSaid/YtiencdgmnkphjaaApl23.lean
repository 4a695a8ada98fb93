/- Parts of the proof, packed: ToApLaw. -/
import Derived.Test.YtiencdgmnkphjaaApl14
import Derived.Test.YtiencdgmnkphjaaApl20
import Derived.Test.YtiencdgmnkphjaaApl21
import Derived.Test.YtiencdgmnkphjaaApl22
/- The law TopologyApplies. -/
namespace Go.Proofs.Ytiencdgmnkphjaa
open Go.RowKit Bs
/-- The tape's topology, with rows that are nil where they have no block. -/
theorem topo_tgn (a most : Nat) (n : Int) (hm1 : 1 ≤ most) (hm8 : most ≤ 8) (hn : I64 n) (w : World) (hT : Tp w a) :
    Calls Try.prog 12 #[.pointer (some ⟨a, 0, none⟩), .int .i64 (most : Int), .int .i64 n] w fun e w' => ∃ T : Tg, e = .returned (.agg #[.slice T.pR T.R.length T.cR, .slice T.pL T.L.length T.cL]) ∧ TgOk w' (fun b => w.heap.size ≤ b ∧ b < w'.heap.size) T ∧ ((T.pR = none → T.cR = 0) ∧ (T.pL = none → T.cL = 0)) ∧ St a w w' := by
  refine (topo_any a most n hm1 hm8 hn w hT).mono ?_
  rintro e w' ⟨R, L, vR, vL, rfl, hR, hL, _, hO, hs⟩
  have fR := own_formF hR
  have fL := own_formF hL
  obtain ⟨pR, cR, pL, cL, rfl, rfl, hT⟩ := tg_of_own hR hL
  refine ⟨⟨R, L, pR, cR, pL, cL⟩, rfl, hT, ⟨fun h => ?_, fun h => ?_⟩, hs⟩
  · rcases fR with ⟨e1, -⟩ | ⟨g, cap, e1, -⟩
    · injection e1
    · injection e1 with e2
      rw [show pR = none from h] at e2
      cases e2
  · rcases fL with ⟨e1, -⟩ | ⟨g, cap, e1, -⟩
    · injection e1
    · injection e1 with e2
      rw [show pL = none from h] at e2
      cases e2
/-- What the law's loop reads, all of it below B: the topology's box G, the list's block Bl of three changes. -/
structure WA3 (w : World) (T : Tg) (G Bl B : Nat) (c0 c1 c2 : Ch) (wr : World) : Prop where
  gb : wr.heap[G]? = some (.cells #[.slice T.pR T.R.length T.cR, .slice T.pL T.L.length T.cL] 26 (0, 0))
  lb : wr.heap[Bl]? = some (.cells #[.int .i64 c0.a, .int .i64 c0.b, .int .i64 c0.ca, .int .i64 c0.cb, .int .i64 c1.a, .int .i64 c1.b, .int .i64 c1.ca, .int .i64 c1.cb, .int .i64 c2.a, .int .i64 c2.b, .int .i64 c2.ca, .int .i64 c2.cb] 54 (0, 0))
  t : TgOk wr (· < B) T
  gr : w.grownBy wr none
  lt : (G < B ∧ Bl < B) ∧ w.heap.size ≤ B ∧ B ≤ wr.heap.size
theorem WA3.keep {w wr w' : World} {T : Tg} {G Bl B : Nat} {c0 c1 c2 : Ch} (h : WA3 w T G Bl B c0 c1 c2 wr) (g : wr.grownBy w' none) : WA3 w T G Bl B c0 c1 c2 w' :=
  ⟨kept_row h.gb g (by simp), kept_row h.lb g (by simp), h.t.keep g, grown_trans h.gr g, h.lt.1, h.lt.2.1, Nat.le_trans h.lt.2.2 g.size⟩
theorem WA3.other {w wr w' : World} {T : Tg} {G Bl B g : Nat} {c0 c1 c2 : Ch} (h : WA3 w T G Bl B c0 c1 c2 wr) (k : wr.grownBy w' (some g)) (hg : B ≤ g) : WA3 w T G Bl B c0 c1 c2 w' := by
  have hl := h.lt
  have ne : ∀ b, b < B → some b ≠ some g := fun b hb e => by have := Option.some.inj e; omega
  exact ⟨kept_row h.gb k (ne _ hl.1.1), kept_row h.lb k (ne _ hl.1.2), h.t.grown k ne, grown_new h.gr k (by omega), hl.1, hl.2.1, Nat.le_trans hl.2.2 k.size⟩
theorem WA3.at_ (w : World) (T : Tg) (G Bl B : Nat) (c0 c1 c2 : Ch) (k : Nat) (hk : k < 3) :
    ∃ c : Ch, ∀ wr, WA3 w T G Bl B c0 c1 c2 wr → wr.cell? ⟨Bl, k * 4, none⟩ = some (.int .i64 c.a) ∧ wr.cell? ⟨Bl, k * 4 + 1, none⟩ = some (.int .i64 c.b) ∧ wr.cell? ⟨Bl, k * 4 + 2, none⟩ = some (.int .i64 c.ca) ∧ wr.cell? ⟨Bl, k * 4 + 3, none⟩ = some (.int .i64 c.cb) := by
  rcases (show k = 0 ∨ k = 1 ∨ k = 2 by omega) with rfl | rfl | rfl
  · exact ⟨c0, fun wr h => ⟨(by rw [cell_of_row _ _ _ _ _ _ h.lb]; rfl), (by rw [cell_of_row _ _ _ _ _ _ h.lb]; rfl), (by rw [cell_of_row _ _ _ _ _ _ h.lb]; rfl), (by rw [cell_of_row _ _ _ _ _ _ h.lb]; rfl)⟩⟩
  · exact ⟨c1, fun wr h => ⟨(by rw [cell_of_row _ _ _ _ _ _ h.lb]; rfl), (by rw [cell_of_row _ _ _ _ _ _ h.lb]; rfl), (by rw [cell_of_row _ _ _ _ _ _ h.lb]; rfl), (by rw [cell_of_row _ _ _ _ _ _ h.lb]; rfl)⟩⟩
  · exact ⟨c2, fun wr h => ⟨(by rw [cell_of_row _ _ _ _ _ _ h.lb]; rfl), (by rw [cell_of_row _ _ _ _ _ _ h.lb]; rfl), (by rw [cell_of_row _ _ _ _ _ _ h.lb]; rfl), (by rw [cell_of_row _ _ _ _ _ _ h.lb]; rfl)⟩⟩
set_option maxRecDepth 100000 in
set_option maxHeartbeats 6400000 in
theorem tapplies_walk (v : Value) (c2 : Ch) (w : World) (hv : IntsIn w v) :
    Calls Try.prog 6 #[v, .agg #[.int .i64 c2.a, .int .i64 c2.b, .int .i64 c2.ca, .int .i64 c2.cb]] w fun e w' => e = .returned (.bool true) ∧ w.grownBy w' none := by
  obtain ⟨k1, k2⟩ := tone_box w #[.int .i64 c2.a, .int .i64 c2.b, .int .i64 c2.ca, .int .i64 c2.cb] 54
  have HB := Lib.hid (And.intro k1 k2)
  have HV := Lib.hid (hv.keepT k2)
  have hws : w.heap.size < (w.alloc (.cells #[.int .i64 c2.a, .int .i64 c2.b, .int .i64 c2.ca, .int .i64 c2.cb] 54)).heap.size := by simp
  clear k1 k2 hv
  go_enter Try.func6, Try.ntmps6
  go_upto_region 1 with fail
  generalize w.alloc _ = wa at *
  go_wp2_with fail
  refine (new_any v wa HV.out).mono ?_
  rintro e w2 ⟨rfl, hg1, hT1⟩
  have H2 := Lib.hid (And.intro hg1 hT1)
  obtain ⟨a, ha⟩ : ∃ a, a = wa.heap.size := ⟨_, rfl⟩
  rw [← ha] at H2
  have HA := Lib.hid ha
  clear hg1 hT1 HV
  rw [← HA.out]
  clear ha
  go_wp2_with fail
  refine (topo_tgn a 7 8 (by decide) (by decide) (by unfold I64; omega) w2 H2.out.2).mono ?_
  rintro e w3 ⟨T, rfl, hT, hpn, hs3⟩
  obtain ⟨R, L, pR, cR, pL, cL⟩ := T
  simp only at hpn ⊢
  have HPN := Lib.hid hpn
  have gal := World.grownBy_alloc w3 (.cells #[.slice pR R.length cR, .slice pL L.length cL] 26) none
  have ha2 : a < w2.heap.size := H2.out.2.lt
  have ha3 : a < w3.heap.size := Nat.lt_of_lt_of_le ha2 hs3.1.size
  have hwa : w.heap.size < a := by have := HA.out; omega
  have gw4 : wa.grownBy (w3.alloc (.cells #[.slice pR R.length cR, .slice pL L.length cL] 26)) none := grown_trans (grown_tape H2.out.1 (by rw [← HA.out]; exact hs3.1)) gal
  have HG : Hid ((w3.alloc (.cells #[.slice pR R.length cR, .slice pL L.length cL] 26)).heap[w3.heap.size]? = some (.cells #[.slice pR R.length cR, .slice pL L.length cL] 26 (0, 0)) ∧ (w3.alloc (.cells #[.slice pR R.length cR, .slice pL L.length cL] 26)).heap[w.heap.size]? = some (.cells #[.int .i64 c2.a, .int .i64 c2.b, .int .i64 c2.ca, .int .i64 c2.cb] 54 (0, 0)) ∧ TgOk (w3.alloc (.cells #[.slice pR R.length cR, .slice pL L.length cL] 26)) (fun b => w2.heap.size ≤ b ∧ b < w3.heap.size) ⟨R, L, pR, cR, pL, cL⟩ ∧ Tp (w3.alloc (.cells #[.slice pR R.length cR, .slice pL L.length cL] 26)) a ∧ w3.heap.size < (w3.alloc (.cells #[.slice pR R.length cR, .slice pL L.length cL] 26)).heap.size) :=
    Lib.hid ⟨heap_alloc_new w3 _, kept_row HB.out.1 gw4 (by simp), hT.keep gal, hs3.2.keep gal, by simp⟩
  have HW4 := Lib.hid (grown_trans HB.out.2 gw4)
  have hm1 := Nat.le_trans hT.cr.1 hT.cr.2
  have hm2 := Nat.le_trans hT.cl.1 hT.cl.2
  simp only at hm1 hm2
  clear hT hs3 gal gw4 HB hpn
  go_upto_region 3 with fail
  generalize w3.alloc _ = w4 at *
  have HQ : Hid (∀ (u : World), w4.grownBy u (some a) → Tp u a → (TgOk u (fun b => w2.heap.size ≤ b ∧ b < w3.heap.size) ⟨R, L, pR, cR, pL, cL⟩ ∧ (∀ b, (w2.heap.size ≤ b ∧ b < w3.heap.size) → b ≠ a ∧ b < u.heap.size))) :=
    Lib.hid (fun u g _ => ⟨HG.out.2.2.1.grown g (fun b hb e => by have := Option.some.inj e; omega), fun b hb => ⟨by omega, Nat.lt_of_lt_of_le hb.2 (Nat.le_trans (Nat.le_of_lt HG.out.2.2.2.2) g.size)⟩⟩)
  refine wp_region_held_drew (S := fun w' => Hid (w4.grownBy w' (some a) ∧ Tp w' a)) (by kernel_rfl) (Lib.hid ⟨grown_drew (grown_refl _ _), HG.out.2.2.2.1.drew⟩) (fun hHeld => ?_)
  refine wpAnyH_take (i := 0) (oi := { dst := some 17, op := Op.move (Operand.tmp 5), type := 27, pos := "law.go:75", after := #[], guard := none }) (v := ?_) rfl (by kernel_rfl) (by kernel_rfl) (by kernel_rfl) (fun _ _ _ h => h) (Or.inl ⟨by rfl, ?_⟩) hHeld ?_
  rotate_left 1
  · intro u hSu
    obtain ⟨q0, q1⟩ := row_cells (kept_row HG.out.1 hSu.out.1 (fun e => by have := Option.some.inj e; omega))
    obtain ⟨q2, q3, q4, q5⟩ := ch_facts (kept_row HG.out.2.1 hSu.out.1 (fun e => by have := Option.some.inj e; omega))
    go_simp
    first | done | with_reducible rfl
  (try simp only [Act.put, List.setIfInBounds_toArray, List.set_cons_zero, List.set_cons_succ])
  refine wpAnyH_take (i := 1) (oi := { dst := some 18, op := Op.load 26 (Operand.tmp 6), type := 26, pos := "law.go:75", after := #[], guard := none }) (v := ?_) rfl (by kernel_rfl) (by kernel_rfl) (by kernel_rfl) (fun _ _ _ h => h) (Or.inl ⟨by rfl, ?_⟩) hHeld ?_
  rotate_left 1
  · intro u hSu
    obtain ⟨q0, q1⟩ := row_cells (kept_row HG.out.1 hSu.out.1 (fun e => by have := Option.some.inj e; omega))
    obtain ⟨q2, q3, q4, q5⟩ := ch_facts (kept_row HG.out.2.1 hSu.out.1 (fun e => by have := Option.some.inj e; omega))
    go_simp
    first | done | with_reducible rfl
  (try simp only [Act.put, List.setIfInBounds_toArray, List.set_cons_zero, List.set_cons_succ])
  refine wpAnyH_take (i := 3) (oi := { dst := some 20, op := Op.move (Operand.tmp 5), type := 27, pos := "law.go:75", after := #[], guard := none }) (v := ?_) rfl (by kernel_rfl) (by kernel_rfl) (by kernel_rfl) (fun _ _ _ h => h) (Or.inl ⟨by rfl, ?_⟩) hHeld ?_
  rotate_left 1
  · intro u hSu
    obtain ⟨q0, q1⟩ := row_cells (kept_row HG.out.1 hSu.out.1 (fun e => by have := Option.some.inj e; omega))
    obtain ⟨q2, q3, q4, q5⟩ := ch_facts (kept_row HG.out.2.1 hSu.out.1 (fun e => by have := Option.some.inj e; omega))
    go_simp
    first | done | with_reducible rfl
  (try simp only [Act.put, List.setIfInBounds_toArray, List.set_cons_zero, List.set_cons_succ])
  refine wpAnyH_take (i := 4) (oi := { dst := some 21, op := Op.load 26 (Operand.tmp 6), type := 26, pos := "law.go:75", after := #[], guard := none }) (v := ?_) rfl (by kernel_rfl) (by kernel_rfl) (by kernel_rfl) (fun _ _ _ h => h) (Or.inl ⟨by rfl, ?_⟩) hHeld ?_
  rotate_left 1
  · intro u hSu
    obtain ⟨q0, q1⟩ := row_cells (kept_row HG.out.1 hSu.out.1 (fun e => by have := Option.some.inj e; omega))
    obtain ⟨q2, q3, q4, q5⟩ := ch_facts (kept_row HG.out.2.1 hSu.out.1 (fun e => by have := Option.some.inj e; omega))
    go_simp
    first | done | with_reducible rfl
  (try simp only [Act.put, List.setIfInBounds_toArray, List.set_cons_zero, List.set_cons_succ])
  refine wpAnyH_take (i := 6) (oi := { dst := some 23, op := Op.load 54 (Operand.tmp 3), type := 54, pos := "law.go:75", after := #[], guard := none }) (v := ?_) rfl (by kernel_rfl) (by kernel_rfl) (by kernel_rfl) (fun _ _ _ h => h) (Or.inl ⟨by rfl, ?_⟩) hHeld ?_
  rotate_left 1
  · intro u hSu
    obtain ⟨q0, q1⟩ := row_cells (kept_row HG.out.1 hSu.out.1 (fun e => by have := Option.some.inj e; omega))
    obtain ⟨q2, q3, q4, q5⟩ := ch_facts (kept_row HG.out.2.1 hSu.out.1 (fun e => by have := Option.some.inj e; omega))
    go_simp
    first | done | with_reducible rfl
  (try simp only [Act.put, List.setIfInBounds_toArray, List.set_cons_zero, List.set_cons_succ])
  refine wpAnyH_ready (rs := [2]) (by kernel_rfl) (by simp) ?_
  refine AllReadyH.cons (o := { dst := some 19, op := Op.call { callee := Callee.value (Operand.func 34), args := #[Operand.tmp 17, Operand.tmp 18, Operand.const (Value.int IntKind.i64 3)], argTypes := #[27, 26, 3] }, type := 54, pos := "law.go:75", after := #[{ on := 0, ground := Ground.data }, { on := 1, ground := Ground.data }], guard := none }) rfl (fun Kz hK => ?_) AllReadyH.nil
  go_simp
  go_at_call 34
  refine (change_any a ⟨R, L, pR, cR, pL, cL⟩ 3 (by unfold I64; omega) _ _ (HQ.out _ hHeld.out.1 hHeld.out.2).1 (HQ.out _ hHeld.out.1 hHeld.out.2).2 hHeld.out.2).mono ?_
  rintro e w5 ⟨c0, rfl, hs⟩
  refine hK.out _ _ (Lib.hid ⟨grown_trans hHeld.out.1 hs.1, hs.2⟩) (fun hH2 => ?_)
  clear hK Kz hHeld
  have hHeld := hH2
  clear hH2
  (try simp only [Act.put, List.setIfInBounds_toArray, List.set_cons_zero, List.set_cons_succ])
  refine wpAnyH_ready (rs := [5]) (by kernel_rfl) (by simp) ?_
  refine AllReadyH.cons (o := { dst := some 22, op := Op.call { callee := Callee.value (Operand.func 34), args := #[Operand.tmp 20, Operand.tmp 21, Operand.const (Value.int IntKind.i64 0)], argTypes := #[27, 26, 3] }, type := 54, pos := "law.go:75", after := #[{ on := 3, ground := Ground.data }, { on := 4, ground := Ground.data }, { on := 2, ground := Ground.chain }], guard := none }) rfl (fun Kz hK => ?_) AllReadyH.nil
  go_simp
  go_at_call 34
  refine (change_any a ⟨R, L, pR, cR, pL, cL⟩ 0 (by unfold I64; omega) _ _ (HQ.out _ hHeld.out.1 hHeld.out.2).1 (HQ.out _ hHeld.out.1 hHeld.out.2).2 hHeld.out.2).mono ?_
  rintro e w6 ⟨c1, rfl, hs⟩
  refine hK.out _ _ (Lib.hid ⟨grown_trans hHeld.out.1 hs.1, hs.2⟩) (fun hH2 => ?_)
  clear hK Kz hHeld
  have hHeld := hH2
  clear hH2
  (try simp only [Act.put, List.setIfInBounds_toArray, List.set_cons_zero, List.set_cons_succ])
  refine wpAnyH_ready (rs := [7]) (by kernel_rfl) (by simp) ?_
  refine AllReadyH.cons (o := { dst := some 24, op := Op.buildSlice 56 3 #[(0, Operand.tmp 19), (1, Operand.tmp 22), (2, Operand.tmp 23)], type := 56, pos := "law.go:75", after := #[{ on := 2, ground := Ground.data }, { on := 5, ground := Ground.data }, { on := 6, ground := Ground.data }], guard := none }) rfl (fun Kz hK => ?_) AllReadyH.nil
  go_simp
  have gal2 := World.grownBy_alloc w6 (.cells #[.int .i64 c0.a, .int .i64 c0.b, .int .i64 c0.ca, .int .i64 c0.cb, .int .i64 c1.a, .int .i64 c1.b, .int .i64 c1.ca, .int .i64 c1.cb, .int .i64 c2.a, .int .i64 c2.b, .int .i64 c2.ca, .int .i64 c2.cb] 54) none
  have g46 := hHeld.out.1
  have hsz6 : w4.heap.size ≤ w6.heap.size := g46.size
  have hw46 := grown_new HW4.out g46 (by omega)
  have HL : Hid (WA3 w ⟨R, L, pR, cR, pL, cL⟩ w3.heap.size w6.heap.size (w6.heap.size + 1) c0 c1 c2 (w6.alloc (.cells #[.int .i64 c0.a, .int .i64 c0.b, .int .i64 c0.ca, .int .i64 c0.cb, .int .i64 c1.a, .int .i64 c1.b, .int .i64 c1.ca, .int .i64 c1.cb, .int .i64 c2.a, .int .i64 c2.b, .int .i64 c2.ca, .int .i64 c2.cb] 54))) := Lib.hid ⟨kept_row (kept_row HG.out.1 g46 (fun e => by have := Option.some.inj e; omega)) gal2 (by simp), heap_alloc_new w6 _, ((HQ.out w6 g46 hHeld.out.2).1.keep gal2).mono (fun b hb => by have := HG.out.2.2.2.2; omega), grown_trans hw46 gal2, ⟨by have := HG.out.2.2.2.2; omega, by omega⟩, by have := HW4.out.size; omega, by simp⟩
  clear gal2 g46 hw46 hsz6
  refine hK.out _ _ (Lib.hid ⟨grown_trans hHeld.out.1 (grown_none (World.grownBy_alloc _ _ none) _), hHeld.out.2.alloc _⟩) (fun hH2 => ?_)
  clear hK Kz hHeld
  have hHeld := hH2
  clear hH2
  (try simp only [Act.put, List.setIfInBounds_toArray, List.set_cons_zero, List.set_cons_succ])
  refine wpAnyH_take (i := 8) (oi := { dst := some 7, op := Op.assign (Operand.tmp 24), type := 56, pos := "law.go:75", after := #[{ on := 7, ground := Ground.data }, { on := 5, ground := Ground.chain }, { on := 0, ground := Ground.phase }, { on := 1, ground := Ground.phase }, { on := 2, ground := Ground.phase }, { on := 3, ground := Ground.phase }, { on := 4, ground := Ground.phase }, { on := 5, ground := Ground.phase }, { on := 6, ground := Ground.phase }, { on := 7, ground := Ground.phase }], guard := none }) (v := ?_) rfl (by kernel_rfl) (by kernel_rfl) (by kernel_rfl) (fun _ _ _ h => h) (Or.inl ⟨by rfl, ?_⟩) hHeld ?_
  rotate_left 1
  · intro u hSu
    obtain ⟨q0, q1⟩ := row_cells (kept_row HG.out.1 hSu.out.1 (fun e => by have := Option.some.inj e; omega))
    obtain ⟨q2, q3, q4, q5⟩ := ch_facts (kept_row HG.out.2.1 hSu.out.1 (fun e => by have := Option.some.inj e; omega))
    go_simp
    first | done | with_reducible rfl
  (try simp only [Act.put, List.setIfInBounds_toArray, List.set_cons_zero, List.set_cons_succ])
  refine wpAnyH_done (by kernel_rfl) ?_ _
  clear hHeld HG HQ HW4 H2
  go_upto_region 4 with fail
  generalize w6.alloc _ = w7 at *
  generalize hB6 : w6.heap.size + 1 = B at *
  generalize w6.heap.size = Bl at *
  generalize w3.heap.size = G at *
  clear hB6
  go_wp2_with fail
  go_loopw [8] (fun i wr => ∃ k : Nat, k ≤ 3 ∧ i = .int .i64 (k : Int) ∧ Hid (WA3 w ⟨R, L, pR, cR, pL, cL⟩ G Bl B c0 c1 c2 wr)) (fun i _ => 3 - (intOf i).toNat)
  case atStart => exact ⟨0, by omega, rfl, HL⟩
  case round =>
    obtain ⟨k, hk, rfl, HK⟩ := hrel
    clear HL
    by_cases hk3 : k < 3
    · obtain ⟨c, hF⟩ := WA3.at_ w ⟨R, L, pR, cR, pL, cL⟩ G Bl B c0 c1 c2 k hk3
      have HF := Lib.hid hF
      clear hF
      have hk4 : (k : Int) < 3 := by omega
      have hk0 : (0 : Int) ≤ (k : Int) := by omega
      have hBw := HK.out.lt.2.2
      obtain ⟨E, hE⟩ : ∃ E, errV R L c = E := ⟨_, rfl⟩
      obtain ⟨Rw, hRw⟩ : ∃ Rw, (if E = 0 then R else []) = Rw := ⟨_, rfl⟩
      obtain ⟨Lw, hLw⟩ : ∃ Lw, (if E = 0 then linksV L c else []) = Lw := ⟨_, rfl⟩
      have HC : Hid (E = 0 → chk Rw Lw = 0) := Lib.hid (fun h => by rw [← hRw, ← hLw, if_pos h, if_pos h]; exact apply_ok c (hE.trans h))
      have HRL := Lib.hid (And.intro hE (And.intro hRw hLw))
      clear hE hRw hLw
      go_upto_region 7 with fail
      go_cut [9, 10] from 25 to 39 (fun va ve wx => ∃ (ga : Nat) (pu pv : Option Addr) (cu cv : Nat), va = .pointer (some ⟨ga, 0, none⟩) ∧ ve = .int .i64 E ∧ Hid (WA3 w ⟨R, L, pR, cR, pL, cL⟩ G Bl B c0 c1 c2 wx ∧ wx.heap[ga]? = some (.cells #[.slice pu Rw.length cu, .slice pv Lw.length cv] 26 (0, 0)) ∧ TgOk wx (· < wx.heap.size) ⟨Rw, Lw, pu, cu, pv, cv⟩))
      case first =>
        refine region_until2 (S := fun w' => Hid (WA3 w ⟨R, L, pR, cR, pL, cL⟩ G Bl B c0 c1 c2 w')) (fun j => j == 10) (by kernel_rfl) (Lib.hid (HK.out.keep (grown_drew (grown_refl wr none)))) (fun hHeld => ?_)
        refine anyV_take (i := 0) (oi := { dst := some 32, op := Op.load 26 (Operand.tmp 6), type := 26, pos := "law.go:77", after := #[], guard := none }) (v := ?_) rfl (by kernel_rfl) (by kernel_rfl) (by kernel_rfl) (by kernel_rfl) (by kernel_rfl) (fun _ _ _ h => h) (Or.inl ⟨by rfl, ?_⟩) hHeld ?_
        rotate_left 1
        · intro u hSu
          obtain ⟨q0, q1⟩ := row_cells hSu.out.gb
          obtain ⟨q2, q3, q4, q5⟩ := HF.out _ hSu.out
          go_simp
          first | done | with_reducible rfl
        (try simp only [Act.put, List.setIfInBounds_toArray, List.set_cons_zero, List.set_cons_succ])
        refine anyV_take (i := 1) (oi := { dst := some 33, op := Op.move (Operand.tmp 7), type := 56, pos := "law.go:77", after := #[], guard := none }) (v := ?_) rfl (by kernel_rfl) (by kernel_rfl) (by kernel_rfl) (by kernel_rfl) (by kernel_rfl) (fun _ _ _ h => h) (Or.inl ⟨by rfl, ?_⟩) hHeld ?_
        rotate_left 1
        · intro u hSu
          obtain ⟨q0, q1⟩ := row_cells hSu.out.gb
          obtain ⟨q2, q3, q4, q5⟩ := HF.out _ hSu.out
          go_simp
          first | done | with_reducible rfl
        (try simp only [Act.put, List.setIfInBounds_toArray, List.set_cons_zero, List.set_cons_succ])
        refine anyV_take (i := 2) (oi := { dst := some 34, op := Op.move (Operand.tmp 8), type := 3, pos := "law.go:77", after := #[], guard := none }) (v := ?_) rfl (by kernel_rfl) (by kernel_rfl) (by kernel_rfl) (by kernel_rfl) (by kernel_rfl) (fun _ _ _ h => h) (Or.inl ⟨by rfl, ?_⟩) hHeld ?_
        rotate_left 1
        · intro u hSu
          obtain ⟨q0, q1⟩ := row_cells hSu.out.gb
          obtain ⟨q2, q3, q4, q5⟩ := HF.out _ hSu.out
          go_simp
          first | done | with_reducible rfl
        (try simp only [Act.put, List.setIfInBounds_toArray, List.set_cons_zero, List.set_cons_succ])
        refine anyV_take (i := 3) (oi := { dst := some 35, op := Op.indexAddr 56 (Operand.tmp 33) (Operand.tmp 34), type := 0, pos := "law.go:77", after := #[{ on := 1, ground := Ground.data }, { on := 2, ground := Ground.data }], guard := none }) (v := ?_) rfl (by kernel_rfl) (by kernel_rfl) (by kernel_rfl) (by kernel_rfl) (by kernel_rfl) (fun _ _ _ h => h) (Or.inl ⟨by rfl, ?_⟩) hHeld ?_
        rotate_left 1
        · intro u hSu
          obtain ⟨q0, q1⟩ := row_cells hSu.out.gb
          obtain ⟨q2, q3, q4, q5⟩ := HF.out _ hSu.out
          go_simp
          first | done | with_reducible rfl
        (try simp only [Act.put, List.setIfInBounds_toArray, List.set_cons_zero, List.set_cons_succ])
        refine anyV_take (i := 4) (oi := { dst := some 36, op := Op.load 54 (Operand.tmp 35), type := 54, pos := "law.go:77", after := #[{ on := 3, ground := Ground.data }], guard := none }) (v := ?_) rfl (by kernel_rfl) (by kernel_rfl) (by kernel_rfl) (by kernel_rfl) (by kernel_rfl) (fun _ _ _ h => h) (Or.inl ⟨by rfl, ?_⟩) hHeld ?_
        rotate_left 1
        · intro u hSu
          obtain ⟨q0, q1⟩ := row_cells hSu.out.gb
          obtain ⟨q2, q3, q4, q5⟩ := HF.out _ hSu.out
          go_simp
          first | done | with_reducible rfl
        (try simp only [Act.put, List.setIfInBounds_toArray, List.set_cons_zero, List.set_cons_succ])
        refine anyV_ready (rs := [5, 9]) (by kernel_rfl) (by simp) ?_
        refine EachV.cons (o := { dst := some 37, op := Op.call { callee := Callee.value (Operand.func 35), args := #[Operand.tmp 32, Operand.tmp 36], argTypes := #[26, 54] }, type := 57, pos := "law.go:77", after := #[{ on := 0, ground := Ground.data }, { on := 4, ground := Ground.data }], guard := none }) rfl (fun Kz hK => ?_) (EachV.cons (o := { dst := some 9, op := Op.alloc 26, type := 0, pos := "law.go:77", after := #[], guard := none }) rfl (fun Kz hK => ?_) EachV.nil)
        · go_simp
          go_at_call 35
          refine (tapply_any ⟨R, L, pR, cR, pL, cL⟩ c _ _ hHeld.out.t HPN.out.1 HPN.out.2).mono ?_
          rintro e w8 ⟨pu, cu, pv, cv, rfl, hTu, hg⟩
          simp only at hTu ⊢
          rw [HRL.out.1, HRL.out.2.1, HRL.out.2.2] at hTu
          rw [HRL.out.1, HRL.out.2.1, HRL.out.2.2]
          have HTu := Lib.hid hTu
          have H5n := Lib.hid (hHeld.out.keep hg)
          first | (have HB9 : Hid (w8.heap[wr.heap.size]? = some (.cells #[.slice none 0 0, .slice none 0 0] 26 (0, 0))) := Lib.hid (kept_row (heap_alloc_new wr.drew (.cells #[.slice none 0 0, .slice none 0 0] 26)) hg (by simp))) | skip
          clear hTu hg
          refine hK.out _ _ (fun _ _ => H5n) (fun hH2 => ?_)
          have hHeld2 := hH2 rfl hHeld
          clear hK Kz hHeld hH2
          have hHeld := hHeld2
          clear hHeld2
          (try simp only [Act.put, List.setIfInBounds_toArray, List.set_cons_zero, List.set_cons_succ])
          refine anyV_take (i := 6) (oi := { dst := some 31, op := Op.move (Operand.tmp 37), type := 57, pos := "law.go:77", after := #[{ on := 5, ground := Ground.data }], guard := none }) (v := ?_) rfl (by kernel_rfl) (by kernel_rfl) (by kernel_rfl) (by kernel_rfl) (by kernel_rfl) (fun _ _ _ h => h) (Or.inl ⟨by rfl, ?_⟩) hHeld ?_
          rotate_left 1
          · intro u hSu
            obtain ⟨q0, q1⟩ := row_cells hSu.out.gb
            obtain ⟨q2, q3, q4, q5⟩ := HF.out _ hSu.out
            go_simp
            first | done | with_reducible rfl
          (try simp only [Act.put, List.setIfInBounds_toArray, List.set_cons_zero, List.set_cons_succ])
          refine anyV_take (i := 7) (oi := { dst := some 38, op := Op.extract (Operand.tmp 31) 0, type := 26, pos := "law.go:77", after := #[{ on := 6, ground := Ground.data }], guard := none }) (v := ?_) rfl (by kernel_rfl) (by kernel_rfl) (by kernel_rfl) (by kernel_rfl) (by kernel_rfl) (fun _ _ _ h => h) (Or.inl ⟨by rfl, ?_⟩) hHeld ?_
          rotate_left 1
          · intro u hSu
            obtain ⟨q0, q1⟩ := row_cells hSu.out.gb
            obtain ⟨q2, q3, q4, q5⟩ := HF.out _ hSu.out
            go_simp
            first | done | with_reducible rfl
          (try simp only [Act.put, List.setIfInBounds_toArray, List.set_cons_zero, List.set_cons_succ])
          refine anyV_ready (rs := [8, 9]) (by kernel_rfl) (by simp) ?_
          refine EachV.cons (o := { dst := some 39, op := Op.extract (Operand.tmp 31) 1, type := 30, pos := "law.go:77", after := #[{ on := 6, ground := Ground.data }, { on := 10, ground := Ground.gcOnly Departure.lateStores }], guard := none }) rfl (fun Kz hK => ?_) (EachV.cons (o := { dst := some 9, op := Op.alloc 26, type := 0, pos := "law.go:77", after := #[], guard := none }) rfl (fun Kz hK => ?_) EachV.nil)
          · go_simp
            refine hK.out _ _ (fun _ h => h) (fun _ => ?_)
            clear hK Kz
            (try simp only [Act.put, List.setIfInBounds_toArray, List.set_cons_zero, List.set_cons_succ])
            refine anyV_ready (rs := [9]) (by kernel_rfl) (by simp) ?_
            refine EachV.cons (o := { dst := some 9, op := Op.alloc 26, type := 0, pos := "law.go:77", after := #[], guard := none }) rfl (fun Kz hK => ?_) EachV.nil
            have HA9 := hHeld
            go_simp
            refine hK.out _ _ (fun _ _ => Lib.hid (hHeld.out.keep (World.grownBy_alloc _ _ none))) (fun hH2 => ?_)
            have hHeld2 := hH2 rfl hHeld
            clear hK Kz hHeld hH2
            have hHeld := hHeld2
            clear hHeld2
            (try simp only [Act.put, List.setIfInBounds_toArray, List.set_cons_zero, List.set_cons_succ])
            refine anyV_ready (rs := [10]) (by kernel_rfl) (by simp) ?_
            refine EachV.cons (o := { dst := none, op := Op.store 26 (Operand.tmp 9) (Operand.tmp 38), type := 0, pos := "law.go:77", after := #[{ on := 9, ground := Ground.data }, { on := 7, ground := Ground.data }, { on := 5, ground := Ground.chain }, { on := 0, ground := Ground.phase }, { on := 1, ground := Ground.phase }, { on := 2, ground := Ground.phase }, { on := 3, ground := Ground.phase }, { on := 4, ground := Ground.phase }, { on := 5, ground := Ground.phase }, { on := 6, ground := Ground.phase }, { on := 7, ground := Ground.phase }, { on := 8, ground := Ground.textOnly Departure.lateStores }, { on := 9, ground := Ground.phase }], guard := none }) rfl (fun Kz hK => ?_) EachV.nil
            first | (have z0 := (row_cells HB9.out).1; have z1 := (row_cells HB9.out).2; have y0 := frozen_of_row _ _ 0 _ _ HB9.out; have y1 := frozen_of_row _ _ 1 _ _ HB9.out) | skip
            have HC9 := hHeld
            go_simp
            refine hK.out _ _ (fun h => by cases h) (fun _ => ?_)
            clear hK Kz
            (try simp only [Act.put, List.setIfInBounds_toArray, List.set_cons_zero, List.set_cons_succ])
            refine anyV_ready (rs := [11]) (by kernel_rfl) (by simp) ?_
            refine EachV.cons (o := { dst := some 10, op := Op.assign (Operand.tmp 39), type := 30, pos := "law.go:77", after := #[{ on := 8, ground := Ground.data }, { on := 10, ground := Ground.chain }, { on := 0, ground := Ground.phase }, { on := 1, ground := Ground.phase }, { on := 2, ground := Ground.phase }, { on := 3, ground := Ground.phase }, { on := 4, ground := Ground.phase }, { on := 5, ground := Ground.phase }, { on := 6, ground := Ground.phase }, { on := 7, ground := Ground.phase }, { on := 8, ground := Ground.phase }, { on := 9, ground := Ground.phase }, { on := 10, ground := Ground.phase }], guard := none }) rfl (fun Kz hK => ?_) EachV.nil
            go_simp
            refine hK.out _ _ (fun _ h => h) (fun _ => ?_)
            clear hK Kz
            (try simp only [Act.put, List.setIfInBounds_toArray, List.set_cons_zero, List.set_cons_succ])
            refine anyV_done (by kernel_rfl) ?_ _
            first | (have HU := Lib.hid (And.intro (store2 (u := .slice pu Rw.length cu) (z := .slice pv Lw.length cv) HB9.out) (And.intro (WA3.other HC9.out (grown_store2 w8 wr.heap.size (.slice pu Rw.length cu) (.slice pv Lw.length cv)) hBw) (HTu.out.grown (grown_store2 w8 wr.heap.size (.slice pu Rw.length cu) (.slice pv Lw.length cv)) (fun b hb e => by have h1 := Option.some.inj e; simp at hb; omega))))) | (have HU := Lib.hid (And.intro (heap_alloc_new w8 (.cells #[.slice pu Rw.length cu, .slice pv Lw.length cv] 26)) (And.intro (HA9.out.keep (World.grownBy_alloc w8 (.cells #[.slice pu Rw.length cu, .slice pv Lw.length cv] 26) none)) (HTu.out.keep (World.grownBy_alloc w8 (.cells #[.slice pu Rw.length cu, .slice pv Lw.length cv] 26) none)))))
            clear HTu
            try clear hHeld
            try clear z0 z1 y0 y1
            try clear HB9
            go_wp2_with fail
            go_meet
            exact ⟨_, pu, pv, cu, cv, rfl, rfl, Lib.hid ⟨HU.out.2.1, HU.out.1, HU.out.2.2.old⟩⟩
          · have HA9 := hHeld
            go_simp
            refine hK.out _ _ (fun _ _ => Lib.hid (hHeld.out.keep (World.grownBy_alloc _ _ none))) (fun hH2 => ?_)
            have hHeld2 := hH2 rfl hHeld
            clear hK Kz hHeld hH2
            have hHeld := hHeld2
            clear hHeld2
            (try simp only [Act.put, List.setIfInBounds_toArray, List.set_cons_zero, List.set_cons_succ])
            refine anyV_ready (rs := [8, 10]) (by kernel_rfl) (by simp) ?_
            refine EachV.cons (o := { dst := some 39, op := Op.extract (Operand.tmp 31) 1, type := 30, pos := "law.go:77", after := #[{ on := 6, ground := Ground.data }, { on := 10, ground := Ground.gcOnly Departure.lateStores }], guard := none }) rfl (fun Kz hK => ?_) (EachV.cons (o := { dst := none, op := Op.store 26 (Operand.tmp 9) (Operand.tmp 38), type := 0, pos := "law.go:77", after := #[{ on := 9, ground := Ground.data }, { on := 7, ground := Ground.data }, { on := 5, ground := Ground.chain }, { on := 0, ground := Ground.phase }, { on := 1, ground := Ground.phase }, { on := 2, ground := Ground.phase }, { on := 3, ground := Ground.phase }, { on := 4, ground := Ground.phase }, { on := 5, ground := Ground.phase }, { on := 6, ground := Ground.phase }, { on := 7, ground := Ground.phase }, { on := 8, ground := Ground.textOnly Departure.lateStores }, { on := 9, ground := Ground.phase }], guard := none }) rfl (fun Kz hK => ?_) EachV.nil)
            · go_simp
              refine hK.out _ _ (fun _ h => h) (fun _ => ?_)
              clear hK Kz
              (try simp only [Act.put, List.setIfInBounds_toArray, List.set_cons_zero, List.set_cons_succ])
              refine anyV_ready (rs := [10]) (by kernel_rfl) (by simp) ?_
              refine EachV.cons (o := { dst := none, op := Op.store 26 (Operand.tmp 9) (Operand.tmp 38), type := 0, pos := "law.go:77", after := #[{ on := 9, ground := Ground.data }, { on := 7, ground := Ground.data }, { on := 5, ground := Ground.chain }, { on := 0, ground := Ground.phase }, { on := 1, ground := Ground.phase }, { on := 2, ground := Ground.phase }, { on := 3, ground := Ground.phase }, { on := 4, ground := Ground.phase }, { on := 5, ground := Ground.phase }, { on := 6, ground := Ground.phase }, { on := 7, ground := Ground.phase }, { on := 8, ground := Ground.textOnly Departure.lateStores }, { on := 9, ground := Ground.phase }], guard := none }) rfl (fun Kz hK => ?_) EachV.nil
              first | (have z0 := (row_cells HB9.out).1; have z1 := (row_cells HB9.out).2; have y0 := frozen_of_row _ _ 0 _ _ HB9.out; have y1 := frozen_of_row _ _ 1 _ _ HB9.out) | skip
              have HC9 := hHeld
              go_simp
              refine hK.out _ _ (fun h => by cases h) (fun _ => ?_)
              clear hK Kz
              (try simp only [Act.put, List.setIfInBounds_toArray, List.set_cons_zero, List.set_cons_succ])
              refine anyV_ready (rs := [11]) (by kernel_rfl) (by simp) ?_
              refine EachV.cons (o := { dst := some 10, op := Op.assign (Operand.tmp 39), type := 30, pos := "law.go:77", after := #[{ on := 8, ground := Ground.data }, { on := 10, ground := Ground.chain }, { on := 0, ground := Ground.phase }, { on := 1, ground := Ground.phase }, { on := 2, ground := Ground.phase }, { on := 3, ground := Ground.phase }, { on := 4, ground := Ground.phase }, { on := 5, ground := Ground.phase }, { on := 6, ground := Ground.phase }, { on := 7, ground := Ground.phase }, { on := 8, ground := Ground.phase }, { on := 9, ground := Ground.phase }, { on := 10, ground := Ground.phase }], guard := none }) rfl (fun Kz hK => ?_) EachV.nil
              go_simp
              refine hK.out _ _ (fun _ h => h) (fun _ => ?_)
              clear hK Kz
              (try simp only [Act.put, List.setIfInBounds_toArray, List.set_cons_zero, List.set_cons_succ])
              refine anyV_done (by kernel_rfl) ?_ _
              first | (have HU := Lib.hid (And.intro (store2 (u := .slice pu Rw.length cu) (z := .slice pv Lw.length cv) HB9.out) (And.intro (WA3.other HC9.out (grown_store2 w8 wr.heap.size (.slice pu Rw.length cu) (.slice pv Lw.length cv)) hBw) (HTu.out.grown (grown_store2 w8 wr.heap.size (.slice pu Rw.length cu) (.slice pv Lw.length cv)) (fun b hb e => by have h1 := Option.some.inj e; simp at hb; omega))))) | (have HU := Lib.hid (And.intro (heap_alloc_new w8 (.cells #[.slice pu Rw.length cu, .slice pv Lw.length cv] 26)) (And.intro (HA9.out.keep (World.grownBy_alloc w8 (.cells #[.slice pu Rw.length cu, .slice pv Lw.length cv] 26) none)) (HTu.out.keep (World.grownBy_alloc w8 (.cells #[.slice pu Rw.length cu, .slice pv Lw.length cv] 26) none)))))
              clear HTu
              try clear hHeld
              try clear z0 z1 y0 y1
              try clear HB9
              go_wp2_with fail
              go_meet
              exact ⟨_, pu, pv, cu, cv, rfl, rfl, Lib.hid ⟨HU.out.2.1, HU.out.1, HU.out.2.2.old⟩⟩
            · first | (have z0 := (row_cells HB9.out).1; have z1 := (row_cells HB9.out).2; have y0 := frozen_of_row _ _ 0 _ _ HB9.out; have y1 := frozen_of_row _ _ 1 _ _ HB9.out) | skip
              have HC9 := hHeld
              go_simp
              refine hK.out _ _ (fun h => by cases h) (fun _ => ?_)
              clear hK Kz
              (try simp only [Act.put, List.setIfInBounds_toArray, List.set_cons_zero, List.set_cons_succ])
              refine anyV_ready (rs := [8]) (by kernel_rfl) (by simp) ?_
              refine EachV.cons (o := { dst := some 39, op := Op.extract (Operand.tmp 31) 1, type := 30, pos := "law.go:77", after := #[{ on := 6, ground := Ground.data }, { on := 10, ground := Ground.gcOnly Departure.lateStores }], guard := none }) rfl (fun Kz hK => ?_) EachV.nil
              go_simp
              refine hK.out _ _ (fun _ h => h) (fun _ => ?_)
              clear hK Kz
              (try simp only [Act.put, List.setIfInBounds_toArray, List.set_cons_zero, List.set_cons_succ])
              refine anyV_ready (rs := [11]) (by kernel_rfl) (by simp) ?_
              refine EachV.cons (o := { dst := some 10, op := Op.assign (Operand.tmp 39), type := 30, pos := "law.go:77", after := #[{ on := 8, ground := Ground.data }, { on := 10, ground := Ground.chain }, { on := 0, ground := Ground.phase }, { on := 1, ground := Ground.phase }, { on := 2, ground := Ground.phase }, { on := 3, ground := Ground.phase }, { on := 4, ground := Ground.phase }, { on := 5, ground := Ground.phase }, { on := 6, ground := Ground.phase }, { on := 7, ground := Ground.phase }, { on := 8, ground := Ground.phase }, { on := 9, ground := Ground.phase }, { on := 10, ground := Ground.phase }], guard := none }) rfl (fun Kz hK => ?_) EachV.nil
              go_simp
              refine hK.out _ _ (fun _ h => h) (fun _ => ?_)
              clear hK Kz
              (try simp only [Act.put, List.setIfInBounds_toArray, List.set_cons_zero, List.set_cons_succ])
              refine anyV_done (by kernel_rfl) ?_ _
              first | (have HU := Lib.hid (And.intro (store2 (u := .slice pu Rw.length cu) (z := .slice pv Lw.length cv) HB9.out) (And.intro (WA3.other HC9.out (grown_store2 w8 wr.heap.size (.slice pu Rw.length cu) (.slice pv Lw.length cv)) hBw) (HTu.out.grown (grown_store2 w8 wr.heap.size (.slice pu Rw.length cu) (.slice pv Lw.length cv)) (fun b hb e => by have h1 := Option.some.inj e; simp at hb; omega))))) | (have HU := Lib.hid (And.intro (heap_alloc_new w8 (.cells #[.slice pu Rw.length cu, .slice pv Lw.length cv] 26)) (And.intro (HA9.out.keep (World.grownBy_alloc w8 (.cells #[.slice pu Rw.length cu, .slice pv Lw.length cv] 26) none)) (HTu.out.keep (World.grownBy_alloc w8 (.cells #[.slice pu Rw.length cu, .slice pv Lw.length cv] 26) none)))))
              clear HTu
              try clear hHeld
              try clear z0 z1 y0 y1
              try clear HB9
              go_wp2_with fail
              go_meet
              exact ⟨_, pu, pv, cu, cv, rfl, rfl, Lib.hid ⟨HU.out.2.1, HU.out.1, HU.out.2.2.old⟩⟩
        · have HA9 := hHeld
          go_simp
          refine hK.out _ _ (fun _ _ => Lib.hid (hHeld.out.keep (World.grownBy_alloc _ _ none))) (fun hH2 => ?_)
          have hHeld2 := hH2 rfl hHeld
          clear hK Kz hHeld hH2
          have hHeld := hHeld2
          clear hHeld2
          (try simp only [Act.put, List.setIfInBounds_toArray, List.set_cons_zero, List.set_cons_succ])
          refine anyV_ready (rs := [5]) (by kernel_rfl) (by simp) ?_
          refine EachV.cons (o := { dst := some 37, op := Op.call { callee := Callee.value (Operand.func 35), args := #[Operand.tmp 32, Operand.tmp 36], argTypes := #[26, 54] }, type := 57, pos := "law.go:77", after := #[{ on := 0, ground := Ground.data }, { on := 4, ground := Ground.data }], guard := none }) rfl (fun Kz hK => ?_) EachV.nil
          go_simp
          go_at_call 35
          refine (tapply_any ⟨R, L, pR, cR, pL, cL⟩ c _ _ hHeld.out.t HPN.out.1 HPN.out.2).mono ?_
          rintro e w8 ⟨pu, cu, pv, cv, rfl, hTu, hg⟩
          simp only at hTu ⊢
          rw [HRL.out.1, HRL.out.2.1, HRL.out.2.2] at hTu
          rw [HRL.out.1, HRL.out.2.1, HRL.out.2.2]
          have HTu := Lib.hid hTu
          have H5n := Lib.hid (hHeld.out.keep hg)
          first | (have HB9 : Hid (w8.heap[wr.heap.size]? = some (.cells #[.slice none 0 0, .slice none 0 0] 26 (0, 0))) := Lib.hid (kept_row (heap_alloc_new wr.drew (.cells #[.slice none 0 0, .slice none 0 0] 26)) hg (by simp))) | skip
          clear hTu hg
          refine hK.out _ _ (fun _ _ => H5n) (fun hH2 => ?_)
          have hHeld2 := hH2 rfl hHeld
          clear hK Kz hHeld hH2
          have hHeld := hHeld2
          clear hHeld2
          (try simp only [Act.put, List.setIfInBounds_toArray, List.set_cons_zero, List.set_cons_succ])
          refine anyV_take (i := 6) (oi := { dst := some 31, op := Op.move (Operand.tmp 37), type := 57, pos := "law.go:77", after := #[{ on := 5, ground := Ground.data }], guard := none }) (v := ?_) rfl (by kernel_rfl) (by kernel_rfl) (by kernel_rfl) (by kernel_rfl) (by kernel_rfl) (fun _ _ _ h => h) (Or.inl ⟨by rfl, ?_⟩) hHeld ?_
          rotate_left 1
          · intro u hSu
            obtain ⟨q0, q1⟩ := row_cells hSu.out.gb
            obtain ⟨q2, q3, q4, q5⟩ := HF.out _ hSu.out
            go_simp
            first | done | with_reducible rfl
          (try simp only [Act.put, List.setIfInBounds_toArray, List.set_cons_zero, List.set_cons_succ])
          refine anyV_take (i := 7) (oi := { dst := some 38, op := Op.extract (Operand.tmp 31) 0, type := 26, pos := "law.go:77", after := #[{ on := 6, ground := Ground.data }], guard := none }) (v := ?_) rfl (by kernel_rfl) (by kernel_rfl) (by kernel_rfl) (by kernel_rfl) (by kernel_rfl) (fun _ _ _ h => h) (Or.inl ⟨by rfl, ?_⟩) hHeld ?_
          rotate_left 1
          · intro u hSu
            obtain ⟨q0, q1⟩ := row_cells hSu.out.gb
            obtain ⟨q2, q3, q4, q5⟩ := HF.out _ hSu.out
            go_simp
            first | done | with_reducible rfl
          (try simp only [Act.put, List.setIfInBounds_toArray, List.set_cons_zero, List.set_cons_succ])
          refine anyV_ready (rs := [8, 10]) (by kernel_rfl) (by simp) ?_
          refine EachV.cons (o := { dst := some 39, op := Op.extract (Operand.tmp 31) 1, type := 30, pos := "law.go:77", after := #[{ on := 6, ground := Ground.data }, { on := 10, ground := Ground.gcOnly Departure.lateStores }], guard := none }) rfl (fun Kz hK => ?_) (EachV.cons (o := { dst := none, op := Op.store 26 (Operand.tmp 9) (Operand.tmp 38), type := 0, pos := "law.go:77", after := #[{ on := 9, ground := Ground.data }, { on := 7, ground := Ground.data }, { on := 5, ground := Ground.chain }, { on := 0, ground := Ground.phase }, { on := 1, ground := Ground.phase }, { on := 2, ground := Ground.phase }, { on := 3, ground := Ground.phase }, { on := 4, ground := Ground.phase }, { on := 5, ground := Ground.phase }, { on := 6, ground := Ground.phase }, { on := 7, ground := Ground.phase }, { on := 8, ground := Ground.textOnly Departure.lateStores }, { on := 9, ground := Ground.phase }], guard := none }) rfl (fun Kz hK => ?_) EachV.nil)
          · go_simp
            refine hK.out _ _ (fun _ h => h) (fun _ => ?_)
            clear hK Kz
            (try simp only [Act.put, List.setIfInBounds_toArray, List.set_cons_zero, List.set_cons_succ])
            refine anyV_ready (rs := [10]) (by kernel_rfl) (by simp) ?_
            refine EachV.cons (o := { dst := none, op := Op.store 26 (Operand.tmp 9) (Operand.tmp 38), type := 0, pos := "law.go:77", after := #[{ on := 9, ground := Ground.data }, { on := 7, ground := Ground.data }, { on := 5, ground := Ground.chain }, { on := 0, ground := Ground.phase }, { on := 1, ground := Ground.phase }, { on := 2, ground := Ground.phase }, { on := 3, ground := Ground.phase }, { on := 4, ground := Ground.phase }, { on := 5, ground := Ground.phase }, { on := 6, ground := Ground.phase }, { on := 7, ground := Ground.phase }, { on := 8, ground := Ground.textOnly Departure.lateStores }, { on := 9, ground := Ground.phase }], guard := none }) rfl (fun Kz hK => ?_) EachV.nil
            first | (have z0 := (row_cells HB9.out).1; have z1 := (row_cells HB9.out).2; have y0 := frozen_of_row _ _ 0 _ _ HB9.out; have y1 := frozen_of_row _ _ 1 _ _ HB9.out) | skip
            have HC9 := hHeld
            go_simp
            refine hK.out _ _ (fun h => by cases h) (fun _ => ?_)
            clear hK Kz
            (try simp only [Act.put, List.setIfInBounds_toArray, List.set_cons_zero, List.set_cons_succ])
            refine anyV_ready (rs := [11]) (by kernel_rfl) (by simp) ?_
            refine EachV.cons (o := { dst := some 10, op := Op.assign (Operand.tmp 39), type := 30, pos := "law.go:77", after := #[{ on := 8, ground := Ground.data }, { on := 10, ground := Ground.chain }, { on := 0, ground := Ground.phase }, { on := 1, ground := Ground.phase }, { on := 2, ground := Ground.phase }, { on := 3, ground := Ground.phase }, { on := 4, ground := Ground.phase }, { on := 5, ground := Ground.phase }, { on := 6, ground := Ground.phase }, { on := 7, ground := Ground.phase }, { on := 8, ground := Ground.phase }, { on := 9, ground := Ground.phase }, { on := 10, ground := Ground.phase }], guard := none }) rfl (fun Kz hK => ?_) EachV.nil
            go_simp
            refine hK.out _ _ (fun _ h => h) (fun _ => ?_)
            clear hK Kz
            (try simp only [Act.put, List.setIfInBounds_toArray, List.set_cons_zero, List.set_cons_succ])
            refine anyV_done (by kernel_rfl) ?_ _
            first | (have HU := Lib.hid (And.intro (store2 (u := .slice pu Rw.length cu) (z := .slice pv Lw.length cv) HB9.out) (And.intro (WA3.other HC9.out (grown_store2 w8 wr.heap.size (.slice pu Rw.length cu) (.slice pv Lw.length cv)) hBw) (HTu.out.grown (grown_store2 w8 wr.heap.size (.slice pu Rw.length cu) (.slice pv Lw.length cv)) (fun b hb e => by have h1 := Option.some.inj e; simp at hb; omega))))) | (have HU := Lib.hid (And.intro (heap_alloc_new w8 (.cells #[.slice pu Rw.length cu, .slice pv Lw.length cv] 26)) (And.intro (HA9.out.keep (World.grownBy_alloc w8 (.cells #[.slice pu Rw.length cu, .slice pv Lw.length cv] 26) none)) (HTu.out.keep (World.grownBy_alloc w8 (.cells #[.slice pu Rw.length cu, .slice pv Lw.length cv] 26) none)))))
            clear HTu
            try clear hHeld
            try clear z0 z1 y0 y1
            try clear HB9
            go_wp2_with fail
            go_meet
            exact ⟨_, pu, pv, cu, cv, rfl, rfl, Lib.hid ⟨HU.out.2.1, HU.out.1, HU.out.2.2.old⟩⟩
          · first | (have z0 := (row_cells HB9.out).1; have z1 := (row_cells HB9.out).2; have y0 := frozen_of_row _ _ 0 _ _ HB9.out; have y1 := frozen_of_row _ _ 1 _ _ HB9.out) | skip
            have HC9 := hHeld
            go_simp
            refine hK.out _ _ (fun h => by cases h) (fun _ => ?_)
            clear hK Kz
            (try simp only [Act.put, List.setIfInBounds_toArray, List.set_cons_zero, List.set_cons_succ])
            refine anyV_ready (rs := [8]) (by kernel_rfl) (by simp) ?_
            refine EachV.cons (o := { dst := some 39, op := Op.extract (Operand.tmp 31) 1, type := 30, pos := "law.go:77", after := #[{ on := 6, ground := Ground.data }, { on := 10, ground := Ground.gcOnly Departure.lateStores }], guard := none }) rfl (fun Kz hK => ?_) EachV.nil
            go_simp
            refine hK.out _ _ (fun _ h => h) (fun _ => ?_)
            clear hK Kz
            (try simp only [Act.put, List.setIfInBounds_toArray, List.set_cons_zero, List.set_cons_succ])
            refine anyV_ready (rs := [11]) (by kernel_rfl) (by simp) ?_
            refine EachV.cons (o := { dst := some 10, op := Op.assign (Operand.tmp 39), type := 30, pos := "law.go:77", after := #[{ on := 8, ground := Ground.data }, { on := 10, ground := Ground.chain }, { on := 0, ground := Ground.phase }, { on := 1, ground := Ground.phase }, { on := 2, ground := Ground.phase }, { on := 3, ground := Ground.phase }, { on := 4, ground := Ground.phase }, { on := 5, ground := Ground.phase }, { on := 6, ground := Ground.phase }, { on := 7, ground := Ground.phase }, { on := 8, ground := Ground.phase }, { on := 9, ground := Ground.phase }, { on := 10, ground := Ground.phase }], guard := none }) rfl (fun Kz hK => ?_) EachV.nil
            go_simp
            refine hK.out _ _ (fun _ h => h) (fun _ => ?_)
            clear hK Kz
            (try simp only [Act.put, List.setIfInBounds_toArray, List.set_cons_zero, List.set_cons_succ])
            refine anyV_done (by kernel_rfl) ?_ _
            first | (have HU := Lib.hid (And.intro (store2 (u := .slice pu Rw.length cu) (z := .slice pv Lw.length cv) HB9.out) (And.intro (WA3.other HC9.out (grown_store2 w8 wr.heap.size (.slice pu Rw.length cu) (.slice pv Lw.length cv)) hBw) (HTu.out.grown (grown_store2 w8 wr.heap.size (.slice pu Rw.length cu) (.slice pv Lw.length cv)) (fun b hb e => by have h1 := Option.some.inj e; simp at hb; omega))))) | (have HU := Lib.hid (And.intro (heap_alloc_new w8 (.cells #[.slice pu Rw.length cu, .slice pv Lw.length cv] 26)) (And.intro (HA9.out.keep (World.grownBy_alloc w8 (.cells #[.slice pu Rw.length cu, .slice pv Lw.length cv] 26) none)) (HTu.out.keep (World.grownBy_alloc w8 (.cells #[.slice pu Rw.length cu, .slice pv Lw.length cv] 26) none)))))
            clear HTu
            try clear hHeld
            try clear z0 z1 y0 y1
            try clear HB9
            go_wp2_with fail
            go_meet
            exact ⟨_, pu, pv, cu, cv, rfl, rfl, Lib.hid ⟨HU.out.2.1, HU.out.1, HU.out.2.2.old⟩⟩
      case rest =>
      obtain ⟨ga, pu, pv, cu, cv, rfl, rfl, HU⟩ := hcut
      clear HK
      have hga := blk_lt HU.out.2.1
      obtain ⟨Z, hZ⟩ : ∃ Z, wc.heap.size = Z := ⟨_, rfl⟩
      have HZ := Lib.hid hZ
      rw [hZ] at hga
      have HU8 : Hid (WA3 w ⟨R, L, pR, cR, pL, cL⟩ G Bl B c0 c1 c2 wc ∧ wc.heap[ga]? = some (.cells #[.slice pu Rw.length cu, .slice pv Lw.length cv] 26 (0, 0)) ∧ TgOk wc (· < Z) ⟨Rw, Lw, pu, cu, pv, cv⟩) := Lib.hid ⟨HU.out.1, HU.out.2.1, by rw [← hZ]; exact HU.out.2.2⟩
      have hBZ : B ≤ Z := by rw [← hZ]; exact HU.out.1.lt.2.2
      clear HU hZ
      go_upto_region 8 with fail
      go_cut [11, 12] from 40 to 48 (fun va ve wx => ∃ (gb : Nat) (pu2 pv2 : Option Addr) (cu2 cv2 : Nat), va = .pointer (some ⟨gb, 0, none⟩) ∧ ve = .int .i64 E ∧ Hid ((WA3 w ⟨R, L, pR, cR, pL, cL⟩ G Bl B c0 c1 c2 wx ∧ wx.heap[ga]? = some (.cells #[.slice pu Rw.length cu, .slice pv Lw.length cv] 26 (0, 0)) ∧ TgOk wx (· < Z) ⟨Rw, Lw, pu, cu, pv, cv⟩) ∧ wx.heap[gb]? = some (.cells #[.slice pu2 Rw.length cu2, .slice pv2 Lw.length cv2] 26 (0, 0)) ∧ TgOk wx (fun _ => True) ⟨Rw, Lw, pu2, cu2, pv2, cv2⟩))
      case first =>
        refine region_until2 (S := fun w' => Hid (WA3 w ⟨R, L, pR, cR, pL, cL⟩ G Bl B c0 c1 c2 w' ∧ w'.heap[ga]? = some (.cells #[.slice pu Rw.length cu, .slice pv Lw.length cv] 26 (0, 0)) ∧ TgOk w' (· < Z) ⟨Rw, Lw, pu, cu, pv, cv⟩)) (fun j => j == 10) (by kernel_rfl) (Lib.hid ⟨HU8.out.1.keep (grown_drew (grown_refl wc none)), kept_row HU8.out.2.1 (grown_drew (grown_refl wc none)) (by simp), HU8.out.2.2.keep (grown_drew (grown_refl wc none))⟩) (fun hHeld => ?_)
        refine anyV_take (i := 0) (oi := { dst := some 41, op := Op.load 26 (Operand.tmp 6), type := 26, pos := "law.go:78", after := #[], guard := none }) (v := ?_) rfl (by kernel_rfl) (by kernel_rfl) (by kernel_rfl) (by kernel_rfl) (by kernel_rfl) (fun _ _ _ h => h) (Or.inl ⟨by rfl, ?_⟩) hHeld ?_
        rotate_left 1
        · intro u hSu
          obtain ⟨q0, q1⟩ := row_cells hSu.out.1.gb
          obtain ⟨q2, q3, q4, q5⟩ := HF.out _ hSu.out.1
          go_simp
          first | done | with_reducible rfl
        (try simp only [Act.put, List.setIfInBounds_toArray, List.set_cons_zero, List.set_cons_succ])
        refine anyV_take (i := 1) (oi := { dst := some 42, op := Op.move (Operand.tmp 7), type := 56, pos := "law.go:78", after := #[], guard := none }) (v := ?_) rfl (by kernel_rfl) (by kernel_rfl) (by kernel_rfl) (by kernel_rfl) (by kernel_rfl) (fun _ _ _ h => h) (Or.inl ⟨by rfl, ?_⟩) hHeld ?_
        rotate_left 1
        · intro u hSu
          obtain ⟨q0, q1⟩ := row_cells hSu.out.1.gb
          obtain ⟨q2, q3, q4, q5⟩ := HF.out _ hSu.out.1
          go_simp
          first | done | with_reducible rfl
        (try simp only [Act.put, List.setIfInBounds_toArray, List.set_cons_zero, List.set_cons_succ])
        refine anyV_take (i := 2) (oi := { dst := some 43, op := Op.move (Operand.tmp 8), type := 3, pos := "law.go:78", after := #[], guard := none }) (v := ?_) rfl (by kernel_rfl) (by kernel_rfl) (by kernel_rfl) (by kernel_rfl) (by kernel_rfl) (fun _ _ _ h => h) (Or.inl ⟨by rfl, ?_⟩) hHeld ?_
        rotate_left 1
        · intro u hSu
          obtain ⟨q0, q1⟩ := row_cells hSu.out.1.gb
          obtain ⟨q2, q3, q4, q5⟩ := HF.out _ hSu.out.1
          go_simp
          first | done | with_reducible rfl
        (try simp only [Act.put, List.setIfInBounds_toArray, List.set_cons_zero, List.set_cons_succ])
        refine anyV_take (i := 3) (oi := { dst := some 44, op := Op.indexAddr 56 (Operand.tmp 42) (Operand.tmp 43), type := 0, pos := "law.go:78", after := #[{ on := 1, ground := Ground.data }, { on := 2, ground := Ground.data }], guard := none }) (v := ?_) rfl (by kernel_rfl) (by kernel_rfl) (by kernel_rfl) (by kernel_rfl) (by kernel_rfl) (fun _ _ _ h => h) (Or.inl ⟨by rfl, ?_⟩) hHeld ?_
        rotate_left 1
        · intro u hSu
          obtain ⟨q0, q1⟩ := row_cells hSu.out.1.gb
          obtain ⟨q2, q3, q4, q5⟩ := HF.out _ hSu.out.1
          go_simp
          first | done | with_reducible rfl
        (try simp only [Act.put, List.setIfInBounds_toArray, List.set_cons_zero, List.set_cons_succ])
        refine anyV_take (i := 4) (oi := { dst := some 45, op := Op.load 54 (Operand.tmp 44), type := 54, pos := "law.go:78", after := #[{ on := 3, ground := Ground.data }], guard := none }) (v := ?_) rfl (by kernel_rfl) (by kernel_rfl) (by kernel_rfl) (by kernel_rfl) (by kernel_rfl) (fun _ _ _ h => h) (Or.inl ⟨by rfl, ?_⟩) hHeld ?_
        rotate_left 1
        · intro u hSu
          obtain ⟨q0, q1⟩ := row_cells hSu.out.1.gb
          obtain ⟨q2, q3, q4, q5⟩ := HF.out _ hSu.out.1
          go_simp
          first | done | with_reducible rfl
        (try simp only [Act.put, List.setIfInBounds_toArray, List.set_cons_zero, List.set_cons_succ])
        refine anyV_ready (rs := [5, 9]) (by kernel_rfl) (by simp) ?_
        refine EachV.cons (o := { dst := some 46, op := Op.call { callee := Callee.value (Operand.func 36), args := #[Operand.tmp 41, Operand.tmp 45], argTypes := #[26, 54] }, type := 57, pos := "law.go:78", after := #[{ on := 0, ground := Ground.data }, { on := 4, ground := Ground.data }], guard := none }) rfl (fun Kz hK => ?_) (EachV.cons (o := { dst := some 11, op := Op.alloc 26, type := 0, pos := "law.go:78", after := #[], guard := none }) rfl (fun Kz hK => ?_) EachV.nil)
        · go_simp
          go_at_call 36
          refine (rapply_any ⟨R, L, pR, cR, pL, cL⟩ c _ _ hHeld.out.1.t).mono ?_
          rintro e w8 ⟨pu2, cu2, pv2, cv2, rfl, hTu, hg⟩
          simp only at hTu ⊢
          rw [HRL.out.1, HRL.out.2.1, HRL.out.2.2] at hTu
          rw [HRL.out.1, HRL.out.2.1, HRL.out.2.2]
          have HTu := Lib.hid hTu
          have H5n : Hid (WA3 w ⟨R, L, pR, cR, pL, cL⟩ G Bl B c0 c1 c2 w8 ∧ w8.heap[ga]? = some (.cells #[.slice pu Rw.length cu, .slice pv Lw.length cv] 26 (0, 0)) ∧ TgOk w8 (· < Z) ⟨Rw, Lw, pu, cu, pv, cv⟩) := Lib.hid ⟨hHeld.out.1.keep (hg), kept_row hHeld.out.2.1 (hg) (by simp), hHeld.out.2.2.keep (hg)⟩
          first | (have HB9 : Hid (w8.heap[wc.heap.size]? = some (.cells #[.slice none 0 0, .slice none 0 0] 26 (0, 0))) := Lib.hid (kept_row (heap_alloc_new wc.drew (.cells #[.slice none 0 0, .slice none 0 0] 26)) hg (by simp))) | skip
          clear hTu hg
          refine hK.out _ _ (fun _ _ => H5n) (fun hH2 => ?_)
          have hHeld2 := hH2 rfl hHeld
          clear hK Kz hHeld hH2
          have hHeld := hHeld2
          clear hHeld2
          (try simp only [Act.put, List.setIfInBounds_toArray, List.set_cons_zero, List.set_cons_succ])
          refine anyV_take (i := 6) (oi := { dst := some 40, op := Op.move (Operand.tmp 46), type := 57, pos := "law.go:78", after := #[{ on := 5, ground := Ground.data }], guard := none }) (v := ?_) rfl (by kernel_rfl) (by kernel_rfl) (by kernel_rfl) (by kernel_rfl) (by kernel_rfl) (fun _ _ _ h => h) (Or.inl ⟨by rfl, ?_⟩) hHeld ?_
          rotate_left 1
          · intro u hSu
            obtain ⟨q0, q1⟩ := row_cells hSu.out.1.gb
            obtain ⟨q2, q3, q4, q5⟩ := HF.out _ hSu.out.1
            go_simp
            first | done | with_reducible rfl
          (try simp only [Act.put, List.setIfInBounds_toArray, List.set_cons_zero, List.set_cons_succ])
          refine anyV_take (i := 7) (oi := { dst := some 47, op := Op.extract (Operand.tmp 40) 0, type := 26, pos := "law.go:78", after := #[{ on := 6, ground := Ground.data }], guard := none }) (v := ?_) rfl (by kernel_rfl) (by kernel_rfl) (by kernel_rfl) (by kernel_rfl) (by kernel_rfl) (fun _ _ _ h => h) (Or.inl ⟨by rfl, ?_⟩) hHeld ?_
          rotate_left 1
          · intro u hSu
            obtain ⟨q0, q1⟩ := row_cells hSu.out.1.gb
            obtain ⟨q2, q3, q4, q5⟩ := HF.out _ hSu.out.1
            go_simp
            first | done | with_reducible rfl
          (try simp only [Act.put, List.setIfInBounds_toArray, List.set_cons_zero, List.set_cons_succ])
          refine anyV_ready (rs := [8, 9]) (by kernel_rfl) (by simp) ?_
          refine EachV.cons (o := { dst := some 48, op := Op.extract (Operand.tmp 40) 1, type := 30, pos := "law.go:78", after := #[{ on := 6, ground := Ground.data }, { on := 10, ground := Ground.gcOnly Departure.lateStores }], guard := none }) rfl (fun Kz hK => ?_) (EachV.cons (o := { dst := some 11, op := Op.alloc 26, type := 0, pos := "law.go:78", after := #[], guard := none }) rfl (fun Kz hK => ?_) EachV.nil)
          · go_simp
            refine hK.out _ _ (fun _ h => h) (fun _ => ?_)
            clear hK Kz
            (try simp only [Act.put, List.setIfInBounds_toArray, List.set_cons_zero, List.set_cons_succ])
            refine anyV_ready (rs := [9]) (by kernel_rfl) (by simp) ?_
            refine EachV.cons (o := { dst := some 11, op := Op.alloc 26, type := 0, pos := "law.go:78", after := #[], guard := none }) rfl (fun Kz hK => ?_) EachV.nil
            have HA9 := hHeld
            go_simp
            refine hK.out _ _ (fun _ _ => Lib.hid ⟨hHeld.out.1.keep (World.grownBy_alloc _ _ none), kept_row hHeld.out.2.1 (World.grownBy_alloc _ _ none) (by simp), hHeld.out.2.2.keep (World.grownBy_alloc _ _ none)⟩) (fun hH2 => ?_)
            have hHeld2 := hH2 rfl hHeld
            clear hK Kz hHeld hH2
            have hHeld := hHeld2
            clear hHeld2
            (try simp only [Act.put, List.setIfInBounds_toArray, List.set_cons_zero, List.set_cons_succ])
            refine anyV_ready (rs := [10]) (by kernel_rfl) (by simp) ?_
            refine EachV.cons (o := { dst := none, op := Op.store 26 (Operand.tmp 11) (Operand.tmp 47), type := 0, pos := "law.go:78", after := #[{ on := 9, ground := Ground.data }, { on := 7, ground := Ground.data }, { on := 5, ground := Ground.chain }, { on := 0, ground := Ground.phase }, { on := 1, ground := Ground.phase }, { on := 2, ground := Ground.phase }, { on := 3, ground := Ground.phase }, { on := 4, ground := Ground.phase }, { on := 5, ground := Ground.phase }, { on := 6, ground := Ground.phase }, { on := 7, ground := Ground.phase }, { on := 8, ground := Ground.textOnly Departure.lateStores }, { on := 9, ground := Ground.phase }], guard := none }) rfl (fun Kz hK => ?_) EachV.nil
            first | (have z0 := (row_cells HB9.out).1; have z1 := (row_cells HB9.out).2; have y0 := frozen_of_row _ _ 0 _ _ HB9.out; have y1 := frozen_of_row _ _ 1 _ _ HB9.out) | skip
            have HC9 := hHeld
            go_simp
            refine hK.out _ _ (fun h => by cases h) (fun _ => ?_)
            clear hK Kz
            (try simp only [Act.put, List.setIfInBounds_toArray, List.set_cons_zero, List.set_cons_succ])
            refine anyV_ready (rs := [11]) (by kernel_rfl) (by simp) ?_
            refine EachV.cons (o := { dst := some 12, op := Op.assign (Operand.tmp 48), type := 30, pos := "law.go:78", after := #[{ on := 8, ground := Ground.data }, { on := 10, ground := Ground.chain }, { on := 0, ground := Ground.phase }, { on := 1, ground := Ground.phase }, { on := 2, ground := Ground.phase }, { on := 3, ground := Ground.phase }, { on := 4, ground := Ground.phase }, { on := 5, ground := Ground.phase }, { on := 6, ground := Ground.phase }, { on := 7, ground := Ground.phase }, { on := 8, ground := Ground.phase }, { on := 9, ground := Ground.phase }, { on := 10, ground := Ground.phase }], guard := none }) rfl (fun Kz hK => ?_) EachV.nil
            go_simp
            refine hK.out _ _ (fun _ h => h) (fun _ => ?_)
            clear hK Kz
            (try simp only [Act.put, List.setIfInBounds_toArray, List.set_cons_zero, List.set_cons_succ])
            refine anyV_done (by kernel_rfl) ?_ _
            first | (have HU := Lib.hid (And.intro (store2 (u := .slice pu2 Rw.length cu2) (z := .slice pv2 Lw.length cv2) HB9.out) (And.intro (WA3.other HC9.out.1 (grown_store2 w8 wc.heap.size (.slice pu2 Rw.length cu2) (.slice pv2 Lw.length cv2)) (by rw [HZ.out]; exact hBZ)) (And.intro (kept_row HC9.out.2.1 (grown_store2 w8 wc.heap.size (.slice pu2 Rw.length cu2) (.slice pv2 Lw.length cv2)) (fun e => by have h1 := Option.some.inj e; have h2 := HZ.out; omega)) (And.intro (HC9.out.2.2.grown (grown_store2 w8 wc.heap.size (.slice pu2 Rw.length cu2) (.slice pv2 Lw.length cv2)) (fun b hb e => by have h1 := Option.some.inj e; have h2 := HZ.out; have h3 : b < Z := hb; omega)) (HTu.out.grown (grown_store2 w8 wc.heap.size (.slice pu2 Rw.length cu2) (.slice pv2 Lw.length cv2)) (fun b hb e => by have h1 := Option.some.inj e; have h2 := HZ.out; simp at hb; omega))))))) | (have HU := Lib.hid (And.intro (heap_alloc_new w8 (.cells #[.slice pu2 Rw.length cu2, .slice pv2 Lw.length cv2] 26)) (And.intro (HA9.out.1.keep (World.grownBy_alloc w8 (.cells #[.slice pu2 Rw.length cu2, .slice pv2 Lw.length cv2] 26) none)) (And.intro (kept_row HA9.out.2.1 (World.grownBy_alloc w8 (.cells #[.slice pu2 Rw.length cu2, .slice pv2 Lw.length cv2] 26) none) (by simp)) (And.intro (HA9.out.2.2.keep (World.grownBy_alloc w8 (.cells #[.slice pu2 Rw.length cu2, .slice pv2 Lw.length cv2] 26) none)) (HTu.out.keep (World.grownBy_alloc w8 (.cells #[.slice pu2 Rw.length cu2, .slice pv2 Lw.length cv2] 26) none)))))))
            clear HTu
            try clear hHeld
            try clear z0 z1 y0 y1
            try clear HB9
            go_wp2_with fail
            go_meet
            exact ⟨_, pu2, pv2, cu2, cv2, rfl, rfl, Lib.hid ⟨⟨HU.out.2.1, HU.out.2.2.1, HU.out.2.2.2.1⟩, HU.out.1, HU.out.2.2.2.2.mono (fun _ _ => trivial)⟩⟩
          · have HA9 := hHeld
            go_simp
            refine hK.out _ _ (fun _ _ => Lib.hid ⟨hHeld.out.1.keep (World.grownBy_alloc _ _ none), kept_row hHeld.out.2.1 (World.grownBy_alloc _ _ none) (by simp), hHeld.out.2.2.keep (World.grownBy_alloc _ _ none)⟩) (fun hH2 => ?_)
            have hHeld2 := hH2 rfl hHeld
            clear hK Kz hHeld hH2
            have hHeld := hHeld2
            clear hHeld2
            (try simp only [Act.put, List.setIfInBounds_toArray, List.set_cons_zero, List.set_cons_succ])
            refine anyV_ready (rs := [8, 10]) (by kernel_rfl) (by simp) ?_
            refine EachV.cons (o := { dst := some 48, op := Op.extract (Operand.tmp 40) 1, type := 30, pos := "law.go:78", after := #[{ on := 6, ground := Ground.data }, { on := 10, ground := Ground.gcOnly Departure.lateStores }], guard := none }) rfl (fun Kz hK => ?_) (EachV.cons (o := { dst := none, op := Op.store 26 (Operand.tmp 11) (Operand.tmp 47), type := 0, pos := "law.go:78", after := #[{ on := 9, ground := Ground.data }, { on := 7, ground := Ground.data }, { on := 5, ground := Ground.chain }, { on := 0, ground := Ground.phase }, { on := 1, ground := Ground.phase }, { on := 2, ground := Ground.phase }, { on := 3, ground := Ground.phase }, { on := 4, ground := Ground.phase }, { on := 5, ground := Ground.phase }, { on := 6, ground := Ground.phase }, { on := 7, ground := Ground.phase }, { on := 8, ground := Ground.textOnly Departure.lateStores }, { on := 9, ground := Ground.phase }], guard := none }) rfl (fun Kz hK => ?_) EachV.nil)
            · go_simp
              refine hK.out _ _ (fun _ h => h) (fun _ => ?_)
              clear hK Kz
              (try simp only [Act.put, List.setIfInBounds_toArray, List.set_cons_zero, List.set_cons_succ])
              refine anyV_ready (rs := [10]) (by kernel_rfl) (by simp) ?_
              refine EachV.cons (o := { dst := none, op := Op.store 26 (Operand.tmp 11) (Operand.tmp 47), type := 0, pos := "law.go:78", after := #[{ on := 9, ground := Ground.data }, { on := 7, ground := Ground.data }, { on := 5, ground := Ground.chain }, { on := 0, ground := Ground.phase }, { on := 1, ground := Ground.phase }, { on := 2, ground := Ground.phase }, { on := 3, ground := Ground.phase }, { on := 4, ground := Ground.phase }, { on := 5, ground := Ground.phase }, { on := 6, ground := Ground.phase }, { on := 7, ground := Ground.phase }, { on := 8, ground := Ground.textOnly Departure.lateStores }, { on := 9, ground := Ground.phase }], guard := none }) rfl (fun Kz hK => ?_) EachV.nil
              first | (have z0 := (row_cells HB9.out).1; have z1 := (row_cells HB9.out).2; have y0 := frozen_of_row _ _ 0 _ _ HB9.out; have y1 := frozen_of_row _ _ 1 _ _ HB9.out) | skip
              have HC9 := hHeld
              go_simp
              refine hK.out _ _ (fun h => by cases h) (fun _ => ?_)
              clear hK Kz
              (try simp only [Act.put, List.setIfInBounds_toArray, List.set_cons_zero, List.set_cons_succ])
              refine anyV_ready (rs := [11]) (by kernel_rfl) (by simp) ?_
              refine EachV.cons (o := { dst := some 12, op := Op.assign (Operand.tmp 48), type := 30, pos := "law.go:78", after := #[{ on := 8, ground := Ground.data }, { on := 10, ground := Ground.chain }, { on := 0, ground := Ground.phase }, { on := 1, ground := Ground.phase }, { on := 2, ground := Ground.phase }, { on := 3, ground := Ground.phase }, { on := 4, ground := Ground.phase }, { on := 5, ground := Ground.phase }, { on := 6, ground := Ground.phase }, { on := 7, ground := Ground.phase }, { on := 8, ground := Ground.phase }, { on := 9, ground := Ground.phase }, { on := 10, ground := Ground.phase }], guard := none }) rfl (fun Kz hK => ?_) EachV.nil
              go_simp
              refine hK.out _ _ (fun _ h => h) (fun _ => ?_)
              clear hK Kz
              (try simp only [Act.put, List.setIfInBounds_toArray, List.set_cons_zero, List.set_cons_succ])
              refine anyV_done (by kernel_rfl) ?_ _
              first | (have HU := Lib.hid (And.intro (store2 (u := .slice pu2 Rw.length cu2) (z := .slice pv2 Lw.length cv2) HB9.out) (And.intro (WA3.other HC9.out.1 (grown_store2 w8 wc.heap.size (.slice pu2 Rw.length cu2) (.slice pv2 Lw.length cv2)) (by rw [HZ.out]; exact hBZ)) (And.intro (kept_row HC9.out.2.1 (grown_store2 w8 wc.heap.size (.slice pu2 Rw.length cu2) (.slice pv2 Lw.length cv2)) (fun e => by have h1 := Option.some.inj e; have h2 := HZ.out; omega)) (And.intro (HC9.out.2.2.grown (grown_store2 w8 wc.heap.size (.slice pu2 Rw.length cu2) (.slice pv2 Lw.length cv2)) (fun b hb e => by have h1 := Option.some.inj e; have h2 := HZ.out; have h3 : b < Z := hb; omega)) (HTu.out.grown (grown_store2 w8 wc.heap.size (.slice pu2 Rw.length cu2) (.slice pv2 Lw.length cv2)) (fun b hb e => by have h1 := Option.some.inj e; have h2 := HZ.out; simp at hb; omega))))))) | (have HU := Lib.hid (And.intro (heap_alloc_new w8 (.cells #[.slice pu2 Rw.length cu2, .slice pv2 Lw.length cv2] 26)) (And.intro (HA9.out.1.keep (World.grownBy_alloc w8 (.cells #[.slice pu2 Rw.length cu2, .slice pv2 Lw.length cv2] 26) none)) (And.intro (kept_row HA9.out.2.1 (World.grownBy_alloc w8 (.cells #[.slice pu2 Rw.length cu2, .slice pv2 Lw.length cv2] 26) none) (by simp)) (And.intro (HA9.out.2.2.keep (World.grownBy_alloc w8 (.cells #[.slice pu2 Rw.length cu2, .slice pv2 Lw.length cv2] 26) none)) (HTu.out.keep (World.grownBy_alloc w8 (.cells #[.slice pu2 Rw.length cu2, .slice pv2 Lw.length cv2] 26) none)))))))
              clear HTu
              try clear hHeld
              try clear z0 z1 y0 y1
              try clear HB9
              go_wp2_with fail
              go_meet
              exact ⟨_, pu2, pv2, cu2, cv2, rfl, rfl, Lib.hid ⟨⟨HU.out.2.1, HU.out.2.2.1, HU.out.2.2.2.1⟩, HU.out.1, HU.out.2.2.2.2.mono (fun _ _ => trivial)⟩⟩
            · first | (have z0 := (row_cells HB9.out).1; have z1 := (row_cells HB9.out).2; have y0 := frozen_of_row _ _ 0 _ _ HB9.out; have y1 := frozen_of_row _ _ 1 _ _ HB9.out) | skip
              have HC9 := hHeld
              go_simp
              refine hK.out _ _ (fun h => by cases h) (fun _ => ?_)
              clear hK Kz
              (try simp only [Act.put, List.setIfInBounds_toArray, List.set_cons_zero, List.set_cons_succ])
              refine anyV_ready (rs := [8]) (by kernel_rfl) (by simp) ?_
              refine EachV.cons (o := { dst := some 48, op := Op.extract (Operand.tmp 40) 1, type := 30, pos := "law.go:78", after := #[{ on := 6, ground := Ground.data }, { on := 10, ground := Ground.gcOnly Departure.lateStores }], guard := none }) rfl (fun Kz hK => ?_) EachV.nil
              go_simp
              refine hK.out _ _ (fun _ h => h) (fun _ => ?_)
              clear hK Kz
              (try simp only [Act.put, List.setIfInBounds_toArray, List.set_cons_zero, List.set_cons_succ])
              refine anyV_ready (rs := [11]) (by kernel_rfl) (by simp) ?_
              refine EachV.cons (o := { dst := some 12, op := Op.assign (Operand.tmp 48), type := 30, pos := "law.go:78", after := #[{ on := 8, ground := Ground.data }, { on := 10, ground := Ground.chain }, { on := 0, ground := Ground.phase }, { on := 1, ground := Ground.phase }, { on := 2, ground := Ground.phase }, { on := 3, ground := Ground.phase }, { on := 4, ground := Ground.phase }, { on := 5, ground := Ground.phase }, { on := 6, ground := Ground.phase }, { on := 7, ground := Ground.phase }, { on := 8, ground := Ground.phase }, { on := 9, ground := Ground.phase }, { on := 10, ground := Ground.phase }], guard := none }) rfl (fun Kz hK => ?_) EachV.nil
              go_simp
              refine hK.out _ _ (fun _ h => h) (fun _ => ?_)
              clear hK Kz
              (try simp only [Act.put, List.setIfInBounds_toArray, List.set_cons_zero, List.set_cons_succ])
              refine anyV_done (by kernel_rfl) ?_ _
              first | (have HU := Lib.hid (And.intro (store2 (u := .slice pu2 Rw.length cu2) (z := .slice pv2 Lw.length cv2) HB9.out) (And.intro (WA3.other HC9.out.1 (grown_store2 w8 wc.heap.size (.slice pu2 Rw.length cu2) (.slice pv2 Lw.length cv2)) (by rw [HZ.out]; exact hBZ)) (And.intro (kept_row HC9.out.2.1 (grown_store2 w8 wc.heap.size (.slice pu2 Rw.length cu2) (.slice pv2 Lw.length cv2)) (fun e => by have h1 := Option.some.inj e; have h2 := HZ.out; omega)) (And.intro (HC9.out.2.2.grown (grown_store2 w8 wc.heap.size (.slice pu2 Rw.length cu2) (.slice pv2 Lw.length cv2)) (fun b hb e => by have h1 := Option.some.inj e; have h2 := HZ.out; have h3 : b < Z := hb; omega)) (HTu.out.grown (grown_store2 w8 wc.heap.size (.slice pu2 Rw.length cu2) (.slice pv2 Lw.length cv2)) (fun b hb e => by have h1 := Option.some.inj e; have h2 := HZ.out; simp at hb; omega))))))) | (have HU := Lib.hid (And.intro (heap_alloc_new w8 (.cells #[.slice pu2 Rw.length cu2, .slice pv2 Lw.length cv2] 26)) (And.intro (HA9.out.1.keep (World.grownBy_alloc w8 (.cells #[.slice pu2 Rw.length cu2, .slice pv2 Lw.length cv2] 26) none)) (And.intro (kept_row HA9.out.2.1 (World.grownBy_alloc w8 (.cells #[.slice pu2 Rw.length cu2, .slice pv2 Lw.length cv2] 26) none) (by simp)) (And.intro (HA9.out.2.2.keep (World.grownBy_alloc w8 (.cells #[.slice pu2 Rw.length cu2, .slice pv2 Lw.length cv2] 26) none)) (HTu.out.keep (World.grownBy_alloc w8 (.cells #[.slice pu2 Rw.length cu2, .slice pv2 Lw.length cv2] 26) none)))))))
              clear HTu
              try clear hHeld
              try clear z0 z1 y0 y1
              try clear HB9
              go_wp2_with fail
              go_meet
              exact ⟨_, pu2, pv2, cu2, cv2, rfl, rfl, Lib.hid ⟨⟨HU.out.2.1, HU.out.2.2.1, HU.out.2.2.2.1⟩, HU.out.1, HU.out.2.2.2.2.mono (fun _ _ => trivial)⟩⟩
        · have HA9 := hHeld
          go_simp
          refine hK.out _ _ (fun _ _ => Lib.hid ⟨hHeld.out.1.keep (World.grownBy_alloc _ _ none), kept_row hHeld.out.2.1 (World.grownBy_alloc _ _ none) (by simp), hHeld.out.2.2.keep (World.grownBy_alloc _ _ none)⟩) (fun hH2 => ?_)
          have hHeld2 := hH2 rfl hHeld
          clear hK Kz hHeld hH2
          have hHeld := hHeld2
          clear hHeld2
          (try simp only [Act.put, List.setIfInBounds_toArray, List.set_cons_zero, List.set_cons_succ])
          refine anyV_ready (rs := [5]) (by kernel_rfl) (by simp) ?_
          refine EachV.cons (o := { dst := some 46, op := Op.call { callee := Callee.value (Operand.func 36), args := #[Operand.tmp 41, Operand.tmp 45], argTypes := #[26, 54] }, type := 57, pos := "law.go:78", after := #[{ on := 0, ground := Ground.data }, { on := 4, ground := Ground.data }], guard := none }) rfl (fun Kz hK => ?_) EachV.nil
          go_simp
          go_at_call 36
          refine (rapply_any ⟨R, L, pR, cR, pL, cL⟩ c _ _ hHeld.out.1.t).mono ?_
          rintro e w8 ⟨pu2, cu2, pv2, cv2, rfl, hTu, hg⟩
          simp only at hTu ⊢
          rw [HRL.out.1, HRL.out.2.1, HRL.out.2.2] at hTu
          rw [HRL.out.1, HRL.out.2.1, HRL.out.2.2]
          have HTu := Lib.hid hTu
          have H5n : Hid (WA3 w ⟨R, L, pR, cR, pL, cL⟩ G Bl B c0 c1 c2 w8 ∧ w8.heap[ga]? = some (.cells #[.slice pu Rw.length cu, .slice pv Lw.length cv] 26 (0, 0)) ∧ TgOk w8 (· < Z) ⟨Rw, Lw, pu, cu, pv, cv⟩) := Lib.hid ⟨hHeld.out.1.keep (hg), kept_row hHeld.out.2.1 (hg) (by simp), hHeld.out.2.2.keep (hg)⟩
          first | (have HB9 : Hid (w8.heap[wc.heap.size]? = some (.cells #[.slice none 0 0, .slice none 0 0] 26 (0, 0))) := Lib.hid (kept_row (heap_alloc_new wc.drew (.cells #[.slice none 0 0, .slice none 0 0] 26)) hg (by simp))) | skip
          clear hTu hg
          refine hK.out _ _ (fun _ _ => H5n) (fun hH2 => ?_)
          have hHeld2 := hH2 rfl hHeld
          clear hK Kz hHeld hH2
          have hHeld := hHeld2
          clear hHeld2
          (try simp only [Act.put, List.setIfInBounds_toArray, List.set_cons_zero, List.set_cons_succ])
          refine anyV_take (i := 6) (oi := { dst := some 40, op := Op.move (Operand.tmp 46), type := 57, pos := "law.go:78", after := #[{ on := 5, ground := Ground.data }], guard := none }) (v := ?_) rfl (by kernel_rfl) (by kernel_rfl) (by kernel_rfl) (by kernel_rfl) (by kernel_rfl) (fun _ _ _ h => h) (Or.inl ⟨by rfl, ?_⟩) hHeld ?_
          rotate_left 1
          · intro u hSu
            obtain ⟨q0, q1⟩ := row_cells hSu.out.1.gb
            obtain ⟨q2, q3, q4, q5⟩ := HF.out _ hSu.out.1
            go_simp
            first | done | with_reducible rfl
          (try simp only [Act.put, List.setIfInBounds_toArray, List.set_cons_zero, List.set_cons_succ])
          refine anyV_take (i := 7) (oi := { dst := some 47, op := Op.extract (Operand.tmp 40) 0, type := 26, pos := "law.go:78", after := #[{ on := 6, ground := Ground.data }], guard := none }) (v := ?_) rfl (by kernel_rfl) (by kernel_rfl) (by kernel_rfl) (by kernel_rfl) (by kernel_rfl) (fun _ _ _ h => h) (Or.inl ⟨by rfl, ?_⟩) hHeld ?_
          rotate_left 1
          · intro u hSu
            obtain ⟨q0, q1⟩ := row_cells hSu.out.1.gb
            obtain ⟨q2, q3, q4, q5⟩ := HF.out _ hSu.out.1
            go_simp
            first | done | with_reducible rfl
          (try simp only [Act.put, List.setIfInBounds_toArray, List.set_cons_zero, List.set_cons_succ])
          refine anyV_ready (rs := [8, 10]) (by kernel_rfl) (by simp) ?_
          refine EachV.cons (o := { dst := some 48, op := Op.extract (Operand.tmp 40) 1, type := 30, pos := "law.go:78", after := #[{ on := 6, ground := Ground.data }, { on := 10, ground := Ground.gcOnly Departure.lateStores }], guard := none }) rfl (fun Kz hK => ?_) (EachV.cons (o := { dst := none, op := Op.store 26 (Operand.tmp 11) (Operand.tmp 47), type := 0, pos := "law.go:78", after := #[{ on := 9, ground := Ground.data }, { on := 7, ground := Ground.data }, { on := 5, ground := Ground.chain }, { on := 0, ground := Ground.phase }, { on := 1, ground := Ground.phase }, { on := 2, ground := Ground.phase }, { on := 3, ground := Ground.phase }, { on := 4, ground := Ground.phase }, { on := 5, ground := Ground.phase }, { on := 6, ground := Ground.phase }, { on := 7, ground := Ground.phase }, { on := 8, ground := Ground.textOnly Departure.lateStores }, { on := 9, ground := Ground.phase }], guard := none }) rfl (fun Kz hK => ?_) EachV.nil)
          · go_simp
            refine hK.out _ _ (fun _ h => h) (fun _ => ?_)
            clear hK Kz
            (try simp only [Act.put, List.setIfInBounds_toArray, List.set_cons_zero, List.set_cons_succ])
            refine anyV_ready (rs := [10]) (by kernel_rfl) (by simp) ?_
            refine EachV.cons (o := { dst := none, op := Op.store 26 (Operand.tmp 11) (Operand.tmp 47), type := 0, pos := "law.go:78", after := #[{ on := 9, ground := Ground.data }, { on := 7, ground := Ground.data }, { on := 5, ground := Ground.chain }, { on := 0, ground := Ground.phase }, { on := 1, ground := Ground.phase }, { on := 2, ground := Ground.phase }, { on := 3, ground := Ground.phase }, { on := 4, ground := Ground.phase }, { on := 5, ground := Ground.phase }, { on := 6, ground := Ground.phase }, { on := 7, ground := Ground.phase }, { on := 8, ground := Ground.textOnly Departure.lateStores }, { on := 9, ground := Ground.phase }], guard := none }) rfl (fun Kz hK => ?_) EachV.nil
            first | (have z0 := (row_cells HB9.out).1; have z1 := (row_cells HB9.out).2; have y0 := frozen_of_row _ _ 0 _ _ HB9.out; have y1 := frozen_of_row _ _ 1 _ _ HB9.out) | skip
            have HC9 := hHeld
            go_simp
            refine hK.out _ _ (fun h => by cases h) (fun _ => ?_)
            clear hK Kz
            (try simp only [Act.put, List.setIfInBounds_toArray, List.set_cons_zero, List.set_cons_succ])
            refine anyV_ready (rs := [11]) (by kernel_rfl) (by simp) ?_
            refine EachV.cons (o := { dst := some 12, op := Op.assign (Operand.tmp 48), type := 30, pos := "law.go:78", after := #[{ on := 8, ground := Ground.data }, { on := 10, ground := Ground.chain }, { on := 0, ground := Ground.phase }, { on := 1, ground := Ground.phase }, { on := 2, ground := Ground.phase }, { on := 3, ground := Ground.phase }, { on := 4, ground := Ground.phase }, { on := 5, ground := Ground.phase }, { on := 6, ground := Ground.phase }, { on := 7, ground := Ground.phase }, { on := 8, ground := Ground.phase }, { on := 9, ground := Ground.phase }, { on := 10, ground := Ground.phase }], guard := none }) rfl (fun Kz hK => ?_) EachV.nil
            go_simp
            refine hK.out _ _ (fun _ h => h) (fun _ => ?_)
            clear hK Kz
            (try simp only [Act.put, List.setIfInBounds_toArray, List.set_cons_zero, List.set_cons_succ])
            refine anyV_done (by kernel_rfl) ?_ _
            first | (have HU := Lib.hid (And.intro (store2 (u := .slice pu2 Rw.length cu2) (z := .slice pv2 Lw.length cv2) HB9.out) (And.intro (WA3.other HC9.out.1 (grown_store2 w8 wc.heap.size (.slice pu2 Rw.length cu2) (.slice pv2 Lw.length cv2)) (by rw [HZ.out]; exact hBZ)) (And.intro (kept_row HC9.out.2.1 (grown_store2 w8 wc.heap.size (.slice pu2 Rw.length cu2) (.slice pv2 Lw.length cv2)) (fun e => by have h1 := Option.some.inj e; have h2 := HZ.out; omega)) (And.intro (HC9.out.2.2.grown (grown_store2 w8 wc.heap.size (.slice pu2 Rw.length cu2) (.slice pv2 Lw.length cv2)) (fun b hb e => by have h1 := Option.some.inj e; have h2 := HZ.out; have h3 : b < Z := hb; omega)) (HTu.out.grown (grown_store2 w8 wc.heap.size (.slice pu2 Rw.length cu2) (.slice pv2 Lw.length cv2)) (fun b hb e => by have h1 := Option.some.inj e; have h2 := HZ.out; simp at hb; omega))))))) | (have HU := Lib.hid (And.intro (heap_alloc_new w8 (.cells #[.slice pu2 Rw.length cu2, .slice pv2 Lw.length cv2] 26)) (And.intro (HA9.out.1.keep (World.grownBy_alloc w8 (.cells #[.slice pu2 Rw.length cu2, .slice pv2 Lw.length cv2] 26) none)) (And.intro (kept_row HA9.out.2.1 (World.grownBy_alloc w8 (.cells #[.slice pu2 Rw.length cu2, .slice pv2 Lw.length cv2] 26) none) (by simp)) (And.intro (HA9.out.2.2.keep (World.grownBy_alloc w8 (.cells #[.slice pu2 Rw.length cu2, .slice pv2 Lw.length cv2] 26) none)) (HTu.out.keep (World.grownBy_alloc w8 (.cells #[.slice pu2 Rw.length cu2, .slice pv2 Lw.length cv2] 26) none)))))))
            clear HTu
            try clear hHeld
            try clear z0 z1 y0 y1
            try clear HB9
            go_wp2_with fail
            go_meet
            exact ⟨_, pu2, pv2, cu2, cv2, rfl, rfl, Lib.hid ⟨⟨HU.out.2.1, HU.out.2.2.1, HU.out.2.2.2.1⟩, HU.out.1, HU.out.2.2.2.2.mono (fun _ _ => trivial)⟩⟩
          · first | (have z0 := (row_cells HB9.out).1; have z1 := (row_cells HB9.out).2; have y0 := frozen_of_row _ _ 0 _ _ HB9.out; have y1 := frozen_of_row _ _ 1 _ _ HB9.out) | skip
            have HC9 := hHeld
            go_simp
            refine hK.out _ _ (fun h => by cases h) (fun _ => ?_)
            clear hK Kz
            (try simp only [Act.put, List.setIfInBounds_toArray, List.set_cons_zero, List.set_cons_succ])
            refine anyV_ready (rs := [8]) (by kernel_rfl) (by simp) ?_
            refine EachV.cons (o := { dst := some 48, op := Op.extract (Operand.tmp 40) 1, type := 30, pos := "law.go:78", after := #[{ on := 6, ground := Ground.data }, { on := 10, ground := Ground.gcOnly Departure.lateStores }], guard := none }) rfl (fun Kz hK => ?_) EachV.nil
            go_simp
            refine hK.out _ _ (fun _ h => h) (fun _ => ?_)
            clear hK Kz
            (try simp only [Act.put, List.setIfInBounds_toArray, List.set_cons_zero, List.set_cons_succ])
            refine anyV_ready (rs := [11]) (by kernel_rfl) (by simp) ?_
            refine EachV.cons (o := { dst := some 12, op := Op.assign (Operand.tmp 48), type := 30, pos := "law.go:78", after := #[{ on := 8, ground := Ground.data }, { on := 10, ground := Ground.chain }, { on := 0, ground := Ground.phase }, { on := 1, ground := Ground.phase }, { on := 2, ground := Ground.phase }, { on := 3, ground := Ground.phase }, { on := 4, ground := Ground.phase }, { on := 5, ground := Ground.phase }, { on := 6, ground := Ground.phase }, { on := 7, ground := Ground.phase }, { on := 8, ground := Ground.phase }, { on := 9, ground := Ground.phase }, { on := 10, ground := Ground.phase }], guard := none }) rfl (fun Kz hK => ?_) EachV.nil
            go_simp
            refine hK.out _ _ (fun _ h => h) (fun _ => ?_)
            clear hK Kz
            (try simp only [Act.put, List.setIfInBounds_toArray, List.set_cons_zero, List.set_cons_succ])
            refine anyV_done (by kernel_rfl) ?_ _
            first | (have HU := Lib.hid (And.intro (store2 (u := .slice pu2 Rw.length cu2) (z := .slice pv2 Lw.length cv2) HB9.out) (And.intro (WA3.other HC9.out.1 (grown_store2 w8 wc.heap.size (.slice pu2 Rw.length cu2) (.slice pv2 Lw.length cv2)) (by rw [HZ.out]; exact hBZ)) (And.intro (kept_row HC9.out.2.1 (grown_store2 w8 wc.heap.size (.slice pu2 Rw.length cu2) (.slice pv2 Lw.length cv2)) (fun e => by have h1 := Option.some.inj e; have h2 := HZ.out; omega)) (And.intro (HC9.out.2.2.grown (grown_store2 w8 wc.heap.size (.slice pu2 Rw.length cu2) (.slice pv2 Lw.length cv2)) (fun b hb e => by have h1 := Option.some.inj e; have h2 := HZ.out; have h3 : b < Z := hb; omega)) (HTu.out.grown (grown_store2 w8 wc.heap.size (.slice pu2 Rw.length cu2) (.slice pv2 Lw.length cv2)) (fun b hb e => by have h1 := Option.some.inj e; have h2 := HZ.out; simp at hb; omega))))))) | (have HU := Lib.hid (And.intro (heap_alloc_new w8 (.cells #[.slice pu2 Rw.length cu2, .slice pv2 Lw.length cv2] 26)) (And.intro (HA9.out.1.keep (World.grownBy_alloc w8 (.cells #[.slice pu2 Rw.length cu2, .slice pv2 Lw.length cv2] 26) none)) (And.intro (kept_row HA9.out.2.1 (World.grownBy_alloc w8 (.cells #[.slice pu2 Rw.length cu2, .slice pv2 Lw.length cv2] 26) none) (by simp)) (And.intro (HA9.out.2.2.keep (World.grownBy_alloc w8 (.cells #[.slice pu2 Rw.length cu2, .slice pv2 Lw.length cv2] 26) none)) (HTu.out.keep (World.grownBy_alloc w8 (.cells #[.slice pu2 Rw.length cu2, .slice pv2 Lw.length cv2] 26) none)))))))
            clear HTu
            try clear hHeld
            try clear z0 z1 y0 y1
            try clear HB9
            go_wp2_with fail
            go_meet
            exact ⟨_, pu2, pv2, cu2, cv2, rfl, rfl, Lib.hid ⟨⟨HU.out.2.1, HU.out.2.2.1, HU.out.2.2.2.1⟩, HU.out.1, HU.out.2.2.2.2.mono (fun _ _ => trivial)⟩⟩
      case rest =>
      obtain ⟨gb, pu2, pv2, cu2, cv2, rfl, rfl, HW⟩ := hcut
      clear HU8
      obtain ⟨q0, q1⟩ := row_cells HW.out.1.2.1
      obtain ⟨q2, q3⟩ := row_cells HW.out.2.1
      go_wp2_with fail
      refine (rsameT_any ⟨Rw, Lw, pu, cu, pv, cv⟩ ⟨Rw, Lw, pu2, cu2, pv2, cv2⟩ rfl rfl _ _ _ HW.out.1.2.2 HW.out.2.2).mono ?_
      rintro e w11 ⟨rfl, hg⟩
      have HW2 := Lib.hid (And.intro (HW.out.1.1.keep hg) (And.intro (kept_row HW.out.1.2.1 hg (by simp)) (HW.out.1.2.2.keep hg)))
      clear HW hg q0 q1 q2 q3
      obtain ⟨q0, q1⟩ := row_cells HW2.out.2.1
      by_cases hE0 : E = 0
      · have hc0 := HC.out hE0
        have HC0 := Lib.hid hc0
        subst hE0
        clear hc0
        go_wp2_with fail
        refine (tcheck_any ⟨Rw, Lw, pu, cu, pv, cv⟩ _ _ HW2.out.2.2).mono ?_
        rintro e w12 ⟨rfl, hg⟩
        simp only
        rw [HC0.out]
        have H9 := Lib.hid (HW2.out.1.keep hg)
        clear hg
        go_wp2_with fail
        exact ⟨⟨k + 1, by omega, congrArg _ (by omega), H9⟩, by simp only [intOf]; omega⟩
      · have hE1 : (E == 0) = false := by simpa using hE0
        have H9 := Lib.hid HW2.out.1
        clear hE0
        go_wp2_with fail
        exact ⟨⟨k + 1, by omega, congrArg _ (by omega), H9⟩, by simp only [intOf]; omega⟩
    · have hk4 : ¬ ((k : Int) < 3) := by omega
      clear hk3
      go_wp2_with fail
      refine (tawake_any wr).mono ?_
      rintro e w9 ⟨rfl, hg⟩
      go_wp2_with fail
      go_ret
      exact ⟨rfl, grown_trans HK.out.gr hg⟩
end Go.Proofs.Ytiencdgmnkphjaa
