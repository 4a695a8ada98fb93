/- Parts of the proof, packed: ToChg. -/
import Derived.Test.YtiencdgmnkphjaaApl19
import Derived.Test.YtiencdgmnkphjaaApl8
import Derived.Test.YtiencdgmnkphjaaApl2
import Derived.Test.YtiencdgmnkphjaaApl20
/- The tape's Change: some change. -/
namespace Go.Proofs.Ytiencdgmnkphjaa
open Go.RowKit Bs
set_option maxHeartbeats 400000 in
/-- The tape's Range of any two numbers. -/
theorem range_free (a : Nat) (low high : Int) (w : World) (hT : Tp w a) :
    Calls Try.prog 48 #[.pointer (some ⟨a, 0, none⟩), .int .i64 low, .int .i64 high] w fun e w' => ∃ x : Int, e = .returned (.int .i64 x) ∧ St a w w' := by
  obtain ⟨n, hn⟩ : ∃ n, wrap64 (wrap64 (high - low) + 1) = n := ⟨_, rfl⟩
  have hi : I64 n := by rw [← hn]; unfold wrap64 I64; omega
  go_enter Try.func48, Try.ntmps48
  go_wp2_with fail
  try rw [hn]
  refine (next_any a _ hi _ hT).mono ?_
  rintro e w1 ⟨r, rfl, hr, hs⟩
  go_wp2_with fail
  go_ret
  exact ⟨_, rfl, hs⟩
/-- While a change is drawn. -/
structure XM (a : Nat) (w : World) (T : Tg) (q : Nat → Prop) (gc : Nat) (c : Ch) (wr : World) : Prop where
  tb : wr.heap[w.heap.size]? = some (.cells #[.slice T.pR T.R.length T.cR, .slice T.pL T.L.length T.cL] 26 (0, 0))
  rb : wr.heap[w.heap.size + 1]? = some (.cells #[.int .i64 0, .int .i64 0, .int .i64 0, .int .i64 0] 54 (0, 0))
  cb : wr.heap[gc]? = some (.cells #[.int .i64 c.a, .int .i64 c.b, .int .i64 c.ca, .int .i64 c.cb] 54 (0, 0))
  t : TgOk wr q T
  st : St a w wr
  ge : w.heap.size + 2 ≤ gc
theorem XM.keep {a gc : Nat} {c : Ch} {w wr w1 : World} {T : Tg} {q : Nat → Prop} (h : XM a w T q gc c wr) (g : wr.grownBy w1 none) : XM a w T q gc c w1 :=
  ⟨kept_row h.tb g (by simp), kept_row h.rb g (by simp), kept_row h.cb g (by simp), h.t.keep g, h.st.trans ⟨grown_none g _, h.st.2.keep g⟩, h.ge⟩
theorem XM.tape {a gc : Nat} {c : Ch} {w wr w1 : World} {T : Tg} {q : Nat → Prop} (h : XM a w T q gc c wr) (ha : a < w.heap.size) (hq : ∀ b, q b → b ≠ a) (k : St a wr w1) : XM a w T q gc c w1 := by
  have hge := h.ge
  exact ⟨kept_row h.tb k.1 (fun e => by have := Option.some.inj e; omega), kept_row h.rb k.1 (fun e => by have := Option.some.inj e; omega), kept_row h.cb k.1 (fun e => by have := Option.some.inj e; omega), h.t.grown k.1 (fun b hb e => hq b hb (Option.some.inj e)), h.st.trans k, h.ge⟩
/-- Another box is written. -/
theorem XM.other {a gc g : Nat} {c : Ch} {w wr w1 : World} {T : Tg} {q : Nat → Prop} (h : XM a w T q gc c wr) (ha : a < w.heap.size) (k : wr.grownBy w1 (some g)) (hg : w.heap.size + 2 ≤ g) (hgc : g ≠ gc) (hq : ∀ b, q b → b < w.heap.size) : XM a w T q gc c w1 :=
  ⟨kept_row h.tb k (fun e => by have := Option.some.inj e; omega), kept_row h.rb k (fun e => by have := Option.some.inj e; omega), kept_row h.cb k (fun e => by have := Option.some.inj e; omega), h.t.grown k (fun b hb e => by have := hq b hb; have := Option.some.inj e; omega), h.st.storeT k (by omega) ha, h.ge⟩
/-- The change is written. -/
theorem XM.put {a gc : Nat} {c c' : Ch} {w wr w1 : World} {T : Tg} {q : Nat → Prop} (h : XM a w T q gc c wr) (ha : a < w.heap.size) (hq : ∀ b, q b → b < w.heap.size) (k : wr.grownBy w1 (some gc)) (hb : w1.heap[gc]? = some (.cells #[.int .i64 c'.a, .int .i64 c'.b, .int .i64 c'.ca, .int .i64 c'.cb] 54 (0, 0))) : XM a w T q gc c' w1 := by
  have hge := h.ge
  exact ⟨kept_row h.tb k (fun e => by have := Option.some.inj e; omega), kept_row h.rb k (fun e => by have := Option.some.inj e; omega), hb, h.t.grown k (fun b hb e => by have := hq b hb; have := Option.some.inj e; omega), h.st.storeT k (by omega) ha, h.ge⟩
section
variable {a gc : Nat} {c : Ch} {w wr : World} {T : Tg} {q : Nat → Prop} (h : XM a w T q gc c wr) (ha : a < w.heap.size) (hq : ∀ b, q b → b < w.heap.size) (x : Int)
include h ha hq
theorem XM.s0 : XM a w T q gc ⟨x, c.b, c.ca, c.cb⟩ (wr.setCell ⟨gc, 0, none⟩ (.int .i64 x)) :=
  h.put ha hq (grown_setCell wr ⟨gc, 0, none⟩ _) ((show TRow wr gc 54 [.int .i64 c.a, .int .i64 c.b, .int .i64 c.ca, .int .i64 c.cb] from h.cb).set 0 _)
theorem XM.s1 : XM a w T q gc ⟨c.a, x, c.ca, c.cb⟩ (wr.setCell ⟨gc, 1, none⟩ (.int .i64 x)) :=
  h.put ha hq (grown_setCell wr ⟨gc, 1, none⟩ _) ((show TRow wr gc 54 [.int .i64 c.a, .int .i64 c.b, .int .i64 c.ca, .int .i64 c.cb] from h.cb).set 1 _)
theorem XM.s2 : XM a w T q gc ⟨c.a, c.b, x, c.cb⟩ (wr.setCell ⟨gc, 2, none⟩ (.int .i64 x)) :=
  h.put ha hq (grown_setCell wr ⟨gc, 2, none⟩ _) ((show TRow wr gc 54 [.int .i64 c.a, .int .i64 c.b, .int .i64 c.ca, .int .i64 c.cb] from h.cb).set 2 _)
theorem XM.s3 : XM a w T q gc ⟨c.a, c.b, c.ca, x⟩ (wr.setCell ⟨gc, 3, none⟩ (.int .i64 x)) :=
  h.put ha hq (grown_setCell wr ⟨gc, 3, none⟩ _) ((show TRow wr gc 54 [.int .i64 c.a, .int .i64 c.b, .int .i64 c.ca, .int .i64 c.cb] from h.cb).set 3 _)
end
section
variable {a gc : Nat} {c : Ch} {w wr : World} {T : Tg} {q : Nat → Prop} (h : XM a w T q gc c wr) (ha : a < w.heap.size) (hq : ∀ b, q b → b < w.heap.size)
include h ha hq
theorem XM.s4 (x y z v : Int) : XM a w T q gc ⟨x, y, z, v⟩ ((((wr.setCell ⟨gc, 0, none⟩ (.int .i64 x)).setCell ⟨gc, 1, none⟩ (.int .i64 y)).setCell ⟨gc, 2, none⟩ (.int .i64 z)).setCell ⟨gc, 3, none⟩ (.int .i64 v)) :=
  (((h.s0 ha hq x).s1 ha hq y).s2 ha hq z).s3 ha hq v
end
theorem XM.lk {a gc : Nat} {c : Ch} {w wr : World} {R : List Rt} {L : List Lk} {pR : Option Addr} {cR cL b off i : Nat} {q : Nat → Prop} {m : Lk} (h : XM a w ⟨R, L, pR, cR, some ⟨b, off, none⟩, cL⟩ q gc c wr) (hm : L[i]? = some m) :
    wr.cell? ⟨b, off + i * 5, none⟩ = some (.int .i64 m.a) ∧ wr.cell? ⟨b, off + i * 5 + 1, none⟩ = some (.int .i64 m.b) ∧ wr.cell? ⟨b, off + i * 5 + 2, none⟩ = some (.int .i64 m.ca) ∧ wr.cell? ⟨b, off + i * 5 + 3, none⟩ = some (.int .i64 m.cb) ∧ wr.cell? ⟨b, off + i * 5 + 4, none⟩ = some (.int .i64 m.cp) := by
  have h1 := (List.getElem?_eq_some_iff.1 hm).1
  obtain ⟨-, b', off', e, -, hc⟩ := rdl_cells (L := L) h.t.l (by omega)
  injection e with e
  injection e with e4 e5
  subst e4
  subst e5
  exact hc i m hm
theorem ch_frozen {w : World} {b : Nat} {xs : Array Value} {t : TypeId} (h : w.heap[b]? = some (.cells xs t (0, 0))) : w.frozen? ⟨b, 0, none⟩ = false ∧ w.frozen? ⟨b, 1, none⟩ = false ∧ w.frozen? ⟨b, 2, none⟩ = false ∧ w.frozen? ⟨b, 3, none⟩ = false :=
  ⟨frozen_of_row _ _ 0 _ _ h, frozen_of_row _ _ 1 _ _ h, frozen_of_row _ _ 2 _ _ h, frozen_of_row _ _ 3 _ _ h⟩
theorem chg_size : (Try.prog.info? 54).map (·.size) = some 4 := by kernel_rfl
theorem res_chg {fn : Func} {p : Tmp} (h : fn.results = #[.cell p 54]) (tmps : Array Value) (w : World) (g : Nat) (x y z v : Value) (hp : tmps.getD p undef = .pointer (some ⟨g, 0, none⟩)) (hg : w.heap[g]? = some (.cells #[x, y, z, v] 54 (0, 0))) :
    (results fn tmps).run Try.prog w = .ok (.agg #[x, y, z, v]) w :=
  results_cell_row h tmps w g _ _ _ _ hp hg Try.underlying54 rfl chg_size
theorem blk_lt2 {w : World} {b : Nat} {o : Obj} (h : w.heap[b]? = some o) : b < w.heap.size := by
  rcases Nat.lt_or_ge b w.heap.size with h1 | h1
  · exact h1
  · rw [Array.getElem?_eq_none h1] at h
    cases h
set_option maxRecDepth 100000 in
set_option maxHeartbeats 6400000 in
theorem change_any (a : Nat) (T : Tg) (n : Int) (hn : I64 n) (q : Nat → Prop) (w : World) (hT : TgOk w q T) (hq : ∀ b, q b → b ≠ a ∧ b < w.heap.size) (hp : Tp w a) :
    Calls Try.prog 34 #[.pointer (some ⟨a, 0, none⟩), .agg #[.slice T.pR T.R.length T.cR, .slice T.pL T.L.length T.cL], .int .i64 n] w fun e w' => ∃ c : Ch, e = .returned (.agg #[.int .i64 c.a, .int .i64 c.b, .int .i64 c.ca, .int .i64 c.cb]) ∧ St a w w' := by
  have ha := hp.lt
  have hmR := Nat.le_trans hT.cr.1 hT.cr.2
  have hmL := Nat.le_trans hT.cl.1 hT.cl.2
  obtain ⟨k1, k2, k3, _⟩ := two_boxes w #[.slice T.pR T.R.length T.cR, .slice T.pL T.L.length T.cL] #[.int .i64 0, .int .i64 0, .int .i64 0, .int .i64 0] 26 54
  have k4 := hT.keep k3
  have k5 : St a w ((w.alloc (.cells #[.slice T.pR T.R.length T.cR, .slice T.pL T.L.length T.cL] 26)).alloc (.cells #[.int .i64 0, .int .i64 0, .int .i64 0, .int .i64 0] 54)) := ⟨grown_none k3 _, hp.keep k3⟩
  have HQ : Hid (∀ b, q b → b ≠ a) := Lib.hid (fun b hb => (hq b hb).1)
  have HQ2 : Hid (∀ b, q b → b < w.heap.size) := Lib.hid (fun b hb => (hq b hb).2)
  have K0 := Lib.hid (And.intro k1 (And.intro k2 (And.intro k4 k5)))
  have hsz : w.heap.size + 2 ≤ ((w.alloc (.cells #[.slice T.pR T.R.length T.cR, .slice T.pL T.L.length T.cL] 26)).alloc (.cells #[.int .i64 0, .int .i64 0, .int .i64 0, .int .i64 0] 54)).heap.size := by simp
  clear k1 k2 k3 k4 k5 hT hp hq
  obtain ⟨R, L, pR, cR, pL, cL⟩ := T
  simp only at hmR hmL K0 hsz ⊢
  go_enter Try.func34, Try.ntmps34
  go_upto_region 1 with fail
  generalize ((w.alloc _).alloc _) = wa at *
  obtain ⟨c0, c1⟩ := row_cells K0.out.1
  go_wp2_with fail
  refine (next_any a R.length (by unfold I64; omega) _ K0.out.2.2.2.2).mono ?_
  rintro e w1 ⟨x1, rfl, -, hs1⟩
  clear c0 c1
  go_wp2_with fail
  refine (next_any a R.length (by unfold I64; omega) _ hs1.2).mono ?_
  rintro e w2 ⟨x2, rfl, -, hs2⟩
  go_wp2_with fail
  refine (range_free a 1 6 _ hs2.2).mono ?_
  rintro e w3 ⟨x3, rfl, hs3⟩
  go_wp2_with fail
  refine (range_free a 1 6 _ hs3.2).mono ?_
  rintro e w4 ⟨x4, rfl, hs4⟩
  have hst : St a wa w4 := ((hs1.trans hs2).trans hs3).trans hs4
  clear hs1 hs2 hs3 hs4
  obtain ⟨gal1, gal2⟩ := tone_box w4 #[.int .i64 (wrap64 (1 + x1)), .int .i64 (wrap64 (1 + x2)), .int .i64 x3, .int .i64 x4] 54
  have h4 : wa.heap.size ≤ w4.heap.size := hst.1.size
  have H0 : Hid (XM a w ⟨R, L, pR, cR, pL, cL⟩ q w4.heap.size ⟨_, _, x3, x4⟩ _) := Lib.hid ⟨kept_row (kept_row K0.out.1 hst.1 (fun e => by have := Option.some.inj e; omega)) gal2 (by simp), kept_row (kept_row K0.out.2.1 hst.1 (fun e => by have := Option.some.inj e; omega)) gal2 (by simp), gal1, (K0.out.2.2.1.grown hst.1 (fun b hb e => HQ.out b hb (Option.some.inj e))).keep gal2, (K0.out.2.2.2.trans hst).trans ⟨grown_none gal2 _, hst.2.keep gal2⟩, by omega⟩
  clear gal1 gal2 hst K0
  go_upto_region 3 with fail
  generalize w4.alloc _ = w5 at *
  generalize w4.heap.size = gc at *
  generalize wrap64 (1 + x1) = z1 at *
  generalize wrap64 (1 + x2) = z2 at *
  obtain ⟨c0, c1⟩ := row_cells H0.out.tb
  go_cut [34] from 10 to 34 (fun bb wx => ∃ z, bb = .bool z ∧ Hid ((z = true → 0 < L.length) ∧ XM a w ⟨R, L, pR, cR, pL, cL⟩ q gc ⟨z1, z2, x3, x4⟩ wx))
  case first =>
    by_cases hl : 0 < L.length
    · go_wp2_with fail
      refine (next_any a 4 (by unfold I64; omega) _ H0.out.st.2).mono ?_
      rintro e w6 ⟨x, rfl, -, hs⟩
      have H1 := Lib.hid (H0.out.tape ha HQ.out hs)
      clear hs H0
      go_wp2_with fail
      go_meet
      exact ⟨_, rfl, Lib.hid ⟨fun _ => hl, H1.out⟩⟩
    · have hl' : (L.length : Int) ≤ 0 := by omega
      clear hl
      go_wp2_with fail
      go_meet
      exact ⟨false, rfl, Lib.hid ⟨fun h => (by cases h), H0.out⟩⟩
  case rest =>
  obtain ⟨z, rfl, H1⟩ := hcut
  clear H0 c0 c1
  go_upto_if 34 with fail
  go_cut [] from 10 to 110 (fun wx => Hid (∃ c, XM a w ⟨R, L, pR, cR, pL, cL⟩ q gc c wx))
  case first =>
    cases z
    · go_wp2_with fail
      go_meet
      exact Lib.hid ⟨_, H1.out.2⟩
    · have hl := H1.out.1 rfl
      obtain ⟨-, b, off, rfl, hqb, -⟩ := rdl_cells (L := L) H1.out.2.t.l hl
      have H2 := Lib.hid H1.out.2
      clear H1
      go_upto_region 4 with fail
      have HQX : Hid (w.heap.size + 2 ≤ gc ∧ gc < wc.heap.size ∧ a < w.heap.size) := Lib.hid ⟨H2.out.ge, blk_lt2 H2.out.cb, ha⟩
      go_cut [9] from 35 to 43 (fun v wx => ∃ (gl : Nat) (m : Lk), v = .pointer (some ⟨gl, 0, none⟩) ∧ Hid (wx.heap[gl]? = some (.cells #[.int .i64 m.a, .int .i64 m.b, .int .i64 m.ca, .int .i64 m.cb, .int .i64 m.cp] 68 (0, 0)) ∧ w.heap.size + 2 ≤ gl ∧ gl ≠ gc ∧ XM a w ⟨R, L, pR, cR, some ⟨b, off, none⟩, cL⟩ q gc ⟨z1, z2, x3, x4⟩ wx))
      case first =>
        refine region_until (S := fun w' => Hid (XM a w ⟨R, L, pR, cR, some ⟨b, off, none⟩, cL⟩ q gc ⟨z1, z2, x3, x4⟩ w')) (fun j => j == 10) (by kernel_rfl) (Lib.hid (H2.out.keep (grown_drew (grown_refl _ _)))) (fun hHeld => ?_)
        refine anyU_take (i := 0) (oi := { dst := some 35, op := Op.fieldAddr 26 (Operand.tmp 4) 1, type := 0, pos := "make.go:469", after := #[], guard := none }) (v := ?_) rfl (by kernel_rfl) (by kernel_rfl) (by kernel_rfl) (by kernel_rfl) (by kernel_rfl) (fun _ _ _ h => h) (Or.inl ⟨by rfl, ?_⟩) hHeld ?_
        rotate_left 1
        · intro u hSu
          obtain ⟨q0, q1⟩ := row_cells hSu.out.tb
          go_simp
          first | done | with_reducible rfl
        (try simp only [Act.put, List.setIfInBounds_toArray, List.set_cons_zero, List.set_cons_succ])
        refine anyU_take (i := 1) (oi := { dst := some 36, op := Op.load 24 (Operand.tmp 35), type := 24, pos := "make.go:469", after := #[{ on := 0, ground := Ground.data }], guard := none }) (v := ?_) rfl (by kernel_rfl) (by kernel_rfl) (by kernel_rfl) (by kernel_rfl) (by kernel_rfl) (fun _ _ _ h => h) (Or.inl ⟨by rfl, ?_⟩) hHeld ?_
        rotate_left 1
        · intro u hSu
          obtain ⟨q0, q1⟩ := row_cells hSu.out.tb
          go_simp
          first | done | with_reducible rfl
        (try simp only [Act.put, List.setIfInBounds_toArray, List.set_cons_zero, List.set_cons_succ])
        refine anyU_take (i := 2) (oi := { dst := some 37, op := Op.move (Operand.tmp 0), type := 27, pos := "make.go:469", after := #[], guard := none }) (v := ?_) rfl (by kernel_rfl) (by kernel_rfl) (by kernel_rfl) (by kernel_rfl) (by kernel_rfl) (fun _ _ _ h => h) (Or.inl ⟨by rfl, ?_⟩) hHeld ?_
        rotate_left 1
        · intro u hSu
          obtain ⟨q0, q1⟩ := row_cells hSu.out.tb
          go_simp
          first | done | with_reducible rfl
        (try simp only [Act.put, List.setIfInBounds_toArray, List.set_cons_zero, List.set_cons_succ])
        refine anyU_take (i := 3) (oi := { dst := some 38, op := Op.fieldAddr 26 (Operand.tmp 4) 1, type := 0, pos := "make.go:469", after := #[], guard := none }) (v := ?_) rfl (by kernel_rfl) (by kernel_rfl) (by kernel_rfl) (by kernel_rfl) (by kernel_rfl) (fun _ _ _ h => h) (Or.inl ⟨by rfl, ?_⟩) hHeld ?_
        rotate_left 1
        · intro u hSu
          obtain ⟨q0, q1⟩ := row_cells hSu.out.tb
          go_simp
          first | done | with_reducible rfl
        (try simp only [Act.put, List.setIfInBounds_toArray, List.set_cons_zero, List.set_cons_succ])
        refine anyU_take (i := 4) (oi := { dst := some 39, op := Op.load 24 (Operand.tmp 38), type := 24, pos := "make.go:469", after := #[{ on := 3, ground := Ground.data }], guard := none }) (v := ?_) rfl (by kernel_rfl) (by kernel_rfl) (by kernel_rfl) (by kernel_rfl) (by kernel_rfl) (fun _ _ _ h => h) (Or.inl ⟨by rfl, ?_⟩) hHeld ?_
        rotate_left 1
        · intro u hSu
          obtain ⟨q0, q1⟩ := row_cells hSu.out.tb
          go_simp
          first | done | with_reducible rfl
        (try simp only [Act.put, List.setIfInBounds_toArray, List.set_cons_zero, List.set_cons_succ])
        refine anyU_take (i := 5) (oi := { dst := some 40, op := Op.call { callee := Callee.builtin Builtin.len, args := #[Operand.tmp 39], argTypes := #[24] }, type := 3, pos := "make.go:469", after := #[{ on := 4, ground := Ground.data }], guard := none }) (v := ?_) rfl (by kernel_rfl) (by kernel_rfl) (by kernel_rfl) (by kernel_rfl) (by kernel_rfl) (fun _ _ _ h => h) (Or.inl ⟨by rfl, ?_⟩) hHeld ?_
        rotate_left 1
        · intro u hSu
          obtain ⟨q0, q1⟩ := row_cells hSu.out.tb
          go_simp
          first | done | with_reducible rfl
        (try simp only [Act.put, List.setIfInBounds_toArray, List.set_cons_zero, List.set_cons_succ])
        refine anyU_ready (rs := [6, 9]) (by kernel_rfl) (by simp) ?_
        refine EachU.cons (o := { dst := some 41, op := Op.call { callee := Callee.value (Operand.func 17), args := #[Operand.tmp 37, Operand.tmp 40], argTypes := #[27, 3] }, type := 3, pos := "make.go:469", after := #[{ on := 2, ground := Ground.data }, { on := 5, ground := Ground.data }], guard := none }) rfl (fun Kz hK => ?_) (EachU.cons (o := { dst := some 9, op := Op.alloc 68, type := 0, pos := "make.go:469", after := #[], guard := none }) rfl (fun Kz hK => ?_) EachU.nil)
        · go_simp
          go_at_call 17
          refine (next_any a L.length (by unfold I64; omega) _ hHeld.out.st.2).mono ?_
          rintro e w6 ⟨y, rfl, hy, hs⟩
          obtain ⟨i, rfl⟩ := Int.eq_ofNat_of_zero_le hy.1
          have hi : i < L.length := by have := hy.2.1 (by omega); omega
          have H5n := Lib.hid (hHeld.out.tape ha HQ.out hs)
          first | (have HB9 : Hid (w6.heap[wc.heap.size]? = some (.cells #[.int .i64 0, .int .i64 0, .int .i64 0, .int .i64 0, .int .i64 0] 68 (0, 0))) := Lib.hid (kept_row (heap_alloc_new wc.drew (.cells #[.int .i64 0, .int .i64 0, .int .i64 0, .int .i64 0, .int .i64 0] 68)) hs.1 (fun e => by have h1 := Option.some.inj e; have h2 := HQX.out; have h3 : wc.drew.heap.size = wc.heap.size := rfl; omega))) | skip
          clear hy hs
          have i0 : (0 : Int) ≤ (i : Int) := by omega
          have i1 : (i : Int) < (L.length : Int) := by omega
          obtain ⟨m, hm⟩ : ∃ m, L[i]? = some m := ⟨_, List.getElem?_eq_getElem hi⟩
          have HM := Lib.hid hm
          clear hm
          refine hK.out _ _ (fun _ => H5n) (fun hH2 => ?_)
          clear hK Kz hHeld
          have hHeld := hH2 rfl
          clear hH2
          (try simp only [Act.put, List.setIfInBounds_toArray, List.set_cons_zero, List.set_cons_succ])
          refine anyU_take (i := 7) (oi := { dst := some 42, op := Op.indexAddr 24 (Operand.tmp 36) (Operand.tmp 41), type := 0, pos := "make.go:469", after := #[{ on := 1, ground := Ground.data }, { on := 6, ground := Ground.data }], guard := none }) (v := ?_) rfl (by kernel_rfl) (by kernel_rfl) (by kernel_rfl) (by kernel_rfl) (by kernel_rfl) (fun _ _ _ h => h) (Or.inl ⟨by rfl, ?_⟩) hHeld ?_
          rotate_left 1
          · intro u hSu
            obtain ⟨q0, q1⟩ := row_cells hSu.out.tb
            go_simp
            first | done | with_reducible rfl
          (try simp only [Act.put, List.setIfInBounds_toArray, List.set_cons_zero, List.set_cons_succ])
          refine anyU_take (i := 8) (oi := { dst := some 43, op := Op.load 68 (Operand.tmp 42), type := 68, pos := "make.go:469", after := #[{ on := 7, ground := Ground.data }], guard := none }) (v := ?_) rfl (by kernel_rfl) (by kernel_rfl) (by kernel_rfl) (by kernel_rfl) (by kernel_rfl) (fun _ _ _ h => h) (Or.inl ⟨by rfl, ?_⟩) hHeld ?_
          rotate_left 1
          · intro u hSu
            obtain ⟨q0, q1⟩ := row_cells hSu.out.tb
            obtain ⟨e0, e1, e2, e3, e4⟩ := hSu.out.lk HM.out
            go_simp
            first | done | with_reducible rfl
          (try simp only [Act.put, List.setIfInBounds_toArray, List.set_cons_zero, List.set_cons_succ])
          refine anyU_ready (rs := [9]) (by kernel_rfl) (by simp) ?_
          refine EachU.cons (o := { dst := some 9, op := Op.alloc 68, type := 0, pos := "make.go:469", after := #[], guard := none }) rfl (fun Kz hK => ?_) EachU.nil
          have HA9 := hHeld
          go_simp
          refine hK.out _ _ (fun _ => Lib.hid (hHeld.out.keep (World.grownBy_alloc _ _ none))) (fun hH2 => ?_)
          clear hK Kz hHeld
          have hHeld := hH2 rfl
          clear hH2
          (try simp only [Act.put, List.setIfInBounds_toArray, List.set_cons_zero, List.set_cons_succ])
          refine anyU_ready (rs := [10]) (by kernel_rfl) (by simp) ?_
          refine EachU.cons (o := { dst := none, op := Op.store 68 (Operand.tmp 9) (Operand.tmp 43), type := 0, pos := "make.go:469", after := #[{ on := 9, ground := Ground.data }, { on := 8, ground := Ground.data }, { on := 6, ground := Ground.chain }, { on := 0, ground := Ground.phase }, { on := 1, ground := Ground.phase }, { on := 2, ground := Ground.phase }, { on := 3, ground := Ground.phase }, { on := 4, ground := Ground.phase }, { on := 5, ground := Ground.phase }, { on := 6, ground := Ground.phase }, { on := 7, ground := Ground.phase }, { on := 8, ground := Ground.phase }, { on := 9, ground := Ground.phase }], guard := none }) rfl (fun Kz hK => ?_) EachU.nil
          first | (have lz := lk_facts (l := ⟨0, 0, 0, 0, 0⟩) HB9.out; have z0 := lz.1; have z1 := lz.2.1; have z2 := lz.2.2.1; have z3 := lz.2.2.2.1; have z4 := lz.2.2.2.2; clear lz; have y0 := frozen_of_row _ _ 0 _ _ HB9.out; have y1 := frozen_of_row _ _ 1 _ _ HB9.out; have y2 := frozen_of_row _ _ 2 _ _ HB9.out; have y3 := frozen_of_row _ _ 3 _ _ HB9.out; have y4 := frozen_of_row _ _ 4 _ _ HB9.out) | skip
          go_simp
          refine hK.out _ _ (fun h => by cases h) (fun _ => ?_)
          clear hK Kz
          (try simp only [Act.put, List.setIfInBounds_toArray, List.set_cons_zero, List.set_cons_succ])
          refine anyU_done (by kernel_rfl) ?_ _
          first | (have H9 := Lib.hid (And.intro (row5 (u0 := .int .i64 m.a) (u1 := .int .i64 m.b) (u2 := .int .i64 m.ca) (u3 := .int .i64 m.cb) (u4 := .int .i64 m.cp) HB9.out).1 (hHeld.out.other ha (row5 (u0 := .int .i64 m.a) (u1 := .int .i64 m.b) (u2 := .int .i64 m.ca) (u3 := .int .i64 m.cb) (u4 := .int .i64 m.cp) HB9.out).2 (by have := HQX.out; omega) (by have := HQX.out; omega) HQ2.out)); have HB5 : Hid (w.heap.size + 2 ≤ wc.heap.size ∧ wc.heap.size ≠ gc) := Lib.hid (by have := HQX.out; omega)) | (have H9 := Lib.hid (And.intro (heap_alloc_new w6 (.cells #[.int .i64 m.a, .int .i64 m.b, .int .i64 m.ca, .int .i64 m.cb, .int .i64 m.cp] 68)) (HA9.out.keep (World.grownBy_alloc w6 (.cells #[.int .i64 m.a, .int .i64 m.b, .int .i64 m.ca, .int .i64 m.cb, .int .i64 m.cp] 68) none))); have HB5 : Hid (w.heap.size + 2 ≤ w6.heap.size ∧ w6.heap.size ≠ gc) := Lib.hid (by have := (blk_lt2 HA9.out.cb); have := HA9.out.ge; omega))
          clear hHeld HA9
          try clear z0 z1 z2 z3 z4 y0 y1 y2 y3 y4
          try clear HB9
          go_wp2_with fail
          go_meet
          exact ⟨_, m, rfl, Lib.hid ⟨H9.out.1, HB5.out.1, HB5.out.2, H9.out.2⟩⟩
        · have HA9 := hHeld
          go_simp
          refine hK.out _ _ (fun _ => Lib.hid (hHeld.out.keep (World.grownBy_alloc _ _ none))) (fun hH2 => ?_)
          clear hK Kz hHeld
          have hHeld := hH2 rfl
          clear hH2
          (try simp only [Act.put, List.setIfInBounds_toArray, List.set_cons_zero, List.set_cons_succ])
          refine anyU_ready (rs := [6]) (by kernel_rfl) (by simp) ?_
          refine EachU.cons (o := { dst := some 41, op := Op.call { callee := Callee.value (Operand.func 17), args := #[Operand.tmp 37, Operand.tmp 40], argTypes := #[27, 3] }, type := 3, pos := "make.go:469", after := #[{ on := 2, ground := Ground.data }, { on := 5, ground := Ground.data }], guard := none }) rfl (fun Kz hK => ?_) EachU.nil
          go_simp
          go_at_call 17
          refine (next_any a L.length (by unfold I64; omega) _ hHeld.out.st.2).mono ?_
          rintro e w6 ⟨y, rfl, hy, hs⟩
          obtain ⟨i, rfl⟩ := Int.eq_ofNat_of_zero_le hy.1
          have hi : i < L.length := by have := hy.2.1 (by omega); omega
          have H5n := Lib.hid (hHeld.out.tape ha HQ.out hs)
          first | (have HB9 : Hid (w6.heap[wc.heap.size]? = some (.cells #[.int .i64 0, .int .i64 0, .int .i64 0, .int .i64 0, .int .i64 0] 68 (0, 0))) := Lib.hid (kept_row (heap_alloc_new wc.drew (.cells #[.int .i64 0, .int .i64 0, .int .i64 0, .int .i64 0, .int .i64 0] 68)) hs.1 (fun e => by have h1 := Option.some.inj e; have h2 := HQX.out; have h3 : wc.drew.heap.size = wc.heap.size := rfl; omega))) | skip
          clear hy hs
          have i0 : (0 : Int) ≤ (i : Int) := by omega
          have i1 : (i : Int) < (L.length : Int) := by omega
          obtain ⟨m, hm⟩ : ∃ m, L[i]? = some m := ⟨_, List.getElem?_eq_getElem hi⟩
          have HM := Lib.hid hm
          clear hm
          refine hK.out _ _ (fun _ => H5n) (fun hH2 => ?_)
          clear hK Kz hHeld
          have hHeld := hH2 rfl
          clear hH2
          (try simp only [Act.put, List.setIfInBounds_toArray, List.set_cons_zero, List.set_cons_succ])
          refine anyU_take (i := 7) (oi := { dst := some 42, op := Op.indexAddr 24 (Operand.tmp 36) (Operand.tmp 41), type := 0, pos := "make.go:469", after := #[{ on := 1, ground := Ground.data }, { on := 6, ground := Ground.data }], guard := none }) (v := ?_) rfl (by kernel_rfl) (by kernel_rfl) (by kernel_rfl) (by kernel_rfl) (by kernel_rfl) (fun _ _ _ h => h) (Or.inl ⟨by rfl, ?_⟩) hHeld ?_
          rotate_left 1
          · intro u hSu
            obtain ⟨q0, q1⟩ := row_cells hSu.out.tb
            go_simp
            first | done | with_reducible rfl
          (try simp only [Act.put, List.setIfInBounds_toArray, List.set_cons_zero, List.set_cons_succ])
          refine anyU_take (i := 8) (oi := { dst := some 43, op := Op.load 68 (Operand.tmp 42), type := 68, pos := "make.go:469", after := #[{ on := 7, ground := Ground.data }], guard := none }) (v := ?_) rfl (by kernel_rfl) (by kernel_rfl) (by kernel_rfl) (by kernel_rfl) (by kernel_rfl) (fun _ _ _ h => h) (Or.inl ⟨by rfl, ?_⟩) hHeld ?_
          rotate_left 1
          · intro u hSu
            obtain ⟨q0, q1⟩ := row_cells hSu.out.tb
            obtain ⟨e0, e1, e2, e3, e4⟩ := hSu.out.lk HM.out
            go_simp
            first | done | with_reducible rfl
          (try simp only [Act.put, List.setIfInBounds_toArray, List.set_cons_zero, List.set_cons_succ])
          refine anyU_ready (rs := [10]) (by kernel_rfl) (by simp) ?_
          refine EachU.cons (o := { dst := none, op := Op.store 68 (Operand.tmp 9) (Operand.tmp 43), type := 0, pos := "make.go:469", after := #[{ on := 9, ground := Ground.data }, { on := 8, ground := Ground.data }, { on := 6, ground := Ground.chain }, { on := 0, ground := Ground.phase }, { on := 1, ground := Ground.phase }, { on := 2, ground := Ground.phase }, { on := 3, ground := Ground.phase }, { on := 4, ground := Ground.phase }, { on := 5, ground := Ground.phase }, { on := 6, ground := Ground.phase }, { on := 7, ground := Ground.phase }, { on := 8, ground := Ground.phase }, { on := 9, ground := Ground.phase }], guard := none }) rfl (fun Kz hK => ?_) EachU.nil
          first | (have lz := lk_facts (l := ⟨0, 0, 0, 0, 0⟩) HB9.out; have z0 := lz.1; have z1 := lz.2.1; have z2 := lz.2.2.1; have z3 := lz.2.2.2.1; have z4 := lz.2.2.2.2; clear lz; have y0 := frozen_of_row _ _ 0 _ _ HB9.out; have y1 := frozen_of_row _ _ 1 _ _ HB9.out; have y2 := frozen_of_row _ _ 2 _ _ HB9.out; have y3 := frozen_of_row _ _ 3 _ _ HB9.out; have y4 := frozen_of_row _ _ 4 _ _ HB9.out) | skip
          go_simp
          refine hK.out _ _ (fun h => by cases h) (fun _ => ?_)
          clear hK Kz
          (try simp only [Act.put, List.setIfInBounds_toArray, List.set_cons_zero, List.set_cons_succ])
          refine anyU_done (by kernel_rfl) ?_ _
          first | (have H9 := Lib.hid (And.intro (row5 (u0 := .int .i64 m.a) (u1 := .int .i64 m.b) (u2 := .int .i64 m.ca) (u3 := .int .i64 m.cb) (u4 := .int .i64 m.cp) HB9.out).1 (hHeld.out.other ha (row5 (u0 := .int .i64 m.a) (u1 := .int .i64 m.b) (u2 := .int .i64 m.ca) (u3 := .int .i64 m.cb) (u4 := .int .i64 m.cp) HB9.out).2 (by have := HQX.out; omega) (by have := HQX.out; omega) HQ2.out)); have HB5 : Hid (w.heap.size + 2 ≤ wc.heap.size ∧ wc.heap.size ≠ gc) := Lib.hid (by have := HQX.out; omega)) | (have H9 := Lib.hid (And.intro (heap_alloc_new w6 (.cells #[.int .i64 m.a, .int .i64 m.b, .int .i64 m.ca, .int .i64 m.cb, .int .i64 m.cp] 68)) (HA9.out.keep (World.grownBy_alloc w6 (.cells #[.int .i64 m.a, .int .i64 m.b, .int .i64 m.ca, .int .i64 m.cb, .int .i64 m.cp] 68) none))); have HB5 : Hid (w.heap.size + 2 ≤ w6.heap.size ∧ w6.heap.size ≠ gc) := Lib.hid (by have := (blk_lt2 HA9.out.cb); have := HA9.out.ge; omega))
          clear hHeld HA9
          try clear z0 z1 z2 z3 z4 y0 y1 y2 y3 y4
          try clear HB9
          go_wp2_with fail
          go_meet
          exact ⟨_, m, rfl, Lib.hid ⟨H9.out.1, HB5.out.1, HB5.out.2, H9.out.2⟩⟩
      case rest =>
      obtain ⟨gl, m, rfl, H6⟩ := hcut
      have HB5 : Hid (w.heap.size + 2 ≤ gl ∧ gl ≠ gc ∧ a < w.heap.size) := Lib.hid ⟨H6.out.2.1, H6.out.2.2.1, ha⟩
      clear H2 HQX
      obtain ⟨l0, l1, l2, l3, l4⟩ := lk_facts H6.out.1
      obtain ⟨d0, d1, d2, d3⟩ := ch_facts H6.out.2.2.2.cb
      obtain ⟨f0, f1, f2, f3⟩ := ch_frozen H6.out.2.2.2.cb
      have H7 := Lib.hid (H6.out.2.2.2.s4 ha HQ2.out m.a m.b m.ca m.cb)
      have S : ∀ (u : World) (j : Nat) (x : Value), u.grownBy (u.setCell ⟨gc, j, none⟩ x) (some gc) := fun u j x => grown_setCell u ⟨gc, j, none⟩ x
      have HL7 := Lib.hid (kept_row H6.out.1 (grown_trans (grown_trans (grown_trans (S _ 0 (.int .i64 m.a)) (S _ 1 (.int .i64 m.b))) (S _ 2 (.int .i64 m.ca))) (S _ 3 (.int .i64 m.cb))) (fun e => HB5.out.2.1 (Option.some.inj e)))
      clear H6 S
      go_upto_region 6 with fail
      generalize (((wc.setCell _ _).setCell _ _).setCell _ _).setCell _ _ = w7 at *
      clear l0 l1 l2 l3 l4 d0 d1 d2 d3 f0 f1 f2 f3
      go_wp2_with fail
      refine (next_any a 6 (by unfold I64; omega) _ H7.out.st.2).mono ?_
      rintro e w8 ⟨y, rfl, -, hs⟩
      have H8 := Lib.hid (And.intro (kept_row HL7.out hs.1 (fun e => by have := Option.some.inj e; have := HB5.out; omega)) (H7.out.tape ha HQ.out hs))
      clear hs H7 HL7
      by_cases y0 : y = 0
      · have y0' : (y == 0) = true := by simpa using y0
        clear y0
        obtain ⟨d0, d1, d2, d3⟩ := ch_facts H8.out.2.cb
        obtain ⟨f0, f1, f2, f3⟩ := ch_frozen H8.out.2.cb
        go_wp2_with fail
        go_meet
        exact Lib.hid ⟨_, (H8.out.2.s2 ha HQ2.out _).s3 ha HQ2.out _⟩
      have y0' : (y == 0) = false := by simpa using y0
      clear y0
      by_cases y1 : y = 1
      · have y1' : (y == 1) = true := by simpa using y1
        clear y1
        go_upto_region 11 with fail
        refine region_until (S := fun w' => Hid (w'.heap[gl]? = some (.cells #[.int .i64 m.a, .int .i64 m.b, .int .i64 m.ca, .int .i64 m.cb, .int .i64 m.cp] 68 (0, 0)) ∧ XM a w ⟨R, L, pR, cR, some ⟨b, off, none⟩, cL⟩ q gc ⟨m.a, m.b, m.ca, m.cb⟩ w')) (fun j => j == 6) (by kernel_rfl) (Lib.hid ⟨H8.out.1, H8.out.2.keep (grown_drew (grown_refl _ _))⟩) (fun hHeld => ?_)
        refine anyU_take (i := 0) (oi := { dst := some 62, op := Op.fieldAddr 54 (Operand.tmp 8) 2, type := 0, pos := "make.go:475", after := #[], guard := none }) (v := ?_) rfl (by kernel_rfl) (by kernel_rfl) (by kernel_rfl) (by kernel_rfl) (by kernel_rfl) (fun _ _ _ h => h) (Or.inl ⟨by rfl, ?_⟩) hHeld ?_
        rotate_left 1
        · intro u hSu
          obtain ⟨q0, q1, q2, q3⟩ := ch_facts hSu.out.2.cb
          go_simp
          first | done | with_reducible rfl
        (try simp only [Act.put, List.setIfInBounds_toArray, List.set_cons_zero, List.set_cons_succ])
        refine anyU_take (i := 1) (oi := { dst := some 63, op := Op.load 3 (Operand.tmp 62), type := 3, pos := "make.go:475", after := #[{ on := 0, ground := Ground.data }], guard := none }) (v := ?_) rfl (by kernel_rfl) (by kernel_rfl) (by kernel_rfl) (by kernel_rfl) (by kernel_rfl) (fun _ _ _ h => h) (Or.inl ⟨by rfl, ?_⟩) hHeld ?_
        rotate_left 1
        · intro u hSu
          obtain ⟨q0, q1, q2, q3⟩ := ch_facts hSu.out.2.cb
          go_simp
          first | done | with_reducible rfl
        (try simp only [Act.put, List.setIfInBounds_toArray, List.set_cons_zero, List.set_cons_succ])
        refine anyU_take (i := 2) (oi := { dst := some 64, op := Op.move (Operand.tmp 0), type := 27, pos := "make.go:475", after := #[], guard := none }) (v := ?_) rfl (by kernel_rfl) (by kernel_rfl) (by kernel_rfl) (by kernel_rfl) (by kernel_rfl) (fun _ _ _ h => h) (Or.inl ⟨by rfl, ?_⟩) hHeld ?_
        rotate_left 1
        · intro u hSu
          obtain ⟨q0, q1, q2, q3⟩ := ch_facts hSu.out.2.cb
          go_simp
          first | done | with_reducible rfl
        (try simp only [Act.put, List.setIfInBounds_toArray, List.set_cons_zero, List.set_cons_succ])
        refine anyU_ready (rs := [3]) (by kernel_rfl) (by simp) ?_
        refine EachU.cons (o := { dst := some 65, op := Op.call { callee := Callee.value (Operand.func 48), args := #[Operand.tmp 64, Operand.const (Value.int IntKind.i64 1), Operand.const (Value.int IntKind.i64 4)], argTypes := #[27, 3, 3] }, type := 3, pos := "make.go:475", after := #[{ on := 2, ground := Ground.data }], guard := none }) rfl (fun Kz hK => ?_) EachU.nil
        go_simp
        go_at_call 48
        refine (range_free a _ _ _ hHeld.out.2.st.2).mono ?_
        rintro e w8 ⟨v1, rfl, hs⟩
        have H5n := Lib.hid (And.intro (kept_row hHeld.out.1 hs.1 (fun e => by have := Option.some.inj e; have := HB5.out; omega)) (hHeld.out.2.tape ha HQ.out hs))
        clear hs
        refine hK.out _ _ (fun _ => H5n) (fun hH2 => ?_)
        clear hK Kz hHeld
        have hHeld := hH2 rfl
        clear hH2
        (try simp only [Act.put, List.setIfInBounds_toArray, List.set_cons_zero, List.set_cons_succ])
        refine anyU_take (i := 4) (oi := { dst := some 66, op := Op.binOp BinOp.add 3 (Operand.tmp 63) (Operand.tmp 65) 3, type := 3, pos := "make.go:475", after := #[{ on := 1, ground := Ground.data }, { on := 3, ground := Ground.data }], guard := none }) (v := ?_) rfl (by kernel_rfl) (by kernel_rfl) (by kernel_rfl) (by kernel_rfl) (by kernel_rfl) (fun _ _ _ h => h) (Or.inl ⟨by rfl, ?_⟩) hHeld ?_
        rotate_left 1
        · intro u hSu
          obtain ⟨q0, q1, q2, q3⟩ := ch_facts hSu.out.2.cb
          go_simp
          first | done | with_reducible rfl
        (try simp only [Act.put, List.setIfInBounds_toArray, List.set_cons_zero, List.set_cons_succ])
        refine anyU_take (i := 5) (oi := { dst := some 67, op := Op.fieldAddr 54 (Operand.tmp 8) 2, type := 0, pos := "make.go:475", after := #[{ on := 0, ground := Ground.phase }, { on := 1, ground := Ground.phase }, { on := 2, ground := Ground.phase }, { on := 3, ground := Ground.phase }, { on := 4, ground := Ground.phase }], guard := none }) (v := ?_) rfl (by kernel_rfl) (by kernel_rfl) (by kernel_rfl) (by kernel_rfl) (by kernel_rfl) (fun _ _ _ h => h) (Or.inl ⟨by rfl, ?_⟩) hHeld ?_
        rotate_left 1
        · intro u hSu
          obtain ⟨q0, q1, q2, q3⟩ := ch_facts hSu.out.2.cb
          go_simp
          first | done | with_reducible rfl
        (try simp only [Act.put, List.setIfInBounds_toArray, List.set_cons_zero, List.set_cons_succ])
        refine anyU_ready (rs := [6]) (by kernel_rfl) (by simp) ?_
        refine EachU.cons (o := { dst := none, op := Op.store 3 (Operand.tmp 67) (Operand.tmp 66), type := 0, pos := "make.go:475", after := #[{ on := 5, ground := Ground.data }, { on := 4, ground := Ground.data }, { on := 3, ground := Ground.chain }, { on := 0, ground := Ground.phase }, { on := 1, ground := Ground.phase }, { on := 2, ground := Ground.phase }, { on := 3, ground := Ground.phase }, { on := 4, ground := Ground.phase }], guard := none }) rfl (fun Kz hK => ?_) EachU.nil
        obtain ⟨d0, d1, d2, d3⟩ := ch_facts hHeld.out.2.cb
        obtain ⟨f0, f1, f2, f3⟩ := ch_frozen hHeld.out.2.cb
        have H9 := hHeld
        go_simp
        refine hK.out _ _ (fun h => by cases h) (fun _ => ?_)
        clear hK Kz
        (try simp only [Act.put, List.setIfInBounds_toArray, List.set_cons_zero, List.set_cons_succ])
        refine anyU_done (by kernel_rfl) ?_ _
        clear hHeld
        try clear d0 d1 d2 d3 f0 f1 f2 f3
        go_wp2_with fail
        go_meet
        exact Lib.hid ⟨_, H9.out.2.s2 ha HQ2.out _⟩
      have y1' : (y == 1) = false := by simpa using y1
      clear y1
      by_cases y2 : y = 2
      · have y2' : (y == 2) = true := by simpa using y2
        clear y2
        go_upto_region 13 with fail
        refine region_until2 (S := fun w' => Hid (w'.heap[gl]? = some (.cells #[.int .i64 m.a, .int .i64 m.b, .int .i64 m.ca, .int .i64 m.cb, .int .i64 m.cp] 68 (0, 0)) ∧ XM a w ⟨R, L, pR, cR, some ⟨b, off, none⟩, cL⟩ q gc ⟨m.a, m.b, m.ca, m.cb⟩ w')) (fun j => j == 11 || j == 13) (by kernel_rfl) (Lib.hid ⟨H8.out.1, H8.out.2.keep (grown_drew (grown_refl _ _))⟩) (fun hHeld => ?_)
        refine anyV_take (i := 0) (oi := { dst := some 70, op := Op.fieldAddr 54 (Operand.tmp 8) 2, type := 0, pos := "make.go:477", after := #[], guard := none }) (v := ?_) rfl (by kernel_rfl) (by kernel_rfl) (by kernel_rfl) (by kernel_rfl) (by kernel_rfl) (fun _ _ _ h => h) (Or.inl ⟨by rfl, ?_⟩) hHeld ?_
        rotate_left 1
        · intro u hSu
          obtain ⟨q0, q1, q2, q3⟩ := ch_facts hSu.out.2.cb
          go_simp
          first | done | with_reducible rfl
        (try simp only [Act.put, List.setIfInBounds_toArray, List.set_cons_zero, List.set_cons_succ])
        refine anyV_take (i := 1) (oi := { dst := some 71, op := Op.load 3 (Operand.tmp 70), type := 3, pos := "make.go:477", after := #[{ on := 0, ground := Ground.data }], guard := none }) (v := ?_) rfl (by kernel_rfl) (by kernel_rfl) (by kernel_rfl) (by kernel_rfl) (by kernel_rfl) (fun _ _ _ h => h) (Or.inl ⟨by rfl, ?_⟩) hHeld ?_
        rotate_left 1
        · intro u hSu
          obtain ⟨q0, q1, q2, q3⟩ := ch_facts hSu.out.2.cb
          go_simp
          first | done | with_reducible rfl
        (try simp only [Act.put, List.setIfInBounds_toArray, List.set_cons_zero, List.set_cons_succ])
        refine anyV_take (i := 2) (oi := { dst := some 72, op := Op.move (Operand.tmp 0), type := 27, pos := "make.go:477", after := #[], guard := none }) (v := ?_) rfl (by kernel_rfl) (by kernel_rfl) (by kernel_rfl) (by kernel_rfl) (by kernel_rfl) (fun _ _ _ h => h) (Or.inl ⟨by rfl, ?_⟩) hHeld ?_
        rotate_left 1
        · intro u hSu
          obtain ⟨q0, q1, q2, q3⟩ := ch_facts hSu.out.2.cb
          go_simp
          first | done | with_reducible rfl
        (try simp only [Act.put, List.setIfInBounds_toArray, List.set_cons_zero, List.set_cons_succ])
        refine anyV_take (i := 5) (oi := { dst := some 75, op := Op.fieldAddr 54 (Operand.tmp 8) 3, type := 0, pos := "make.go:477", after := #[], guard := none }) (v := ?_) rfl (by kernel_rfl) (by kernel_rfl) (by kernel_rfl) (by kernel_rfl) (by kernel_rfl) (fun _ _ _ h => h) (Or.inl ⟨by rfl, ?_⟩) hHeld ?_
        rotate_left 1
        · intro u hSu
          obtain ⟨q0, q1, q2, q3⟩ := ch_facts hSu.out.2.cb
          go_simp
          first | done | with_reducible rfl
        (try simp only [Act.put, List.setIfInBounds_toArray, List.set_cons_zero, List.set_cons_succ])
        refine anyV_take (i := 6) (oi := { dst := some 76, op := Op.load 3 (Operand.tmp 75), type := 3, pos := "make.go:477", after := #[{ on := 5, ground := Ground.data }], guard := none }) (v := ?_) rfl (by kernel_rfl) (by kernel_rfl) (by kernel_rfl) (by kernel_rfl) (by kernel_rfl) (fun _ _ _ h => h) (Or.inl ⟨by rfl, ?_⟩) hHeld ?_
        rotate_left 1
        · intro u hSu
          obtain ⟨q0, q1, q2, q3⟩ := ch_facts hSu.out.2.cb
          go_simp
          first | done | with_reducible rfl
        (try simp only [Act.put, List.setIfInBounds_toArray, List.set_cons_zero, List.set_cons_succ])
        refine anyV_take (i := 7) (oi := { dst := some 77, op := Op.move (Operand.tmp 0), type := 27, pos := "make.go:477", after := #[], guard := none }) (v := ?_) rfl (by kernel_rfl) (by kernel_rfl) (by kernel_rfl) (by kernel_rfl) (by kernel_rfl) (fun _ _ _ h => h) (Or.inl ⟨by rfl, ?_⟩) hHeld ?_
        rotate_left 1
        · intro u hSu
          obtain ⟨q0, q1, q2, q3⟩ := ch_facts hSu.out.2.cb
          go_simp
          first | done | with_reducible rfl
        (try simp only [Act.put, List.setIfInBounds_toArray, List.set_cons_zero, List.set_cons_succ])
        refine anyV_ready (rs := [3]) (by kernel_rfl) (by simp) ?_
        refine EachV.cons (o := { dst := some 73, op := Op.call { callee := Callee.value (Operand.func 48), args := #[Operand.tmp 72, Operand.const (Value.int IntKind.i64 0), Operand.const (Value.int IntKind.i64 4)], argTypes := #[27, 3, 3] }, type := 3, pos := "make.go:477", after := #[{ on := 2, ground := Ground.data }], guard := none }) rfl (fun Kz hK => ?_) EachV.nil
        go_simp
        go_at_call 48
        refine (range_free a _ _ _ hHeld.out.2.st.2).mono ?_
        rintro e w8 ⟨v1, rfl, hs⟩
        have H5n := Lib.hid (And.intro (kept_row hHeld.out.1 hs.1 (fun e => by have := Option.some.inj e; have := HB5.out; omega)) (hHeld.out.2.tape ha HQ.out hs))
        clear hs
        refine hK.out _ _ (fun _ _ => H5n) (fun hH2 => ?_)
        have hHeld2 := hH2 rfl hHeld
        clear hK Kz hHeld hH2
        have hHeld := hHeld2
        clear hHeld2
        (try simp only [Act.put, List.setIfInBounds_toArray, List.set_cons_zero, List.set_cons_succ])
        refine anyV_take (i := 4) (oi := { dst := some 74, op := Op.binOp BinOp.add 3 (Operand.tmp 71) (Operand.tmp 73) 3, type := 3, pos := "make.go:477", after := #[{ on := 1, ground := Ground.data }, { on := 3, ground := Ground.data }], guard := none }) (v := ?_) rfl (by kernel_rfl) (by kernel_rfl) (by kernel_rfl) (by kernel_rfl) (by kernel_rfl) (fun _ _ _ h => h) (Or.inl ⟨by rfl, ?_⟩) hHeld ?_
        rotate_left 1
        · intro u hSu
          obtain ⟨q0, q1, q2, q3⟩ := ch_facts hSu.out.2.cb
          go_simp
          first | done | with_reducible rfl
        (try simp only [Act.put, List.setIfInBounds_toArray, List.set_cons_zero, List.set_cons_succ])
        refine anyV_take (i := 10) (oi := { dst := some 80, op := Op.fieldAddr 54 (Operand.tmp 8) 2, type := 0, pos := "make.go:477", after := #[{ on := 0, ground := Ground.phase }, { on := 1, ground := Ground.phase }, { on := 2, ground := Ground.phase }, { on := 3, ground := Ground.phase }, { on := 4, ground := Ground.phase }, { on := 5, ground := Ground.phase }, { on := 6, ground := Ground.phase }, { on := 7, ground := Ground.textOnly Departure.lateStores }, { on := 8, ground := Ground.textOnly Departure.lateStoresUnsure }, { on := 9, ground := Ground.textOnly Departure.lateStoresUnsure }], guard := none }) (v := ?_) rfl (by kernel_rfl) (by kernel_rfl) (by kernel_rfl) (by kernel_rfl) (by kernel_rfl) (fun _ _ _ h => h) (Or.inl ⟨by rfl, ?_⟩) hHeld ?_
        rotate_left 1
        · intro u hSu
          obtain ⟨q0, q1, q2, q3⟩ := ch_facts hSu.out.2.cb
          go_simp
          first | done | with_reducible rfl
        (try simp only [Act.put, List.setIfInBounds_toArray, List.set_cons_zero, List.set_cons_succ])
        refine anyV_ready (rs := [8]) (by kernel_rfl) (by simp) ?_
        refine EachV.cons (o := { dst := some 78, op := Op.call { callee := Callee.value (Operand.func 48), args := #[Operand.tmp 77, Operand.const (Value.int IntKind.i64 0), Operand.const (Value.int IntKind.i64 4)], argTypes := #[27, 3, 3] }, type := 3, pos := "make.go:477", after := #[{ on := 7, ground := Ground.data }, { on := 3, ground := Ground.chain }], guard := none }) rfl (fun Kz hK => ?_) EachV.nil
        go_simp
        go_at_call 48
        refine (range_free a _ _ _ hHeld.out.2.st.2).mono ?_
        rintro e w8 ⟨v2, rfl, hs⟩
        have H5n := Lib.hid (And.intro (kept_row hHeld.out.1 hs.1 (fun e => by have := Option.some.inj e; have := HB5.out; omega)) (hHeld.out.2.tape ha HQ.out hs))
        clear hs
        refine hK.out _ _ (fun _ _ => H5n) (fun hH2 => ?_)
        have hHeld2 := hH2 rfl hHeld
        clear hK Kz hHeld hH2
        have hHeld := hHeld2
        clear hHeld2
        (try simp only [Act.put, List.setIfInBounds_toArray, List.set_cons_zero, List.set_cons_succ])
        refine anyV_ready (rs := [9, 11]) (by kernel_rfl) (by simp) ?_
        refine EachV.cons (o := { dst := some 79, op := Op.binOp BinOp.add 3 (Operand.tmp 76) (Operand.tmp 78) 3, type := 3, pos := "make.go:477", after := #[{ on := 6, ground := Ground.data }, { on := 8, ground := Ground.data }], guard := none }) rfl (fun Kz hK => ?_) (EachV.cons (o := { dst := none, op := Op.store 3 (Operand.tmp 80) (Operand.tmp 74), type := 0, pos := "make.go:477", after := #[{ on := 10, ground := Ground.data }, { on := 4, ground := Ground.data }, { on := 8, ground := Ground.chain }, { on := 0, ground := Ground.phase }, { on := 1, ground := Ground.phase }, { on := 2, ground := Ground.phase }, { on := 3, ground := Ground.phase }, { on := 4, ground := Ground.phase }, { on := 5, ground := Ground.phase }, { on := 6, ground := Ground.phase }, { on := 7, ground := Ground.textOnly Departure.lateStores }, { on := 8, ground := Ground.textOnly Departure.lateStoresUnsure }, { on := 9, ground := Ground.textOnly Departure.lateStoresUnsure }], guard := none }) rfl (fun Kz hK => ?_) EachV.nil)
        · go_simp
          refine hK.out _ _ (fun _ h => h) (fun _ => ?_)
          clear hK Kz
          (try simp only [Act.put, List.setIfInBounds_toArray, List.set_cons_zero, List.set_cons_succ])
          refine anyV_ready (rs := [11]) (by kernel_rfl) (by simp) ?_
          refine EachV.cons (o := { dst := none, op := Op.store 3 (Operand.tmp 80) (Operand.tmp 74), type := 0, pos := "make.go:477", after := #[{ on := 10, ground := Ground.data }, { on := 4, ground := Ground.data }, { on := 8, ground := Ground.chain }, { on := 0, ground := Ground.phase }, { on := 1, ground := Ground.phase }, { on := 2, ground := Ground.phase }, { on := 3, ground := Ground.phase }, { on := 4, ground := Ground.phase }, { on := 5, ground := Ground.phase }, { on := 6, ground := Ground.phase }, { on := 7, ground := Ground.textOnly Departure.lateStores }, { on := 8, ground := Ground.textOnly Departure.lateStoresUnsure }, { on := 9, ground := Ground.textOnly Departure.lateStoresUnsure }], guard := none }) rfl (fun Kz hK => ?_) EachV.nil
          first | (obtain ⟨d0, d1, d2, d3⟩ := ch_facts hHeld.out.2.cb; obtain ⟨f0, f1, f2, f3⟩ := ch_frozen hHeld.out.2.cb; have H9 := hHeld) | skip
          go_simp
          refine hK.out _ _ (fun h => by cases h) (fun _ => ?_)
          clear hK Kz
          (try simp only [Act.put, List.setIfInBounds_toArray, List.set_cons_zero, List.set_cons_succ])
          refine anyV_ready (rs := [12]) (by kernel_rfl) (by simp) ?_
          refine EachV.cons (o := { dst := some 81, op := Op.fieldAddr 54 (Operand.tmp 8) 3, type := 0, pos := "make.go:477", after := #[{ on := 0, ground := Ground.phase }, { on := 1, ground := Ground.phase }, { on := 2, ground := Ground.phase }, { on := 3, ground := Ground.phase }, { on := 4, ground := Ground.phase }, { on := 5, ground := Ground.phase }, { on := 6, ground := Ground.phase }, { on := 7, ground := Ground.phase }, { on := 8, ground := Ground.phase }, { on := 9, ground := Ground.phase }, { on := 10, ground := Ground.phase }, { on := 11, ground := Ground.phase }], guard := none }) rfl (fun Kz hK => ?_) EachV.nil
          go_simp
          refine hK.out _ _ (fun _ h => h) (fun _ => ?_)
          clear hK Kz
          (try simp only [Act.put, List.setIfInBounds_toArray, List.set_cons_zero, List.set_cons_succ])
          refine anyV_ready (rs := [13]) (by kernel_rfl) (by simp) ?_
          refine EachV.cons (o := { dst := none, op := Op.store 3 (Operand.tmp 81) (Operand.tmp 79), type := 0, pos := "make.go:477", after := #[{ on := 12, ground := Ground.data }, { on := 9, ground := Ground.data }, { on := 11, ground := Ground.chain }, { on := 0, ground := Ground.phase }, { on := 1, ground := Ground.phase }, { on := 2, ground := Ground.phase }, { on := 3, ground := Ground.phase }, { on := 4, ground := Ground.phase }, { on := 5, ground := Ground.phase }, { on := 6, ground := Ground.phase }, { on := 7, ground := Ground.phase }, { on := 8, ground := Ground.phase }, { on := 9, ground := Ground.phase }, { on := 10, ground := Ground.phase }, { on := 11, ground := Ground.phase }], guard := none }) rfl (fun Kz hK => ?_) EachV.nil
          first | (obtain ⟨d0, d1, d2, d3⟩ := ch_facts hHeld.out.2.cb; obtain ⟨f0, f1, f2, f3⟩ := ch_frozen hHeld.out.2.cb; have H9 := hHeld) | skip
          go_simp
          refine hK.out _ _ (fun h => by cases h) (fun _ => ?_)
          clear hK Kz
          (try simp only [Act.put, List.setIfInBounds_toArray, List.set_cons_zero, List.set_cons_succ])
          refine anyV_done (by kernel_rfl) ?_ _
          clear hHeld
          try clear d0 d1 d2 d3 f0 f1 f2 f3
          go_wp2_with fail
          go_meet
          exact Lib.hid ⟨_, (H9.out.2.s2 ha HQ2.out _).s3 ha HQ2.out _⟩
        · first | (obtain ⟨d0, d1, d2, d3⟩ := ch_facts hHeld.out.2.cb; obtain ⟨f0, f1, f2, f3⟩ := ch_frozen hHeld.out.2.cb; have H9 := hHeld) | skip
          go_simp
          refine hK.out _ _ (fun h => by cases h) (fun _ => ?_)
          clear hK Kz
          (try simp only [Act.put, List.setIfInBounds_toArray, List.set_cons_zero, List.set_cons_succ])
          refine anyV_ready (rs := [9]) (by kernel_rfl) (by simp) ?_
          refine EachV.cons (o := { dst := some 79, op := Op.binOp BinOp.add 3 (Operand.tmp 76) (Operand.tmp 78) 3, type := 3, pos := "make.go:477", after := #[{ on := 6, ground := Ground.data }, { on := 8, ground := Ground.data }], guard := none }) rfl (fun Kz hK => ?_) EachV.nil
          go_simp
          refine hK.out _ _ (fun _ h => h) (fun _ => ?_)
          clear hK Kz
          (try simp only [Act.put, List.setIfInBounds_toArray, List.set_cons_zero, List.set_cons_succ])
          refine anyV_ready (rs := [12]) (by kernel_rfl) (by simp) ?_
          refine EachV.cons (o := { dst := some 81, op := Op.fieldAddr 54 (Operand.tmp 8) 3, type := 0, pos := "make.go:477", after := #[{ on := 0, ground := Ground.phase }, { on := 1, ground := Ground.phase }, { on := 2, ground := Ground.phase }, { on := 3, ground := Ground.phase }, { on := 4, ground := Ground.phase }, { on := 5, ground := Ground.phase }, { on := 6, ground := Ground.phase }, { on := 7, ground := Ground.phase }, { on := 8, ground := Ground.phase }, { on := 9, ground := Ground.phase }, { on := 10, ground := Ground.phase }, { on := 11, ground := Ground.phase }], guard := none }) rfl (fun Kz hK => ?_) EachV.nil
          go_simp
          refine hK.out _ _ (fun _ h => h) (fun _ => ?_)
          clear hK Kz
          (try simp only [Act.put, List.setIfInBounds_toArray, List.set_cons_zero, List.set_cons_succ])
          refine anyV_ready (rs := [13]) (by kernel_rfl) (by simp) ?_
          refine EachV.cons (o := { dst := none, op := Op.store 3 (Operand.tmp 81) (Operand.tmp 79), type := 0, pos := "make.go:477", after := #[{ on := 12, ground := Ground.data }, { on := 9, ground := Ground.data }, { on := 11, ground := Ground.chain }, { on := 0, ground := Ground.phase }, { on := 1, ground := Ground.phase }, { on := 2, ground := Ground.phase }, { on := 3, ground := Ground.phase }, { on := 4, ground := Ground.phase }, { on := 5, ground := Ground.phase }, { on := 6, ground := Ground.phase }, { on := 7, ground := Ground.phase }, { on := 8, ground := Ground.phase }, { on := 9, ground := Ground.phase }, { on := 10, ground := Ground.phase }, { on := 11, ground := Ground.phase }], guard := none }) rfl (fun Kz hK => ?_) EachV.nil
          first | (obtain ⟨d0, d1, d2, d3⟩ := ch_facts hHeld.out.2.cb; obtain ⟨f0, f1, f2, f3⟩ := ch_frozen hHeld.out.2.cb; have H9 := hHeld) | skip
          go_simp
          refine hK.out _ _ (fun h => by cases h) (fun _ => ?_)
          clear hK Kz
          (try simp only [Act.put, List.setIfInBounds_toArray, List.set_cons_zero, List.set_cons_succ])
          refine anyV_done (by kernel_rfl) ?_ _
          clear hHeld
          try clear d0 d1 d2 d3 f0 f1 f2 f3
          go_wp2_with fail
          go_meet
          exact Lib.hid ⟨_, (H9.out.2.s2 ha HQ2.out _).s3 ha HQ2.out _⟩
      have y2' : (y == 2) = false := by simpa using y2
      clear y2
      by_cases y3 : y = 3
      · have y3' : (y == 3) = true := by simpa using y3
        clear y3
        go_upto_region 15 with fail
        refine region_until (S := fun w' => Hid (w'.heap[gl]? = some (.cells #[.int .i64 m.a, .int .i64 m.b, .int .i64 m.ca, .int .i64 m.cb, .int .i64 m.cp] 68 (0, 0)) ∧ XM a w ⟨R, L, pR, cR, some ⟨b, off, none⟩, cL⟩ q gc ⟨m.a, m.b, m.ca, m.cb⟩ w')) (fun j => j == 9 || j == 10 || j == 11) (by kernel_rfl) (Lib.hid ⟨H8.out.1, H8.out.2.keep (grown_drew (grown_refl _ _))⟩) (fun hHeld => ?_)
        refine anyU_take (i := 0) (oi := { dst := some 84, op := Op.move (Operand.tmp 0), type := 27, pos := "make.go:479", after := #[], guard := none }) (v := ?_) rfl (by kernel_rfl) (by kernel_rfl) (by kernel_rfl) (by kernel_rfl) (by kernel_rfl) (fun _ _ _ h => h) (Or.inl ⟨by rfl, ?_⟩) hHeld ?_
        rotate_left 1
        · intro u hSu
          obtain ⟨q0, q1, q2, q3⟩ := ch_facts hSu.out.2.cb
          go_simp
          first | done | with_reducible rfl
        (try simp only [Act.put, List.setIfInBounds_toArray, List.set_cons_zero, List.set_cons_succ])
        refine anyU_take (i := 1) (oi := { dst := some 85, op := Op.fieldAddr 54 (Operand.tmp 8) 2, type := 0, pos := "make.go:479", after := #[], guard := none }) (v := ?_) rfl (by kernel_rfl) (by kernel_rfl) (by kernel_rfl) (by kernel_rfl) (by kernel_rfl) (fun _ _ _ h => h) (Or.inl ⟨by rfl, ?_⟩) hHeld ?_
        rotate_left 1
        · intro u hSu
          obtain ⟨q0, q1, q2, q3⟩ := ch_facts hSu.out.2.cb
          go_simp
          first | done | with_reducible rfl
        (try simp only [Act.put, List.setIfInBounds_toArray, List.set_cons_zero, List.set_cons_succ])
        refine anyU_take (i := 2) (oi := { dst := some 86, op := Op.load 3 (Operand.tmp 85), type := 3, pos := "make.go:479", after := #[{ on := 1, ground := Ground.data }], guard := none }) (v := ?_) rfl (by kernel_rfl) (by kernel_rfl) (by kernel_rfl) (by kernel_rfl) (by kernel_rfl) (fun _ _ _ h => h) (Or.inl ⟨by rfl, ?_⟩) hHeld ?_
        rotate_left 1
        · intro u hSu
          obtain ⟨q0, q1, q2, q3⟩ := ch_facts hSu.out.2.cb
          go_simp
          first | done | with_reducible rfl
        (try simp only [Act.put, List.setIfInBounds_toArray, List.set_cons_zero, List.set_cons_succ])
        refine anyU_take (i := 4) (oi := { dst := some 88, op := Op.move (Operand.tmp 0), type := 27, pos := "make.go:479", after := #[], guard := none }) (v := ?_) rfl (by kernel_rfl) (by kernel_rfl) (by kernel_rfl) (by kernel_rfl) (by kernel_rfl) (fun _ _ _ h => h) (Or.inl ⟨by rfl, ?_⟩) hHeld ?_
        rotate_left 1
        · intro u hSu
          obtain ⟨q0, q1, q2, q3⟩ := ch_facts hSu.out.2.cb
          go_simp
          first | done | with_reducible rfl
        (try simp only [Act.put, List.setIfInBounds_toArray, List.set_cons_zero, List.set_cons_succ])
        refine anyU_take (i := 5) (oi := { dst := some 89, op := Op.fieldAddr 54 (Operand.tmp 8) 3, type := 0, pos := "make.go:479", after := #[], guard := none }) (v := ?_) rfl (by kernel_rfl) (by kernel_rfl) (by kernel_rfl) (by kernel_rfl) (by kernel_rfl) (fun _ _ _ h => h) (Or.inl ⟨by rfl, ?_⟩) hHeld ?_
        rotate_left 1
        · intro u hSu
          obtain ⟨q0, q1, q2, q3⟩ := ch_facts hSu.out.2.cb
          go_simp
          first | done | with_reducible rfl
        (try simp only [Act.put, List.setIfInBounds_toArray, List.set_cons_zero, List.set_cons_succ])
        refine anyU_take (i := 6) (oi := { dst := some 90, op := Op.load 3 (Operand.tmp 89), type := 3, pos := "make.go:479", after := #[{ on := 5, ground := Ground.data }], guard := none }) (v := ?_) rfl (by kernel_rfl) (by kernel_rfl) (by kernel_rfl) (by kernel_rfl) (by kernel_rfl) (fun _ _ _ h => h) (Or.inl ⟨by rfl, ?_⟩) hHeld ?_
        rotate_left 1
        · intro u hSu
          obtain ⟨q0, q1, q2, q3⟩ := ch_facts hSu.out.2.cb
          go_simp
          first | done | with_reducible rfl
        (try simp only [Act.put, List.setIfInBounds_toArray, List.set_cons_zero, List.set_cons_succ])
        refine anyU_ready (rs := [3]) (by kernel_rfl) (by simp) ?_
        refine EachU.cons (o := { dst := some 87, op := Op.call { callee := Callee.value (Operand.func 48), args := #[Operand.tmp 84, Operand.const (Value.int IntKind.i64 1), Operand.tmp 86], argTypes := #[27, 3, 3] }, type := 3, pos := "make.go:479", after := #[{ on := 0, ground := Ground.data }, { on := 2, ground := Ground.data }], guard := none }) rfl (fun Kz hK => ?_) EachU.nil
        go_simp
        go_at_call 48
        refine (range_free a _ _ _ hHeld.out.2.st.2).mono ?_
        rintro e w8 ⟨v1, rfl, hs⟩
        have H5n := Lib.hid (And.intro (kept_row hHeld.out.1 hs.1 (fun e => by have := Option.some.inj e; have := HB5.out; omega)) (hHeld.out.2.tape ha HQ.out hs))
        clear hs
        refine hK.out _ _ (fun _ => H5n) (fun hH2 => ?_)
        clear hK Kz hHeld
        have hHeld := hH2 rfl
        clear hH2
        (try simp only [Act.put, List.setIfInBounds_toArray, List.set_cons_zero, List.set_cons_succ])
        refine anyU_take (i := 8) (oi := { dst := some 92, op := Op.fieldAddr 54 (Operand.tmp 8) 2, type := 0, pos := "make.go:479", after := #[{ on := 0, ground := Ground.phase }, { on := 1, ground := Ground.phase }, { on := 2, ground := Ground.phase }, { on := 3, ground := Ground.phase }, { on := 4, ground := Ground.textOnly Departure.lateStores }, { on := 5, ground := Ground.phase }, { on := 6, ground := Ground.phase }, { on := 7, ground := Ground.textOnly Departure.lateStoresUnsure }], guard := none }) (v := ?_) rfl (by kernel_rfl) (by kernel_rfl) (by kernel_rfl) (by kernel_rfl) (by kernel_rfl) (fun _ _ _ h => h) (Or.inl ⟨by rfl, ?_⟩) hHeld ?_
        rotate_left 1
        · intro u hSu
          obtain ⟨q0, q1, q2, q3⟩ := ch_facts hSu.out.2.cb
          go_simp
          first | done | with_reducible rfl
        (try simp only [Act.put, List.setIfInBounds_toArray, List.set_cons_zero, List.set_cons_succ])
        refine anyU_ready (rs := [7]) (by kernel_rfl) (by simp) ?_
        refine EachU.cons (o := { dst := some 91, op := Op.call { callee := Callee.value (Operand.func 48), args := #[Operand.tmp 88, Operand.const (Value.int IntKind.i64 1), Operand.tmp 90], argTypes := #[27, 3, 3] }, type := 3, pos := "make.go:479", after := #[{ on := 4, ground := Ground.data }, { on := 6, ground := Ground.data }, { on := 3, ground := Ground.chain }], guard := none }) rfl (fun Kz hK => ?_) EachU.nil
        go_simp
        go_at_call 48
        refine (range_free a _ _ _ hHeld.out.2.st.2).mono ?_
        rintro e w8 ⟨v2, rfl, hs⟩
        have H5n := Lib.hid (And.intro (kept_row hHeld.out.1 hs.1 (fun e => by have := Option.some.inj e; have := HB5.out; omega)) (hHeld.out.2.tape ha HQ.out hs))
        clear hs
        refine hK.out _ _ (fun _ => H5n) (fun hH2 => ?_)
        clear hK Kz hHeld
        have hHeld := hH2 rfl
        clear hH2
        (try simp only [Act.put, List.setIfInBounds_toArray, List.set_cons_zero, List.set_cons_succ])
        refine anyU_ready (rs := [9]) (by kernel_rfl) (by simp) ?_
        refine EachU.cons (o := { dst := none, op := Op.store 3 (Operand.tmp 92) (Operand.tmp 87), type := 0, pos := "make.go:479", after := #[{ on := 8, ground := Ground.data }, { on := 3, ground := Ground.data }, { on := 7, ground := Ground.chain }, { on := 0, ground := Ground.phase }, { on := 1, ground := Ground.phase }, { on := 2, ground := Ground.phase }, { on := 3, ground := Ground.phase }, { on := 4, ground := Ground.textOnly Departure.lateStores }, { on := 5, ground := Ground.phase }, { on := 6, ground := Ground.phase }, { on := 7, ground := Ground.textOnly Departure.lateStoresUnsure }], guard := none }) rfl (fun Kz hK => ?_) EachU.nil
        first | (obtain ⟨d0, d1, d2, d3⟩ := ch_facts hHeld.out.2.cb; obtain ⟨f0, f1, f2, f3⟩ := ch_frozen hHeld.out.2.cb; have H9 := hHeld) | skip
        go_simp
        refine hK.out _ _ (fun h => by cases h) (fun _ => ?_)
        clear hK Kz
        (try simp only [Act.put, List.setIfInBounds_toArray, List.set_cons_zero, List.set_cons_succ])
        refine anyU_ready (rs := [10]) (by kernel_rfl) (by simp) ?_
        refine EachU.cons (o := { dst := some 93, op := Op.fieldAddr 54 (Operand.tmp 8) 3, type := 0, pos := "make.go:479", after := #[{ on := 0, ground := Ground.phase }, { on := 1, ground := Ground.phase }, { on := 2, ground := Ground.phase }, { on := 3, ground := Ground.phase }, { on := 4, ground := Ground.phase }, { on := 5, ground := Ground.phase }, { on := 6, ground := Ground.phase }, { on := 7, ground := Ground.phase }, { on := 8, ground := Ground.phase }, { on := 9, ground := Ground.phase }], guard := none }) rfl (fun Kz hK => ?_) EachU.nil
        go_simp
        refine hK.out _ _ (fun h => by cases h) (fun _ => ?_)
        clear hK Kz
        (try simp only [Act.put, List.setIfInBounds_toArray, List.set_cons_zero, List.set_cons_succ])
        refine anyU_ready (rs := [11]) (by kernel_rfl) (by simp) ?_
        refine EachU.cons (o := { dst := none, op := Op.store 3 (Operand.tmp 93) (Operand.tmp 91), type := 0, pos := "make.go:479", after := #[{ on := 10, ground := Ground.data }, { on := 7, ground := Ground.data }, { on := 9, ground := Ground.chain }, { on := 0, ground := Ground.phase }, { on := 1, ground := Ground.phase }, { on := 2, ground := Ground.phase }, { on := 3, ground := Ground.phase }, { on := 4, ground := Ground.phase }, { on := 5, ground := Ground.phase }, { on := 6, ground := Ground.phase }, { on := 7, ground := Ground.phase }, { on := 8, ground := Ground.phase }, { on := 9, ground := Ground.phase }], guard := none }) rfl (fun Kz hK => ?_) EachU.nil
        first | (obtain ⟨d0, d1, d2, d3⟩ := ch_facts hHeld.out.2.cb; obtain ⟨f0, f1, f2, f3⟩ := ch_frozen hHeld.out.2.cb; have H9 := hHeld) | skip
        go_simp
        refine hK.out _ _ (fun h => by cases h) (fun _ => ?_)
        clear hK Kz
        (try simp only [Act.put, List.setIfInBounds_toArray, List.set_cons_zero, List.set_cons_succ])
        refine anyU_done (by kernel_rfl) ?_ _
        clear hHeld
        try clear d0 d1 d2 d3 f0 f1 f2 f3
        go_wp2_with fail
        go_meet
        exact Lib.hid ⟨_, (H9.out.2.s2 ha HQ2.out _).s3 ha HQ2.out _⟩
      have y3' : (y == 3) = false := by simpa using y3
      clear y3
      by_cases y4 : y = 4
      · have y4' : (y == 4) = true := by simpa using y4
        clear y4
        go_upto_region 17 with fail
        refine region_until (S := fun w' => Hid (w'.heap[gl]? = some (.cells #[.int .i64 m.a, .int .i64 m.b, .int .i64 m.ca, .int .i64 m.cb, .int .i64 m.cp] 68 (0, 0)) ∧ XM a w ⟨R, L, pR, cR, some ⟨b, off, none⟩, cL⟩ q gc ⟨m.a, m.b, m.ca, m.cb⟩ w')) (fun j => j == 15) (by kernel_rfl) (Lib.hid ⟨H8.out.1, H8.out.2.keep (grown_drew (grown_refl _ _))⟩) (fun hHeld => ?_)
        refine anyU_take (i := 0) (oi := { dst := some 96, op := Op.fieldAddr 68 (Operand.tmp 9) 1, type := 0, pos := "make.go:481", after := #[], guard := none }) (v := ?_) rfl (by kernel_rfl) (by kernel_rfl) (by kernel_rfl) (by kernel_rfl) (by kernel_rfl) (fun _ _ _ h => h) (Or.inl ⟨by rfl, ?_⟩) hHeld ?_
        rotate_left 1
        · intro u hSu
          obtain ⟨q0, q1, q2, q3, q4⟩ := lk_facts hSu.out.1
          go_simp
          first | done | with_reducible rfl
        (try simp only [Act.put, List.setIfInBounds_toArray, List.set_cons_zero, List.set_cons_succ])
        refine anyU_take (i := 1) (oi := { dst := some 97, op := Op.load 3 (Operand.tmp 96), type := 3, pos := "make.go:481", after := #[{ on := 0, ground := Ground.data }], guard := none }) (v := ?_) rfl (by kernel_rfl) (by kernel_rfl) (by kernel_rfl) (by kernel_rfl) (by kernel_rfl) (fun _ _ _ h => h) (Or.inl ⟨by rfl, ?_⟩) hHeld ?_
        rotate_left 1
        · intro u hSu
          obtain ⟨q0, q1, q2, q3, q4⟩ := lk_facts hSu.out.1
          go_simp
          first | done | with_reducible rfl
        (try simp only [Act.put, List.setIfInBounds_toArray, List.set_cons_zero, List.set_cons_succ])
        refine anyU_take (i := 2) (oi := { dst := some 98, op := Op.fieldAddr 68 (Operand.tmp 9) 0, type := 0, pos := "make.go:481", after := #[], guard := none }) (v := ?_) rfl (by kernel_rfl) (by kernel_rfl) (by kernel_rfl) (by kernel_rfl) (by kernel_rfl) (fun _ _ _ h => h) (Or.inl ⟨by rfl, ?_⟩) hHeld ?_
        rotate_left 1
        · intro u hSu
          obtain ⟨q0, q1, q2, q3, q4⟩ := lk_facts hSu.out.1
          go_simp
          first | done | with_reducible rfl
        (try simp only [Act.put, List.setIfInBounds_toArray, List.set_cons_zero, List.set_cons_succ])
        refine anyU_take (i := 3) (oi := { dst := some 99, op := Op.load 3 (Operand.tmp 98), type := 3, pos := "make.go:481", after := #[{ on := 2, ground := Ground.data }], guard := none }) (v := ?_) rfl (by kernel_rfl) (by kernel_rfl) (by kernel_rfl) (by kernel_rfl) (by kernel_rfl) (fun _ _ _ h => h) (Or.inl ⟨by rfl, ?_⟩) hHeld ?_
        rotate_left 1
        · intro u hSu
          obtain ⟨q0, q1, q2, q3, q4⟩ := lk_facts hSu.out.1
          go_simp
          first | done | with_reducible rfl
        (try simp only [Act.put, List.setIfInBounds_toArray, List.set_cons_zero, List.set_cons_succ])
        refine anyU_take (i := 4) (oi := { dst := some 100, op := Op.fieldAddr 68 (Operand.tmp 9) 3, type := 0, pos := "make.go:481", after := #[], guard := none }) (v := ?_) rfl (by kernel_rfl) (by kernel_rfl) (by kernel_rfl) (by kernel_rfl) (by kernel_rfl) (fun _ _ _ h => h) (Or.inl ⟨by rfl, ?_⟩) hHeld ?_
        rotate_left 1
        · intro u hSu
          obtain ⟨q0, q1, q2, q3, q4⟩ := lk_facts hSu.out.1
          go_simp
          first | done | with_reducible rfl
        (try simp only [Act.put, List.setIfInBounds_toArray, List.set_cons_zero, List.set_cons_succ])
        refine anyU_take (i := 5) (oi := { dst := some 101, op := Op.load 3 (Operand.tmp 100), type := 3, pos := "make.go:481", after := #[{ on := 4, ground := Ground.data }], guard := none }) (v := ?_) rfl (by kernel_rfl) (by kernel_rfl) (by kernel_rfl) (by kernel_rfl) (by kernel_rfl) (fun _ _ _ h => h) (Or.inl ⟨by rfl, ?_⟩) hHeld ?_
        rotate_left 1
        · intro u hSu
          obtain ⟨q0, q1, q2, q3, q4⟩ := lk_facts hSu.out.1
          go_simp
          first | done | with_reducible rfl
        (try simp only [Act.put, List.setIfInBounds_toArray, List.set_cons_zero, List.set_cons_succ])
        refine anyU_take (i := 6) (oi := { dst := some 102, op := Op.move (Operand.tmp 0), type := 27, pos := "make.go:481", after := #[], guard := none }) (v := ?_) rfl (by kernel_rfl) (by kernel_rfl) (by kernel_rfl) (by kernel_rfl) (by kernel_rfl) (fun _ _ _ h => h) (Or.inl ⟨by rfl, ?_⟩) hHeld ?_
        rotate_left 1
        · intro u hSu
          obtain ⟨q0, q1, q2, q3, q4⟩ := lk_facts hSu.out.1
          go_simp
          first | done | with_reducible rfl
        (try simp only [Act.put, List.setIfInBounds_toArray, List.set_cons_zero, List.set_cons_succ])
        refine anyU_take (i := 9) (oi := { dst := some 105, op := Op.fieldAddr 68 (Operand.tmp 9) 2, type := 0, pos := "make.go:481", after := #[], guard := none }) (v := ?_) rfl (by kernel_rfl) (by kernel_rfl) (by kernel_rfl) (by kernel_rfl) (by kernel_rfl) (fun _ _ _ h => h) (Or.inl ⟨by rfl, ?_⟩) hHeld ?_
        rotate_left 1
        · intro u hSu
          obtain ⟨q0, q1, q2, q3, q4⟩ := lk_facts hSu.out.1
          go_simp
          first | done | with_reducible rfl
        (try simp only [Act.put, List.setIfInBounds_toArray, List.set_cons_zero, List.set_cons_succ])
        refine anyU_take (i := 10) (oi := { dst := some 106, op := Op.load 3 (Operand.tmp 105), type := 3, pos := "make.go:481", after := #[{ on := 9, ground := Ground.data }], guard := none }) (v := ?_) rfl (by kernel_rfl) (by kernel_rfl) (by kernel_rfl) (by kernel_rfl) (by kernel_rfl) (fun _ _ _ h => h) (Or.inl ⟨by rfl, ?_⟩) hHeld ?_
        rotate_left 1
        · intro u hSu
          obtain ⟨q0, q1, q2, q3, q4⟩ := lk_facts hSu.out.1
          go_simp
          first | done | with_reducible rfl
        (try simp only [Act.put, List.setIfInBounds_toArray, List.set_cons_zero, List.set_cons_succ])
        refine anyU_take (i := 11) (oi := { dst := some 107, op := Op.move (Operand.tmp 0), type := 27, pos := "make.go:481", after := #[], guard := none }) (v := ?_) rfl (by kernel_rfl) (by kernel_rfl) (by kernel_rfl) (by kernel_rfl) (by kernel_rfl) (fun _ _ _ h => h) (Or.inl ⟨by rfl, ?_⟩) hHeld ?_
        rotate_left 1
        · intro u hSu
          obtain ⟨q0, q1, q2, q3, q4⟩ := lk_facts hSu.out.1
          go_simp
          first | done | with_reducible rfl
        (try simp only [Act.put, List.setIfInBounds_toArray, List.set_cons_zero, List.set_cons_succ])
        refine anyU_ready (rs := [7]) (by kernel_rfl) (by simp) ?_
        refine EachU.cons (o := { dst := some 103, op := Op.call { callee := Callee.value (Operand.func 17), args := #[Operand.tmp 102, Operand.const (Value.int IntKind.i64 3)], argTypes := #[27, 3] }, type := 3, pos := "make.go:481", after := #[{ on := 6, ground := Ground.data }], guard := none }) rfl (fun Kz hK => ?_) EachU.nil
        go_simp
        go_at_call 17
        refine (next_any a 3 (by unfold I64; omega) _ hHeld.out.2.st.2).mono ?_
        rintro e w8 ⟨v1, rfl, -, hs⟩
        have H5n := Lib.hid (And.intro (kept_row hHeld.out.1 hs.1 (fun e => by have := Option.some.inj e; have := HB5.out; omega)) (hHeld.out.2.tape ha HQ.out hs))
        clear hs
        refine hK.out _ _ (fun _ => H5n) (fun hH2 => ?_)
        clear hK Kz hHeld
        have hHeld := hH2 rfl
        clear hH2
        (try simp only [Act.put, List.setIfInBounds_toArray, List.set_cons_zero, List.set_cons_succ])
        refine anyU_take (i := 8) (oi := { dst := some 104, op := Op.binOp BinOp.add 3 (Operand.tmp 101) (Operand.tmp 103) 3, type := 3, pos := "make.go:481", after := #[{ on := 5, ground := Ground.data }, { on := 7, ground := Ground.data }], guard := none }) (v := ?_) rfl (by kernel_rfl) (by kernel_rfl) (by kernel_rfl) (by kernel_rfl) (by kernel_rfl) (fun _ _ _ h => h) (Or.inl ⟨by rfl, ?_⟩) hHeld ?_
        rotate_left 1
        · intro u hSu
          obtain ⟨q0, q1, q2, q3, q4⟩ := lk_facts hSu.out.1
          go_simp
          first | done | with_reducible rfl
        (try simp only [Act.put, List.setIfInBounds_toArray, List.set_cons_zero, List.set_cons_succ])
        refine anyU_ready (rs := [12]) (by kernel_rfl) (by simp) ?_
        refine EachU.cons (o := { dst := some 108, op := Op.call { callee := Callee.value (Operand.func 17), args := #[Operand.tmp 107, Operand.const (Value.int IntKind.i64 3)], argTypes := #[27, 3] }, type := 3, pos := "make.go:481", after := #[{ on := 11, ground := Ground.data }, { on := 7, ground := Ground.chain }], guard := none }) rfl (fun Kz hK => ?_) EachU.nil
        go_simp
        go_at_call 17
        refine (next_any a 3 (by unfold I64; omega) _ hHeld.out.2.st.2).mono ?_
        rintro e w8 ⟨v2, rfl, -, hs⟩
        have H5n := Lib.hid (And.intro (kept_row hHeld.out.1 hs.1 (fun e => by have := Option.some.inj e; have := HB5.out; omega)) (hHeld.out.2.tape ha HQ.out hs))
        clear hs
        refine hK.out _ _ (fun _ => H5n) (fun hH2 => ?_)
        clear hK Kz hHeld
        have hHeld := hH2 rfl
        clear hH2
        (try simp only [Act.put, List.setIfInBounds_toArray, List.set_cons_zero, List.set_cons_succ])
        refine anyU_take (i := 13) (oi := { dst := some 109, op := Op.binOp BinOp.add 3 (Operand.tmp 106) (Operand.tmp 108) 3, type := 3, pos := "make.go:481", after := #[{ on := 10, ground := Ground.data }, { on := 12, ground := Ground.data }], guard := none }) (v := ?_) rfl (by kernel_rfl) (by kernel_rfl) (by kernel_rfl) (by kernel_rfl) (by kernel_rfl) (fun _ _ _ h => h) (Or.inl ⟨by rfl, ?_⟩) hHeld ?_
        rotate_left 1
        · intro u hSu
          obtain ⟨q0, q1, q2, q3, q4⟩ := lk_facts hSu.out.1
          go_simp
          first | done | with_reducible rfl
        (try simp only [Act.put, List.setIfInBounds_toArray, List.set_cons_zero, List.set_cons_succ])
        refine anyU_take (i := 14) (oi := { dst := some 110, op := Op.build 54 #[(0, Operand.tmp 97), (1, Operand.tmp 99), (2, Operand.tmp 104), (3, Operand.tmp 109)], type := 54, pos := "make.go:481", after := #[{ on := 1, ground := Ground.data }, { on := 3, ground := Ground.data }, { on := 8, ground := Ground.data }, { on := 13, ground := Ground.data }], guard := none }) (v := ?_) rfl (by kernel_rfl) (by kernel_rfl) (by kernel_rfl) (by kernel_rfl) (by kernel_rfl) (fun _ _ _ h => h) (Or.inl ⟨by rfl, ?_⟩) hHeld ?_
        rotate_left 1
        · intro u hSu
          obtain ⟨q0, q1, q2, q3, q4⟩ := lk_facts hSu.out.1
          go_simp
          first | done | with_reducible rfl
        (try simp only [Act.put, List.setIfInBounds_toArray, List.set_cons_zero, List.set_cons_succ])
        refine anyU_ready (rs := [15]) (by kernel_rfl) (by simp) ?_
        refine EachU.cons (o := { dst := none, op := Op.store 54 (Operand.tmp 8) (Operand.tmp 110), type := 0, pos := "make.go:481", after := #[{ on := 14, ground := Ground.data }, { on := 12, ground := Ground.chain }, { on := 0, ground := Ground.phase }, { on := 1, ground := Ground.phase }, { on := 2, ground := Ground.phase }, { on := 3, ground := Ground.phase }, { on := 4, ground := Ground.phase }, { on := 5, ground := Ground.phase }, { on := 6, ground := Ground.phase }, { on := 7, ground := Ground.phase }, { on := 8, ground := Ground.phase }, { on := 9, ground := Ground.phase }, { on := 10, ground := Ground.phase }, { on := 11, ground := Ground.phase }, { on := 12, ground := Ground.phase }, { on := 13, ground := Ground.phase }, { on := 14, ground := Ground.phase }], guard := none }) rfl (fun Kz hK => ?_) EachU.nil
        obtain ⟨d0, d1, d2, d3⟩ := ch_facts hHeld.out.2.cb
        obtain ⟨f0, f1, f2, f3⟩ := ch_frozen hHeld.out.2.cb
        have H9 := hHeld
        go_simp
        refine hK.out _ _ (fun h => by cases h) (fun _ => ?_)
        clear hK Kz
        (try simp only [Act.put, List.setIfInBounds_toArray, List.set_cons_zero, List.set_cons_succ])
        refine anyU_done (by kernel_rfl) ?_ _
        clear hHeld
        try clear d0 d1 d2 d3 f0 f1 f2 f3
        go_wp2_with fail
        go_meet
        exact Lib.hid ⟨_, H9.out.2.s4 ha HQ2.out _ _ _ _⟩
      have y4' : (y == 4) = false := by simpa using y4
      clear y4
      obtain ⟨d0, d1, d2, d3⟩ := ch_facts H8.out.2.cb
      obtain ⟨f0, f1, f2, f3⟩ := ch_frozen H8.out.2.cb
      go_wp2_with fail
      go_meet
      exact Lib.hid ⟨_, H8.out.2.s3 ha HQ2.out _⟩
  case rest =>
  obtain ⟨c, H3⟩ : ∃ c, Hid (XM a w ⟨R, L, pR, cR, pL, cL⟩ q gc c wc) := by
    obtain ⟨c, hc⟩ := hcut.out
    exact ⟨c, Lib.hid hc⟩
  clear hcut H1
  go_upto_region 18 with fail
  go_cut [117] from 111 to 117 (fun bb wx => ∃ z, bb = .bool z ∧ Hid (XM a w ⟨R, L, pR, cR, pL, cL⟩ q gc c wx))
  case first =>
    by_cases hn1 : 0 < n
    · go_wp2_with fail
      refine (one_any a n hn _ H3.out.st.2).mono ?_
      rintro e w5 ⟨z, rfl, hs⟩
      have H4 := Lib.hid (H3.out.tape ha HQ.out hs)
      clear hs H3
      go_wp2_with fail
      go_meet
      exact ⟨_, rfl, H4⟩
    · go_wp2_with fail
      go_meet
      exact ⟨false, rfl, H3⟩
  case rest =>
  obtain ⟨z9, rfl, H4⟩ := hcut
  clear H3
  go_upto_if 117 with fail
  go_cut [] from 118 to 138 (fun wx => Hid (∃ c, XM a w ⟨R, L, pR, cR, pL, cL⟩ q gc c wx))
  case first =>
    cases z9
    · go_wp2_with fail
      go_meet
      exact Lib.hid ⟨_, H4.out⟩
    · go_wp2_with fail
      refine (next_any a 4 (by unfold I64; omega) _ H4.out.st.2).mono ?_
      rintro e w5 ⟨y, rfl, -, hs⟩
      have H5 := Lib.hid (H4.out.tape ha HQ.out hs)
      clear hs H4
      obtain ⟨d0, d1, d2, d3⟩ := ch_facts H5.out.cb
      obtain ⟨f0, f1, f2, f3⟩ := ch_frozen H5.out.cb
      by_cases y0 : y = 0
      · have y0' : (y == 0) = true := by simpa using y0
        clear y0
        go_wp2_with fail
        refine (next_any a 9 (by unfold I64; omega) _ H5.out.st.2).mono ?_
        rintro e w6 ⟨v, rfl, -, hs⟩
        have H6 := Lib.hid (H5.out.tape ha HQ.out hs)
        clear hs H5 d0 d1 d2 d3 f0 f1 f2 f3
        obtain ⟨d0, d1, d2, d3⟩ := ch_facts H6.out.cb
        obtain ⟨f0, f1, f2, f3⟩ := ch_frozen H6.out.cb
        go_wp2_with fail
        go_meet
        exact Lib.hid ⟨_, H6.out.s0 ha HQ2.out _⟩
      have y0' : (y == 0) = false := by simpa using y0
      clear y0
      by_cases y1 : y = 1
      · have y1' : (y == 1) = true := by simpa using y1
        clear y1
        go_wp2_with fail
        go_meet
        exact Lib.hid ⟨_, H5.out.s1 ha HQ2.out _⟩
      have y1' : (y == 1) = false := by simpa using y1
      clear y1
      by_cases y2 : y = 2
      · have y2' : (y == 2) = true := by simpa using y2
        clear y2
        go_wp2_with fail
        refine (wild_any a _ H5.out.st.2).mono ?_
        rintro e w6 ⟨v, rfl, -, hs⟩
        have H6 := Lib.hid (H5.out.tape ha HQ.out hs)
        clear hs H5 d0 d1 d2 d3 f0 f1 f2 f3
        obtain ⟨d0, d1, d2, d3⟩ := ch_facts H6.out.cb
        obtain ⟨f0, f1, f2, f3⟩ := ch_frozen H6.out.cb
        go_wp2_with fail
        go_meet
        exact Lib.hid ⟨_, H6.out.s2 ha HQ2.out _⟩
      have y2' : (y == 2) = false := by simpa using y2
      clear y2
      go_wp2_with fail
      refine (next_any a 2 (by unfold I64; omega) _ H5.out.st.2).mono ?_
      rintro e w6 ⟨v, rfl, -, hs⟩
      have H6 := Lib.hid (H5.out.tape ha HQ.out hs)
      clear hs H5 d0 d1 d2 d3 f0 f1 f2 f3
      obtain ⟨d0, d1, d2, d3⟩ := ch_facts H6.out.cb
      obtain ⟨f0, f1, f2, f3⟩ := ch_frozen H6.out.cb
      go_wp2_with fail
      go_meet
      exact Lib.hid ⟨_, (H6.out.s2 ha HQ2.out _).s3 ha HQ2.out _⟩
  case rest =>
  obtain ⟨c', H5⟩ : ∃ c, Hid (XM a w ⟨R, L, pR, cR, pL, cL⟩ q gc c wc) := by
    obtain ⟨c, hc⟩ := hcut.out
    exact ⟨c, Lib.hid hc⟩
  clear hcut H4
  obtain ⟨d0, d1, d2, d3⟩ := ch_facts H5.out.cb
  obtain ⟨r0, r1, r2, r3⟩ := ch_facts H5.out.rb
  obtain ⟨f0, f1, f2, f3⟩ := ch_frozen H5.out.rb
  go_wp2_with fail
  have hR : TRow wc (w.heap.size + 1) 54 [.int .i64 0, .int .i64 0, .int .i64 0, .int .i64 0] := H5.out.rb
  have HR := Lib.hid ((((hR.set 0 (.int .i64 c'.a)).set 1 (.int .i64 c'.b)).set 2 (.int .i64 c'.ca)).set 3 (.int .i64 c'.cb))
  have S : ∀ (u : World) (j : Nat) (x : Value), u.grownBy (u.setCell ⟨w.heap.size + 1, j, none⟩ x) (some (w.heap.size + 1)) := fun u j x => grown_setCell u ⟨w.heap.size + 1, j, none⟩ x
  have HST := Lib.hid (H5.out.st.storeT (grown_trans (grown_trans (grown_trans (S _ 0 (.int .i64 c'.a)) (S _ 1 (.int .i64 c'.b))) (S _ 2 (.int .i64 c'.ca))) (S _ 3 (.int .i64 c'.cb))) (by omega) ha)
  refine bodyPost_ret (res_chg rfl _ _ (w.heap.size + 1) _ _ _ _ rfl HR.out) rfl ?_
  exact ⟨c', rfl, HST.out⟩
end Go.Proofs.Ytiencdgmnkphjaa
