/- Parts of the proof, packed: ToFlr. -/
import Derived.Test.YtiencdgmnkphjaaApl8
import Derived.Test.YtiencdgmnkphjaaApl9
import Derived.Test.YtiencdgmnkphjaaApl4
import Derived.Deep.CutBlock
/- The tape's Failure: some failure of at most one link or router, in memory of the call's own. -/
namespace Go.Proofs.Ytiencdgmnkphjaa
open Go.RowKit Bs
/-- While a failure is drawn. -/
structure FM (a : Nat) (w : World) (T : Tg) (q : Nat → Prop) (wr : World) : Prop where
  tb : wr.heap[w.heap.size]? = some (.cells #[.slice T.pR T.R.length T.cR, .slice T.pL T.L.length T.cL] 26 (0, 0))
  rb : wr.heap[w.heap.size + 1]? = some (.cells #[.slice none 0 0, .slice none 0 0] 47 (0, 0))
  t : TgOk wr q T
  st : St a w wr
  sz : w.heap.size + 2 ≤ wr.heap.size
theorem FM.keep {a : Nat} {w wr w1 : World} {T : Tg} {q : Nat → Prop} (h : FM a w T q wr) (g : wr.grownBy w1 none) : FM a w T q w1 :=
  ⟨kept_row h.tb g (by simp), kept_row h.rb g (by simp), h.t.keep g, h.st.trans ⟨grown_none g _, h.st.2.keep g⟩, Nat.le_trans h.sz g.size⟩
theorem FM.tape {a : Nat} {w wr w1 : World} {T : Tg} {q : Nat → Prop} (h : FM a w T q wr) (ha : a < w.heap.size) (hq : ∀ b, q b → b ≠ a) (k : St a wr w1) : FM a w T q w1 :=
  ⟨kept_row h.tb k.1 (fun e => by have := Option.some.inj e; omega), kept_row h.rb k.1 (fun e => by have := Option.some.inj e; omega), h.t.grown k.1 (fun b hb e => hq b hb (Option.some.inj e)), h.st.trans k, Nat.le_trans h.sz k.1.size⟩
theorem FM.lk {a : Nat} {w wr : World} {R : List Rt} {L : List Lk} {pR : Option Addr} {cR cL b off i : Nat} {q : Nat → Prop} {m : Lk} (h : FM a w ⟨R, L, pR, cR, some ⟨b, off, none⟩, cL⟩ q wr) (hm : L[i]? = some m) :
    wr.cell? ⟨b, off + i * 5, none⟩ = some (.int .i64 m.a) ∧ wr.cell? ⟨b, off + i * 5 + 1, none⟩ = some (.int .i64 m.b) ∧ wr.cell? ⟨b, off + i * 5 + 2, none⟩ = some (.int .i64 m.ca) ∧ wr.cell? ⟨b, off + i * 5 + 3, none⟩ = some (.int .i64 m.cb) ∧ wr.cell? ⟨b, off + i * 5 + 4, none⟩ = some (.int .i64 m.cp) := by
  have h1 := (List.getElem?_eq_some_iff.1 hm).1
  obtain ⟨-, b', off', e, -, hc⟩ := rdl_cells (L := L) h.t.l (by omega)
  injection e with e
  injection e with e4 e5
  subst e4
  subst e5
  exact hc i m hm
theorem FM.rt {a : Nat} {w wr : World} {R : List Rt} {L : List Lk} {pL : Option Addr} {cR cL b off i : Nat} {q : Nat → Prop} {m : Rt} (h : FM a w ⟨R, L, some ⟨b, off, none⟩, cR, pL, cL⟩ q wr) (hm : R[i]? = some m) :
    wr.cell? ⟨b, off + i * 2, none⟩ = some (.int .i64 m.id) ∧ wr.cell? ⟨b, off + i * 2 + 1, none⟩ = some (.bool m.cap) := by
  have h1 := (List.getElem?_eq_some_iff.1 hm).1
  obtain ⟨-, b', off', e, -, hc⟩ := rdr_cells (R := R) h.t.r (by omega)
  injection e with e
  injection e with e4 e5
  subst e4
  subst e5
  exact hc i m hm
/-- What returns a failure. -/
def FlPost (a k : Nat) (w : World) (e : Ending) (w' : World) : Prop :=
  ∃ (H : List Hp) (X : List Int) (vH vX : Value), e = .returned (.agg #[vH, vX]) ∧ w'.ownsRow w.heap.size 70 2 vH H.length (H.flatMap hpC) ∧ w'.ownsRow w.heap.size 3 1 vX X.length (X.map tv) ∧ (∀ g, vH.ownBlock = some g → vX.ownBlock ≠ some g) ∧ (H.length ≤ k ∧ X.length ≤ k) ∧ St a w w'
theorem fail_size : (Try.prog.info? 47).map (·.size) = some 2 := by kernel_rfl
theorem res_fail {fn : Func} {p : Tmp} (h : fn.results = #[.cell p 47]) (tmps : Array Value) (w : World) (g : Nat) (x y : Value) (hp : tmps.getD p undef = .pointer (some ⟨g, 0, none⟩)) (hg : w.heap[g]? = some (.cells #[x, y] 47 (0, 0))) :
    (results fn tmps).run Try.prog w = .ok (.agg #[x, y]) w :=
  results_cell_row h tmps w g _ _ _ _ hp hg Try.underlying47 rfl fail_size
theorem FM.fin {a : Nat} {w wr : World} {T : Tg} {q : Nat → Prop} {vH vX : Value} {H : List Hp} {X : List Int} (h : FM a w T q wr) (ha : a < w.heap.size)
    (hH : wr.ownsRow (w.heap.size + 2) 70 2 vH H.length (H.flatMap hpC)) (hX : wr.ownsRow (w.heap.size + 2) 3 1 vX X.length (X.map tv)) :
    ((wr.setCell ⟨w.heap.size + 1, 0, none⟩ vH).setCell ⟨w.heap.size + 1, 1, none⟩ vX).heap[w.heap.size + 1]? = some (.cells #[vH, vX] 47 (0, 0)) ∧
    ((wr.setCell ⟨w.heap.size + 1, 0, none⟩ vH).setCell ⟨w.heap.size + 1, 1, none⟩ vX).ownsRow w.heap.size 70 2 vH H.length (H.flatMap hpC) ∧
    ((wr.setCell ⟨w.heap.size + 1, 0, none⟩ vH).setCell ⟨w.heap.size + 1, 1, none⟩ vX).ownsRow w.heap.size 3 1 vX X.length (X.map tv) ∧
    St a w ((wr.setCell ⟨w.heap.size + 1, 0, none⟩ vH).setCell ⟨w.heap.size + 1, 1, none⟩ vX) := by
  have hst := grown_store2 wr (w.heap.size + 1) vH vX
  exact ⟨store2 h.rb, (own_other hH hst (by omega)).mono (by omega), (own_other hX hst (by omega)).mono (by omega), h.st.storeT hst (by omega) ha⟩
theorem row5 {w : World} {g : Nat} {x0 x1 x2 x3 x4 u0 u1 u2 u3 u4 : Value} {t : TypeId} (h : w.heap[g]? = some (.cells #[x0, x1, x2, x3, x4] t (0, 0))) :
    (((((w.setCell ⟨g, 0, none⟩ u0).setCell ⟨g, 1, none⟩ u1).setCell ⟨g, 2, none⟩ u2).setCell ⟨g, 3, none⟩ u3).setCell ⟨g, 4, none⟩ u4).heap[g]? = some (.cells #[u0, u1, u2, u3, u4] t (0, 0)) ∧
    w.grownBy (((((w.setCell ⟨g, 0, none⟩ u0).setCell ⟨g, 1, none⟩ u1).setCell ⟨g, 2, none⟩ u2).setCell ⟨g, 3, none⟩ u3).setCell ⟨g, 4, none⟩ u4) (some g) := by
  have h0 : TRow w g t [x0, x1, x2, x3, x4] := h
  have S : ∀ (u : World) (j : Nat) (x : Value), u.grownBy (u.setCell ⟨g, j, none⟩ x) (some g) := fun u j x => grown_setCell u ⟨g, j, none⟩ x
  exact ⟨(((((h0.set 0 u0).set 1 u1).set 2 u2).set 3 u3).set 4 u4), grown_trans (grown_trans (grown_trans (grown_trans (S _ _ _) (S _ _ _)) (S _ _ _)) (S _ _ _)) (S _ _ _)⟩
theorem FM.other {a g : Nat} {w wr w1 : World} {T : Tg} {q : Nat → Prop} (h : FM a w T q wr) (ha : a < w.heap.size) (k : wr.grownBy w1 (some g)) (hg : w.heap.size + 2 ≤ g) (hq : ∀ b, q b → b < g) : FM a w T q w1 :=
  ⟨kept_row h.tb k (fun e => by have := Option.some.inj e; omega), kept_row h.rb k (fun e => by have := Option.some.inj e; omega), h.t.grown k (fun b hb e => by have := hq b hb; have := Option.some.inj e; omega), h.st.storeT k (by omega) ha, Nat.le_trans h.sz k.size⟩
set_option maxRecDepth 100000 in
set_option maxHeartbeats 6400000 in
theorem fail_any (a : Nat) (T : Tg) (q : Nat → Prop) (w : World) (hT : TgOk w q T) (hq : ∀ b, q b → b ≠ a ∧ b < w.heap.size) (hp : Tp w a) :
    Calls Try.prog 29 #[.pointer (some ⟨a, 0, none⟩), .agg #[.slice T.pR T.R.length T.cR, .slice T.pL T.L.length T.cL]] w fun e w' => FlPost a 1 w e w' := by
  have ha := hp.lt
  have hmR := Nat.le_trans hT.cr.1 hT.cr.2
  have hmL := Nat.le_trans hT.cl.1 hT.cl.2
  obtain ⟨k1, k2, k3, _⟩ := two_boxes w #[.slice T.pR T.R.length T.cR, .slice T.pL T.L.length T.cL] #[.slice none 0 0, .slice none 0 0] 26 47
  have H0 : Hid (FM a w T q _) := Lib.hid ⟨k1, k2, hT.keep k3, ⟨grown_none k3 _, hp.keep k3⟩, by simp⟩
  have HQ : Hid (∀ b, q b → b ≠ a) := Lib.hid (fun b hb => (hq b hb).1)
  have HQ2 : Hid (∀ b, q b → b < w.heap.size) := Lib.hid (fun b hb => (hq b hb).2)
  clear k1 k2 k3 hT hp hq
  obtain ⟨R, L, pR, cR, pL, cL⟩ := T
  simp only at hmR hmL H0 ⊢
  go_enter Try.func29, Try.ntmps29
  go_upto_region 1 with fail
  generalize ((w.alloc _).alloc _) = wa at *
  obtain ⟨c0, c1⟩ := row_cells H0.out.tb
  go_cut [14] from 6 to 14 (fun bb wx => ∃ z, bb = .bool z ∧ Hid ((z = true → 0 < L.length) ∧ FM a w ⟨R, L, pR, cR, pL, cL⟩ q wx))
  case first =>
    by_cases hl : 0 < L.length
    · go_wp2_with fail
      refine (next_any a 3 (by unfold I64; omega) _ H0.out.st.2).mono ?_
      rintro e w5 ⟨x, rfl, -, hs⟩
      have H1 := Lib.hid (H0.out.tape ha HQ.out hs)
      clear hs H0
      go_wp2_with fail
      go_meet
      exact ⟨_, rfl, Lib.hid ⟨fun _ => hl, H1.out⟩⟩
    · have hl' : (L.length : Int) ≤ 0 := by omega
      clear hl
      go_wp2_with fail
      go_meet
      exact ⟨false, rfl, Lib.hid ⟨fun h => (by cases h), H0.out⟩⟩
  case rest =>
  obtain ⟨z, rfl, H1⟩ := hcut
  clear H0 c0 c1
  go_upto_if 14 with fail
  cases z
  · obtain ⟨c0, c1⟩ := row_cells H1.out.2.tb
    have f0 := frozen_of_row _ _ 0 _ _ H1.out.2.rb
    have f1 := frozen_of_row _ _ 1 _ _ H1.out.2.rb
    obtain ⟨d0, d1⟩ := row_cells H1.out.2.rb
    by_cases hr : 0 < R.length
    · have hr0 : ((R.length : Int) == 0) = false := by rw [beq_eq_false_iff_ne]; omega
      obtain ⟨-, b, off, rfl, hqb, -⟩ := rdr_cells (R := R) H1.out.2.t.r hr
      have H2 := Lib.hid H1.out.2
      go_upto_region 8 with fail
      clear c0 c1 H1
      refine region_until (S := fun w' => Hid (FM a w ⟨R, L, some ⟨b, off, none⟩, cR, pL, cL⟩ q w')) (fun j => j == 12) (by kernel_rfl) (Lib.hid (H2.out.keep (grown_drew (grown_refl _ _)))) (fun hHeld => ?_)
      refine anyU_take (i := 0) (oi := { dst := some 46, op := Op.fieldAddr 26 (Operand.tmp 3) 0, type := 0, pos := "make.go:448", after := #[], guard := none }) (v := ?_) rfl (by kernel_rfl) (by kernel_rfl) (by kernel_rfl) (by kernel_rfl) (by kernel_rfl) (fun _ _ _ h => h) (Or.inl ⟨by rfl, ?_⟩) hHeld ?_
      rotate_left 1
      · intro u hSu
        obtain ⟨q0, q1⟩ := row_cells hSu.out.tb
        go_simp
        first | done | with_reducible rfl
      (try simp only [Act.put, List.setIfInBounds_toArray, List.set_cons_zero, List.set_cons_succ])
      refine anyU_take (i := 1) (oi := { dst := some 47, op := Op.load 23 (Operand.tmp 46), type := 23, pos := "make.go:448", after := #[{ on := 0, ground := Ground.data }], guard := none }) (v := ?_) rfl (by kernel_rfl) (by kernel_rfl) (by kernel_rfl) (by kernel_rfl) (by kernel_rfl) (fun _ _ _ h => h) (Or.inl ⟨by rfl, ?_⟩) hHeld ?_
      rotate_left 1
      · intro u hSu
        obtain ⟨q0, q1⟩ := row_cells hSu.out.tb
        go_simp
        first | done | with_reducible rfl
      (try simp only [Act.put, List.setIfInBounds_toArray, List.set_cons_zero, List.set_cons_succ])
      refine anyU_take (i := 2) (oi := { dst := some 48, op := Op.move (Operand.tmp 0), type := 27, pos := "make.go:448", after := #[], guard := none }) (v := ?_) rfl (by kernel_rfl) (by kernel_rfl) (by kernel_rfl) (by kernel_rfl) (by kernel_rfl) (fun _ _ _ h => h) (Or.inl ⟨by rfl, ?_⟩) hHeld ?_
      rotate_left 1
      · intro u hSu
        obtain ⟨q0, q1⟩ := row_cells hSu.out.tb
        go_simp
        first | done | with_reducible rfl
      (try simp only [Act.put, List.setIfInBounds_toArray, List.set_cons_zero, List.set_cons_succ])
      refine anyU_take (i := 3) (oi := { dst := some 49, op := Op.fieldAddr 26 (Operand.tmp 3) 0, type := 0, pos := "make.go:448", after := #[], guard := none }) (v := ?_) rfl (by kernel_rfl) (by kernel_rfl) (by kernel_rfl) (by kernel_rfl) (by kernel_rfl) (fun _ _ _ h => h) (Or.inl ⟨by rfl, ?_⟩) hHeld ?_
      rotate_left 1
      · intro u hSu
        obtain ⟨q0, q1⟩ := row_cells hSu.out.tb
        go_simp
        first | done | with_reducible rfl
      (try simp only [Act.put, List.setIfInBounds_toArray, List.set_cons_zero, List.set_cons_succ])
      refine anyU_take (i := 4) (oi := { dst := some 50, op := Op.load 23 (Operand.tmp 49), type := 23, pos := "make.go:448", after := #[{ on := 3, ground := Ground.data }], guard := none }) (v := ?_) rfl (by kernel_rfl) (by kernel_rfl) (by kernel_rfl) (by kernel_rfl) (by kernel_rfl) (fun _ _ _ h => h) (Or.inl ⟨by rfl, ?_⟩) hHeld ?_
      rotate_left 1
      · intro u hSu
        obtain ⟨q0, q1⟩ := row_cells hSu.out.tb
        go_simp
        first | done | with_reducible rfl
      (try simp only [Act.put, List.setIfInBounds_toArray, List.set_cons_zero, List.set_cons_succ])
      refine anyU_take (i := 5) (oi := { dst := some 51, op := Op.call { callee := Callee.builtin Builtin.len, args := #[Operand.tmp 50], argTypes := #[23] }, type := 3, pos := "make.go:448", after := #[{ on := 4, ground := Ground.data }], guard := none }) (v := ?_) rfl (by kernel_rfl) (by kernel_rfl) (by kernel_rfl) (by kernel_rfl) (by kernel_rfl) (fun _ _ _ h => h) (Or.inl ⟨by rfl, ?_⟩) hHeld ?_
      rotate_left 1
      · intro u hSu
        obtain ⟨q0, q1⟩ := row_cells hSu.out.tb
        go_simp
        first | done | with_reducible rfl
      (try simp only [Act.put, List.setIfInBounds_toArray, List.set_cons_zero, List.set_cons_succ])
      refine anyU_ready (rs := [6]) (by kernel_rfl) (by simp) ?_
      refine EachU.cons (o := { dst := some 52, op := Op.call { callee := Callee.value (Operand.func 17), args := #[Operand.tmp 48, Operand.tmp 51], argTypes := #[27, 3] }, type := 3, pos := "make.go:448", after := #[{ on := 2, ground := Ground.data }, { on := 5, ground := Ground.data }], guard := none }) rfl (fun Kz hK => ?_) EachU.nil
      go_simp
      go_at_call 17
      refine (next_any a R.length (by unfold I64; omega) _ hHeld.out.st.2).mono ?_
      rintro e w5 ⟨y, rfl, hy, hs⟩
      obtain ⟨i, rfl⟩ := Int.eq_ofNat_of_zero_le hy.1
      have hi : i < R.length := by have := hy.2.1 (by omega); omega
      have H5n := Lib.hid (hHeld.out.tape ha HQ.out hs)
      clear hy hs
      have i0 : (0 : Int) ≤ (i : Int) := by omega
      have i1 : (i : Int) < (R.length : Int) := by omega
      obtain ⟨m, hm⟩ : ∃ m, R[i]? = some m := ⟨_, List.getElem?_eq_getElem hi⟩
      have HM := Lib.hid hm
      clear hm
      refine hK.out _ _ (fun _ => H5n) (fun hH2 => ?_)
      clear hK Kz hHeld
      have hHeld := hH2 rfl
      clear hH2
      (try simp only [Act.put, List.setIfInBounds_toArray, List.set_cons_zero, List.set_cons_succ])
      refine anyU_take (i := 7) (oi := { dst := some 53, op := Op.indexAddr 23 (Operand.tmp 47) (Operand.tmp 52), type := 0, pos := "make.go:448", after := #[{ on := 1, ground := Ground.data }, { on := 6, ground := Ground.data }], guard := none }) (v := ?_) rfl (by kernel_rfl) (by kernel_rfl) (by kernel_rfl) (by kernel_rfl) (by kernel_rfl) (fun _ _ _ h => h) (Or.inl ⟨by rfl, ?_⟩) hHeld ?_
      rotate_left 1
      · intro u hSu
        obtain ⟨q0, q1⟩ := row_cells hSu.out.tb
        go_simp
        first | done | with_reducible rfl
      (try simp only [Act.put, List.setIfInBounds_toArray, List.set_cons_zero, List.set_cons_succ])
      refine anyU_take (i := 8) (oi := { dst := some 54, op := Op.fieldAddr 73 (Operand.tmp 53) 0, type := 0, pos := "make.go:448", after := #[{ on := 7, ground := Ground.data }], guard := none }) (v := ?_) rfl (by kernel_rfl) (by kernel_rfl) (by kernel_rfl) (by kernel_rfl) (by kernel_rfl) (fun _ _ _ h => h) (Or.inl ⟨by rfl, ?_⟩) hHeld ?_
      rotate_left 1
      · intro u hSu
        obtain ⟨q0, q1⟩ := row_cells hSu.out.tb
        go_simp
        first | done | with_reducible rfl
      (try simp only [Act.put, List.setIfInBounds_toArray, List.set_cons_zero, List.set_cons_succ])
      refine anyU_take (i := 9) (oi := { dst := some 55, op := Op.load 3 (Operand.tmp 54), type := 3, pos := "make.go:448", after := #[{ on := 8, ground := Ground.data }], guard := none }) (v := ?_) rfl (by kernel_rfl) (by kernel_rfl) (by kernel_rfl) (by kernel_rfl) (by kernel_rfl) (fun _ _ _ h => h) (Or.inl ⟨by rfl, ?_⟩) hHeld ?_
      rotate_left 1
      · intro u hSu
        obtain ⟨q0, q1⟩ := row_cells hSu.out.tb
        obtain ⟨e0, e1⟩ := hSu.out.rt HM.out
        go_simp
        first | done | with_reducible rfl
      (try simp only [Act.put, List.setIfInBounds_toArray, List.set_cons_zero, List.set_cons_succ])
      refine anyU_ready (rs := [10]) (by kernel_rfl) (by simp) ?_
      refine EachU.cons (o := { dst := some 56, op := Op.buildSlice 22 1 #[(0, Operand.tmp 55)], type := 22, pos := "make.go:448", after := #[{ on := 9, ground := Ground.data }], guard := none }) rfl (fun Kz hK => ?_) EachU.nil
      have H8 := hHeld
      go_simp
      refine hK.out _ _ (fun _ => Lib.hid (hHeld.out.keep (World.grownBy_alloc _ _ none))) (fun hH2 => ?_)
      clear hK Kz hHeld
      have hHeld := hH2 rfl
      clear hH2
      (try simp only [Act.put, List.setIfInBounds_toArray, List.set_cons_zero, List.set_cons_succ])
      refine anyU_take (i := 11) (oi := { dst := some 57, op := Op.build 47 #[(1, Operand.tmp 56)], type := 47, pos := "make.go:448", after := #[{ on := 10, ground := Ground.data }], guard := none }) (v := ?_) rfl (by kernel_rfl) (by kernel_rfl) (by kernel_rfl) (by kernel_rfl) (by kernel_rfl) (fun _ _ _ h => h) (Or.inl ⟨by rfl, ?_⟩) hHeld ?_
      rotate_left 1
      · intro u hSu
        obtain ⟨q0, q1⟩ := row_cells hSu.out.tb
        go_simp
        first | done | with_reducible rfl
      (try simp only [Act.put, List.setIfInBounds_toArray, List.set_cons_zero, List.set_cons_succ])
      refine anyU_ready (rs := [12]) (by kernel_rfl) (by simp) ?_
      refine EachU.cons (o := { dst := none, op := Op.store 47 (Operand.tmp 4) (Operand.tmp 57), type := 0, pos := "make.go:448", after := #[{ on := 11, ground := Ground.data }, { on := 6, ground := Ground.chain }, { on := 0, ground := Ground.phase }, { on := 1, ground := Ground.phase }, { on := 2, ground := Ground.phase }, { on := 3, ground := Ground.phase }, { on := 4, ground := Ground.phase }, { on := 5, ground := Ground.phase }, { on := 6, ground := Ground.phase }, { on := 7, ground := Ground.phase }, { on := 8, ground := Ground.phase }, { on := 9, ground := Ground.phase }, { on := 10, ground := Ground.phase }, { on := 11, ground := Ground.phase }], guard := none }) rfl (fun Kz hK => ?_) EachU.nil
      have cc := row_cells hHeld.out.rb
      have c90 := cc.1
      have c91 := cc.2
      have fB := frozen_of_row _ _ 0 _ _ hHeld.out.rb
      have fC := frozen_of_row _ _ 1 _ _ hHeld.out.rb
      clear cc
      go_simp
      refine hK.out _ _ (fun h => by cases h) (fun _ => ?_)
      clear hK Kz
      (try simp only [Act.put, List.setIfInBounds_toArray, List.set_cons_zero, List.set_cons_succ])
      refine anyU_done (by kernel_rfl) ?_ _
      have hlit := World.ownsRow_lit (size := 1) w5 #[.int .i64 m.id] 1 (H8.out.sz) (by decide) (by rfl) (e := 3)
      have H9 := Lib.hid ((H8.out.keep (World.grownBy_alloc w5 (.cells #[.int .i64 m.id] 3) none)).fin (H := []) (X := [m.id]) ha (World.ownsRow_nil _ _ _ _) hlit)
      clear hlit hHeld H8 c90 c91 fB fC
      go_wp2_with fail
      refine bodyPost_ret (res_fail rfl _ _ (w.heap.size + 1) _ _ rfl H9.out.1) rfl ?_
      exact ⟨[], [m.id], _, _, rfl, H9.out.2.1, H9.out.2.2.1, fun g hg => (by cases hg), ⟨by simp, by simp⟩, H9.out.2.2.2⟩
    · have hr0 : ((R.length : Int) == 0) = true := by rw [beq_iff_eq]; omega
      have HZ := Lib.hid (H1.out.2.fin (vH := .slice none 0 0) (vX := .slice none 0 0) (H := []) (X := []) ha (World.ownsRow_nil _ _ _ _) (World.ownsRow_nil _ _ _ _))
      clear H1
      go_wp2_with fail
      refine bodyPost_ret (res_fail rfl _ _ (w.heap.size + 1) _ _ rfl HZ.out.1) rfl ?_
      exact ⟨[], [], _, _, rfl, HZ.out.2.1, HZ.out.2.2.1, fun g hg => (by cases hg), ⟨by simp, by simp⟩, HZ.out.2.2.2⟩
  · have hl := H1.out.1 rfl
    obtain ⟨-, b, off, rfl, hqb, -⟩ := rdl_cells (L := L) H1.out.2.t.l hl
    have H2 := Lib.hid H1.out.2
    have hmem : ∀ (wz : World) (B5 : Nat) (m : Lk), Hid (wz.heap[B5]? = some (.cells #[.int .i64 m.a, .int .i64 m.b, .int .i64 m.ca, .int .i64 m.cb, .int .i64 m.cp] 68 (0, 0)) ∧ FM a w ⟨R, L, pR, cR, some ⟨b, off, none⟩, cL⟩ q wz) → True := fun _ _ _ _ => trivial
    clear hmem H1
    go_upto_region 2 with fail
    refine region_until (S := fun w' => Hid (FM a w ⟨R, L, pR, cR, some ⟨b, off, none⟩, cL⟩ q w')) (fun j => j == 10) (by kernel_rfl) (Lib.hid (H2.out.keep (grown_drew (grown_refl _ _)))) (fun hHeld => ?_)
    refine anyU_take (i := 0) (oi := { dst := some 15, op := Op.fieldAddr 26 (Operand.tmp 3) 1, type := 0, pos := "make.go:439", after := #[], guard := none }) (v := ?_) rfl (by kernel_rfl) (by kernel_rfl) (by kernel_rfl) (by kernel_rfl) (by kernel_rfl) (fun _ _ _ h => h) (Or.inl ⟨by rfl, ?_⟩) hHeld ?_
    rotate_left 1
    · intro u hSu
      obtain ⟨q0, q1⟩ := row_cells hSu.out.tb
      go_simp
      first | done | with_reducible rfl
    (try simp only [Act.put, List.setIfInBounds_toArray, List.set_cons_zero, List.set_cons_succ])
    refine anyU_take (i := 1) (oi := { dst := some 16, op := Op.load 24 (Operand.tmp 15), type := 24, pos := "make.go:439", after := #[{ on := 0, ground := Ground.data }], guard := none }) (v := ?_) rfl (by kernel_rfl) (by kernel_rfl) (by kernel_rfl) (by kernel_rfl) (by kernel_rfl) (fun _ _ _ h => h) (Or.inl ⟨by rfl, ?_⟩) hHeld ?_
    rotate_left 1
    · intro u hSu
      obtain ⟨q0, q1⟩ := row_cells hSu.out.tb
      go_simp
      first | done | with_reducible rfl
    (try simp only [Act.put, List.setIfInBounds_toArray, List.set_cons_zero, List.set_cons_succ])
    refine anyU_take (i := 2) (oi := { dst := some 17, op := Op.move (Operand.tmp 0), type := 27, pos := "make.go:439", after := #[], guard := none }) (v := ?_) rfl (by kernel_rfl) (by kernel_rfl) (by kernel_rfl) (by kernel_rfl) (by kernel_rfl) (fun _ _ _ h => h) (Or.inl ⟨by rfl, ?_⟩) hHeld ?_
    rotate_left 1
    · intro u hSu
      obtain ⟨q0, q1⟩ := row_cells hSu.out.tb
      go_simp
      first | done | with_reducible rfl
    (try simp only [Act.put, List.setIfInBounds_toArray, List.set_cons_zero, List.set_cons_succ])
    refine anyU_take (i := 3) (oi := { dst := some 18, op := Op.fieldAddr 26 (Operand.tmp 3) 1, type := 0, pos := "make.go:439", after := #[], guard := none }) (v := ?_) rfl (by kernel_rfl) (by kernel_rfl) (by kernel_rfl) (by kernel_rfl) (by kernel_rfl) (fun _ _ _ h => h) (Or.inl ⟨by rfl, ?_⟩) hHeld ?_
    rotate_left 1
    · intro u hSu
      obtain ⟨q0, q1⟩ := row_cells hSu.out.tb
      go_simp
      first | done | with_reducible rfl
    (try simp only [Act.put, List.setIfInBounds_toArray, List.set_cons_zero, List.set_cons_succ])
    refine anyU_take (i := 4) (oi := { dst := some 19, op := Op.load 24 (Operand.tmp 18), type := 24, pos := "make.go:439", after := #[{ on := 3, ground := Ground.data }], guard := none }) (v := ?_) rfl (by kernel_rfl) (by kernel_rfl) (by kernel_rfl) (by kernel_rfl) (by kernel_rfl) (fun _ _ _ h => h) (Or.inl ⟨by rfl, ?_⟩) hHeld ?_
    rotate_left 1
    · intro u hSu
      obtain ⟨q0, q1⟩ := row_cells hSu.out.tb
      go_simp
      first | done | with_reducible rfl
    (try simp only [Act.put, List.setIfInBounds_toArray, List.set_cons_zero, List.set_cons_succ])
    refine anyU_take (i := 5) (oi := { dst := some 20, op := Op.call { callee := Callee.builtin Builtin.len, args := #[Operand.tmp 19], argTypes := #[24] }, type := 3, pos := "make.go:439", after := #[{ on := 4, ground := Ground.data }], guard := none }) (v := ?_) rfl (by kernel_rfl) (by kernel_rfl) (by kernel_rfl) (by kernel_rfl) (by kernel_rfl) (fun _ _ _ h => h) (Or.inl ⟨by rfl, ?_⟩) hHeld ?_
    rotate_left 1
    · intro u hSu
      obtain ⟨q0, q1⟩ := row_cells hSu.out.tb
      go_simp
      first | done | with_reducible rfl
    (try simp only [Act.put, List.setIfInBounds_toArray, List.set_cons_zero, List.set_cons_succ])
    refine anyU_ready (rs := [6, 9]) (by kernel_rfl) (by simp) ?_
    refine EachU.cons (o := { dst := some 21, op := Op.call { callee := Callee.value (Operand.func 17), args := #[Operand.tmp 17, Operand.tmp 20], argTypes := #[27, 3] }, type := 3, pos := "make.go:439", after := #[{ on := 2, ground := Ground.data }, { on := 5, ground := Ground.data }], guard := none }) rfl (fun Kz hK => ?_) (EachU.cons (o := { dst := some 5, op := Op.alloc 68, type := 0, pos := "make.go:439", after := #[], guard := none }) rfl (fun Kz hK => ?_) EachU.nil)
    · go_simp
      go_at_call 17
      refine (next_any a L.length (by unfold I64; omega) _ hHeld.out.st.2).mono ?_
      rintro e w5 ⟨y, rfl, hy, hs⟩
      obtain ⟨i, rfl⟩ := Int.eq_ofNat_of_zero_le hy.1
      have hi : i < L.length := by have := hy.2.1 (by omega); omega
      have H5n := Lib.hid (hHeld.out.tape ha HQ.out hs)
      first | (have HB9 : Hid (w5.heap[wc.heap.size]? = some (.cells #[.int .i64 0, .int .i64 0, .int .i64 0, .int .i64 0, .int .i64 0] 68 (0, 0))) := Lib.hid (kept_row (heap_alloc_new wc.drew (.cells #[.int .i64 0, .int .i64 0, .int .i64 0, .int .i64 0, .int .i64 0] 68)) hs.1 (fun e => by have h1 := Option.some.inj e; have h2 := HA9.out.sz; have h3 : wc.drew.heap.size = wc.heap.size := rfl; omega))) | skip
      clear hy hs
      have i0 : (0 : Int) ≤ (i : Int) := by omega
      have i1 : (i : Int) < (L.length : Int) := by omega
      obtain ⟨m, hm⟩ : ∃ m, L[i]? = some m := ⟨_, List.getElem?_eq_getElem hi⟩
      have HM := Lib.hid hm
      clear hm
      refine hK.out _ _ (fun _ => H5n) (fun hH2 => ?_)
      clear hK Kz hHeld
      have hHeld := hH2 rfl
      clear hH2
      (try simp only [Act.put, List.setIfInBounds_toArray, List.set_cons_zero, List.set_cons_succ])
      refine anyU_take (i := 7) (oi := { dst := some 22, op := Op.indexAddr 24 (Operand.tmp 16) (Operand.tmp 21), type := 0, pos := "make.go:439", after := #[{ on := 1, ground := Ground.data }, { on := 6, ground := Ground.data }], guard := none }) (v := ?_) rfl (by kernel_rfl) (by kernel_rfl) (by kernel_rfl) (by kernel_rfl) (by kernel_rfl) (fun _ _ _ h => h) (Or.inl ⟨by rfl, ?_⟩) hHeld ?_
      rotate_left 1
      · intro u hSu
        obtain ⟨q0, q1⟩ := row_cells hSu.out.tb
        go_simp
        first | done | with_reducible rfl
      (try simp only [Act.put, List.setIfInBounds_toArray, List.set_cons_zero, List.set_cons_succ])
      refine anyU_take (i := 8) (oi := { dst := some 23, op := Op.load 68 (Operand.tmp 22), type := 68, pos := "make.go:439", after := #[{ on := 7, ground := Ground.data }], guard := none }) (v := ?_) rfl (by kernel_rfl) (by kernel_rfl) (by kernel_rfl) (by kernel_rfl) (by kernel_rfl) (fun _ _ _ h => h) (Or.inl ⟨by rfl, ?_⟩) hHeld ?_
      rotate_left 1
      · intro u hSu
        obtain ⟨q0, q1⟩ := row_cells hSu.out.tb
        obtain ⟨e0, e1, e2, e3, e4⟩ := hSu.out.lk HM.out
        go_simp
        first | done | with_reducible rfl
      (try simp only [Act.put, List.setIfInBounds_toArray, List.set_cons_zero, List.set_cons_succ])
      refine anyU_ready (rs := [9]) (by kernel_rfl) (by simp) ?_
      refine EachU.cons (o := { dst := some 5, op := Op.alloc 68, type := 0, pos := "make.go:439", after := #[], guard := none }) rfl (fun Kz hK => ?_) EachU.nil
      have HA9 := hHeld
      go_simp
      refine hK.out _ _ (fun _ => Lib.hid (hHeld.out.keep (World.grownBy_alloc _ _ none))) (fun hH2 => ?_)
      clear hK Kz hHeld
      have hHeld := hH2 rfl
      clear hH2
      (try simp only [Act.put, List.setIfInBounds_toArray, List.set_cons_zero, List.set_cons_succ])
      refine anyU_ready (rs := [10]) (by kernel_rfl) (by simp) ?_
      refine EachU.cons (o := { dst := none, op := Op.store 68 (Operand.tmp 5) (Operand.tmp 23), type := 0, pos := "make.go:439", after := #[{ on := 9, ground := Ground.data }, { on := 8, ground := Ground.data }, { on := 6, ground := Ground.chain }, { on := 0, ground := Ground.phase }, { on := 1, ground := Ground.phase }, { on := 2, ground := Ground.phase }, { on := 3, ground := Ground.phase }, { on := 4, ground := Ground.phase }, { on := 5, ground := Ground.phase }, { on := 6, ground := Ground.phase }, { on := 7, ground := Ground.phase }, { on := 8, ground := Ground.phase }, { on := 9, ground := Ground.phase }], guard := none }) rfl (fun Kz hK => ?_) EachU.nil
      first | (have lz := lk_facts (l := ⟨0, 0, 0, 0, 0⟩) HB9.out; have z0 := lz.1; have z1 := lz.2.1; have z2 := lz.2.2.1; have z3 := lz.2.2.2.1; have z4 := lz.2.2.2.2; clear lz; have y0 := frozen_of_row _ _ 0 _ _ HB9.out; have y1 := frozen_of_row _ _ 1 _ _ HB9.out; have y2 := frozen_of_row _ _ 2 _ _ HB9.out; have y3 := frozen_of_row _ _ 3 _ _ HB9.out; have y4 := frozen_of_row _ _ 4 _ _ HB9.out) | skip
      go_simp
      refine hK.out _ _ (fun h => by cases h) (fun _ => ?_)
      clear hK Kz
      (try simp only [Act.put, List.setIfInBounds_toArray, List.set_cons_zero, List.set_cons_succ])
      refine anyU_done (by kernel_rfl) ?_ _
      first | (have H9 := Lib.hid (And.intro (row5 (u0 := .int .i64 m.a) (u1 := .int .i64 m.b) (u2 := .int .i64 m.ca) (u3 := .int .i64 m.cb) (u4 := .int .i64 m.cp) HB9.out).1 (hHeld.out.other ha (row5 (u0 := .int .i64 m.a) (u1 := .int .i64 m.b) (u2 := .int .i64 m.ca) (u3 := .int .i64 m.cb) (u4 := .int .i64 m.cp) HB9.out).2 HA9.out.sz (fun b hb => Nat.lt_of_lt_of_le (HQ2.out b hb) (Nat.le_trans (by omega) HA9.out.sz)))); have HB5 : Hid (a < wc.heap.size) := Lib.hid (Nat.lt_of_lt_of_le ha (Nat.le_trans (by omega) HA9.out.sz))) | (have H9 := Lib.hid (And.intro (heap_alloc_new w5 (.cells #[.int .i64 m.a, .int .i64 m.b, .int .i64 m.ca, .int .i64 m.cb, .int .i64 m.cp] 68)) (HA9.out.keep (World.grownBy_alloc w5 (.cells #[.int .i64 m.a, .int .i64 m.b, .int .i64 m.ca, .int .i64 m.cb, .int .i64 m.cp] 68) none))); have HB5 : Hid (a < w5.heap.size) := Lib.hid (Nat.lt_of_lt_of_le ha (Nat.le_trans (by omega) HA9.out.sz)))
      clear hHeld HA9
      try clear z0 z1 z2 z3 z4 y0 y1 y2 y3 y4
      try clear HB9
      have f0 := frozen_of_row _ _ 0 _ _ H9.out.2.rb
      obtain ⟨l0, l1, l2, l3, l4⟩ := lk_facts H9.out.1
      go_wp2_with fail
      refine (next_any a 2 (by unfold I64; omega) _ H9.out.2.st.2).mono ?_
      rintro e w6 ⟨yy, rfl, hy, hs⟩
      have H10 := Lib.hid (H9.out.2.tape ha HQ.out hs)
      have HLK := Lib.hid (kept_row H9.out.1 hs.1 (fun e => by have := Option.some.inj e; have := HB5.out; omega))
      clear hs H9 l0 l1 l2 l3 l4 f0
      obtain ⟨l0, l1, l2, l3, l4⟩ := lk_facts HLK.out
      obtain ⟨d0, d1⟩ := row_cells H10.out.rb
      have f0 := frozen_of_row _ _ 0 _ _ H10.out.rb
      have f1 := frozen_of_row _ _ 1 _ _ H10.out.rb
      by_cases hy0 : yy = 0
      · have hy1 : (yy == 0) = true := by simpa using hy0
        clear hy0 hy
        have HK := H10.out.keep (World.grownBy_alloc w6 (.cells #[.int .i64 m.b, .int .i64 m.a] 70) none)
        obtain ⟨A0, A1⟩ := row_cells HK.rb
        have B0 := frozen_of_row _ _ 0 _ _ HK.rb
        have B1 := frozen_of_row _ _ 1 _ _ HK.rb
        clear HK
        have hlit := World.ownsRow_lit (size := 2) w6 #[.int .i64 m.b, .int .i64 m.a] 1 (H10.out.sz) (by decide) (by rfl) (e := 70)
        have H11 := Lib.hid ((H10.out.keep (World.grownBy_alloc w6 (.cells #[.int .i64 m.b, .int .i64 m.a] 70) none)).fin (H := [⟨m.b, m.a⟩]) (X := []) ha hlit (World.ownsRow_nil _ _ _ _))
        clear hlit H10 HLK
        go_wp2_with fail
        refine bodyPost_ret (res_fail rfl _ _ (w.heap.size + 1) _ _ rfl H11.out.1) rfl ?_
        exact ⟨[⟨m.b, m.a⟩], [], _, _, rfl, H11.out.2.1, H11.out.2.2.1, fun g _ hg => (by cases hg), ⟨by simp, by simp⟩, H11.out.2.2.2⟩
      · have hy1 : (yy == 0) = false := by simpa using hy0
        clear hy0 hy
        have HK := H10.out.keep (World.grownBy_alloc w6 (.cells #[.int .i64 m.a, .int .i64 m.b] 70) none)
        obtain ⟨A0, A1⟩ := row_cells HK.rb
        have B0 := frozen_of_row _ _ 0 _ _ HK.rb
        have B1 := frozen_of_row _ _ 1 _ _ HK.rb
        clear HK
        have hlit := World.ownsRow_lit (size := 2) w6 #[.int .i64 m.a, .int .i64 m.b] 1 (H10.out.sz) (by decide) (by rfl) (e := 70)
        have H11 := Lib.hid ((H10.out.keep (World.grownBy_alloc w6 (.cells #[.int .i64 m.a, .int .i64 m.b] 70) none)).fin (H := [⟨m.a, m.b⟩]) (X := []) ha hlit (World.ownsRow_nil _ _ _ _))
        clear hlit H10 HLK
        go_wp2_with fail
        refine bodyPost_ret (res_fail rfl _ _ (w.heap.size + 1) _ _ rfl H11.out.1) rfl ?_
        exact ⟨[⟨m.a, m.b⟩], [], _, _, rfl, H11.out.2.1, H11.out.2.2.1, fun g _ hg => (by cases hg), ⟨by simp, by simp⟩, H11.out.2.2.2⟩
    · have HA9 := hHeld
      go_simp
      refine hK.out _ _ (fun _ => Lib.hid (hHeld.out.keep (World.grownBy_alloc _ _ none))) (fun hH2 => ?_)
      clear hK Kz hHeld
      have hHeld := hH2 rfl
      clear hH2
      (try simp only [Act.put, List.setIfInBounds_toArray, List.set_cons_zero, List.set_cons_succ])
      refine anyU_ready (rs := [6]) (by kernel_rfl) (by simp) ?_
      refine EachU.cons (o := { dst := some 21, op := Op.call { callee := Callee.value (Operand.func 17), args := #[Operand.tmp 17, Operand.tmp 20], argTypes := #[27, 3] }, type := 3, pos := "make.go:439", after := #[{ on := 2, ground := Ground.data }, { on := 5, ground := Ground.data }], guard := none }) rfl (fun Kz hK => ?_) EachU.nil
      go_simp
      go_at_call 17
      refine (next_any a L.length (by unfold I64; omega) _ hHeld.out.st.2).mono ?_
      rintro e w5 ⟨y, rfl, hy, hs⟩
      obtain ⟨i, rfl⟩ := Int.eq_ofNat_of_zero_le hy.1
      have hi : i < L.length := by have := hy.2.1 (by omega); omega
      have H5n := Lib.hid (hHeld.out.tape ha HQ.out hs)
      first | (have HB9 : Hid (w5.heap[wc.heap.size]? = some (.cells #[.int .i64 0, .int .i64 0, .int .i64 0, .int .i64 0, .int .i64 0] 68 (0, 0))) := Lib.hid (kept_row (heap_alloc_new wc.drew (.cells #[.int .i64 0, .int .i64 0, .int .i64 0, .int .i64 0, .int .i64 0] 68)) hs.1 (fun e => by have h1 := Option.some.inj e; have h2 := HA9.out.sz; have h3 : wc.drew.heap.size = wc.heap.size := rfl; omega))) | skip
      clear hy hs
      have i0 : (0 : Int) ≤ (i : Int) := by omega
      have i1 : (i : Int) < (L.length : Int) := by omega
      obtain ⟨m, hm⟩ : ∃ m, L[i]? = some m := ⟨_, List.getElem?_eq_getElem hi⟩
      have HM := Lib.hid hm
      clear hm
      refine hK.out _ _ (fun _ => H5n) (fun hH2 => ?_)
      clear hK Kz hHeld
      have hHeld := hH2 rfl
      clear hH2
      (try simp only [Act.put, List.setIfInBounds_toArray, List.set_cons_zero, List.set_cons_succ])
      refine anyU_take (i := 7) (oi := { dst := some 22, op := Op.indexAddr 24 (Operand.tmp 16) (Operand.tmp 21), type := 0, pos := "make.go:439", after := #[{ on := 1, ground := Ground.data }, { on := 6, ground := Ground.data }], guard := none }) (v := ?_) rfl (by kernel_rfl) (by kernel_rfl) (by kernel_rfl) (by kernel_rfl) (by kernel_rfl) (fun _ _ _ h => h) (Or.inl ⟨by rfl, ?_⟩) hHeld ?_
      rotate_left 1
      · intro u hSu
        obtain ⟨q0, q1⟩ := row_cells hSu.out.tb
        go_simp
        first | done | with_reducible rfl
      (try simp only [Act.put, List.setIfInBounds_toArray, List.set_cons_zero, List.set_cons_succ])
      refine anyU_take (i := 8) (oi := { dst := some 23, op := Op.load 68 (Operand.tmp 22), type := 68, pos := "make.go:439", after := #[{ on := 7, ground := Ground.data }], guard := none }) (v := ?_) rfl (by kernel_rfl) (by kernel_rfl) (by kernel_rfl) (by kernel_rfl) (by kernel_rfl) (fun _ _ _ h => h) (Or.inl ⟨by rfl, ?_⟩) hHeld ?_
      rotate_left 1
      · intro u hSu
        obtain ⟨q0, q1⟩ := row_cells hSu.out.tb
        obtain ⟨e0, e1, e2, e3, e4⟩ := hSu.out.lk HM.out
        go_simp
        first | done | with_reducible rfl
      (try simp only [Act.put, List.setIfInBounds_toArray, List.set_cons_zero, List.set_cons_succ])
      refine anyU_ready (rs := [10]) (by kernel_rfl) (by simp) ?_
      refine EachU.cons (o := { dst := none, op := Op.store 68 (Operand.tmp 5) (Operand.tmp 23), type := 0, pos := "make.go:439", after := #[{ on := 9, ground := Ground.data }, { on := 8, ground := Ground.data }, { on := 6, ground := Ground.chain }, { on := 0, ground := Ground.phase }, { on := 1, ground := Ground.phase }, { on := 2, ground := Ground.phase }, { on := 3, ground := Ground.phase }, { on := 4, ground := Ground.phase }, { on := 5, ground := Ground.phase }, { on := 6, ground := Ground.phase }, { on := 7, ground := Ground.phase }, { on := 8, ground := Ground.phase }, { on := 9, ground := Ground.phase }], guard := none }) rfl (fun Kz hK => ?_) EachU.nil
      first | (have lz := lk_facts (l := ⟨0, 0, 0, 0, 0⟩) HB9.out; have z0 := lz.1; have z1 := lz.2.1; have z2 := lz.2.2.1; have z3 := lz.2.2.2.1; have z4 := lz.2.2.2.2; clear lz; have y0 := frozen_of_row _ _ 0 _ _ HB9.out; have y1 := frozen_of_row _ _ 1 _ _ HB9.out; have y2 := frozen_of_row _ _ 2 _ _ HB9.out; have y3 := frozen_of_row _ _ 3 _ _ HB9.out; have y4 := frozen_of_row _ _ 4 _ _ HB9.out) | skip
      go_simp
      refine hK.out _ _ (fun h => by cases h) (fun _ => ?_)
      clear hK Kz
      (try simp only [Act.put, List.setIfInBounds_toArray, List.set_cons_zero, List.set_cons_succ])
      refine anyU_done (by kernel_rfl) ?_ _
      first | (have H9 := Lib.hid (And.intro (row5 (u0 := .int .i64 m.a) (u1 := .int .i64 m.b) (u2 := .int .i64 m.ca) (u3 := .int .i64 m.cb) (u4 := .int .i64 m.cp) HB9.out).1 (hHeld.out.other ha (row5 (u0 := .int .i64 m.a) (u1 := .int .i64 m.b) (u2 := .int .i64 m.ca) (u3 := .int .i64 m.cb) (u4 := .int .i64 m.cp) HB9.out).2 HA9.out.sz (fun b hb => Nat.lt_of_lt_of_le (HQ2.out b hb) (Nat.le_trans (by omega) HA9.out.sz)))); have HB5 : Hid (a < wc.heap.size) := Lib.hid (Nat.lt_of_lt_of_le ha (Nat.le_trans (by omega) HA9.out.sz))) | (have H9 := Lib.hid (And.intro (heap_alloc_new w5 (.cells #[.int .i64 m.a, .int .i64 m.b, .int .i64 m.ca, .int .i64 m.cb, .int .i64 m.cp] 68)) (HA9.out.keep (World.grownBy_alloc w5 (.cells #[.int .i64 m.a, .int .i64 m.b, .int .i64 m.ca, .int .i64 m.cb, .int .i64 m.cp] 68) none))); have HB5 : Hid (a < w5.heap.size) := Lib.hid (Nat.lt_of_lt_of_le ha (Nat.le_trans (by omega) HA9.out.sz)))
      clear hHeld HA9
      try clear z0 z1 z2 z3 z4 y0 y1 y2 y3 y4
      try clear HB9
      have f0 := frozen_of_row _ _ 0 _ _ H9.out.2.rb
      obtain ⟨l0, l1, l2, l3, l4⟩ := lk_facts H9.out.1
      go_wp2_with fail
      refine (next_any a 2 (by unfold I64; omega) _ H9.out.2.st.2).mono ?_
      rintro e w6 ⟨yy, rfl, hy, hs⟩
      have H10 := Lib.hid (H9.out.2.tape ha HQ.out hs)
      have HLK := Lib.hid (kept_row H9.out.1 hs.1 (fun e => by have := Option.some.inj e; have := HB5.out; omega))
      clear hs H9 l0 l1 l2 l3 l4 f0
      obtain ⟨l0, l1, l2, l3, l4⟩ := lk_facts HLK.out
      obtain ⟨d0, d1⟩ := row_cells H10.out.rb
      have f0 := frozen_of_row _ _ 0 _ _ H10.out.rb
      have f1 := frozen_of_row _ _ 1 _ _ H10.out.rb
      by_cases hy0 : yy = 0
      · have hy1 : (yy == 0) = true := by simpa using hy0
        clear hy0 hy
        have HK := H10.out.keep (World.grownBy_alloc w6 (.cells #[.int .i64 m.b, .int .i64 m.a] 70) none)
        obtain ⟨A0, A1⟩ := row_cells HK.rb
        have B0 := frozen_of_row _ _ 0 _ _ HK.rb
        have B1 := frozen_of_row _ _ 1 _ _ HK.rb
        clear HK
        have hlit := World.ownsRow_lit (size := 2) w6 #[.int .i64 m.b, .int .i64 m.a] 1 (H10.out.sz) (by decide) (by rfl) (e := 70)
        have H11 := Lib.hid ((H10.out.keep (World.grownBy_alloc w6 (.cells #[.int .i64 m.b, .int .i64 m.a] 70) none)).fin (H := [⟨m.b, m.a⟩]) (X := []) ha hlit (World.ownsRow_nil _ _ _ _))
        clear hlit H10 HLK
        go_wp2_with fail
        refine bodyPost_ret (res_fail rfl _ _ (w.heap.size + 1) _ _ rfl H11.out.1) rfl ?_
        exact ⟨[⟨m.b, m.a⟩], [], _, _, rfl, H11.out.2.1, H11.out.2.2.1, fun g _ hg => (by cases hg), ⟨by simp, by simp⟩, H11.out.2.2.2⟩
      · have hy1 : (yy == 0) = false := by simpa using hy0
        clear hy0 hy
        have HK := H10.out.keep (World.grownBy_alloc w6 (.cells #[.int .i64 m.a, .int .i64 m.b] 70) none)
        obtain ⟨A0, A1⟩ := row_cells HK.rb
        have B0 := frozen_of_row _ _ 0 _ _ HK.rb
        have B1 := frozen_of_row _ _ 1 _ _ HK.rb
        clear HK
        have hlit := World.ownsRow_lit (size := 2) w6 #[.int .i64 m.a, .int .i64 m.b] 1 (H10.out.sz) (by decide) (by rfl) (e := 70)
        have H11 := Lib.hid ((H10.out.keep (World.grownBy_alloc w6 (.cells #[.int .i64 m.a, .int .i64 m.b] 70) none)).fin (H := [⟨m.a, m.b⟩]) (X := []) ha hlit (World.ownsRow_nil _ _ _ _))
        clear hlit H10 HLK
        go_wp2_with fail
        refine bodyPost_ret (res_fail rfl _ _ (w.heap.size + 1) _ _ rfl H11.out.1) rfl ?_
        exact ⟨[⟨m.a, m.b⟩], [], _, _, rfl, H11.out.2.1, H11.out.2.2.1, fun g _ hg => (by cases hg), ⟨by simp, by simp⟩, H11.out.2.2.2⟩
end Go.Proofs.Ytiencdgmnkphjaa
