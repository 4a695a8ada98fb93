/- Parts of the proof, packed: ToFlr, ToStep, ToOpnF. -/
import Derived.Test.YtiencdgmnkphjaaWek11
import Derived.Test.YtiencdgmnkphjaaWek4
import Derived.Deep.CutBlock
import Derived.Maps.AppendAt
import Derived.Test.YtiencdgmnkphjaaWek6
/- The tape's Failure: some failure of at most one link or router, in memory of the call's own. -/
namespace Go.Proofs.Ytiencdgmnkphjaa
open Go.RowKit Bs
/-- While a failure is drawn. -/
structure FM (a : Nat) (w : World) (T : Tg) (q : Nat → Prop) (wr : World) : Prop where
  tb : wr.heap[w.heap.size]? = some (.cells #[.slice T.pR T.R.length T.cR, .slice T.pL T.L.length T.cL] 26 (0, 0))
  rb : wr.heap[w.heap.size + 1]? = some (.cells #[.slice none 0 0, .slice none 0 0] 47 (0, 0))
  t : TgOk wr q T
  st : St a w wr
  sz : w.heap.size + 2 ≤ wr.heap.size
theorem FM.keep {a : Nat} {w wr w1 : World} {T : Tg} {q : Nat → Prop} (h : FM a w T q wr) (g : wr.grownBy w1 none) : FM a w T q w1 :=
  ⟨kept_row h.tb g (by simp), kept_row h.rb g (by simp), h.t.keep g, h.st.trans ⟨grown_none g _, h.st.2.keep g⟩, Nat.le_trans h.sz g.size⟩
theorem FM.tape {a : Nat} {w wr w1 : World} {T : Tg} {q : Nat → Prop} (h : FM a w T q wr) (ha : a < w.heap.size) (hq : ∀ b, q b → b ≠ a) (k : St a wr w1) : FM a w T q w1 :=
  ⟨kept_row h.tb k.1 (fun e => by have := Option.some.inj e; omega), kept_row h.rb k.1 (fun e => by have := Option.some.inj e; omega), h.t.grown k.1 (fun b hb e => hq b hb (Option.some.inj e)), h.st.trans k, Nat.le_trans h.sz k.1.size⟩
theorem FM.lk {a : Nat} {w wr : World} {R : List Rt} {L : List Lk} {pR : Option Addr} {cR cL b off i : Nat} {q : Nat → Prop} {m : Lk} (h : FM a w ⟨R, L, pR, cR, some ⟨b, off, none⟩, cL⟩ q wr) (hm : L[i]? = some m) :
    wr.cell? ⟨b, off + i * 5, none⟩ = some (.int .i64 m.a) ∧ wr.cell? ⟨b, off + i * 5 + 1, none⟩ = some (.int .i64 m.b) ∧ wr.cell? ⟨b, off + i * 5 + 2, none⟩ = some (.int .i64 m.ca) ∧ wr.cell? ⟨b, off + i * 5 + 3, none⟩ = some (.int .i64 m.cb) ∧ wr.cell? ⟨b, off + i * 5 + 4, none⟩ = some (.int .i64 m.cp) := by
  have h1 := (List.getElem?_eq_some_iff.1 hm).1
  obtain ⟨-, b', off', e, -, hc⟩ := rdl_cells (L := L) h.t.l (by omega)
  injection e with e
  injection e with e4 e5
  subst e4
  subst e5
  exact hc i m hm
theorem FM.rt {a : Nat} {w wr : World} {R : List Rt} {L : List Lk} {pL : Option Addr} {cR cL b off i : Nat} {q : Nat → Prop} {m : Rt} (h : FM a w ⟨R, L, some ⟨b, off, none⟩, cR, pL, cL⟩ q wr) (hm : R[i]? = some m) :
    wr.cell? ⟨b, off + i * 2, none⟩ = some (.int .i64 m.id) ∧ wr.cell? ⟨b, off + i * 2 + 1, none⟩ = some (.bool m.cap) := by
  have h1 := (List.getElem?_eq_some_iff.1 hm).1
  obtain ⟨-, b', off', e, -, hc⟩ := rdr_cells (R := R) h.t.r (by omega)
  injection e with e
  injection e with e4 e5
  subst e4
  subst e5
  exact hc i m hm
/-- What returns a failure. -/
def FlPost (a k : Nat) (w : World) (e : Ending) (w' : World) : Prop :=
  ∃ (H : List Hp) (X : List Int) (vH vX : Value), e = .returned (.agg #[vH, vX]) ∧ w'.ownsRow w.heap.size 70 2 vH H.length (H.flatMap hpC) ∧ w'.ownsRow w.heap.size 3 1 vX X.length (X.map tv) ∧ (∀ g, vH.ownBlock = some g → vX.ownBlock ≠ some g) ∧ (H.length ≤ k ∧ X.length ≤ k) ∧ St a w w'
theorem fail_size : (Try.prog.info? 47).map (·.size) = some 2 := by kernel_rfl
theorem res_fail {fn : Func} {p : Tmp} (h : fn.results = #[.cell p 47]) (tmps : Array Value) (w : World) (g : Nat) (x y : Value) (hp : tmps.getD p undef = .pointer (some ⟨g, 0, none⟩)) (hg : w.heap[g]? = some (.cells #[x, y] 47 (0, 0))) :
    (results fn tmps).run Try.prog w = .ok (.agg #[x, y]) w :=
  results_cell_row h tmps w g _ _ _ _ hp hg Try.underlying47 rfl fail_size
theorem FM.fin {a : Nat} {w wr : World} {T : Tg} {q : Nat → Prop} {vH vX : Value} {H : List Hp} {X : List Int} (h : FM a w T q wr) (ha : a < w.heap.size)
    (hH : wr.ownsRow (w.heap.size + 2) 70 2 vH H.length (H.flatMap hpC)) (hX : wr.ownsRow (w.heap.size + 2) 3 1 vX X.length (X.map tv)) :
    ((wr.setCell ⟨w.heap.size + 1, 0, none⟩ vH).setCell ⟨w.heap.size + 1, 1, none⟩ vX).heap[w.heap.size + 1]? = some (.cells #[vH, vX] 47 (0, 0)) ∧
    ((wr.setCell ⟨w.heap.size + 1, 0, none⟩ vH).setCell ⟨w.heap.size + 1, 1, none⟩ vX).ownsRow w.heap.size 70 2 vH H.length (H.flatMap hpC) ∧
    ((wr.setCell ⟨w.heap.size + 1, 0, none⟩ vH).setCell ⟨w.heap.size + 1, 1, none⟩ vX).ownsRow w.heap.size 3 1 vX X.length (X.map tv) ∧
    St a w ((wr.setCell ⟨w.heap.size + 1, 0, none⟩ vH).setCell ⟨w.heap.size + 1, 1, none⟩ vX) := by
  have hst := grown_store2 wr (w.heap.size + 1) vH vX
  exact ⟨store2 h.rb, (own_other hH hst (by omega)).mono (by omega), (own_other hX hst (by omega)).mono (by omega), h.st.storeT hst (by omega) ha⟩
theorem row5 {w : World} {g : Nat} {x0 x1 x2 x3 x4 u0 u1 u2 u3 u4 : Value} {t : TypeId} (h : w.heap[g]? = some (.cells #[x0, x1, x2, x3, x4] t (0, 0))) :
    (((((w.setCell ⟨g, 0, none⟩ u0).setCell ⟨g, 1, none⟩ u1).setCell ⟨g, 2, none⟩ u2).setCell ⟨g, 3, none⟩ u3).setCell ⟨g, 4, none⟩ u4).heap[g]? = some (.cells #[u0, u1, u2, u3, u4] t (0, 0)) ∧
    w.grownBy (((((w.setCell ⟨g, 0, none⟩ u0).setCell ⟨g, 1, none⟩ u1).setCell ⟨g, 2, none⟩ u2).setCell ⟨g, 3, none⟩ u3).setCell ⟨g, 4, none⟩ u4) (some g) := by
  have h0 : TRow w g t [x0, x1, x2, x3, x4] := h
  have S : ∀ (u : World) (j : Nat) (x : Value), u.grownBy (u.setCell ⟨g, j, none⟩ x) (some g) := fun u j x => grown_setCell u ⟨g, j, none⟩ x
  exact ⟨(((((h0.set 0 u0).set 1 u1).set 2 u2).set 3 u3).set 4 u4), grown_trans (grown_trans (grown_trans (grown_trans (S _ _ _) (S _ _ _)) (S _ _ _)) (S _ _ _)) (S _ _ _)⟩
theorem FM.other {a g : Nat} {w wr w1 : World} {T : Tg} {q : Nat → Prop} (h : FM a w T q wr) (ha : a < w.heap.size) (k : wr.grownBy w1 (some g)) (hg : w.heap.size + 2 ≤ g) (hq : ∀ b, q b → b < g) : FM a w T q w1 :=
  ⟨kept_row h.tb k (fun e => by have := Option.some.inj e; omega), kept_row h.rb k (fun e => by have := Option.some.inj e; omega), h.t.grown k (fun b hb e => by have := hq b hb; have := Option.some.inj e; omega), h.st.storeT k (by omega) ha, Nat.le_trans h.sz k.size⟩
set_option maxRecDepth 100000 in
set_option maxHeartbeats 6400000 in
theorem fail_any (a : Nat) (T : Tg) (q : Nat → Prop) (w : World) (hT : TgOk w q T) (hq : ∀ b, q b → b ≠ a ∧ b < w.heap.size) (hp : Tp w a) :
    Calls Try.prog 29 #[.pointer (some ⟨a, 0, none⟩), .agg #[.slice T.pR T.R.length T.cR, .slice T.pL T.L.length T.cL]] w fun e w' => FlPost a 1 w e w' := by
  have ha := hp.lt
  have hmR := Nat.le_trans hT.cr.1 hT.cr.2
  have hmL := Nat.le_trans hT.cl.1 hT.cl.2
  obtain ⟨k1, k2, k3, _⟩ := two_boxes w #[.slice T.pR T.R.length T.cR, .slice T.pL T.L.length T.cL] #[.slice none 0 0, .slice none 0 0] 26 47
  have H0 : Hid (FM a w T q _) := Lib.hid ⟨k1, k2, hT.keep k3, ⟨grown_none k3 _, hp.keep k3⟩, by simp⟩
  have HQ : Hid (∀ b, q b → b ≠ a) := Lib.hid (fun b hb => (hq b hb).1)
  have HQ2 : Hid (∀ b, q b → b < w.heap.size) := Lib.hid (fun b hb => (hq b hb).2)
  clear k1 k2 k3 hT hp hq
  obtain ⟨R, L, pR, cR, pL, cL⟩ := T
  simp only at hmR hmL H0 ⊢
  go_enter Try.func29, Try.ntmps29
  go_upto_region 1 with fail
  generalize ((w.alloc _).alloc _) = wa at *
  obtain ⟨c0, c1⟩ := row_cells H0.out.tb
  go_cut [14] from 6 to 14 (fun bb wx => ∃ z, bb = .bool z ∧ Hid ((z = true → 0 < L.length) ∧ FM a w ⟨R, L, pR, cR, pL, cL⟩ q wx))
  case first =>
    by_cases hl : 0 < L.length
    · go_wp2_with fail
      refine (next_any a 3 (by unfold I64; omega) _ H0.out.st.2).mono ?_
      rintro e w5 ⟨x, rfl, -, hs⟩
      have H1 := Lib.hid (H0.out.tape ha HQ.out hs)
      clear hs H0
      go_wp2_with fail
      go_meet
      exact ⟨_, rfl, Lib.hid ⟨fun _ => hl, H1.out⟩⟩
    · have hl' : (L.length : Int) ≤ 0 := by omega
      clear hl
      go_wp2_with fail
      go_meet
      exact ⟨false, rfl, Lib.hid ⟨fun h => (by cases h), H0.out⟩⟩
  case rest =>
  obtain ⟨z, rfl, H1⟩ := hcut
  clear H0 c0 c1
  go_upto_if 14 with fail
  cases z
  · obtain ⟨c0, c1⟩ := row_cells H1.out.2.tb
    have f0 := frozen_of_row _ _ 0 _ _ H1.out.2.rb
    have f1 := frozen_of_row _ _ 1 _ _ H1.out.2.rb
    obtain ⟨d0, d1⟩ := row_cells H1.out.2.rb
    by_cases hr : 0 < R.length
    · have hr0 : ((R.length : Int) == 0) = false := by rw [beq_eq_false_iff_ne]; omega
      obtain ⟨-, b, off, rfl, hqb, -⟩ := rdr_cells (R := R) H1.out.2.t.r hr
      have H2 := Lib.hid H1.out.2
      go_upto_region 8 with fail
      clear c0 c1 H1
      refine region_until (S := fun w' => Hid (FM a w ⟨R, L, some ⟨b, off, none⟩, cR, pL, cL⟩ q w')) (fun j => j == 12) (by kernel_rfl) (Lib.hid (H2.out.keep (grown_drew (grown_refl _ _)))) (fun hHeld => ?_)
      refine anyU_take (i := 0) (oi := { dst := some 46, op := Op.fieldAddr 26 (Operand.tmp 3) 0, type := 0, pos := "make.go:448", after := #[], guard := none }) (v := ?_) rfl (by kernel_rfl) (by kernel_rfl) (by kernel_rfl) (by kernel_rfl) (by kernel_rfl) (fun _ _ _ h => h) (Or.inl ⟨by rfl, ?_⟩) hHeld ?_
      rotate_left 1
      · intro u hSu
        obtain ⟨q0, q1⟩ := row_cells hSu.out.tb
        go_simp
        first | done | with_reducible rfl
      (try simp only [Act.put, List.setIfInBounds_toArray, List.set_cons_zero, List.set_cons_succ])
      refine anyU_take (i := 1) (oi := { dst := some 47, op := Op.load 23 (Operand.tmp 46), type := 23, pos := "make.go:448", after := #[{ on := 0, ground := Ground.data }], guard := none }) (v := ?_) rfl (by kernel_rfl) (by kernel_rfl) (by kernel_rfl) (by kernel_rfl) (by kernel_rfl) (fun _ _ _ h => h) (Or.inl ⟨by rfl, ?_⟩) hHeld ?_
      rotate_left 1
      · intro u hSu
        obtain ⟨q0, q1⟩ := row_cells hSu.out.tb
        go_simp
        first | done | with_reducible rfl
      (try simp only [Act.put, List.setIfInBounds_toArray, List.set_cons_zero, List.set_cons_succ])
      refine anyU_take (i := 2) (oi := { dst := some 48, op := Op.move (Operand.tmp 0), type := 27, pos := "make.go:448", after := #[], guard := none }) (v := ?_) rfl (by kernel_rfl) (by kernel_rfl) (by kernel_rfl) (by kernel_rfl) (by kernel_rfl) (fun _ _ _ h => h) (Or.inl ⟨by rfl, ?_⟩) hHeld ?_
      rotate_left 1
      · intro u hSu
        obtain ⟨q0, q1⟩ := row_cells hSu.out.tb
        go_simp
        first | done | with_reducible rfl
      (try simp only [Act.put, List.setIfInBounds_toArray, List.set_cons_zero, List.set_cons_succ])
      refine anyU_take (i := 3) (oi := { dst := some 49, op := Op.fieldAddr 26 (Operand.tmp 3) 0, type := 0, pos := "make.go:448", after := #[], guard := none }) (v := ?_) rfl (by kernel_rfl) (by kernel_rfl) (by kernel_rfl) (by kernel_rfl) (by kernel_rfl) (fun _ _ _ h => h) (Or.inl ⟨by rfl, ?_⟩) hHeld ?_
      rotate_left 1
      · intro u hSu
        obtain ⟨q0, q1⟩ := row_cells hSu.out.tb
        go_simp
        first | done | with_reducible rfl
      (try simp only [Act.put, List.setIfInBounds_toArray, List.set_cons_zero, List.set_cons_succ])
      refine anyU_take (i := 4) (oi := { dst := some 50, op := Op.load 23 (Operand.tmp 49), type := 23, pos := "make.go:448", after := #[{ on := 3, ground := Ground.data }], guard := none }) (v := ?_) rfl (by kernel_rfl) (by kernel_rfl) (by kernel_rfl) (by kernel_rfl) (by kernel_rfl) (fun _ _ _ h => h) (Or.inl ⟨by rfl, ?_⟩) hHeld ?_
      rotate_left 1
      · intro u hSu
        obtain ⟨q0, q1⟩ := row_cells hSu.out.tb
        go_simp
        first | done | with_reducible rfl
      (try simp only [Act.put, List.setIfInBounds_toArray, List.set_cons_zero, List.set_cons_succ])
      refine anyU_take (i := 5) (oi := { dst := some 51, op := Op.call { callee := Callee.builtin Builtin.len, args := #[Operand.tmp 50], argTypes := #[23] }, type := 3, pos := "make.go:448", after := #[{ on := 4, ground := Ground.data }], guard := none }) (v := ?_) rfl (by kernel_rfl) (by kernel_rfl) (by kernel_rfl) (by kernel_rfl) (by kernel_rfl) (fun _ _ _ h => h) (Or.inl ⟨by rfl, ?_⟩) hHeld ?_
      rotate_left 1
      · intro u hSu
        obtain ⟨q0, q1⟩ := row_cells hSu.out.tb
        go_simp
        first | done | with_reducible rfl
      (try simp only [Act.put, List.setIfInBounds_toArray, List.set_cons_zero, List.set_cons_succ])
      refine anyU_ready (rs := [6]) (by kernel_rfl) (by simp) ?_
      refine EachU.cons (o := { dst := some 52, op := Op.call { callee := Callee.value (Operand.func 17), args := #[Operand.tmp 48, Operand.tmp 51], argTypes := #[27, 3] }, type := 3, pos := "make.go:448", after := #[{ on := 2, ground := Ground.data }, { on := 5, ground := Ground.data }], guard := none }) rfl (fun Kz hK => ?_) EachU.nil
      go_simp
      go_at_call 17
      refine (next_any a R.length (by unfold I64; omega) _ hHeld.out.st.2).mono ?_
      rintro e w5 ⟨y, rfl, hy, hs⟩
      obtain ⟨i, rfl⟩ := Int.eq_ofNat_of_zero_le hy.1
      have hi : i < R.length := by have := hy.2.1 (by omega); omega
      have H5n := Lib.hid (hHeld.out.tape ha HQ.out hs)
      clear hy hs
      have i0 : (0 : Int) ≤ (i : Int) := by omega
      have i1 : (i : Int) < (R.length : Int) := by omega
      obtain ⟨m, hm⟩ : ∃ m, R[i]? = some m := ⟨_, List.getElem?_eq_getElem hi⟩
      have HM := Lib.hid hm
      clear hm
      refine hK.out _ _ (fun _ => H5n) (fun hH2 => ?_)
      clear hK Kz hHeld
      have hHeld := hH2 rfl
      clear hH2
      (try simp only [Act.put, List.setIfInBounds_toArray, List.set_cons_zero, List.set_cons_succ])
      refine anyU_take (i := 7) (oi := { dst := some 53, op := Op.indexAddr 23 (Operand.tmp 47) (Operand.tmp 52), type := 0, pos := "make.go:448", after := #[{ on := 1, ground := Ground.data }, { on := 6, ground := Ground.data }], guard := none }) (v := ?_) rfl (by kernel_rfl) (by kernel_rfl) (by kernel_rfl) (by kernel_rfl) (by kernel_rfl) (fun _ _ _ h => h) (Or.inl ⟨by rfl, ?_⟩) hHeld ?_
      rotate_left 1
      · intro u hSu
        obtain ⟨q0, q1⟩ := row_cells hSu.out.tb
        go_simp
        first | done | with_reducible rfl
      (try simp only [Act.put, List.setIfInBounds_toArray, List.set_cons_zero, List.set_cons_succ])
      refine anyU_take (i := 8) (oi := { dst := some 54, op := Op.fieldAddr 73 (Operand.tmp 53) 0, type := 0, pos := "make.go:448", after := #[{ on := 7, ground := Ground.data }], guard := none }) (v := ?_) rfl (by kernel_rfl) (by kernel_rfl) (by kernel_rfl) (by kernel_rfl) (by kernel_rfl) (fun _ _ _ h => h) (Or.inl ⟨by rfl, ?_⟩) hHeld ?_
      rotate_left 1
      · intro u hSu
        obtain ⟨q0, q1⟩ := row_cells hSu.out.tb
        go_simp
        first | done | with_reducible rfl
      (try simp only [Act.put, List.setIfInBounds_toArray, List.set_cons_zero, List.set_cons_succ])
      refine anyU_take (i := 9) (oi := { dst := some 55, op := Op.load 3 (Operand.tmp 54), type := 3, pos := "make.go:448", after := #[{ on := 8, ground := Ground.data }], guard := none }) (v := ?_) rfl (by kernel_rfl) (by kernel_rfl) (by kernel_rfl) (by kernel_rfl) (by kernel_rfl) (fun _ _ _ h => h) (Or.inl ⟨by rfl, ?_⟩) hHeld ?_
      rotate_left 1
      · intro u hSu
        obtain ⟨q0, q1⟩ := row_cells hSu.out.tb
        obtain ⟨e0, e1⟩ := hSu.out.rt HM.out
        go_simp
        first | done | with_reducible rfl
      (try simp only [Act.put, List.setIfInBounds_toArray, List.set_cons_zero, List.set_cons_succ])
      refine anyU_ready (rs := [10]) (by kernel_rfl) (by simp) ?_
      refine EachU.cons (o := { dst := some 56, op := Op.buildSlice 22 1 #[(0, Operand.tmp 55)], type := 22, pos := "make.go:448", after := #[{ on := 9, ground := Ground.data }], guard := none }) rfl (fun Kz hK => ?_) EachU.nil
      have H8 := hHeld
      go_simp
      refine hK.out _ _ (fun _ => Lib.hid (hHeld.out.keep (World.grownBy_alloc _ _ none))) (fun hH2 => ?_)
      clear hK Kz hHeld
      have hHeld := hH2 rfl
      clear hH2
      (try simp only [Act.put, List.setIfInBounds_toArray, List.set_cons_zero, List.set_cons_succ])
      refine anyU_take (i := 11) (oi := { dst := some 57, op := Op.build 47 #[(1, Operand.tmp 56)], type := 47, pos := "make.go:448", after := #[{ on := 10, ground := Ground.data }], guard := none }) (v := ?_) rfl (by kernel_rfl) (by kernel_rfl) (by kernel_rfl) (by kernel_rfl) (by kernel_rfl) (fun _ _ _ h => h) (Or.inl ⟨by rfl, ?_⟩) hHeld ?_
      rotate_left 1
      · intro u hSu
        obtain ⟨q0, q1⟩ := row_cells hSu.out.tb
        go_simp
        first | done | with_reducible rfl
      (try simp only [Act.put, List.setIfInBounds_toArray, List.set_cons_zero, List.set_cons_succ])
      refine anyU_ready (rs := [12]) (by kernel_rfl) (by simp) ?_
      refine EachU.cons (o := { dst := none, op := Op.store 47 (Operand.tmp 4) (Operand.tmp 57), type := 0, pos := "make.go:448", after := #[{ on := 11, ground := Ground.data }, { on := 6, ground := Ground.chain }, { on := 0, ground := Ground.phase }, { on := 1, ground := Ground.phase }, { on := 2, ground := Ground.phase }, { on := 3, ground := Ground.phase }, { on := 4, ground := Ground.phase }, { on := 5, ground := Ground.phase }, { on := 6, ground := Ground.phase }, { on := 7, ground := Ground.phase }, { on := 8, ground := Ground.phase }, { on := 9, ground := Ground.phase }, { on := 10, ground := Ground.phase }, { on := 11, ground := Ground.phase }], guard := none }) rfl (fun Kz hK => ?_) EachU.nil
      have cc := row_cells hHeld.out.rb
      have c90 := cc.1
      have c91 := cc.2
      have fB := frozen_of_row _ _ 0 _ _ hHeld.out.rb
      have fC := frozen_of_row _ _ 1 _ _ hHeld.out.rb
      clear cc
      go_simp
      refine hK.out _ _ (fun h => by cases h) (fun _ => ?_)
      clear hK Kz
      (try simp only [Act.put, List.setIfInBounds_toArray, List.set_cons_zero, List.set_cons_succ])
      refine anyU_done (by kernel_rfl) ?_ _
      have hlit := World.ownsRow_lit (size := 1) w5 #[.int .i64 m.id] 1 (H8.out.sz) (by decide) (by rfl) (e := 3)
      have H9 := Lib.hid ((H8.out.keep (World.grownBy_alloc w5 (.cells #[.int .i64 m.id] 3) none)).fin (H := []) (X := [m.id]) ha (World.ownsRow_nil _ _ _ _) hlit)
      clear hlit hHeld H8 c90 c91 fB fC
      go_wp2_with fail
      refine bodyPost_ret (res_fail rfl _ _ (w.heap.size + 1) _ _ rfl H9.out.1) rfl ?_
      exact ⟨[], [m.id], _, _, rfl, H9.out.2.1, H9.out.2.2.1, fun g hg => (by cases hg), ⟨by simp, by simp⟩, H9.out.2.2.2⟩
    · have hr0 : ((R.length : Int) == 0) = true := by rw [beq_iff_eq]; omega
      have HZ := Lib.hid (H1.out.2.fin (vH := .slice none 0 0) (vX := .slice none 0 0) (H := []) (X := []) ha (World.ownsRow_nil _ _ _ _) (World.ownsRow_nil _ _ _ _))
      clear H1
      go_wp2_with fail
      refine bodyPost_ret (res_fail rfl _ _ (w.heap.size + 1) _ _ rfl HZ.out.1) rfl ?_
      exact ⟨[], [], _, _, rfl, HZ.out.2.1, HZ.out.2.2.1, fun g hg => (by cases hg), ⟨by simp, by simp⟩, HZ.out.2.2.2⟩
  · have hl := H1.out.1 rfl
    obtain ⟨-, b, off, rfl, hqb, -⟩ := rdl_cells (L := L) H1.out.2.t.l hl
    have H2 := Lib.hid H1.out.2
    have hmem : ∀ (wz : World) (B5 : Nat) (m : Lk), Hid (wz.heap[B5]? = some (.cells #[.int .i64 m.a, .int .i64 m.b, .int .i64 m.ca, .int .i64 m.cb, .int .i64 m.cp] 68 (0, 0)) ∧ FM a w ⟨R, L, pR, cR, some ⟨b, off, none⟩, cL⟩ q wz) → True := fun _ _ _ _ => trivial
    clear hmem H1
    go_upto_region 2 with fail
    refine region_until (S := fun w' => Hid (FM a w ⟨R, L, pR, cR, some ⟨b, off, none⟩, cL⟩ q w')) (fun j => j == 10) (by kernel_rfl) (Lib.hid (H2.out.keep (grown_drew (grown_refl _ _)))) (fun hHeld => ?_)
    refine anyU_take (i := 0) (oi := { dst := some 15, op := Op.fieldAddr 26 (Operand.tmp 3) 1, type := 0, pos := "make.go:439", after := #[], guard := none }) (v := ?_) rfl (by kernel_rfl) (by kernel_rfl) (by kernel_rfl) (by kernel_rfl) (by kernel_rfl) (fun _ _ _ h => h) (Or.inl ⟨by rfl, ?_⟩) hHeld ?_
    rotate_left 1
    · intro u hSu
      obtain ⟨q0, q1⟩ := row_cells hSu.out.tb
      go_simp
      first | done | with_reducible rfl
    (try simp only [Act.put, List.setIfInBounds_toArray, List.set_cons_zero, List.set_cons_succ])
    refine anyU_take (i := 1) (oi := { dst := some 16, op := Op.load 24 (Operand.tmp 15), type := 24, pos := "make.go:439", after := #[{ on := 0, ground := Ground.data }], guard := none }) (v := ?_) rfl (by kernel_rfl) (by kernel_rfl) (by kernel_rfl) (by kernel_rfl) (by kernel_rfl) (fun _ _ _ h => h) (Or.inl ⟨by rfl, ?_⟩) hHeld ?_
    rotate_left 1
    · intro u hSu
      obtain ⟨q0, q1⟩ := row_cells hSu.out.tb
      go_simp
      first | done | with_reducible rfl
    (try simp only [Act.put, List.setIfInBounds_toArray, List.set_cons_zero, List.set_cons_succ])
    refine anyU_take (i := 2) (oi := { dst := some 17, op := Op.move (Operand.tmp 0), type := 27, pos := "make.go:439", after := #[], guard := none }) (v := ?_) rfl (by kernel_rfl) (by kernel_rfl) (by kernel_rfl) (by kernel_rfl) (by kernel_rfl) (fun _ _ _ h => h) (Or.inl ⟨by rfl, ?_⟩) hHeld ?_
    rotate_left 1
    · intro u hSu
      obtain ⟨q0, q1⟩ := row_cells hSu.out.tb
      go_simp
      first | done | with_reducible rfl
    (try simp only [Act.put, List.setIfInBounds_toArray, List.set_cons_zero, List.set_cons_succ])
    refine anyU_take (i := 3) (oi := { dst := some 18, op := Op.fieldAddr 26 (Operand.tmp 3) 1, type := 0, pos := "make.go:439", after := #[], guard := none }) (v := ?_) rfl (by kernel_rfl) (by kernel_rfl) (by kernel_rfl) (by kernel_rfl) (by kernel_rfl) (fun _ _ _ h => h) (Or.inl ⟨by rfl, ?_⟩) hHeld ?_
    rotate_left 1
    · intro u hSu
      obtain ⟨q0, q1⟩ := row_cells hSu.out.tb
      go_simp
      first | done | with_reducible rfl
    (try simp only [Act.put, List.setIfInBounds_toArray, List.set_cons_zero, List.set_cons_succ])
    refine anyU_take (i := 4) (oi := { dst := some 19, op := Op.load 24 (Operand.tmp 18), type := 24, pos := "make.go:439", after := #[{ on := 3, ground := Ground.data }], guard := none }) (v := ?_) rfl (by kernel_rfl) (by kernel_rfl) (by kernel_rfl) (by kernel_rfl) (by kernel_rfl) (fun _ _ _ h => h) (Or.inl ⟨by rfl, ?_⟩) hHeld ?_
    rotate_left 1
    · intro u hSu
      obtain ⟨q0, q1⟩ := row_cells hSu.out.tb
      go_simp
      first | done | with_reducible rfl
    (try simp only [Act.put, List.setIfInBounds_toArray, List.set_cons_zero, List.set_cons_succ])
    refine anyU_take (i := 5) (oi := { dst := some 20, op := Op.call { callee := Callee.builtin Builtin.len, args := #[Operand.tmp 19], argTypes := #[24] }, type := 3, pos := "make.go:439", after := #[{ on := 4, ground := Ground.data }], guard := none }) (v := ?_) rfl (by kernel_rfl) (by kernel_rfl) (by kernel_rfl) (by kernel_rfl) (by kernel_rfl) (fun _ _ _ h => h) (Or.inl ⟨by rfl, ?_⟩) hHeld ?_
    rotate_left 1
    · intro u hSu
      obtain ⟨q0, q1⟩ := row_cells hSu.out.tb
      go_simp
      first | done | with_reducible rfl
    (try simp only [Act.put, List.setIfInBounds_toArray, List.set_cons_zero, List.set_cons_succ])
    refine anyU_ready (rs := [6, 9]) (by kernel_rfl) (by simp) ?_
    refine EachU.cons (o := { dst := some 21, op := Op.call { callee := Callee.value (Operand.func 17), args := #[Operand.tmp 17, Operand.tmp 20], argTypes := #[27, 3] }, type := 3, pos := "make.go:439", after := #[{ on := 2, ground := Ground.data }, { on := 5, ground := Ground.data }], guard := none }) rfl (fun Kz hK => ?_) (EachU.cons (o := { dst := some 5, op := Op.alloc 68, type := 0, pos := "make.go:439", after := #[], guard := none }) rfl (fun Kz hK => ?_) EachU.nil)
    · go_simp
      go_at_call 17
      refine (next_any a L.length (by unfold I64; omega) _ hHeld.out.st.2).mono ?_
      rintro e w5 ⟨y, rfl, hy, hs⟩
      obtain ⟨i, rfl⟩ := Int.eq_ofNat_of_zero_le hy.1
      have hi : i < L.length := by have := hy.2.1 (by omega); omega
      have H5n := Lib.hid (hHeld.out.tape ha HQ.out hs)
      first | (have HB9 : Hid (w5.heap[wc.heap.size]? = some (.cells #[.int .i64 0, .int .i64 0, .int .i64 0, .int .i64 0, .int .i64 0] 68 (0, 0))) := Lib.hid (kept_row (heap_alloc_new wc.drew (.cells #[.int .i64 0, .int .i64 0, .int .i64 0, .int .i64 0, .int .i64 0] 68)) hs.1 (fun e => by have h1 := Option.some.inj e; have h2 := HA9.out.sz; have h3 : wc.drew.heap.size = wc.heap.size := rfl; omega))) | skip
      clear hy hs
      have i0 : (0 : Int) ≤ (i : Int) := by omega
      have i1 : (i : Int) < (L.length : Int) := by omega
      obtain ⟨m, hm⟩ : ∃ m, L[i]? = some m := ⟨_, List.getElem?_eq_getElem hi⟩
      have HM := Lib.hid hm
      clear hm
      refine hK.out _ _ (fun _ => H5n) (fun hH2 => ?_)
      clear hK Kz hHeld
      have hHeld := hH2 rfl
      clear hH2
      (try simp only [Act.put, List.setIfInBounds_toArray, List.set_cons_zero, List.set_cons_succ])
      refine anyU_take (i := 7) (oi := { dst := some 22, op := Op.indexAddr 24 (Operand.tmp 16) (Operand.tmp 21), type := 0, pos := "make.go:439", after := #[{ on := 1, ground := Ground.data }, { on := 6, ground := Ground.data }], guard := none }) (v := ?_) rfl (by kernel_rfl) (by kernel_rfl) (by kernel_rfl) (by kernel_rfl) (by kernel_rfl) (fun _ _ _ h => h) (Or.inl ⟨by rfl, ?_⟩) hHeld ?_
      rotate_left 1
      · intro u hSu
        obtain ⟨q0, q1⟩ := row_cells hSu.out.tb
        go_simp
        first | done | with_reducible rfl
      (try simp only [Act.put, List.setIfInBounds_toArray, List.set_cons_zero, List.set_cons_succ])
      refine anyU_take (i := 8) (oi := { dst := some 23, op := Op.load 68 (Operand.tmp 22), type := 68, pos := "make.go:439", after := #[{ on := 7, ground := Ground.data }], guard := none }) (v := ?_) rfl (by kernel_rfl) (by kernel_rfl) (by kernel_rfl) (by kernel_rfl) (by kernel_rfl) (fun _ _ _ h => h) (Or.inl ⟨by rfl, ?_⟩) hHeld ?_
      rotate_left 1
      · intro u hSu
        obtain ⟨q0, q1⟩ := row_cells hSu.out.tb
        obtain ⟨e0, e1, e2, e3, e4⟩ := hSu.out.lk HM.out
        go_simp
        first | done | with_reducible rfl
      (try simp only [Act.put, List.setIfInBounds_toArray, List.set_cons_zero, List.set_cons_succ])
      refine anyU_ready (rs := [9]) (by kernel_rfl) (by simp) ?_
      refine EachU.cons (o := { dst := some 5, op := Op.alloc 68, type := 0, pos := "make.go:439", after := #[], guard := none }) rfl (fun Kz hK => ?_) EachU.nil
      have HA9 := hHeld
      go_simp
      refine hK.out _ _ (fun _ => Lib.hid (hHeld.out.keep (World.grownBy_alloc _ _ none))) (fun hH2 => ?_)
      clear hK Kz hHeld
      have hHeld := hH2 rfl
      clear hH2
      (try simp only [Act.put, List.setIfInBounds_toArray, List.set_cons_zero, List.set_cons_succ])
      refine anyU_ready (rs := [10]) (by kernel_rfl) (by simp) ?_
      refine EachU.cons (o := { dst := none, op := Op.store 68 (Operand.tmp 5) (Operand.tmp 23), type := 0, pos := "make.go:439", after := #[{ on := 9, ground := Ground.data }, { on := 8, ground := Ground.data }, { on := 6, ground := Ground.chain }, { on := 0, ground := Ground.phase }, { on := 1, ground := Ground.phase }, { on := 2, ground := Ground.phase }, { on := 3, ground := Ground.phase }, { on := 4, ground := Ground.phase }, { on := 5, ground := Ground.phase }, { on := 6, ground := Ground.phase }, { on := 7, ground := Ground.phase }, { on := 8, ground := Ground.phase }, { on := 9, ground := Ground.phase }], guard := none }) rfl (fun Kz hK => ?_) EachU.nil
      first | (have lz := lk_facts (l := ⟨0, 0, 0, 0, 0⟩) HB9.out; have z0 := lz.1; have z1 := lz.2.1; have z2 := lz.2.2.1; have z3 := lz.2.2.2.1; have z4 := lz.2.2.2.2; clear lz; have y0 := frozen_of_row _ _ 0 _ _ HB9.out; have y1 := frozen_of_row _ _ 1 _ _ HB9.out; have y2 := frozen_of_row _ _ 2 _ _ HB9.out; have y3 := frozen_of_row _ _ 3 _ _ HB9.out; have y4 := frozen_of_row _ _ 4 _ _ HB9.out) | skip
      go_simp
      refine hK.out _ _ (fun h => by cases h) (fun _ => ?_)
      clear hK Kz
      (try simp only [Act.put, List.setIfInBounds_toArray, List.set_cons_zero, List.set_cons_succ])
      refine anyU_done (by kernel_rfl) ?_ _
      first | (have H9 := Lib.hid (And.intro (row5 (u0 := .int .i64 m.a) (u1 := .int .i64 m.b) (u2 := .int .i64 m.ca) (u3 := .int .i64 m.cb) (u4 := .int .i64 m.cp) HB9.out).1 (hHeld.out.other ha (row5 (u0 := .int .i64 m.a) (u1 := .int .i64 m.b) (u2 := .int .i64 m.ca) (u3 := .int .i64 m.cb) (u4 := .int .i64 m.cp) HB9.out).2 HA9.out.sz (fun b hb => Nat.lt_of_lt_of_le (HQ2.out b hb) (Nat.le_trans (by omega) HA9.out.sz)))); have HB5 : Hid (a < wc.heap.size) := Lib.hid (Nat.lt_of_lt_of_le ha (Nat.le_trans (by omega) HA9.out.sz))) | (have H9 := Lib.hid (And.intro (heap_alloc_new w5 (.cells #[.int .i64 m.a, .int .i64 m.b, .int .i64 m.ca, .int .i64 m.cb, .int .i64 m.cp] 68)) (HA9.out.keep (World.grownBy_alloc w5 (.cells #[.int .i64 m.a, .int .i64 m.b, .int .i64 m.ca, .int .i64 m.cb, .int .i64 m.cp] 68) none))); have HB5 : Hid (a < w5.heap.size) := Lib.hid (Nat.lt_of_lt_of_le ha (Nat.le_trans (by omega) HA9.out.sz)))
      clear hHeld HA9
      try clear z0 z1 z2 z3 z4 y0 y1 y2 y3 y4
      try clear HB9
      have f0 := frozen_of_row _ _ 0 _ _ H9.out.2.rb
      obtain ⟨l0, l1, l2, l3, l4⟩ := lk_facts H9.out.1
      go_wp2_with fail
      refine (next_any a 2 (by unfold I64; omega) _ H9.out.2.st.2).mono ?_
      rintro e w6 ⟨yy, rfl, hy, hs⟩
      have H10 := Lib.hid (H9.out.2.tape ha HQ.out hs)
      have HLK := Lib.hid (kept_row H9.out.1 hs.1 (fun e => by have := Option.some.inj e; have := HB5.out; omega))
      clear hs H9 l0 l1 l2 l3 l4 f0
      obtain ⟨l0, l1, l2, l3, l4⟩ := lk_facts HLK.out
      obtain ⟨d0, d1⟩ := row_cells H10.out.rb
      have f0 := frozen_of_row _ _ 0 _ _ H10.out.rb
      have f1 := frozen_of_row _ _ 1 _ _ H10.out.rb
      by_cases hy0 : yy = 0
      · have hy1 : (yy == 0) = true := by simpa using hy0
        clear hy0 hy
        have HK := H10.out.keep (World.grownBy_alloc w6 (.cells #[.int .i64 m.b, .int .i64 m.a] 70) none)
        obtain ⟨A0, A1⟩ := row_cells HK.rb
        have B0 := frozen_of_row _ _ 0 _ _ HK.rb
        have B1 := frozen_of_row _ _ 1 _ _ HK.rb
        clear HK
        have hlit := World.ownsRow_lit (size := 2) w6 #[.int .i64 m.b, .int .i64 m.a] 1 (H10.out.sz) (by decide) (by rfl) (e := 70)
        have H11 := Lib.hid ((H10.out.keep (World.grownBy_alloc w6 (.cells #[.int .i64 m.b, .int .i64 m.a] 70) none)).fin (H := [⟨m.b, m.a⟩]) (X := []) ha hlit (World.ownsRow_nil _ _ _ _))
        clear hlit H10 HLK
        go_wp2_with fail
        refine bodyPost_ret (res_fail rfl _ _ (w.heap.size + 1) _ _ rfl H11.out.1) rfl ?_
        exact ⟨[⟨m.b, m.a⟩], [], _, _, rfl, H11.out.2.1, H11.out.2.2.1, fun g _ hg => (by cases hg), ⟨by simp, by simp⟩, H11.out.2.2.2⟩
      · have hy1 : (yy == 0) = false := by simpa using hy0
        clear hy0 hy
        have HK := H10.out.keep (World.grownBy_alloc w6 (.cells #[.int .i64 m.a, .int .i64 m.b] 70) none)
        obtain ⟨A0, A1⟩ := row_cells HK.rb
        have B0 := frozen_of_row _ _ 0 _ _ HK.rb
        have B1 := frozen_of_row _ _ 1 _ _ HK.rb
        clear HK
        have hlit := World.ownsRow_lit (size := 2) w6 #[.int .i64 m.a, .int .i64 m.b] 1 (H10.out.sz) (by decide) (by rfl) (e := 70)
        have H11 := Lib.hid ((H10.out.keep (World.grownBy_alloc w6 (.cells #[.int .i64 m.a, .int .i64 m.b] 70) none)).fin (H := [⟨m.a, m.b⟩]) (X := []) ha hlit (World.ownsRow_nil _ _ _ _))
        clear hlit H10 HLK
        go_wp2_with fail
        refine bodyPost_ret (res_fail rfl _ _ (w.heap.size + 1) _ _ rfl H11.out.1) rfl ?_
        exact ⟨[⟨m.a, m.b⟩], [], _, _, rfl, H11.out.2.1, H11.out.2.2.1, fun g _ hg => (by cases hg), ⟨by simp, by simp⟩, H11.out.2.2.2⟩
    · have HA9 := hHeld
      go_simp
      refine hK.out _ _ (fun _ => Lib.hid (hHeld.out.keep (World.grownBy_alloc _ _ none))) (fun hH2 => ?_)
      clear hK Kz hHeld
      have hHeld := hH2 rfl
      clear hH2
      (try simp only [Act.put, List.setIfInBounds_toArray, List.set_cons_zero, List.set_cons_succ])
      refine anyU_ready (rs := [6]) (by kernel_rfl) (by simp) ?_
      refine EachU.cons (o := { dst := some 21, op := Op.call { callee := Callee.value (Operand.func 17), args := #[Operand.tmp 17, Operand.tmp 20], argTypes := #[27, 3] }, type := 3, pos := "make.go:439", after := #[{ on := 2, ground := Ground.data }, { on := 5, ground := Ground.data }], guard := none }) rfl (fun Kz hK => ?_) EachU.nil
      go_simp
      go_at_call 17
      refine (next_any a L.length (by unfold I64; omega) _ hHeld.out.st.2).mono ?_
      rintro e w5 ⟨y, rfl, hy, hs⟩
      obtain ⟨i, rfl⟩ := Int.eq_ofNat_of_zero_le hy.1
      have hi : i < L.length := by have := hy.2.1 (by omega); omega
      have H5n := Lib.hid (hHeld.out.tape ha HQ.out hs)
      first | (have HB9 : Hid (w5.heap[wc.heap.size]? = some (.cells #[.int .i64 0, .int .i64 0, .int .i64 0, .int .i64 0, .int .i64 0] 68 (0, 0))) := Lib.hid (kept_row (heap_alloc_new wc.drew (.cells #[.int .i64 0, .int .i64 0, .int .i64 0, .int .i64 0, .int .i64 0] 68)) hs.1 (fun e => by have h1 := Option.some.inj e; have h2 := HA9.out.sz; have h3 : wc.drew.heap.size = wc.heap.size := rfl; omega))) | skip
      clear hy hs
      have i0 : (0 : Int) ≤ (i : Int) := by omega
      have i1 : (i : Int) < (L.length : Int) := by omega
      obtain ⟨m, hm⟩ : ∃ m, L[i]? = some m := ⟨_, List.getElem?_eq_getElem hi⟩
      have HM := Lib.hid hm
      clear hm
      refine hK.out _ _ (fun _ => H5n) (fun hH2 => ?_)
      clear hK Kz hHeld
      have hHeld := hH2 rfl
      clear hH2
      (try simp only [Act.put, List.setIfInBounds_toArray, List.set_cons_zero, List.set_cons_succ])
      refine anyU_take (i := 7) (oi := { dst := some 22, op := Op.indexAddr 24 (Operand.tmp 16) (Operand.tmp 21), type := 0, pos := "make.go:439", after := #[{ on := 1, ground := Ground.data }, { on := 6, ground := Ground.data }], guard := none }) (v := ?_) rfl (by kernel_rfl) (by kernel_rfl) (by kernel_rfl) (by kernel_rfl) (by kernel_rfl) (fun _ _ _ h => h) (Or.inl ⟨by rfl, ?_⟩) hHeld ?_
      rotate_left 1
      · intro u hSu
        obtain ⟨q0, q1⟩ := row_cells hSu.out.tb
        go_simp
        first | done | with_reducible rfl
      (try simp only [Act.put, List.setIfInBounds_toArray, List.set_cons_zero, List.set_cons_succ])
      refine anyU_take (i := 8) (oi := { dst := some 23, op := Op.load 68 (Operand.tmp 22), type := 68, pos := "make.go:439", after := #[{ on := 7, ground := Ground.data }], guard := none }) (v := ?_) rfl (by kernel_rfl) (by kernel_rfl) (by kernel_rfl) (by kernel_rfl) (by kernel_rfl) (fun _ _ _ h => h) (Or.inl ⟨by rfl, ?_⟩) hHeld ?_
      rotate_left 1
      · intro u hSu
        obtain ⟨q0, q1⟩ := row_cells hSu.out.tb
        obtain ⟨e0, e1, e2, e3, e4⟩ := hSu.out.lk HM.out
        go_simp
        first | done | with_reducible rfl
      (try simp only [Act.put, List.setIfInBounds_toArray, List.set_cons_zero, List.set_cons_succ])
      refine anyU_ready (rs := [10]) (by kernel_rfl) (by simp) ?_
      refine EachU.cons (o := { dst := none, op := Op.store 68 (Operand.tmp 5) (Operand.tmp 23), type := 0, pos := "make.go:439", after := #[{ on := 9, ground := Ground.data }, { on := 8, ground := Ground.data }, { on := 6, ground := Ground.chain }, { on := 0, ground := Ground.phase }, { on := 1, ground := Ground.phase }, { on := 2, ground := Ground.phase }, { on := 3, ground := Ground.phase }, { on := 4, ground := Ground.phase }, { on := 5, ground := Ground.phase }, { on := 6, ground := Ground.phase }, { on := 7, ground := Ground.phase }, { on := 8, ground := Ground.phase }, { on := 9, ground := Ground.phase }], guard := none }) rfl (fun Kz hK => ?_) EachU.nil
      first | (have lz := lk_facts (l := ⟨0, 0, 0, 0, 0⟩) HB9.out; have z0 := lz.1; have z1 := lz.2.1; have z2 := lz.2.2.1; have z3 := lz.2.2.2.1; have z4 := lz.2.2.2.2; clear lz; have y0 := frozen_of_row _ _ 0 _ _ HB9.out; have y1 := frozen_of_row _ _ 1 _ _ HB9.out; have y2 := frozen_of_row _ _ 2 _ _ HB9.out; have y3 := frozen_of_row _ _ 3 _ _ HB9.out; have y4 := frozen_of_row _ _ 4 _ _ HB9.out) | skip
      go_simp
      refine hK.out _ _ (fun h => by cases h) (fun _ => ?_)
      clear hK Kz
      (try simp only [Act.put, List.setIfInBounds_toArray, List.set_cons_zero, List.set_cons_succ])
      refine anyU_done (by kernel_rfl) ?_ _
      first | (have H9 := Lib.hid (And.intro (row5 (u0 := .int .i64 m.a) (u1 := .int .i64 m.b) (u2 := .int .i64 m.ca) (u3 := .int .i64 m.cb) (u4 := .int .i64 m.cp) HB9.out).1 (hHeld.out.other ha (row5 (u0 := .int .i64 m.a) (u1 := .int .i64 m.b) (u2 := .int .i64 m.ca) (u3 := .int .i64 m.cb) (u4 := .int .i64 m.cp) HB9.out).2 HA9.out.sz (fun b hb => Nat.lt_of_lt_of_le (HQ2.out b hb) (Nat.le_trans (by omega) HA9.out.sz)))); have HB5 : Hid (a < wc.heap.size) := Lib.hid (Nat.lt_of_lt_of_le ha (Nat.le_trans (by omega) HA9.out.sz))) | (have H9 := Lib.hid (And.intro (heap_alloc_new w5 (.cells #[.int .i64 m.a, .int .i64 m.b, .int .i64 m.ca, .int .i64 m.cb, .int .i64 m.cp] 68)) (HA9.out.keep (World.grownBy_alloc w5 (.cells #[.int .i64 m.a, .int .i64 m.b, .int .i64 m.ca, .int .i64 m.cb, .int .i64 m.cp] 68) none))); have HB5 : Hid (a < w5.heap.size) := Lib.hid (Nat.lt_of_lt_of_le ha (Nat.le_trans (by omega) HA9.out.sz)))
      clear hHeld HA9
      try clear z0 z1 z2 z3 z4 y0 y1 y2 y3 y4
      try clear HB9
      have f0 := frozen_of_row _ _ 0 _ _ H9.out.2.rb
      obtain ⟨l0, l1, l2, l3, l4⟩ := lk_facts H9.out.1
      go_wp2_with fail
      refine (next_any a 2 (by unfold I64; omega) _ H9.out.2.st.2).mono ?_
      rintro e w6 ⟨yy, rfl, hy, hs⟩
      have H10 := Lib.hid (H9.out.2.tape ha HQ.out hs)
      have HLK := Lib.hid (kept_row H9.out.1 hs.1 (fun e => by have := Option.some.inj e; have := HB5.out; omega))
      clear hs H9 l0 l1 l2 l3 l4 f0
      obtain ⟨l0, l1, l2, l3, l4⟩ := lk_facts HLK.out
      obtain ⟨d0, d1⟩ := row_cells H10.out.rb
      have f0 := frozen_of_row _ _ 0 _ _ H10.out.rb
      have f1 := frozen_of_row _ _ 1 _ _ H10.out.rb
      by_cases hy0 : yy = 0
      · have hy1 : (yy == 0) = true := by simpa using hy0
        clear hy0 hy
        have HK := H10.out.keep (World.grownBy_alloc w6 (.cells #[.int .i64 m.b, .int .i64 m.a] 70) none)
        obtain ⟨A0, A1⟩ := row_cells HK.rb
        have B0 := frozen_of_row _ _ 0 _ _ HK.rb
        have B1 := frozen_of_row _ _ 1 _ _ HK.rb
        clear HK
        have hlit := World.ownsRow_lit (size := 2) w6 #[.int .i64 m.b, .int .i64 m.a] 1 (H10.out.sz) (by decide) (by rfl) (e := 70)
        have H11 := Lib.hid ((H10.out.keep (World.grownBy_alloc w6 (.cells #[.int .i64 m.b, .int .i64 m.a] 70) none)).fin (H := [⟨m.b, m.a⟩]) (X := []) ha hlit (World.ownsRow_nil _ _ _ _))
        clear hlit H10 HLK
        go_wp2_with fail
        refine bodyPost_ret (res_fail rfl _ _ (w.heap.size + 1) _ _ rfl H11.out.1) rfl ?_
        exact ⟨[⟨m.b, m.a⟩], [], _, _, rfl, H11.out.2.1, H11.out.2.2.1, fun g _ hg => (by cases hg), ⟨by simp, by simp⟩, H11.out.2.2.2⟩
      · have hy1 : (yy == 0) = false := by simpa using hy0
        clear hy0 hy
        have HK := H10.out.keep (World.grownBy_alloc w6 (.cells #[.int .i64 m.a, .int .i64 m.b] 70) none)
        obtain ⟨A0, A1⟩ := row_cells HK.rb
        have B0 := frozen_of_row _ _ 0 _ _ HK.rb
        have B1 := frozen_of_row _ _ 1 _ _ HK.rb
        clear HK
        have hlit := World.ownsRow_lit (size := 2) w6 #[.int .i64 m.a, .int .i64 m.b] 1 (H10.out.sz) (by decide) (by rfl) (e := 70)
        have H11 := Lib.hid ((H10.out.keep (World.grownBy_alloc w6 (.cells #[.int .i64 m.a, .int .i64 m.b] 70) none)).fin (H := [⟨m.a, m.b⟩]) (X := []) ha hlit (World.ownsRow_nil _ _ _ _))
        clear hlit H10 HLK
        go_wp2_with fail
        refine bodyPost_ret (res_fail rfl _ _ (w.heap.size + 1) _ _ rfl H11.out.1) rfl ?_
        exact ⟨[⟨m.a, m.b⟩], [], _, _, rfl, H11.out.2.1, H11.out.2.2.1, fun g _ hg => (by cases hg), ⟨by simp, by simp⟩, H11.out.2.2.2⟩
end Go.Proofs.Ytiencdgmnkphjaa

/- append at a step of a region that draws its order, whatever the source; failures while they grow. -/
namespace Go.Proofs.Ytiencdgmnkphjaa
open Go.RowKit Bs
theorem step_append_f {α : Type} (f : α → List Value) (size bytes : Nat) (hsz : 0 < size) (hf : ∀ x, (f x).length = size) (hone : ∀ x, ∀ u ∈ f x, u.oneCell' = true) (e t : TypeId) (i : TypeInfo) (z : Value)
    (ht : Try.prog.underlying t = some (.slice e)) (hi : Try.prog.info? e = some i) (hz : i.zero = some z) (hsize : i.size = size) (hby : i.bytes = bytes) (hzs : z.cells.size = size) (hb40 : bytes ≤ 1000)
    {w : World} {ops : Array Oper} {o : Oper} {a : Act} {K : Act → World → Prop} {Q : Exit → Act → World → Prop} {E : Prop} (hgd : o.guard = none) (s x : Operand)
    (ho : o.op = .call { callee := .builtin .append, args := #[s, x], argTypes := #[t, t] }) (base : Nat) (v : Value) (l : List α) (hs : a.eval s = v) (hown : w.ownsRow base e size v l.length (l.flatMap f))
    (p : Option Addr) (k c : Nat) (r : List α) (hx : a.eval x = .slice p k c) (hk : k = r.length) (hn0 : p = none → c = 0) (q : Nat → Prop) (hR : RdF w q (.slice p k c) r.length (r.flatMap f)) (hkc : k ≤ c) (h63 : l.length + r.length ≤ 100000) (hbase : base ≤ w.heap.size)
    (h : ∀ p' c' w', w'.ownsRow base e size (.slice p' (l.length + r.length) c') (l ++ r).length ((l ++ r).flatMap f) → w.grownBy w' v.ownBlock → ((Value.slice p' (l.length + r.length) c').ownBlock = v.ownBlock ∨ (Value.slice p' (l.length + r.length) c').ownBlock = some w.heap.size) → K (a.put o.dst (.slice p' (l.length + r.length) c')) w') :
    if Region.wanted o (yielded ops a.tmps) = true then Oper.wp Try.prog o a w K Q else E := by
  have hw : Region.wanted o (yielded ops a.tmps) = true := by simp [Region.wanted, hgd]
  rw [if_pos hw]
  cases p with
  | none =>
    obtain rfl := hn0 rfl
    have hr : r.length = 0 := by omega
    obtain rfl := List.eq_nil_of_length_eq_zero hr
    obtain rfl : k = 0 := hk
    have hrun := run_append_owned_none (P := Try.prog) (w := w) base t o.type e i size ht hi v l.length (l.flatMap f) hown
    obtain ⟨p', c', rfl, -, -⟩ := own_shape hown
    unfold Oper.wp
    simp [execOp, ho, resolve, invoke, builtin, hs, hx, hrun, Result.andThen]
    refine h p' c' w ?_ (grown_refl _ _) (.inl rfl)
    rw [List.append_nil]
    exact hown
  | some ad =>
    have hb2 : (l.length + k) * bytes ≤ 140737488355328 := Nat.le_trans (Nat.mul_le_mul (show l.length + k ≤ 100000 by omega) hb40) (by decide)
    obtain ⟨v', w', hr, h2, h3, _, h5⟩ := run_append_own_at (P := Try.prog) w base t o.type e i z size bytes ht hi hz hsize hby hzs hsz v l.length (l.flatMap f) hown ad k c (r.flatMap f) (by rw [flat_len f size hf, hk]) (rdf_news hR) (by
      intro u hu
      obtain ⟨y, _, hy⟩ := List.mem_flatMap.1 hu
      exact hone y u hy) (by unfold maxLen; omega) hb2 hbase
    subst hk
    obtain ⟨p', c', rfl, -, -⟩ := own_shape h2
    unfold Oper.wp execOp
    simp only [ho, resolve, invoke, builtin, Sem.run_bind, Sem.run_pure, Result.andThen_ok, List.map_toArray, List.map_cons, List.map_nil, hs, hx, hr]
    refine h p' c' w' ?_ h3 h5
    rw [List.length_append, List.flatMap_append]
    exact h2
def tvC (z : Int) : List Value := [tv z]
theorem flat_tv : ∀ X : List Int, X.flatMap tvC = X.map tv
  | [] => rfl
  | a :: t => by rw [List.flatMap_cons, flat_tv t]; rfl
theorem hp_one (x : Hp) : ∀ u ∈ hpC x, u.oneCell' = true := by
  intro u hu
  simp [hpC] at hu
  rcases hu with rfl | rfl <;> rfl
theorem tv_one (x : Int) : ∀ u ∈ tvC x, u.oneCell' = true := by
  intro u hu
  simp [tvC, tv] at hu
  subst hu
  rfl
/-- While a failure grows: its block Bf holds uH, uX; its rows are vH, vX. -/
structure GM (a : Nat) (w : World) (T : Tg) (q : Nat → Prop) (Bf : Nat) (uH uX vH vX : Value) (H : List Hp) (X : List Int) (wr : World) : Prop where
  m : FM a w T q wr
  fb : wr.heap[Bf]? = some (.cells #[uH, uX] 47 (0, 0))
  oH : wr.ownsRow (w.heap.size + 2) 70 2 vH H.length (H.flatMap hpC)
  oX : wr.ownsRow (w.heap.size + 2) 3 1 vX X.length (X.flatMap tvC)
  ap : ∀ g, vH.ownBlock = some g → vX.ownBlock ≠ some g
  nH : vH.ownBlock ≠ some Bf
  nX : vX.ownBlock ≠ some Bf
  bf : w.heap.size + 2 ≤ Bf
section
variable {a Bf : Nat} {w wr w1 : World} {T : Tg} {q : Nat → Prop} {uH uX vH vX v' : Value} {H H' : List Hp} {X X' : List Int}
theorem GM.lt (h : GM a w T q Bf uH uX vH vX H X wr) : Bf < wr.heap.size := World.block_lt_of_cell? wr ⟨Bf, 0, none⟩ (row_cells h.fb).1
theorem GM.keep (h : GM a w T q Bf uH uX vH vX H X wr) (g : wr.grownBy w1 none) : GM a w T q Bf uH uX vH vX H X w1 :=
  ⟨h.m.keep g, kept_row h.fb g (by simp), h.oH.kept g (by cases hv : vH.ownBlock <;> simp), h.oX.kept g (by cases hv : vX.ownBlock <;> simp), h.ap, h.nH, h.nX, h.bf⟩
theorem GM.tape (h : GM a w T q Bf uH uX vH vX H X wr) (ha : a < w.heap.size) (hq : ∀ b, q b → b ≠ a) (k : St a wr w1) : GM a w T q Bf uH uX vH vX H X w1 :=
  ⟨h.m.tape ha hq k, kept_row h.fb k.1 (fun e => by have := Option.some.inj e; have := h.bf; omega), own_other h.oH k.1 (by omega), own_other h.oX k.1 (by omega), h.ap, h.nH, h.nX, h.bf⟩
theorem FM.row {base size n : Nat} {e : TypeId} {v : Value} {xs : List Value} (h : FM a w T q wr) (ha : a < w.heap.size) (ho : wr.ownsRow base e size v n xs) (hb : w.heap.size + 2 ≤ base) (hq : ∀ b, q b → b < w.heap.size) (k : wr.grownBy w1 v.ownBlock) : FM a w T q w1 := by
  have hne : ∀ b, b < w.heap.size + 2 → some b ≠ v.ownBlock := fun b hlt e => by have := (ho.lt b e.symm).1; omega
  exact ⟨kept_row h.tb k (hne _ (by omega)), kept_row h.rb k (hne _ (by omega)), h.t.grown k (fun b hb => hne b (by have := hq b hb; omega)), h.st.rowT ho (by omega) ha k, Nat.le_trans h.sz k.size⟩
theorem GM.addH (h : GM a w T q Bf uH uX vH vX H X wr) (ha : a < w.heap.size) (hq : ∀ b, q b → b < w.heap.size) (hown : w1.ownsRow (w.heap.size + 2) 70 2 v' H'.length (H'.flatMap hpC)) (k : wr.grownBy w1 vH.ownBlock) (hat : v'.ownBlock = vH.ownBlock ∨ v'.ownBlock = some wr.heap.size) :
    GM a w T q Bf uH uX v' vX H' X w1 := by
  refine ⟨h.m.row ha h.oH (Nat.le_refl _) hq k, kept_row h.fb k (fun e => h.nH e.symm), hown, h.oX.kept k ?_, ?_, ?_, h.nX, h.bf⟩
  · cases hv : vX.ownBlock with
    | none => exact .inl rfl
    | some g => exact .inr (fun e => h.ap g e.symm hv)
  · intro g hg e
    rcases hat with hat | hat
    · exact h.ap g (hat ▸ hg) e
    · have h1 : g = wr.heap.size := Option.some.inj (hg.symm.trans hat)
      have := (h.oX.lt g e).2
      omega
  · intro e
    rcases hat with hat | hat
    · exact h.nH (hat ▸ e)
    · have h1 : Bf = wr.heap.size := Option.some.inj (e.symm.trans hat)
      have := h.lt
      omega
theorem GM.addX (h : GM a w T q Bf uH uX vH vX H X wr) (ha : a < w.heap.size) (hq : ∀ b, q b → b < w.heap.size) (hown : w1.ownsRow (w.heap.size + 2) 3 1 v' X'.length (X'.flatMap tvC)) (k : wr.grownBy w1 vX.ownBlock) (hat : v'.ownBlock = vX.ownBlock ∨ v'.ownBlock = some wr.heap.size) :
    GM a w T q Bf uH uX vH v' H X' w1 := by
  refine ⟨h.m.row ha h.oX (Nat.le_refl _) hq k, kept_row h.fb k (fun e => h.nX e.symm), h.oH.kept k ?_, hown, ?_, h.nH, ?_, h.bf⟩
  · cases hv : vH.ownBlock with
    | none => exact .inl rfl
    | some g => exact .inr (fun e => h.ap g hv e.symm)
  · intro g hg e
    rcases hat with hat | hat
    · exact h.ap g hg (hat ▸ e)
    · have h1 : g = wr.heap.size := Option.some.inj (e.symm.trans hat)
      have := (h.oH.lt g hg).2
      omega
  · intro e
    rcases hat with hat | hat
    · exact h.nX (hat ▸ e)
    · have h1 : Bf = wr.heap.size := Option.some.inj (e.symm.trans hat)
      have := h.lt
      omega
theorem GM.put2 (h : GM a w T q Bf uH uX vH vX H X wr) (ha : a < w.heap.size) (hq : ∀ b, q b → b < w.heap.size) :
    GM a w T q Bf vH vX vH vX H X ((wr.setCell ⟨Bf, 0, none⟩ vH).setCell ⟨Bf, 1, none⟩ vX) := by
  have k := grown_store2 wr Bf vH vX
  have hbf := h.bf
  have o : ∀ {size n : Nat} {e : TypeId} {v : Value} {xs : List Value}, wr.ownsRow (w.heap.size + 2) e size v n xs → v.ownBlock ≠ some Bf → ((wr.setCell ⟨Bf, 0, none⟩ vH).setCell ⟨Bf, 1, none⟩ vX).ownsRow (w.heap.size + 2) e size v n xs := fun ho hne => ho.kept k (.inr hne)
  exact ⟨h.m.other ha k hbf (fun b hb => by have := hq b hb; omega), store2 h.fb, o h.oH h.nH, o h.oX h.nX, h.ap, h.nH, h.nX, h.bf⟩
theorem GM.start (h : FM a w T q wr) (hH : wr.ownsRow (w.heap.size + 2) 70 2 vH H.length (H.flatMap hpC)) (hX : wr.ownsRow (w.heap.size + 2) 3 1 vX X.length (X.map tv)) (ap : ∀ g, vH.ownBlock = some g → vX.ownBlock ≠ some g) :
    GM a w T q wr.heap.size vH vX vH vX H X (wr.alloc (.cells #[vH, vX] 47)) := by
  have g := World.grownBy_alloc wr (.cells #[vH, vX] 47) none
  exact ⟨h.keep g, heap_alloc_new wr _, hH.alloc _, by rw [flat_tv]; exact hX.alloc _, ap, fun e => by have := (hH.lt _ e).2; omega, fun e => by have := (hX.lt _ e).2; omega, h.sz⟩
end
theorem Among.keepR {P : Int → Prop} {w w' : World} {a b off n : Nat} {r : Option Nat} (h : Among P w a b off n) (g : w.grownBy w' r) (hne : some b ≠ r) : Among P w' a b off n :=
  ⟨h.1, Nat.lt_of_lt_of_le h.2.1 g.size, fun i hi => by obtain ⟨x, hx, hc⟩ := h.2.2 i hi; exact ⟨x, hx, g.cell hc (by exact hne)⟩⟩
theorem info_hopT : (Try.prog.info? 70).map (fun i => (i.zero, i.size, i.bytes)) = some (some (.agg #[.int .i64 0, .int .i64 0]), 2, 16) := by kernel_rfl
end Go.Proofs.Ytiencdgmnkphjaa

/- A failure that comes in as an argument; failures out of rows. -/
namespace Go.Proofs.Ytiencdgmnkphjaa
open Go.ChangeShapes Go.WideShapes Go.ChangeAt Go.RowKit Go.Joins Bs
set_option maxRecDepth 100000 in
theorem kit_cellsHp : Try.prog.cellsOf 70 = 2 := by kernel_rfl
set_option maxRecDepth 100000 in
theorem kit_cellsHps : Try.prog.cellsOf 45 = 1 := by kernel_rfl
set_option maxRecDepth 100000 in
theorem kit_cellsIs : Try.prog.cellsOf 22 = 1 := by kernel_rfl
section
variable {H : Type} {enc : TypeId × Value → H} {W : World} {base : Nat} {v : Value} {d : DataW H} {ps : List MemPlace}
set_option maxRecDepth 100000 in
theorem hp_trod {fuel : Nat} {cs : List Value} {y : DataW H × List MemPlace} (h : DataW.trod enc Try.prog W 0 (fun _ => true) true fuel 70 cs = some y) : ∃ r : Hp, cs = hpC r := by
  have hs := Try.underlying70
  obtain ⟨xs, n, _, _, hl, hlen, hf⟩ := DataW.trod_struct hs h
  rw [kit_cellsHp] at hl
  obtain ⟨c0, c1, rfl⟩ := tlist2 hl
  obtain ⟨x0, x1, rfl⟩ := tlist2 hlen
  have h0 : DataW.trod enc Try.prog W 0 (fun _ => true) true n 3 [c0] = some x0 := by simpa [Value.cells, kit_cellsInt] using hf 0 _ rfl
  have h1 : DataW.trod enc Try.prog W 0 (fun _ => true) true n 3 [c1] = some x1 := by simpa [Value.cells, kit_cellsInt] using hf 1 _ rfl
  obtain ⟨m0, e0, _, w0⟩ := DataW.trod_int Try.underlying3 h0
  obtain rfl : c0 = .int .i64 m0 := by simpa using e0
  obtain ⟨m1, e1, _, w1⟩ := DataW.trod_int Try.underlying3 h1
  obtain rfl : c1 = .int .i64 m1 := by simpa using e1
  exact ⟨⟨m0, m1⟩, rfl⟩
set_option maxRecDepth 100000 in
theorem is_trod {fuel : Nat} {cs : List Value} {y : DataW H × List MemPlace} (h : DataW.trod enc Try.prog W 0 (fun _ => true) true fuel 3 cs = some y) : ∃ r : Int, cs = tvC r := by
  obtain ⟨m0, e0, _, _⟩ := DataW.trod_int Try.underlying3 h
  exact ⟨m0, by simpa [tvC, tv] using e0⟩
theorem rd_of_rdf {w : World} {q : Nat → Prop} {p : Option Addr} {n c : Nat} {xs : List Value} (h : RdF w q (.slice p n c) n xs) (hl : xs.length = n) : Rd w q (.slice p n c) xs := by
  obtain ⟨p1, c1, e, hx⟩ := h
  refine ⟨p1, c1, by rw [hl]; exact e, hx⟩
set_option maxRecDepth 100000 in
theorem opn_failure (hval : Value.okWide Try.prog W .any base 47 v) (h : DataW.Trod enc Try.prog W 0 (fun _ => true) true 47 v d ps) :
    ∃ F : Fl, v = .agg #[.slice F.pH F.H.length F.cH, .slice F.pX F.X.length F.cX] ∧ FlOk W (· < W.heap.size) F := by
  have hs := Try.underlying47
  obtain ⟨cs, rfl, hsz⟩ := okWide_struct hs hval
  obtain ⟨fuel, hf⟩ := h
  obtain ⟨xs, n, _, _, hl, hlen, hf⟩ := DataW.trod_struct hs hf
  have h2 : cs.toList.length = 2 := hsz.trans (by kernel_rfl)
  obtain ⟨c0, c1, hct⟩ := tlist2 h2
  obtain ⟨x0, x1, rfl⟩ := tlist2 hlen
  have h0 : DataW.trod enc Try.prog W 0 (fun _ => true) true n 45 [c0] = some x0 := by simpa [Value.cells, kit_cellsHps, hct] using hf 0 _ rfl
  have h1 : DataW.trod enc Try.prog W 0 (fun _ => true) true n 22 [c1] = some x1 := by simpa [Value.cells, kit_cellsIs, hct] using hf 1 _ rfl
  obtain ⟨Hs, pH, cH, rfl, hH, hr1, hr2⟩ := rows_trod hpC 2 (by decide) (fun _ => rfl) ⟨0, 0⟩ Try.underlying45 kit_cellsHp hp_trod h0
  obtain ⟨X, pX, cX, rfl, hX, hl1, hl2⟩ := rows_trod tvC 1 (by decide) (fun _ => rfl) 0 Try.underlying22 kit_cellsInt is_trod h1
  rw [flat_tv] at hX
  exact ⟨⟨Hs, X, pH, cH, pX, cX⟩, congrArg Value.agg (Array.ext' hct), hH, rd_of_rdf hX (by simp), ⟨hr1, hr2⟩, ⟨hl1, hl2⟩⟩
end
/-- A failure out of rows of the call's own. -/
theorem fl_of_own {w : World} {base : Nat} {vH vX : Value} {H : List Hp} {X : List Int} (hH : w.ownsRow base 70 2 vH H.length (H.flatMap hpC)) (hX : w.ownsRow base 3 1 vX X.length (X.map tv)) :
    ∃ F : Fl, vH = .slice F.pH F.H.length F.cH ∧ vX = .slice F.pX F.X.length F.cX ∧ FlOk w (fun b => base ≤ b ∧ b < w.heap.size) F := by
  obtain ⟨pH, cH, rfl, h1, h2⟩ := own_shape hH
  obtain ⟨pX, cX, rfl, h3, h4⟩ := own_shape hX
  exact ⟨⟨H, X, pH, cH, pX, cX⟩, rfl, rfl, rdf_of_own2 hH, rd_of_rdf (rdf_of_own2 hX) (by simp), ⟨h1, h2⟩, ⟨h3, h4⟩⟩
end Go.Proofs.Ytiencdgmnkphjaa
