/- Parts of the proof, packed: ToFlr, ToMix, ToRtr, ShRtr, ToChkLaw, ToUnt2, ShPre. -/
import Derived.Test.YtlefjdglcdopeaaAv13
import Derived.Test.YtlefjdglcdopeaaAv3
import Derived.Deep.CutBlock
import Derived.Test.YtlefjdglcdopeaaAv14
import Derived.Test.YtlefjdglcdopeaaAv4
import Derived.Test.YtlefjdglcdopeaaAv1
/- The tape's Failure: some failure of at most one link or router, in memory of the call's own. -/
namespace Go.Proofs.Ytlefjdglcdopeaa
open Go.RowKit Bs
/-- While a failure is drawn. -/
structure FM (a : Nat) (w : World) (T : Tg) (q : Nat → Prop) (wr : World) : Prop where
  tb : wr.heap[w.heap.size]? = some (.cells #[.slice T.pR T.R.length T.cR, .slice T.pL T.L.length T.cL] 28 (0, 0))
  rb : wr.heap[w.heap.size + 1]? = some (.cells #[.slice none 0 0, .slice none 0 0] 58 (0, 0))
  t : TgOk wr q T
  st : St a w wr
  sz : w.heap.size + 2 ≤ wr.heap.size
set_option maxRecDepth 100000 in
theorem FM.keep {a : Nat} {w wr w1 : World} {T : Tg} {q : Nat → Prop} (h : FM a w T q wr) (g : wr.grownBy w1 none) : FM a w T q w1 :=
  ⟨kept_row h.tb g (by simp), kept_row h.rb g (by simp), h.t.keep g, h.st.trans ⟨grown_none g _, h.st.2.keep g⟩, Nat.le_trans h.sz g.size⟩
set_option maxRecDepth 100000 in
theorem FM.tape {a : Nat} {w wr w1 : World} {T : Tg} {q : Nat → Prop} (h : FM a w T q wr) (ha : a < w.heap.size) (hq : ∀ b, q b → b ≠ a) (k : St a wr w1) : FM a w T q w1 :=
  ⟨kept_row h.tb k.1 (fun e => by have := Option.some.inj e; omega), kept_row h.rb k.1 (fun e => by have := Option.some.inj e; omega), h.t.grown k.1 (fun b hb e => hq b hb (Option.some.inj e)), h.st.trans k, Nat.le_trans h.sz k.1.size⟩
set_option maxRecDepth 100000 in
theorem FM.lk {a : Nat} {w wr : World} {R : List Rt} {L : List Lk} {pR : Option Addr} {cR cL b off i : Nat} {q : Nat → Prop} {m : Lk} (h : FM a w ⟨R, L, pR, cR, some ⟨b, off, none⟩, cL⟩ q wr) (hm : L[i]? = some m) :
    wr.cell? ⟨b, off + i * 5, none⟩ = some (.int .i64 m.a) ∧ wr.cell? ⟨b, off + i * 5 + 1, none⟩ = some (.int .i64 m.b) ∧ wr.cell? ⟨b, off + i * 5 + 2, none⟩ = some (.int .i64 m.ca) ∧ wr.cell? ⟨b, off + i * 5 + 3, none⟩ = some (.int .i64 m.cb) ∧ wr.cell? ⟨b, off + i * 5 + 4, none⟩ = some (.int .i64 m.cp) := by
  have h1 := (List.getElem?_eq_some_iff.1 hm).1
  obtain ⟨-, b', off', e, -, hc⟩ := rdl_cells (L := L) h.t.l (by omega)
  injection e with e
  injection e with e4 e5
  subst e4
  subst e5
  exact hc i m hm
set_option maxRecDepth 100000 in
theorem FM.rt {a : Nat} {w wr : World} {R : List Rt} {L : List Lk} {pL : Option Addr} {cR cL b off i : Nat} {q : Nat → Prop} {m : Rt} (h : FM a w ⟨R, L, some ⟨b, off, none⟩, cR, pL, cL⟩ q wr) (hm : R[i]? = some m) :
    wr.cell? ⟨b, off + i * 2, none⟩ = some (.int .i64 m.id) ∧ wr.cell? ⟨b, off + i * 2 + 1, none⟩ = some (.bool m.cap) := by
  have h1 := (List.getElem?_eq_some_iff.1 hm).1
  obtain ⟨-, b', off', e, -, hc⟩ := rdr_cells (R := R) h.t.r (by omega)
  injection e with e
  injection e with e4 e5
  subst e4
  subst e5
  exact hc i m hm
/-- What returns a failure. -/
def FlPost (a k : Nat) (w : World) (e : Ending) (w' : World) : Prop :=
  ∃ (H : List Hp) (X : List Int) (vH vX : Value), e = .returned (.agg #[vH, vX]) ∧ w'.ownsRow w.heap.size 41 2 vH H.length (H.flatMap hpC) ∧ w'.ownsRow w.heap.size 3 1 vX X.length (X.map tv) ∧ (∀ g, vH.ownBlock = some g → vX.ownBlock ≠ some g) ∧ (H.length ≤ k ∧ X.length ≤ k) ∧ St a w w'
set_option maxRecDepth 100000 in
theorem fail_size : (Try.prog.info? 58).map (·.size) = some 2 := by kernel_rfl
set_option maxRecDepth 100000 in
theorem res_fail {fn : Func} {p : Tmp} (h : fn.results = #[.cell p 58]) (tmps : Array Value) (w : World) (g : Nat) (x y : Value) (hp : tmps.getD p undef = .pointer (some ⟨g, 0, none⟩)) (hg : w.heap[g]? = some (.cells #[x, y] 58 (0, 0))) :
    (results fn tmps).run Try.prog w = .ok (.agg #[x, y]) w :=
  results_cell_row h tmps w g _ _ _ _ hp hg Try.underlying58 rfl fail_size
set_option maxRecDepth 100000 in
theorem FM.fin {a : Nat} {w wr : World} {T : Tg} {q : Nat → Prop} {vH vX : Value} {H : List Hp} {X : List Int} (h : FM a w T q wr) (ha : a < w.heap.size)
    (hH : wr.ownsRow (w.heap.size + 2) 41 2 vH H.length (H.flatMap hpC)) (hX : wr.ownsRow (w.heap.size + 2) 3 1 vX X.length (X.map tv)) :
    ((wr.setCell ⟨w.heap.size + 1, 0, none⟩ vH).setCell ⟨w.heap.size + 1, 1, none⟩ vX).heap[w.heap.size + 1]? = some (.cells #[vH, vX] 58 (0, 0)) ∧
    ((wr.setCell ⟨w.heap.size + 1, 0, none⟩ vH).setCell ⟨w.heap.size + 1, 1, none⟩ vX).ownsRow w.heap.size 41 2 vH H.length (H.flatMap hpC) ∧
    ((wr.setCell ⟨w.heap.size + 1, 0, none⟩ vH).setCell ⟨w.heap.size + 1, 1, none⟩ vX).ownsRow w.heap.size 3 1 vX X.length (X.map tv) ∧
    St a w ((wr.setCell ⟨w.heap.size + 1, 0, none⟩ vH).setCell ⟨w.heap.size + 1, 1, none⟩ vX) := by
  have hst := grown_store2 wr (w.heap.size + 1) vH vX
  exact ⟨store2 h.rb, (own_other hH hst (by omega)).mono (by omega), (own_other hX hst (by omega)).mono (by omega), h.st.storeT hst (by omega) ha⟩
set_option maxRecDepth 100000 in
theorem row5 {w : World} {g : Nat} {x0 x1 x2 x3 x4 u0 u1 u2 u3 u4 : Value} {t : TypeId} (h : w.heap[g]? = some (.cells #[x0, x1, x2, x3, x4] t (0, 0))) :
    (((((w.setCell ⟨g, 0, none⟩ u0).setCell ⟨g, 1, none⟩ u1).setCell ⟨g, 2, none⟩ u2).setCell ⟨g, 3, none⟩ u3).setCell ⟨g, 4, none⟩ u4).heap[g]? = some (.cells #[u0, u1, u2, u3, u4] t (0, 0)) ∧
    w.grownBy (((((w.setCell ⟨g, 0, none⟩ u0).setCell ⟨g, 1, none⟩ u1).setCell ⟨g, 2, none⟩ u2).setCell ⟨g, 3, none⟩ u3).setCell ⟨g, 4, none⟩ u4) (some g) := by
  have h0 : TRow w g t [x0, x1, x2, x3, x4] := h
  have S : ∀ (u : World) (j : Nat) (x : Value), u.grownBy (u.setCell ⟨g, j, none⟩ x) (some g) := fun u j x => grown_setCell u ⟨g, j, none⟩ x
  exact ⟨(((((h0.set 0 u0).set 1 u1).set 2 u2).set 3 u3).set 4 u4), grown_trans (grown_trans (grown_trans (grown_trans (S _ _ _) (S _ _ _)) (S _ _ _)) (S _ _ _)) (S _ _ _)⟩
set_option maxRecDepth 100000 in
theorem FM.other {a g : Nat} {w wr w1 : World} {T : Tg} {q : Nat → Prop} (h : FM a w T q wr) (ha : a < w.heap.size) (k : wr.grownBy w1 (some g)) (hg : w.heap.size + 2 ≤ g) (hq : ∀ b, q b → b < g) : FM a w T q w1 :=
  ⟨kept_row h.tb k (fun e => by have := Option.some.inj e; omega), kept_row h.rb k (fun e => by have := Option.some.inj e; omega), h.t.grown k (fun b hb e => by have := hq b hb; have := Option.some.inj e; omega), h.st.storeT k (by omega) ha, Nat.le_trans h.sz k.size⟩
end Go.Proofs.Ytlefjdglcdopeaa

/- The tape's Router and Mixed. -/
namespace Go.Proofs.Ytlefjdglcdopeaa
open Go.RowKit Bs
/-- While a router is drawn: the topology's box. -/
structure RM (a : Nat) (w : World) (T : Tg) (q : Nat → Prop) (wr : World) : Prop where
  tb : wr.heap[w.heap.size]? = some (.cells #[.slice T.pR T.R.length T.cR, .slice T.pL T.L.length T.cL] 28 (0, 0))
  t : TgOk wr q T
  st : St a w wr
set_option maxRecDepth 100000 in
theorem RM.keep {a : Nat} {w wr w1 : World} {T : Tg} {q : Nat → Prop} (h : RM a w T q wr) (g : wr.grownBy w1 none) : RM a w T q w1 :=
  ⟨kept_row h.tb g (by simp), h.t.keep g, h.st.trans ⟨grown_none g _, h.st.2.keep g⟩⟩
set_option maxRecDepth 100000 in
theorem RM.tape {a : Nat} {w wr w1 : World} {T : Tg} {q : Nat → Prop} (h : RM a w T q wr) (ha : a < w.heap.size) (hq : ∀ b, q b → b ≠ a) (k : St a wr w1) : RM a w T q w1 :=
  ⟨kept_row h.tb k.1 (fun e => by have := Option.some.inj e; omega), h.t.grown k.1 (fun b hb e => hq b hb (Option.some.inj e)), h.st.trans k⟩
set_option maxRecDepth 100000 in
theorem RM.rt {a : Nat} {w wr : World} {R : List Rt} {L : List Lk} {pL : Option Addr} {cR cL b off i : Nat} {q : Nat → Prop} {m : Rt} (h : RM a w ⟨R, L, some ⟨b, off, none⟩, cR, pL, cL⟩ q wr) (hm : R[i]? = some m) :
    wr.cell? ⟨b, off + i * 2, none⟩ = some (.int .i64 m.id) ∧ wr.cell? ⟨b, off + i * 2 + 1, none⟩ = some (.bool m.cap) := by
  have h1 := (List.getElem?_eq_some_iff.1 hm).1
  obtain ⟨-, b', off', e, -, hc⟩ := rdr_cells (R := R) h.t.r (by omega)
  injection e with e
  injection e with e4 e5
  subst e4
  subst e5
  exact hc i m hm
set_option maxRecDepth 100000 in
set_option maxHeartbeats 3200000 in
theorem router_any (a : Nat) (T : Tg) (n : Int) (hn : I64 n) (h0 : 0 < T.R.length) (q : Nat → Prop) (w : World) (hT : TgOk w q T) (hq : ∀ b, q b → b ≠ a) (hp : Tp w a) :
    Calls Try.prog 13 #[.pointer (some ⟨a, 0, none⟩), .agg #[.slice T.pR T.R.length T.cR, .slice T.pL T.L.length T.cL], .int .i64 n] w fun e w' => ∃ x : Int, e = .returned (.int .i64 x) ∧ St a w w' := by
  have ha := hp.lt
  have hmR := Nat.le_trans hT.cr.1 hT.cr.2
  obtain ⟨k1, k2⟩ := tone_box w #[.slice T.pR T.R.length T.cR, .slice T.pL T.L.length T.cL] 28
  have H0 : Hid (RM a w T q _) := Lib.hid ⟨k1, hT.keep k2, ⟨grown_none k2 _, hp.keep k2⟩⟩
  have HQ := Lib.hid hq
  clear k1 k2 hT hp hq
  obtain ⟨R, L, pR, cR, pL, cL⟩ := T
  simp only at hmR H0 h0 ⊢
  obtain ⟨-, b, off, rfl, -, -⟩ := rdr_cells (R := R) H0.out.t.r h0
  go_enter Try.func13, Try.ntmps13
  go_upto_region 1 with fail
  generalize w.alloc _ = wa at *
  obtain ⟨c0, c1⟩ := row_cells H0.out.tb
  have hz : ((R.length : Int) == 0) = false := by rw [beq_eq_false_iff_ne]; omega
  go_cut [19] from 7 to 19 (fun bb wx => ∃ z, bb = .bool z ∧ Hid (RM a w ⟨R, L, some ⟨b, off, none⟩, cR, pL, cL⟩ q wx))
  case first =>
    by_cases hn1 : 0 < n
    · go_wp2_with fail
      refine (one_any a n hn _ H0.out.st.2).mono ?_
      rintro e w5 ⟨z, rfl, hs⟩
      have H1 := Lib.hid (H0.out.tape ha HQ.out hs)
      clear hs c0 c1 H0
      obtain ⟨c0, c1⟩ := row_cells H1.out.tb
      cases z
      · go_wp2_with fail
        go_meet
        exact ⟨_, rfl, H1⟩
      · go_wp2_with fail
        go_meet
        exact ⟨_, rfl, H1⟩
    · go_wp2_with fail
      go_meet
      exact ⟨_, rfl, H0⟩
  case rest =>
  obtain ⟨z, rfl, H1⟩ := hcut
  clear H0 c0 c1
  go_upto_if 19 with fail
  cases z
  · have i1 : 0 < R.length := h0
    go_upto_region 3 with fail
    refine wp_region_held_drew (S := fun w' => Hid (RM a w ⟨R, L, some ⟨b, off, none⟩, cR, pL, cL⟩ q w')) (by kernel_rfl) (Lib.hid (H1.out.keep (grown_drew (grown_refl _ _)))) (fun hHeld => ?_)
    refine wpAnyH_take (i := 0) (oi := { dst := some 23, op := Op.fieldAddr 28 (Operand.tmp 4) 0, type := 0, pos := "make.go:639", after := #[], guard := none }) (v := ?_) rfl (by kernel_rfl) (by kernel_rfl) (by kernel_rfl) (fun _ _ _ h => h) (Or.inl ⟨by rfl, ?_⟩) hHeld ?_
    rotate_left 1
    · intro u hSu
      obtain ⟨q0, q1⟩ := row_cells hSu.out.tb
      go_simp
      first | done | with_reducible rfl
    (try simp only [Act.put, List.setIfInBounds_toArray, List.set_cons_zero, List.set_cons_succ])
    refine wpAnyH_take (i := 1) (oi := { dst := some 24, op := Op.load 25 (Operand.tmp 23), type := 25, pos := "make.go:639", after := #[{ on := 0, ground := Ground.data }], guard := none }) (v := ?_) rfl (by kernel_rfl) (by kernel_rfl) (by kernel_rfl) (fun _ _ _ h => h) (Or.inl ⟨by rfl, ?_⟩) hHeld ?_
    rotate_left 1
    · intro u hSu
      obtain ⟨q0, q1⟩ := row_cells hSu.out.tb
      go_simp
      first | done | with_reducible rfl
    (try simp only [Act.put, List.setIfInBounds_toArray, List.set_cons_zero, List.set_cons_succ])
    refine wpAnyH_take (i := 2) (oi := { dst := some 25, op := Op.move (Operand.tmp 0), type := 23, pos := "make.go:639", after := #[], guard := none }) (v := ?_) rfl (by kernel_rfl) (by kernel_rfl) (by kernel_rfl) (fun _ _ _ h => h) (Or.inl ⟨by rfl, ?_⟩) hHeld ?_
    rotate_left 1
    · intro u hSu
      obtain ⟨q0, q1⟩ := row_cells hSu.out.tb
      go_simp
      first | done | with_reducible rfl
    (try simp only [Act.put, List.setIfInBounds_toArray, List.set_cons_zero, List.set_cons_succ])
    refine wpAnyH_take (i := 3) (oi := { dst := some 26, op := Op.fieldAddr 28 (Operand.tmp 4) 0, type := 0, pos := "make.go:639", after := #[], guard := none }) (v := ?_) rfl (by kernel_rfl) (by kernel_rfl) (by kernel_rfl) (fun _ _ _ h => h) (Or.inl ⟨by rfl, ?_⟩) hHeld ?_
    rotate_left 1
    · intro u hSu
      obtain ⟨q0, q1⟩ := row_cells hSu.out.tb
      go_simp
      first | done | with_reducible rfl
    (try simp only [Act.put, List.setIfInBounds_toArray, List.set_cons_zero, List.set_cons_succ])
    refine wpAnyH_take (i := 4) (oi := { dst := some 27, op := Op.load 25 (Operand.tmp 26), type := 25, pos := "make.go:639", after := #[{ on := 3, ground := Ground.data }], guard := none }) (v := ?_) rfl (by kernel_rfl) (by kernel_rfl) (by kernel_rfl) (fun _ _ _ h => h) (Or.inl ⟨by rfl, ?_⟩) hHeld ?_
    rotate_left 1
    · intro u hSu
      obtain ⟨q0, q1⟩ := row_cells hSu.out.tb
      go_simp
      first | done | with_reducible rfl
    (try simp only [Act.put, List.setIfInBounds_toArray, List.set_cons_zero, List.set_cons_succ])
    refine wpAnyH_take (i := 5) (oi := { dst := some 28, op := Op.call { callee := Callee.builtin Builtin.len, args := #[Operand.tmp 27], argTypes := #[25] }, type := 3, pos := "make.go:639", after := #[{ on := 4, ground := Ground.data }], guard := none }) (v := ?_) rfl (by kernel_rfl) (by kernel_rfl) (by kernel_rfl) (fun _ _ _ h => h) (Or.inl ⟨by rfl, ?_⟩) hHeld ?_
    rotate_left 1
    · intro u hSu
      obtain ⟨q0, q1⟩ := row_cells hSu.out.tb
      go_simp
      first | done | with_reducible rfl
    (try simp only [Act.put, List.setIfInBounds_toArray, List.set_cons_zero, List.set_cons_succ])
    refine wpAnyH_ready (rs := [6]) (by kernel_rfl) (by simp) ?_
    refine AllReadyH.cons (o := { dst := some 29, op := Op.call { callee := Callee.value (Operand.func 24), args := #[Operand.tmp 25, Operand.tmp 28], argTypes := #[23, 3] }, type := 3, pos := "make.go:639", after := #[{ on := 2, ground := Ground.data }, { on := 5, ground := Ground.data }], guard := none }) rfl (fun Kz hK => ?_) AllReadyH.nil
    go_simp
    go_at_call 24
    refine (next_any a R.length (by unfold I64; omega) _ hHeld.out.st.2).mono ?_
    rintro e w5 ⟨y, rfl, hy, hs⟩
    obtain ⟨i, rfl⟩ := Int.eq_ofNat_of_zero_le hy.1
    have hi : i < R.length := by have := hy.2.1 (by omega); omega
    have H5n := Lib.hid (hHeld.out.tape ha HQ.out hs)
    clear hy hs
    have j0 : (0 : Int) ≤ (i : Int) := by omega
    have j1 : (i : Int) < (R.length : Int) := by omega
    obtain ⟨m, hm⟩ : ∃ m, R[i]? = some m := ⟨_, List.getElem?_eq_getElem hi⟩
    have HM := Lib.hid hm
    clear hm
    refine hK.out _ _ (H5n) (fun hH2 => ?_)
    clear hK Kz hHeld
    have hHeld := hH2
    clear hH2
    (try simp only [Act.put, List.setIfInBounds_toArray, List.set_cons_zero, List.set_cons_succ])
    refine wpAnyH_take (i := 7) (oi := { dst := some 30, op := Op.indexAddr 25 (Operand.tmp 24) (Operand.tmp 29), type := 0, pos := "make.go:639", after := #[{ on := 1, ground := Ground.data }, { on := 6, ground := Ground.data }], guard := none }) (v := ?_) rfl (by kernel_rfl) (by kernel_rfl) (by kernel_rfl) (fun _ _ _ h => h) (Or.inl ⟨by rfl, ?_⟩) hHeld ?_
    rotate_left 1
    · intro u hSu
      obtain ⟨q0, q1⟩ := row_cells hSu.out.tb
      go_simp
      first | done | with_reducible rfl
    (try simp only [Act.put, List.setIfInBounds_toArray, List.set_cons_zero, List.set_cons_succ])
    refine wpAnyH_take (i := 8) (oi := { dst := some 31, op := Op.fieldAddr 63 (Operand.tmp 30) 0, type := 0, pos := "make.go:639", after := #[{ on := 7, ground := Ground.data }], guard := none }) (v := ?_) rfl (by kernel_rfl) (by kernel_rfl) (by kernel_rfl) (fun _ _ _ h => h) (Or.inl ⟨by rfl, ?_⟩) hHeld ?_
    rotate_left 1
    · intro u hSu
      obtain ⟨q0, q1⟩ := row_cells hSu.out.tb
      go_simp
      first | done | with_reducible rfl
    (try simp only [Act.put, List.setIfInBounds_toArray, List.set_cons_zero, List.set_cons_succ])
    refine wpAnyH_take (i := 9) (oi := { dst := some 32, op := Op.load 3 (Operand.tmp 31), type := 3, pos := "make.go:639", after := #[{ on := 8, ground := Ground.data }], guard := none }) (v := ?_) rfl (by kernel_rfl) (by kernel_rfl) (by kernel_rfl) (fun _ _ _ h => h) (Or.inl ⟨by rfl, ?_⟩) hHeld ?_
    rotate_left 1
    · intro u hSu
      obtain ⟨q0, q1⟩ := row_cells hSu.out.tb
      obtain ⟨e0, e1⟩ := hSu.out.rt HM.out
      go_simp
      first | done | with_reducible rfl
    (try simp only [Act.put, List.setIfInBounds_toArray, List.set_cons_zero, List.set_cons_succ])
    refine wpAnyH_take (i := 10) (oi := { dst := some 6, op := Op.assign (Operand.tmp 32), type := 3, pos := "make.go:639", after := #[{ on := 9, ground := Ground.data }, { on := 6, ground := Ground.chain }, { on := 0, ground := Ground.phase }, { on := 1, ground := Ground.phase }, { on := 2, ground := Ground.phase }, { on := 3, ground := Ground.phase }, { on := 4, ground := Ground.phase }, { on := 5, ground := Ground.phase }, { on := 6, ground := Ground.phase }, { on := 7, ground := Ground.phase }, { on := 8, ground := Ground.phase }, { on := 9, ground := Ground.phase }], guard := none }) (v := ?_) rfl (by kernel_rfl) (by kernel_rfl) (by kernel_rfl) (fun _ _ _ h => h) (Or.inl ⟨by rfl, ?_⟩) hHeld ?_
    rotate_left 1
    · intro u hSu
      obtain ⟨q0, q1⟩ := row_cells hSu.out.tb
      go_simp
      first | done | with_reducible rfl
    (try simp only [Act.put, List.setIfInBounds_toArray, List.set_cons_zero, List.set_cons_succ])
    refine wpAnyH_done (by kernel_rfl) ?_ _
    have H9 := Lib.hid hHeld.out.st
    clear hHeld
    go_wp2_with fail
    go_ret
    exact ⟨m.id, rfl, H9.out⟩
  · have HT := Lib.hid (H1.out.st.2.alloc (.cells #[.int .i64 0, .int .i64 1, .int .i64 2, .int .i64 7, .int .i64 77, .int .i64 (-1)] 3))
    have HA := Lib.hid (among_list I64 wc a [0, 1, 2, 7, 77, -1] #[.int .i64 0, .int .i64 1, .int .i64 2, .int .i64 7, .int .i64 77, .int .i64 (-1)] 3 H1.out.st.2.lt rfl (by intro x hx; simp at hx; unfold I64; omega))
    go_wp2_with fail
    refine (pick_any _ a _ 0 6 6 (by omega) (by omega) _ HT.out HA.out).mono ?_
    rintro e w2 ⟨x, rfl, -, hs⟩
    have HS := Lib.hid (H1.out.st.trans (St.alloc_left hs))
    clear hs HT HA H1
    go_wp2_with fail
    go_ret
    exact ⟨x, rfl, HS.out⟩
/-- While routers turn capable or not: the topology's block B. -/
structure MK (a : Nat) (w : World) (B : Nat) (vR vL : Value) (R : List Rt) (L : List Lk) (wr : World) : Prop where
  gb : wr.heap[B]? = some (.cells #[vR, vL] 28 (0, 0))
  rb : wr.heap[w.heap.size]? = some (.cells #[.slice none 0 0, .slice none 0 0] 28 (0, 0))
  oR : wr.ownsRow (w.heap.size + 1) 63 2 vR R.length (R.flatMap rtC)
  oL : wr.ownsRow (w.heap.size + 1) 44 5 vL L.length (L.flatMap lkC)
  ap : ∀ g, vR.ownBlock = some g → vL.ownBlock ≠ some g
  nR : vR.ownBlock ≠ some B
  st : St a w wr
  bb : w.heap.size + 1 ≤ B
set_option maxRecDepth 100000 in
theorem MK.keep {a B : Nat} {w wr w1 : World} {vR vL : Value} {R : List Rt} {L : List Lk} (h : MK a w B vR vL R L wr) (g : wr.grownBy w1 none) : MK a w B vR vL R L w1 :=
  ⟨kept_row h.gb g (by simp), kept_row h.rb g (by simp), h.oR.kept g (by cases hv : vR.ownBlock <;> simp), h.oL.kept g (by cases hv : vL.ownBlock <;> simp), h.ap, h.nR, h.st.trans ⟨grown_none g _, h.st.2.keep g⟩, h.bb⟩
set_option maxRecDepth 100000 in
theorem MK.tape {a B : Nat} {w wr w1 : World} {vR vL : Value} {R : List Rt} {L : List Lk} (h : MK a w B vR vL R L wr) (ha : a < w.heap.size) (k : St a wr w1) : MK a w B vR vL R L w1 :=
  ⟨kept_row h.gb k.1 (fun e => by have := Option.some.inj e; have := h.bb; omega), kept_row h.rb k.1 (fun e => by have := Option.some.inj e; omega), own_other h.oR k.1 (by omega), own_other h.oL k.1 (by omega), h.ap, h.nR, h.st.trans k, h.bb⟩
set_option maxRecDepth 100000 in
theorem flat_setR : ∀ (R : List Rt) (k : Nat) (z : Bool), k < R.length → ∃ R' : List Rt, R'.length = R.length ∧ R'.map (·.id) = R.map (·.id) ∧ R'.flatMap rtC = (R.flatMap rtC).set (k * 2 + 1) (.bool z)
  | [], k, _, hk => absurd hk (Nat.not_lt_zero k)
  | m :: t, 0, z, _ => ⟨⟨m.id, z⟩ :: t, rfl, rfl, rfl⟩
  | m :: t, k + 1, z, hk => by
    obtain ⟨R', h1, h2, h3⟩ := flat_setR t k z (by simpa using hk)
    refine ⟨m :: R', by simp [h1], by rw [List.map_cons, h2, List.map_cons], ?_⟩
    rw [List.flatMap_cons, h3, List.flatMap_cons]
    have e : (k + 1) * 2 + 1 = (rtC m).length + (k * 2 + 1) := by
      show (k + 1) * 2 + 1 = 2 + (k * 2 + 1)
      omega
    rw [e, List.set_append_right _ _ (Nat.le_add_right _ _), Nat.add_sub_cancel_left]
set_option maxRecDepth 100000 in
theorem MK.setR {a B g n cap k : Nat} {w wr : World} {vL : Value} {R : List Rt} {L : List Lk} {z : Bool} (h : MK a w B (.slice (some ⟨g, 0, none⟩) n cap) vL R L wr) (ha : a < w.heap.size) (hk : k < R.length) :
    ∃ R' : List Rt, R'.length = R.length ∧ R'.map (·.id) = R.map (·.id) ∧ MK a w B (.slice (some ⟨g, 0, none⟩) n cap) vL R' L (wr.setCell ⟨g, k * 2 + 1, none⟩ (.bool z)) := by
  obtain ⟨R', hl, hm, hf⟩ := flat_setR R k z hk
  have hg0 := (h.oR.lt g rfl).1
  have hn : n = R.length := by
    obtain ⟨p, c, e, _⟩ := own_shape h.oR
    injection e
  subst hn
  obtain ⟨s1, s2⟩ := h.oR.stored (k * 2 + 1) (.bool z)
  refine ⟨R', hl, hm, kept_row h.gb s2 (fun e => h.nR (by rw [e]; rfl)), kept_row h.rb s2 (fun e => by have : w.heap.size = g := Option.some.inj e; omega), ?_, h.oL.kept s2 ?_, h.ap, h.nR, h.st.storeT s2 (by omega) ha, h.bb⟩
  · rw [hl, hf]; exact s1
  · cases hv : vL.ownBlock with
    | none => exact .inl rfl
    | some k => exact .inr (fun e => h.ap g rfl (by rw [hv, e]))
set_option maxRecDepth 100000 in
theorem MK.rtAt {a B g n cap k : Nat} {w wr : World} {vL : Value} {R : List Rt} {L : List Lk} {m : Rt} (h : MK a w B (.slice (some ⟨g, 0, none⟩) n cap) vL R L wr) (hm : R[k]? = some m) : wr.cell? ⟨g, k * 2 + 1, none⟩ = some (.bool m.cap) := by
  have h1 := (List.getElem?_eq_some_iff.1 hm).1
  have hn : n = R.length := by
    obtain ⟨p, c, e, _⟩ := own_shape h.oR
    injection e
  subst hn
  rw [h.oR.cellAt (k * 2 + 1) (by omega)]
  exact (flat_at rtC 2 (fun _ => rfl) R k 1 m hm (by decide)).trans rfl
set_option maxRecDepth 100000 in
theorem MK.frz {a B g n cap : Nat} {w wr : World} {vL : Value} {R : List Rt} {L : List Lk} (h : MK a w B (.slice (some ⟨g, 0, none⟩) n cap) vL R L wr) (j : Nat) : wr.frozen? ⟨g, j, none⟩ = false := by
  have hn : n = R.length := by
    obtain ⟨p, c, e, _⟩ := own_shape h.oR
    injection e
  subst hn
  exact h.oR.frozenAt j
end Go.Proofs.Ytlefjdglcdopeaa

/- The tape's Router of any topology. -/
namespace Go.Proofs.Ytlefjdglcdopeaa
open Go.RowKit Bs
set_option maxRecDepth 100000 in
set_option maxHeartbeats 3200000 in
theorem router0_any (a : Nat) (T : Tg) (n : Int) (hn : I64 n) (h0 : T.R.length = 0) (q : Nat → Prop) (w : World) (hT : TgOk w q T) (hq : ∀ b, q b → b ≠ a) (hp : Tp w a) :
    Calls Try.prog 13 #[.pointer (some ⟨a, 0, none⟩), .agg #[.slice T.pR T.R.length T.cR, .slice T.pL T.L.length T.cL], .int .i64 n] w fun e w' => ∃ x : Int, e = .returned (.int .i64 x) ∧ St a w w' := by
  have ha := hp.lt
  have hmR := Nat.le_trans hT.cr.1 hT.cr.2
  obtain ⟨k1, k2⟩ := tone_box w #[.slice T.pR T.R.length T.cR, .slice T.pL T.L.length T.cL] 28
  have H0 : Hid (RM a w T q _) := Lib.hid ⟨k1, hT.keep k2, ⟨grown_none k2 _, hp.keep k2⟩⟩
  have HQ := Lib.hid hq
  clear k1 k2 hT hp hq
  obtain ⟨R, L, pR, cR, pL, cL⟩ := T
  simp only at hmR H0 h0 ⊢
  have hz : ((R.length : Int) == 0) = true := by rw [beq_iff_eq]; omega
  clear h0
  go_enter Try.func13, Try.ntmps13
  go_upto_region 1 with fail
  generalize w.alloc _ = wa at *
  obtain ⟨c0, c1⟩ := row_cells H0.out.tb
  go_cut [19] from 7 to 19 (fun bb wx => bb = .bool true ∧ Hid (RM a w ⟨R, L, pR, cR, pL, cL⟩ q wx))
  case first =>
    by_cases hn1 : 0 < n
    · go_wp2_with fail
      refine (one_any a n hn _ H0.out.st.2).mono ?_
      rintro e w5 ⟨z, rfl, hs⟩
      have H1 := Lib.hid (H0.out.tape ha HQ.out hs)
      clear hs c0 c1 H0
      obtain ⟨c0, c1⟩ := row_cells H1.out.tb
      cases z
      · go_wp2_with fail
        go_meet
        exact ⟨by first | rfl | (simp [hz]), H1⟩
      · go_wp2_with fail
        go_meet
        exact ⟨rfl, H1⟩
    · go_wp2_with fail
      go_meet
      exact ⟨by first | rfl | (simp [hz]), H0⟩
  case rest =>
  obtain ⟨rfl, H1⟩ := hcut
  clear H0 c0 c1
  go_upto_if 19 with fail
  have HT := Lib.hid (H1.out.st.2.alloc (.cells #[.int .i64 0, .int .i64 1, .int .i64 2, .int .i64 7, .int .i64 77, .int .i64 (-1)] 3))
  have HA := Lib.hid (among_list I64 wc a [0, 1, 2, 7, 77, -1] #[.int .i64 0, .int .i64 1, .int .i64 2, .int .i64 7, .int .i64 77, .int .i64 (-1)] 3 H1.out.st.2.lt rfl (by intro x hx; simp at hx; unfold I64; omega))
  go_wp2_with fail
  refine (pick_any _ a _ 0 6 6 (by omega) (by omega) _ HT.out HA.out).mono ?_
  rintro e w2 ⟨x, rfl, -, hs⟩
  have HS := Lib.hid (H1.out.st.trans (St.alloc_left hs))
  clear hs HT HA H1
  go_wp2_with fail
  go_ret
  exact ⟨x, rfl, HS.out⟩
set_option maxRecDepth 100000 in
theorem routerN_any (a : Nat) (T : Tg) (n : Int) (hn : I64 n) (q : Nat → Prop) (w : World) (hT : TgOk w q T) (hq : ∀ b, q b → b ≠ a) (hp : Tp w a) :
    Calls Try.prog 13 #[.pointer (some ⟨a, 0, none⟩), .agg #[.slice T.pR T.R.length T.cR, .slice T.pL T.L.length T.cL], .int .i64 n] w fun e w' => ∃ x : Int, e = .returned (.int .i64 x) ∧ St a w w' := by
  by_cases h : 0 < T.R.length
  · exact router_any a T n hn h q w hT hq hp
  · exact router0_any a T n hn (by omega) q w hT hq hp
end Go.Proofs.Ytlefjdglcdopeaa

/- The tape's Router of any topology: what is known of its number. -/
namespace Go.Proofs.Ytlefjdglcdopeaa
open Go.RowKit Bs
def RtP (T : Tg) (n x : Int) : Prop := (∃ r ∈ T.R, r.id = x) ∨ ((0 < n ∨ T.R.length = 0) ∧ -1 ≤ x ∧ x ≤ 77)
set_option maxRecDepth 100000 in
set_option maxHeartbeats 3200000 in
theorem srouter_any (a : Nat) (T : Tg) (n : Int) (hn : I64 n) (h0 : 0 < T.R.length) (q : Nat → Prop) (w : World) (hT : TgOk w q T) (hq : ∀ b, q b → b ≠ a) (hp : Tp w a) :
    Calls Try.prog 13 #[.pointer (some ⟨a, 0, none⟩), .agg #[.slice T.pR T.R.length T.cR, .slice T.pL T.L.length T.cL], .int .i64 n] w fun e w' => ∃ x : Int, RtP T n x ∧ e = .returned (.int .i64 x) ∧ St a w w' := by
  have ha := hp.lt
  have hmR := Nat.le_trans hT.cr.1 hT.cr.2
  obtain ⟨k1, k2⟩ := tone_box w #[.slice T.pR T.R.length T.cR, .slice T.pL T.L.length T.cL] 28
  have H0 : Hid (RM a w T q _) := Lib.hid ⟨k1, hT.keep k2, ⟨grown_none k2 _, hp.keep k2⟩⟩
  have HQ := Lib.hid hq
  clear k1 k2 hT hp hq
  obtain ⟨R, L, pR, cR, pL, cL⟩ := T
  simp only at hmR H0 h0 ⊢
  obtain ⟨-, b, off, rfl, -, -⟩ := rdr_cells (R := R) H0.out.t.r h0
  go_enter Try.func13, Try.ntmps13
  go_upto_region 1 with fail
  generalize w.alloc _ = wa at *
  obtain ⟨c0, c1⟩ := row_cells H0.out.tb
  have hz : ((R.length : Int) == 0) = false := by rw [beq_eq_false_iff_ne]; omega
  go_cut [19] from 7 to 19 (fun bb wx => ∃ z, bb = .bool z ∧ (z = true → 0 < n) ∧ Hid (RM a w ⟨R, L, some ⟨b, off, none⟩, cR, pL, cL⟩ q wx))
  case first =>
    by_cases hn1 : 0 < n
    · go_wp2_with fail
      refine (one_any a n hn _ H0.out.st.2).mono ?_
      rintro e w5 ⟨z, rfl, hs⟩
      have H1 := Lib.hid (H0.out.tape ha HQ.out hs)
      clear hs c0 c1 H0
      obtain ⟨c0, c1⟩ := row_cells H1.out.tb
      cases z
      · go_wp2_with fail
        go_meet
        exact ⟨_, rfl, fun _ => hn1, H1⟩
      · go_wp2_with fail
        go_meet
        exact ⟨_, rfl, fun _ => hn1, H1⟩
    · go_wp2_with fail
      go_meet
      exact ⟨false, rfl, (fun h => (by cases h)), H0⟩
  case rest =>
  obtain ⟨z, rfl, hzn, H1⟩ := hcut
  have HZN := Lib.hid hzn
  clear hzn
  clear H0 c0 c1
  go_upto_if 19 with fail
  cases z
  · have i1 : 0 < R.length := h0
    go_upto_region 3 with fail
    refine wp_region_held_drew (S := fun w' => Hid (RM a w ⟨R, L, some ⟨b, off, none⟩, cR, pL, cL⟩ q w')) (by kernel_rfl) (Lib.hid (H1.out.keep (grown_drew (grown_refl _ _)))) (fun hHeld => ?_)
    refine wpAnyH_take (i := 0) (oi := { dst := some 23, op := Op.fieldAddr 28 (Operand.tmp 4) 0, type := 0, pos := "make.go:639", after := #[], guard := none }) (v := ?_) rfl (by kernel_rfl) (by kernel_rfl) (by kernel_rfl) (fun _ _ _ h => h) (Or.inl ⟨by rfl, ?_⟩) hHeld ?_
    rotate_left 1
    · intro u hSu
      obtain ⟨q0, q1⟩ := row_cells hSu.out.tb
      go_simp
      first | done | with_reducible rfl
    (try simp only [Act.put, List.setIfInBounds_toArray, List.set_cons_zero, List.set_cons_succ])
    refine wpAnyH_take (i := 1) (oi := { dst := some 24, op := Op.load 25 (Operand.tmp 23), type := 25, pos := "make.go:639", after := #[{ on := 0, ground := Ground.data }], guard := none }) (v := ?_) rfl (by kernel_rfl) (by kernel_rfl) (by kernel_rfl) (fun _ _ _ h => h) (Or.inl ⟨by rfl, ?_⟩) hHeld ?_
    rotate_left 1
    · intro u hSu
      obtain ⟨q0, q1⟩ := row_cells hSu.out.tb
      go_simp
      first | done | with_reducible rfl
    (try simp only [Act.put, List.setIfInBounds_toArray, List.set_cons_zero, List.set_cons_succ])
    refine wpAnyH_take (i := 2) (oi := { dst := some 25, op := Op.move (Operand.tmp 0), type := 23, pos := "make.go:639", after := #[], guard := none }) (v := ?_) rfl (by kernel_rfl) (by kernel_rfl) (by kernel_rfl) (fun _ _ _ h => h) (Or.inl ⟨by rfl, ?_⟩) hHeld ?_
    rotate_left 1
    · intro u hSu
      obtain ⟨q0, q1⟩ := row_cells hSu.out.tb
      go_simp
      first | done | with_reducible rfl
    (try simp only [Act.put, List.setIfInBounds_toArray, List.set_cons_zero, List.set_cons_succ])
    refine wpAnyH_take (i := 3) (oi := { dst := some 26, op := Op.fieldAddr 28 (Operand.tmp 4) 0, type := 0, pos := "make.go:639", after := #[], guard := none }) (v := ?_) rfl (by kernel_rfl) (by kernel_rfl) (by kernel_rfl) (fun _ _ _ h => h) (Or.inl ⟨by rfl, ?_⟩) hHeld ?_
    rotate_left 1
    · intro u hSu
      obtain ⟨q0, q1⟩ := row_cells hSu.out.tb
      go_simp
      first | done | with_reducible rfl
    (try simp only [Act.put, List.setIfInBounds_toArray, List.set_cons_zero, List.set_cons_succ])
    refine wpAnyH_take (i := 4) (oi := { dst := some 27, op := Op.load 25 (Operand.tmp 26), type := 25, pos := "make.go:639", after := #[{ on := 3, ground := Ground.data }], guard := none }) (v := ?_) rfl (by kernel_rfl) (by kernel_rfl) (by kernel_rfl) (fun _ _ _ h => h) (Or.inl ⟨by rfl, ?_⟩) hHeld ?_
    rotate_left 1
    · intro u hSu
      obtain ⟨q0, q1⟩ := row_cells hSu.out.tb
      go_simp
      first | done | with_reducible rfl
    (try simp only [Act.put, List.setIfInBounds_toArray, List.set_cons_zero, List.set_cons_succ])
    refine wpAnyH_take (i := 5) (oi := { dst := some 28, op := Op.call { callee := Callee.builtin Builtin.len, args := #[Operand.tmp 27], argTypes := #[25] }, type := 3, pos := "make.go:639", after := #[{ on := 4, ground := Ground.data }], guard := none }) (v := ?_) rfl (by kernel_rfl) (by kernel_rfl) (by kernel_rfl) (fun _ _ _ h => h) (Or.inl ⟨by rfl, ?_⟩) hHeld ?_
    rotate_left 1
    · intro u hSu
      obtain ⟨q0, q1⟩ := row_cells hSu.out.tb
      go_simp
      first | done | with_reducible rfl
    (try simp only [Act.put, List.setIfInBounds_toArray, List.set_cons_zero, List.set_cons_succ])
    refine wpAnyH_ready (rs := [6]) (by kernel_rfl) (by simp) ?_
    refine AllReadyH.cons (o := { dst := some 29, op := Op.call { callee := Callee.value (Operand.func 24), args := #[Operand.tmp 25, Operand.tmp 28], argTypes := #[23, 3] }, type := 3, pos := "make.go:639", after := #[{ on := 2, ground := Ground.data }, { on := 5, ground := Ground.data }], guard := none }) rfl (fun Kz hK => ?_) AllReadyH.nil
    go_simp
    go_at_call 24
    refine (next_any a R.length (by unfold I64; omega) _ hHeld.out.st.2).mono ?_
    rintro e w5 ⟨y, rfl, hy, hs⟩
    obtain ⟨i, rfl⟩ := Int.eq_ofNat_of_zero_le hy.1
    have hi : i < R.length := by have := hy.2.1 (by omega); omega
    have H5n := Lib.hid (hHeld.out.tape ha HQ.out hs)
    clear hy hs
    have j0 : (0 : Int) ≤ (i : Int) := by omega
    have j1 : (i : Int) < (R.length : Int) := by omega
    obtain ⟨m, hm⟩ : ∃ m, R[i]? = some m := ⟨_, List.getElem?_eq_getElem hi⟩
    have HM := Lib.hid hm
    clear hm
    refine hK.out _ _ (H5n) (fun hH2 => ?_)
    clear hK Kz hHeld
    have hHeld := hH2
    clear hH2
    (try simp only [Act.put, List.setIfInBounds_toArray, List.set_cons_zero, List.set_cons_succ])
    refine wpAnyH_take (i := 7) (oi := { dst := some 30, op := Op.indexAddr 25 (Operand.tmp 24) (Operand.tmp 29), type := 0, pos := "make.go:639", after := #[{ on := 1, ground := Ground.data }, { on := 6, ground := Ground.data }], guard := none }) (v := ?_) rfl (by kernel_rfl) (by kernel_rfl) (by kernel_rfl) (fun _ _ _ h => h) (Or.inl ⟨by rfl, ?_⟩) hHeld ?_
    rotate_left 1
    · intro u hSu
      obtain ⟨q0, q1⟩ := row_cells hSu.out.tb
      go_simp
      first | done | with_reducible rfl
    (try simp only [Act.put, List.setIfInBounds_toArray, List.set_cons_zero, List.set_cons_succ])
    refine wpAnyH_take (i := 8) (oi := { dst := some 31, op := Op.fieldAddr 63 (Operand.tmp 30) 0, type := 0, pos := "make.go:639", after := #[{ on := 7, ground := Ground.data }], guard := none }) (v := ?_) rfl (by kernel_rfl) (by kernel_rfl) (by kernel_rfl) (fun _ _ _ h => h) (Or.inl ⟨by rfl, ?_⟩) hHeld ?_
    rotate_left 1
    · intro u hSu
      obtain ⟨q0, q1⟩ := row_cells hSu.out.tb
      go_simp
      first | done | with_reducible rfl
    (try simp only [Act.put, List.setIfInBounds_toArray, List.set_cons_zero, List.set_cons_succ])
    refine wpAnyH_take (i := 9) (oi := { dst := some 32, op := Op.load 3 (Operand.tmp 31), type := 3, pos := "make.go:639", after := #[{ on := 8, ground := Ground.data }], guard := none }) (v := ?_) rfl (by kernel_rfl) (by kernel_rfl) (by kernel_rfl) (fun _ _ _ h => h) (Or.inl ⟨by rfl, ?_⟩) hHeld ?_
    rotate_left 1
    · intro u hSu
      obtain ⟨q0, q1⟩ := row_cells hSu.out.tb
      obtain ⟨e0, e1⟩ := hSu.out.rt HM.out
      go_simp
      first | done | with_reducible rfl
    (try simp only [Act.put, List.setIfInBounds_toArray, List.set_cons_zero, List.set_cons_succ])
    refine wpAnyH_take (i := 10) (oi := { dst := some 6, op := Op.assign (Operand.tmp 32), type := 3, pos := "make.go:639", after := #[{ on := 9, ground := Ground.data }, { on := 6, ground := Ground.chain }, { on := 0, ground := Ground.phase }, { on := 1, ground := Ground.phase }, { on := 2, ground := Ground.phase }, { on := 3, ground := Ground.phase }, { on := 4, ground := Ground.phase }, { on := 5, ground := Ground.phase }, { on := 6, ground := Ground.phase }, { on := 7, ground := Ground.phase }, { on := 8, ground := Ground.phase }, { on := 9, ground := Ground.phase }], guard := none }) (v := ?_) rfl (by kernel_rfl) (by kernel_rfl) (by kernel_rfl) (fun _ _ _ h => h) (Or.inl ⟨by rfl, ?_⟩) hHeld ?_
    rotate_left 1
    · intro u hSu
      obtain ⟨q0, q1⟩ := row_cells hSu.out.tb
      go_simp
      first | done | with_reducible rfl
    (try simp only [Act.put, List.setIfInBounds_toArray, List.set_cons_zero, List.set_cons_succ])
    refine wpAnyH_done (by kernel_rfl) ?_ _
    have H9 := Lib.hid hHeld.out.st
    clear hHeld
    go_wp2_with fail
    go_ret
    exact ⟨m.id, Or.inl ⟨m, List.mem_of_getElem? HM.out, rfl⟩, rfl, H9.out⟩
  · have HT := Lib.hid (H1.out.st.2.alloc (.cells #[.int .i64 0, .int .i64 1, .int .i64 2, .int .i64 7, .int .i64 77, .int .i64 (-1)] 3))
    have HA := Lib.hid (among_list (fun x => -1 ≤ x ∧ x ≤ 77) wc a [0, 1, 2, 7, 77, -1] #[.int .i64 0, .int .i64 1, .int .i64 2, .int .i64 7, .int .i64 77, .int .i64 (-1)] 3 H1.out.st.2.lt rfl (by intro x hx; simp at hx; omega))
    go_wp2_with fail
    refine (pick_any _ a _ 0 6 6 (by omega) (by omega) _ HT.out HA.out).mono ?_
    rintro e w2 ⟨x, rfl, hxp, hs⟩
    have HS := Lib.hid (H1.out.st.trans (St.alloc_left hs))
    clear hs HT HA H1
    have HXP := Lib.hid hxp
    clear hxp
    go_wp2_with fail
    go_ret
    exact ⟨x, Or.inr ⟨Or.inl (HZN.out (by first | rfl | trivial)), HXP.out⟩, rfl, HS.out⟩
set_option maxRecDepth 100000 in
set_option maxHeartbeats 3200000 in
theorem srouter0_any (a : Nat) (T : Tg) (n : Int) (hn : I64 n) (h0 : T.R.length = 0) (q : Nat → Prop) (w : World) (hT : TgOk w q T) (hq : ∀ b, q b → b ≠ a) (hp : Tp w a) :
    Calls Try.prog 13 #[.pointer (some ⟨a, 0, none⟩), .agg #[.slice T.pR T.R.length T.cR, .slice T.pL T.L.length T.cL], .int .i64 n] w fun e w' => ∃ x : Int, RtP T n x ∧ e = .returned (.int .i64 x) ∧ St a w w' := by
  have ha := hp.lt
  have hmR := Nat.le_trans hT.cr.1 hT.cr.2
  obtain ⟨k1, k2⟩ := tone_box w #[.slice T.pR T.R.length T.cR, .slice T.pL T.L.length T.cL] 28
  have H0 : Hid (RM a w T q _) := Lib.hid ⟨k1, hT.keep k2, ⟨grown_none k2 _, hp.keep k2⟩⟩
  have HQ := Lib.hid hq
  clear k1 k2 hT hp hq
  obtain ⟨R, L, pR, cR, pL, cL⟩ := T
  simp only at hmR H0 h0 ⊢
  have hz : ((R.length : Int) == 0) = true := by rw [beq_iff_eq]; omega
  have H00 := Lib.hid h0
  clear h0
  go_enter Try.func13, Try.ntmps13
  go_upto_region 1 with fail
  generalize w.alloc _ = wa at *
  obtain ⟨c0, c1⟩ := row_cells H0.out.tb
  go_cut [19] from 7 to 19 (fun bb wx => bb = .bool true ∧ Hid (RM a w ⟨R, L, pR, cR, pL, cL⟩ q wx))
  case first =>
    by_cases hn1 : 0 < n
    · go_wp2_with fail
      refine (one_any a n hn _ H0.out.st.2).mono ?_
      rintro e w5 ⟨z, rfl, hs⟩
      have H1 := Lib.hid (H0.out.tape ha HQ.out hs)
      clear hs c0 c1 H0
      obtain ⟨c0, c1⟩ := row_cells H1.out.tb
      cases z
      · go_wp2_with fail
        go_meet
        exact ⟨by first | rfl | (simp [hz]), H1⟩
      · go_wp2_with fail
        go_meet
        exact ⟨rfl, H1⟩
    · go_wp2_with fail
      go_meet
      exact ⟨by first | rfl | (simp [hz]), H0⟩
  case rest =>
  obtain ⟨rfl, H1⟩ := hcut
  clear H0 c0 c1
  go_upto_if 19 with fail
  have HT := Lib.hid (H1.out.st.2.alloc (.cells #[.int .i64 0, .int .i64 1, .int .i64 2, .int .i64 7, .int .i64 77, .int .i64 (-1)] 3))
  have HA := Lib.hid (among_list (fun x => -1 ≤ x ∧ x ≤ 77) wc a [0, 1, 2, 7, 77, -1] #[.int .i64 0, .int .i64 1, .int .i64 2, .int .i64 7, .int .i64 77, .int .i64 (-1)] 3 H1.out.st.2.lt rfl (by intro x hx; simp at hx; omega))
  go_wp2_with fail
  refine (pick_any _ a _ 0 6 6 (by omega) (by omega) _ HT.out HA.out).mono ?_
  rintro e w2 ⟨x, rfl, hxp, hs⟩
  have HS := Lib.hid (H1.out.st.trans (St.alloc_left hs))
  clear hs HT HA H1
  have HXP := Lib.hid hxp
  clear hxp
  go_wp2_with fail
  go_ret
  exact ⟨x, Or.inr ⟨Or.inr H00.out, HXP.out⟩, rfl, HS.out⟩
set_option maxRecDepth 100000 in
theorem srtr_any (a : Nat) (T : Tg) (n : Int) (hn : I64 n) (q : Nat → Prop) (w : World) (hT : TgOk w q T) (hq : ∀ b, q b → b ≠ a) (hp : Tp w a) :
    Calls Try.prog 13 #[.pointer (some ⟨a, 0, none⟩), .agg #[.slice T.pR T.R.length T.cR, .slice T.pL T.L.length T.cL], .int .i64 n] w fun e w' => ∃ x : Int, RtP T n x ∧ e = .returned (.int .i64 x) ∧ St a w w' := by
  by_cases h : 0 < T.R.length
  · exact srouter_any a T n hn h q w hT hq hp
  · exact srouter0_any a T n hn (by omega) q w hT hq hp
end Go.Proofs.Ytlefjdglcdopeaa

/- The law TopologyChecks. -/
namespace Go.Proofs.Ytlefjdglcdopeaa
open Go.RowKit Bs
set_option maxRecDepth 100000 in
theorem IntsIn.keepT {w w' : World} {v : Value} (h : IntsIn w v) (g : w.grownBy w' none) : IntsIn w' v := by
  obtain ⟨p, n, c, hv, h1, h2, hc⟩ := h
  refine ⟨p, n, c, hv, h1, h2, fun hn => ?_⟩
  obtain ⟨b, off, hp, hb, hx⟩ := hc hn
  refine ⟨b, off, hp, Nat.lt_of_lt_of_le hb g.size, fun i hi => ?_⟩
  obtain ⟨x, hx1, hcell⟩ := hx i hi
  exact ⟨x, hx1, g.cell hcell (by simp)⟩
/-- More than a law looks at. -/
def tbig (R : List Rt) (L : List Lk) : Bool := decide (100 < R.length) || decide (200 < L.length)
set_option maxRecDepth 100000 in
theorem tg_all {w : World} {q : Nat → Prop} {T : Tg} (h : TgOk w q T) : TgOk w (fun _ => True) T := h.mono (fun _ _ => trivial)
set_option maxRecDepth 100000 in
/-- A topology of the tape's as the laws take it. -/
theorem topo_tg (a most : Nat) (n : Int) (hm1 : 1 ≤ most) (hm8 : most ≤ 8) (hn : I64 n) (w : World) (hT : Tp w a) :
    Calls Try.prog 12 #[.pointer (some ⟨a, 0, none⟩), .int .i64 (most : Int), .int .i64 n] w fun e w' => ∃ T : Tg, e = .returned (.agg #[.slice T.pR T.R.length T.cR, .slice T.pL T.L.length T.cL]) ∧ TgOk w' (fun b => w.heap.size ≤ b ∧ b < w'.heap.size) T ∧ TopOf most n T.R T.L ∧ St a w w' := by
  refine (topo_any a most n hm1 hm8 hn w hT).mono ?_
  rintro e w' ⟨R, L, vR, vL, rfl, hR, hL, _, hO, hs⟩
  obtain ⟨pR, cR, pL, cL, rfl, rfl, hT⟩ := tg_of_own hR hL
  exact ⟨⟨R, L, pR, cR, pL, cL⟩, rfl, hT, hO, hs⟩
end Go.Proofs.Ytlefjdglcdopeaa

/- As until: what is not late keeps what holds. -/
namespace Go.Proofs.Ytlefjdglcdopeaa
open Go
section
variable {P : Program} {ops : Array Oper} {Q : Exit → Act → World → Prop} {md : Region.Mode} {S : World → Prop} {late : Nat → Bool}
/-- Any order from here on; S holds behind whatever is not late. -/
def anyV (P : Program) (md : Region.Mode) (ops : Array Oper) (Q : Exit → Act → World → Prop) (S : World → Prop) (late : Nat → Bool) : Nat → Array Bool → Act → World → Prop
  | 0, seen, a, w => Region.ready md ops seen = [] ∧ Q .normal a w
  | n + 1, seen, a, w => (Region.ready md ops seen = [] → Q .normal a w) ∧
      ∀ k, k ∈ Region.ready md ops seen → wpOp P ops Q k (fun b v => (late k = false → S w → S v) ∧ anyV P md ops Q S late n (seen.setIfInBounds k true) b v) a w
set_option maxRecDepth 100000 in
theorem anyV_any (n : Nat) : ∀ (seen : Array Bool) (a : Act) (w : World), anyV P md ops Q S late n seen a w → wpAny P md ops Q n seen a w := by
  induction n with
  | zero => intro seen a w h; exact h
  | succ n ih => intro seen a w h; exact ⟨h.1, fun k hk => wpOp_mono (fun b v hb => ih _ b v hb.2) (h.2 k hk)⟩
set_option maxRecDepth 100000 in
theorem anyV_first {i : Nat} {oi : Oper} {v : Value} (hi : ops[i]? = some oi) (hsel : ∀ (j : Nat) (o : Oper) cs b, ops[j]? = some o → o.op ≠ .select cs b)
    (hQ : ∀ c a w, Q (.panic c) (a.put oi.dst v) w → Q (.panic c) a w) (hw : waits md ops late i = true) (n : Nat) :
    ∀ (seen : Array Bool) (a : Act) (w : World),
      (∀ j oj, ops[j]? = some oj → j ≠ i → seen.getD j true = false → (∀ e ∈ oj.after, Region.binds md e = true → e.on ≠ i) → oi.apart ops oj = true) →
      Shut1 md ops seen → i ∈ Region.ready md ops seen → YieldsIf P ops S oi v a → S w → anyV P md ops Q S late n (seen.setIfInBounds i true) (a.put oi.dst v) w → anyV P md ops Q S late (n + 1) seen a w := by
  have now : ∀ (m : Nat) (seen : Array Bool) (a : Act) (w : World), YieldsIf P ops S oi v a → S w → anyV P md ops Q S late m (seen.setIfInBounds i true) (a.put oi.dst v) w →
      wpOp P ops Q i (fun b u => (late i = false → S w → S u) ∧ anyV P md ops Q S late m (seen.setIfInBounds i true) b u) a w := fun m seen a w hy hS h => hy.wpOp hi hS ⟨fun _ _ => hS, h⟩
  induction n with
  | zero =>
    intro seen a w _ _ hr hy hS h
    refine ⟨fun e => (by rw [e] at hr; cases hr), fun j hj => ?_⟩
    by_cases e : j = i
    · exact e ▸ now 0 seen a w hy hS h
    · have := ready_mono hj e
      rw [h.1] at this
      cases this
  | succ n ih =>
    intro seen a w hf hc hr hy hS h
    refine ⟨fun e => (by rw [e] at hr; cases hr), fun j hj => ?_⟩
    by_cases e : j = i
    · exact e ▸ now (n + 1) seen a w hy hS h
    obtain ⟨hun, oj, hoj, hall⟩ := mem_ready.1 hj
    have hno : ∀ e ∈ oj.after, Region.binds md e = true → e.on ≠ i := fun e he hb hei => by
      have h1 := hall e he hb
      have h0 := (mem_ready.1 hr).1
      rw [hei] at h1
      by_cases hlt : i < seen.size
      · simp [hlt] at h0 h1
        rw [h0] at h1
        cases h1
      · simp [Array.getElem?_eq_none (Nat.le_of_not_lt hlt)] at h1
    have hl : late j = false := by
      cases hl : late j with
      | false => rfl
      | true =>
        have h1 := waits_seen hw hc hj hl
        have h0 := (mem_ready.1 hr).1
        by_cases hlt : i < seen.size
        · simp [hlt] at h0 h1
          rw [h0] at h1
          cases h1
        · simp [Array.getElem?_eq_none (Nat.le_of_not_lt hlt)] at h1
    refine wpOp_mono (fun b u hb => ⟨hb.2.1, ih _ b u (fun k ok hk hki hsk hnk => hf k ok hk hki ?_ hnk) (hc.step hj) (ready_mono hr (Ne.symm e)) hb.1 (hb.2.1 hl hS) (by rw [Array.setIfInBounds_comm _ _ e]; exact hb.2.2)⟩)
      (wpOp_putIf hoj (hf j oj hoj e hun hno) (fun cs b => hsel i oi cs b hi) (fun cs b => hsel j oj cs b hoj) hQ hy (h.2 j (ready_mono hj e)))
    by_cases hjk : j = k
    · exact hjk ▸ hun
    · rwa [getD_set_ne true hjk] at hsk
set_option maxRecDepth 100000 in
theorem anyV_take {i : Nat} {oi : Oper} {v : Value} {n : Nat} {seen : Array Bool} {a : Act} {w : World} (hi : ops[i]? = some oi) (hw : waits md ops late i = true)
    (hc : shut1 md ops seen = true) (hs : Region.noSelect ops = true) (hf : Region.free md ops seen i = true) (hr : (Region.ready md ops seen).contains i = true)
    (hQ : ∀ c a w, Q (.panic c) (a.put oi.dst v) w → Q (.panic c) a w) (hy : YieldsIf P ops S oi v a) (hS : S w)
    (h : anyV P md ops Q S late n (seen.setIfInBounds i true) (a.put oi.dst v) w) : anyV P md ops Q S late (n + 1) seen a w :=
  anyV_first hi (Region.noSelect_spec hs) hQ hw n seen a w (Region.free_spec hi hf) (shut1_spec hc) (by simpa using hr) hy hS h
/-- Each of some operations comes up next. -/
def EachV (P : Program) (md : Region.Mode) (ops : Array Oper) (Q : Exit → Act → World → Prop) (S : World → Prop) (late : Nat → Bool) (n : Nat) (seen : Array Bool) (a : Act) (w : World) (rs : List Nat) : Prop :=
  ∀ k ∈ rs, wpOp P ops Q k (fun b v => (late k = false → S w → S v) ∧ anyV P md ops Q S late n (seen.setIfInBounds k true) b v) a w
set_option maxRecDepth 100000 in
theorem EachV.nil {n : Nat} {seen : Array Bool} {a : Act} {w : World} : EachV P md ops Q S late n seen a w [] := fun _ h => by cases h
set_option maxRecDepth 100000 in
theorem EachV.cons {n : Nat} {seen : Array Bool} {a : Act} {w : World} {i : Nat} {o : Oper} {rs : List Nat} (ho : ops[i]? = some o)
    (h : ∀ K : Act → World → Prop, Shut (∀ b v, (late i = false → S w → S v) → ((late i = false → S w → S v) → anyV P md ops Q S late n (seen.setIfInBounds i true) b v) → K b v) → if Region.wanted o (yielded ops a.tmps) = true then Oper.wp P o a w K Q else K (a.put o.dst undef) w)
    (hs : EachV P md ops Q S late n seen a w rs) : EachV P md ops Q S late n seen a w (i :: rs) := fun j hj => by
  rcases List.mem_cons.1 hj with rfl | hj
  · exact wpOp_step ho (fun K hK => h K (fun b v hS hW => hK b v ⟨hS, hW hS⟩))
  · exact hs j hj
set_option maxRecDepth 100000 in
theorem anyV_ready {rs : List Nat} {n : Nat} {seen : Array Bool} {a : Act} {w : World} (hr : Region.ready md ops seen = rs) (hne : rs ≠ []) (h : EachV P md ops Q S late n seen a w rs) : anyV P md ops Q S late (n + 1) seen a w :=
  ⟨fun e => absurd (hr ▸ e) hne, hr ▸ h⟩
set_option maxRecDepth 100000 in
theorem anyV_done {seen : Array Bool} {a : Act} {w : World} (hr : Region.ready md ops seen = []) (h : Q .normal a w) (n : Nat) : anyV P md ops Q S late n seen a w := by
  cases n with
  | zero => exact ⟨hr, h⟩
  | succ n => exact ⟨fun _ => h, by rw [hr]; intro k hk; cases hk⟩
set_option maxRecDepth 100000 in
theorem region_until2 {id : Nat} {a : Act} {w : World} (late : Nat → Bool) (hm : P.follows .mixedOrders = true) (hS : S w.drew) (h : S w.drew → anyV P .any ops Q S late ops.size (Array.replicate ops.size false) a w.drew) :
    (Code.region id ops true).wp P Q a w := wp_region_any hm (anyV_any _ _ _ _ (h hS))
end
end Go.Proofs.Ytlefjdglcdopeaa

/- The laws of shortest: what they begin with. -/
namespace Go.Proofs.Ytlefjdglcdopeaa
open Go.RowKit Go.Maps Bs
set_option maxRecDepth 100000 in
theorem own_formS {α : Type} {f : α → List Value} {w : World} {base size : Nat} {e : TypeId} {v : Value} {l : List α} (h : w.ownsRow base e size v l.length (l.flatMap f)) : (v = .slice none 0 0) ∨ ∃ g cap, v = .slice (some ⟨g, 0, none⟩) l.length cap := by
  rcases h.2 with ⟨rfl, h0⟩ | ⟨g, cap, cur, rfl, _⟩
  · exact .inl rfl
  · exact .inr ⟨g, cap, rfl⟩
set_option maxRecDepth 100000 in
theorem stopo_any (a most : Nat) (n : Int) (hm1 : 1 ≤ most) (hm8 : most ≤ 8) (hn : I64 n) (w : World) (hT : Tp w a) :
    Calls Try.prog 12 #[.pointer (some ⟨a, 0, none⟩), .int .i64 (most : Int), .int .i64 n] w fun e w' => ∃ T : Tg, e = .returned (.agg #[.slice T.pR T.R.length T.cR, .slice T.pL T.L.length T.cL]) ∧ TgOk w' (fun b => w.heap.size ≤ b ∧ b < w'.heap.size) T ∧ TopOf most n T.R T.L ∧ (T.pL = none → T.cL = 0) ∧ St a w w' := by
  refine (topo_any a most n hm1 hm8 hn w hT).mono ?_
  rintro e w' ⟨R, L, vR, vL, rfl, hR, hL, _, hO, hs⟩
  have fL := own_formS hL
  obtain ⟨pR, cR, pL, cL, rfl, rfl, hT⟩ := tg_of_own hR hL
  refine ⟨⟨R, L, pR, cR, pL, cL⟩, rfl, hT, hO, fun h => ?_, hs⟩
  rcases fL with e1 | ⟨g, cap, e1⟩
  · injection e1
  · injection e1 with e2
    rw [show pL = none from h] at e2
    cases e2
/-- What a law keeps behind its draws. -/
structure LW (w : World) (G : Nat) (T : Tg) (wr : World) : Prop where
  gb : wr.heap[G]? = some (.cells #[.slice T.pR T.R.length T.cR, .slice T.pL T.L.length T.cL] 28 (0, 0))
  t : TgOk wr (· < G) T
  gr : w.grownBy wr none
set_option maxRecDepth 100000 in
theorem LW.keep {w wr w' : World} {G : Nat} {T : Tg} (h : LW w G T wr) (g : wr.grownBy w' none) : LW w G T w' := ⟨kept_row h.gb g (by simp), h.t.keep g, grown_trans h.gr g⟩
/-- What is known of a drawn topology without mistakes. -/
structure VT (most : Nat) (T : Tg) : Prop where
  ok : okT T.R T.L = true
  len : T.R.length ≤ most ∧ 1 ≤ T.R.length
  l60 : T.L.length ≤ 60
  pl : T.pL = none → T.cL = 0
set_option maxRecDepth 100000 in
theorem VT.of {most : Nat} {T : Tg} (h : TopOf most 0 T.R T.L) (hp : T.pL = none → T.cL = 0) : VT most T := by
  obtain ⟨h1, h2, h3, h4, h5⟩ := h
  obtain ⟨h6, h7⟩ := h5 (by omega)
  exact ⟨by unfold okT; rw [h6]; rfl, ⟨h7, h1⟩, h4, hp⟩
set_option maxRecDepth 100000 in
theorem VT.rt {most : Nat} {T : Tg} (h : VT most T) {x : Int} (hx : RtP T 0 x) : hasV T.R T.L x = true ∧ 1 ≤ x ∧ x ≤ 99 := by
  rcases hx with ⟨r, hr, e⟩ | ⟨h1, -⟩
  · have hm : x ∈ ids T.R := List.mem_map.2 ⟨r, hr, e⟩
    exact ⟨hasV_iff.2 ⟨h.ok, hm⟩, (okT_g h.ok).rng x hm⟩
  · have := h.len.2
    omega
end Go.Proofs.Ytlefjdglcdopeaa
