/- Parts of the proof, packed: ToFlr, ToMix, ToRtr, AdOfLaw, AdOpn, AdOpnC. -/
import Derived.Test.YtpoocenooomghaaDoorOf20
import Derived.Test.YtpoocenooomghaaDoorOf7
import Derived.Test.YtpoocenooomghaaDoorOf4
import Derived.Deep.CutBlock
import Derived.Test.YtpoocenooomghaaDoorOf21
import Derived.Test.YtpoocenooomghaaDoorOf16
import Derived.Test.YtpoocenooomghaaDoorOf18
import Derived.Test.YtpoocenooomghaaDoorOf19
import Derived.Deep.CutRange
import Derived.Test.YtpoocenooomghaaDoorOf2
import Derived.Test.YtpoocenooomghaaDoorOf6
/- The tape's Failure: some failure of at most one link or router, in memory of the call's own. -/
namespace Go.Proofs.YtpoocenooomghaaDoor
open Go.RowKit Bs
set_option maxRecDepth 100000 in
theorem row5F {w : World} {g : Nat} {x0 x1 x2 x3 x4 u0 u1 u2 u3 u4 : Value} {t : TypeId} (h : w.heap[g]? = some (.cells #[x0, x1, x2, x3, x4] t (0, 0))) :
    (((((w.setCell ⟨g, 0, none⟩ u0).setCell ⟨g, 1, none⟩ u1).setCell ⟨g, 2, none⟩ u2).setCell ⟨g, 3, none⟩ u3).setCell ⟨g, 4, none⟩ u4).heap[g]? = some (.cells #[u0, u1, u2, u3, u4] t (0, 0)) ∧
    w.grownBy (((((w.setCell ⟨g, 0, none⟩ u0).setCell ⟨g, 1, none⟩ u1).setCell ⟨g, 2, none⟩ u2).setCell ⟨g, 3, none⟩ u3).setCell ⟨g, 4, none⟩ u4) (some g) := by
  have h0 : TRow w g t [x0, x1, x2, x3, x4] := h
  have S : ∀ (u : World) (j : Nat) (x : Value), u.grownBy (u.setCell ⟨g, j, none⟩ x) (some g) := fun u j x => grown_setCell u ⟨g, j, none⟩ x
  exact ⟨(((((h0.set 0 u0).set 1 u1).set 2 u2).set 3 u3).set 4 u4), grown_trans (grown_trans (grown_trans (grown_trans (S _ _ _) (S _ _ _)) (S _ _ _)) (S _ _ _)) (S _ _ _)⟩
end Go.Proofs.YtpoocenooomghaaDoor

/- The tape's Router and Mixed. -/
namespace Go.Proofs.YtpoocenooomghaaDoor
open Go.RowKit Bs
/-- While a router is drawn: the topology's box. -/
structure RM (a : Nat) (w : World) (T : Tg) (q : Nat → Prop) (wr : World) : Prop where
  tb : wr.heap[w.heap.size]? = some (.cells #[.slice T.pR T.R.length T.cR, .slice T.pL T.L.length T.cL] 61 (0, 0))
  t : TgOk wr q T
  st : St a w wr
set_option maxRecDepth 100000 in
theorem RM.keep {a : Nat} {w wr w1 : World} {T : Tg} {q : Nat → Prop} (h : RM a w T q wr) (g : wr.grownBy w1 none) : RM a w T q w1 :=
  ⟨kept_row h.tb g (by simp), h.t.keep g, h.st.trans ⟨grown_none g _, h.st.2.keep g⟩⟩
set_option maxRecDepth 100000 in
theorem RM.tape {a : Nat} {w wr w1 : World} {T : Tg} {q : Nat → Prop} (h : RM a w T q wr) (ha : a < w.heap.size) (hq : ∀ b, q b → b ≠ a) (k : St a wr w1) : RM a w T q w1 :=
  ⟨kept_row h.tb k.1 (fun e => by have := Option.some.inj e; omega), h.t.grown k.1 (fun b hb e => hq b hb (Option.some.inj e)), h.st.trans k⟩
set_option maxRecDepth 100000 in
theorem RM.rt {a : Nat} {w wr : World} {R : List Rt} {L : List Lk} {pL : Option Addr} {cR cL b off i : Nat} {q : Nat → Prop} {m : Rt} (h : RM a w ⟨R, L, some ⟨b, off, none⟩, cR, pL, cL⟩ q wr) (hm : R[i]? = some m) :
    wr.cell? ⟨b, off + i * 2, none⟩ = some (.int .i64 m.id) ∧ wr.cell? ⟨b, off + i * 2 + 1, none⟩ = some (.bool m.cap) := by
  have h1 := (List.getElem?_eq_some_iff.1 hm).1
  obtain ⟨-, b', off', e, -, hc⟩ := rdr_cells (R := R) h.t.r (by omega)
  injection e with e
  injection e with e4 e5
  subst e4
  subst e5
  exact hc i m hm
set_option maxRecDepth 100000 in
set_option maxHeartbeats 3200000 in
theorem router_any (a : Nat) (T : Tg) (n : Int) (hn : I64 n) (h0 : 0 < T.R.length) (q : Nat → Prop) (w : World) (hT : TgOk w q T) (hq : ∀ b, q b → b ≠ a) (hp : Tp w a) :
    Calls Tryd.prog 32 #[.pointer (some ⟨a, 0, none⟩), .agg #[.slice T.pR T.R.length T.cR, .slice T.pL T.L.length T.cL], .int .i64 n] w fun e w' => ∃ x : Int, e = .returned (.int .i64 x) ∧ St a w w' := by
  have ha := hp.lt
  have hmR := Nat.le_trans hT.cr.1 hT.cr.2
  obtain ⟨k1, k2⟩ := tone_box w #[.slice T.pR T.R.length T.cR, .slice T.pL T.L.length T.cL] 61
  have H0 : Hid (RM a w T q _) := Lib.hid ⟨k1, hT.keep k2, ⟨grown_none k2 _, hp.keep k2⟩⟩
  have HQ := Lib.hid hq
  clear k1 k2 hT hp hq
  obtain ⟨R, L, pR, cR, pL, cL⟩ := T
  simp only at hmR H0 h0 ⊢
  obtain ⟨-, b, off, rfl, -, -⟩ := rdr_cells (R := R) H0.out.t.r h0
  go_enter Tryd.func32, Tryd.ntmps32
  go_upto_region 1 with fail
  generalize w.alloc _ = wa at *
  obtain ⟨c0, c1⟩ := row_cells H0.out.tb
  have hz : ((R.length : Int) == 0) = false := by rw [beq_eq_false_iff_ne]; omega
  go_cut [19] from 7 to 19 (fun bb wx => ∃ z, bb = .bool z ∧ Hid (RM a w ⟨R, L, some ⟨b, off, none⟩, cR, pL, cL⟩ q wx))
  case first =>
    by_cases hn1 : 0 < n
    · go_wp2_with fail
      refine (one_any a n hn _ H0.out.st.2).mono ?_
      rintro e w5 ⟨z, rfl, hs⟩
      have H1 := Lib.hid (H0.out.tape ha HQ.out hs)
      clear hs c0 c1 H0
      obtain ⟨c0, c1⟩ := row_cells H1.out.tb
      cases z
      · go_wp2_with fail
        go_meet
        exact ⟨_, rfl, H1⟩
      · go_wp2_with fail
        go_meet
        exact ⟨_, rfl, H1⟩
    · go_wp2_with fail
      go_meet
      exact ⟨_, rfl, H0⟩
  case rest =>
  obtain ⟨z, rfl, H1⟩ := hcut
  clear H0 c0 c1
  go_upto_if 19 with fail
  cases z
  · have i1 : 0 < R.length := h0
    go_upto_region 3 with fail
    refine wp_region_held_drew (S := fun w' => Hid (RM a w ⟨R, L, some ⟨b, off, none⟩, cR, pL, cL⟩ q w')) (by kernel_rfl) (Lib.hid (H1.out.keep (grown_drew (grown_refl _ _)))) (fun hHeld => ?_)
    refine wpAnyH_take (i := 0) (oi := { dst := some 23, op := Op.fieldAddr 61 (Operand.tmp 4) 0, type := 0, pos := "make.go:639", after := #[], guard := none }) (v := ?_) rfl (by kernel_rfl) (by kernel_rfl) (by kernel_rfl) (fun _ _ _ h => h) (Or.inl ⟨by rfl, ?_⟩) hHeld ?_
    rotate_left 1
    · intro u hSu
      obtain ⟨q0, q1⟩ := row_cells hSu.out.tb
      go_simp
      first | done | with_reducible rfl
    (try simp only [Act.put, List.setIfInBounds_toArray, List.set_cons_zero, List.set_cons_succ])
    refine wpAnyH_take (i := 1) (oi := { dst := some 24, op := Op.load 58 (Operand.tmp 23), type := 58, pos := "make.go:639", after := #[{ on := 0, ground := Ground.data }], guard := none }) (v := ?_) rfl (by kernel_rfl) (by kernel_rfl) (by kernel_rfl) (fun _ _ _ h => h) (Or.inl ⟨by rfl, ?_⟩) hHeld ?_
    rotate_left 1
    · intro u hSu
      obtain ⟨q0, q1⟩ := row_cells hSu.out.tb
      go_simp
      first | done | with_reducible rfl
    (try simp only [Act.put, List.setIfInBounds_toArray, List.set_cons_zero, List.set_cons_succ])
    refine wpAnyH_take (i := 2) (oi := { dst := some 25, op := Op.move (Operand.tmp 0), type := 27, pos := "make.go:639", after := #[], guard := none }) (v := ?_) rfl (by kernel_rfl) (by kernel_rfl) (by kernel_rfl) (fun _ _ _ h => h) (Or.inl ⟨by rfl, ?_⟩) hHeld ?_
    rotate_left 1
    · intro u hSu
      obtain ⟨q0, q1⟩ := row_cells hSu.out.tb
      go_simp
      first | done | with_reducible rfl
    (try simp only [Act.put, List.setIfInBounds_toArray, List.set_cons_zero, List.set_cons_succ])
    refine wpAnyH_take (i := 3) (oi := { dst := some 26, op := Op.fieldAddr 61 (Operand.tmp 4) 0, type := 0, pos := "make.go:639", after := #[], guard := none }) (v := ?_) rfl (by kernel_rfl) (by kernel_rfl) (by kernel_rfl) (fun _ _ _ h => h) (Or.inl ⟨by rfl, ?_⟩) hHeld ?_
    rotate_left 1
    · intro u hSu
      obtain ⟨q0, q1⟩ := row_cells hSu.out.tb
      go_simp
      first | done | with_reducible rfl
    (try simp only [Act.put, List.setIfInBounds_toArray, List.set_cons_zero, List.set_cons_succ])
    refine wpAnyH_take (i := 4) (oi := { dst := some 27, op := Op.load 58 (Operand.tmp 26), type := 58, pos := "make.go:639", after := #[{ on := 3, ground := Ground.data }], guard := none }) (v := ?_) rfl (by kernel_rfl) (by kernel_rfl) (by kernel_rfl) (fun _ _ _ h => h) (Or.inl ⟨by rfl, ?_⟩) hHeld ?_
    rotate_left 1
    · intro u hSu
      obtain ⟨q0, q1⟩ := row_cells hSu.out.tb
      go_simp
      first | done | with_reducible rfl
    (try simp only [Act.put, List.setIfInBounds_toArray, List.set_cons_zero, List.set_cons_succ])
    refine wpAnyH_take (i := 5) (oi := { dst := some 28, op := Op.call { callee := Callee.builtin Builtin.len, args := #[Operand.tmp 27], argTypes := #[58] }, type := 3, pos := "make.go:639", after := #[{ on := 4, ground := Ground.data }], guard := none }) (v := ?_) rfl (by kernel_rfl) (by kernel_rfl) (by kernel_rfl) (fun _ _ _ h => h) (Or.inl ⟨by rfl, ?_⟩) hHeld ?_
    rotate_left 1
    · intro u hSu
      obtain ⟨q0, q1⟩ := row_cells hSu.out.tb
      go_simp
      first | done | with_reducible rfl
    (try simp only [Act.put, List.setIfInBounds_toArray, List.set_cons_zero, List.set_cons_succ])
    refine wpAnyH_ready (rs := [6]) (by kernel_rfl) (by simp) ?_
    refine AllReadyH.cons (o := { dst := some 29, op := Op.call { callee := Callee.value (Operand.func 22), args := #[Operand.tmp 25, Operand.tmp 28], argTypes := #[27, 3] }, type := 3, pos := "make.go:639", after := #[{ on := 2, ground := Ground.data }, { on := 5, ground := Ground.data }], guard := none }) rfl (fun Kz hK => ?_) AllReadyH.nil
    go_simp
    go_at_call 22
    refine (next_any a R.length (by unfold I64; omega) _ hHeld.out.st.2).mono ?_
    rintro e w5 ⟨y, rfl, hy, hs⟩
    obtain ⟨i, rfl⟩ := Int.eq_ofNat_of_zero_le hy.1
    have hi : i < R.length := by have := hy.2.1 (by omega); omega
    have H5n := Lib.hid (hHeld.out.tape ha HQ.out hs)
    clear hy hs
    have j0 : (0 : Int) ≤ (i : Int) := by omega
    have j1 : (i : Int) < (R.length : Int) := by omega
    obtain ⟨m, hm⟩ : ∃ m, R[i]? = some m := ⟨_, List.getElem?_eq_getElem hi⟩
    have HM := Lib.hid hm
    clear hm
    refine hK.out _ _ (H5n) (fun hH2 => ?_)
    clear hK Kz hHeld
    have hHeld := hH2
    clear hH2
    (try simp only [Act.put, List.setIfInBounds_toArray, List.set_cons_zero, List.set_cons_succ])
    refine wpAnyH_take (i := 7) (oi := { dst := some 30, op := Op.indexAddr 58 (Operand.tmp 24) (Operand.tmp 29), type := 0, pos := "make.go:639", after := #[{ on := 1, ground := Ground.data }, { on := 6, ground := Ground.data }], guard := none }) (v := ?_) rfl (by kernel_rfl) (by kernel_rfl) (by kernel_rfl) (fun _ _ _ h => h) (Or.inl ⟨by rfl, ?_⟩) hHeld ?_
    rotate_left 1
    · intro u hSu
      obtain ⟨q0, q1⟩ := row_cells hSu.out.tb
      go_simp
      first | done | with_reducible rfl
    (try simp only [Act.put, List.setIfInBounds_toArray, List.set_cons_zero, List.set_cons_succ])
    refine wpAnyH_take (i := 8) (oi := { dst := some 31, op := Op.fieldAddr 90 (Operand.tmp 30) 0, type := 0, pos := "make.go:639", after := #[{ on := 7, ground := Ground.data }], guard := none }) (v := ?_) rfl (by kernel_rfl) (by kernel_rfl) (by kernel_rfl) (fun _ _ _ h => h) (Or.inl ⟨by rfl, ?_⟩) hHeld ?_
    rotate_left 1
    · intro u hSu
      obtain ⟨q0, q1⟩ := row_cells hSu.out.tb
      go_simp
      first | done | with_reducible rfl
    (try simp only [Act.put, List.setIfInBounds_toArray, List.set_cons_zero, List.set_cons_succ])
    refine wpAnyH_take (i := 9) (oi := { dst := some 32, op := Op.load 3 (Operand.tmp 31), type := 3, pos := "make.go:639", after := #[{ on := 8, ground := Ground.data }], guard := none }) (v := ?_) rfl (by kernel_rfl) (by kernel_rfl) (by kernel_rfl) (fun _ _ _ h => h) (Or.inl ⟨by rfl, ?_⟩) hHeld ?_
    rotate_left 1
    · intro u hSu
      obtain ⟨q0, q1⟩ := row_cells hSu.out.tb
      obtain ⟨e0, e1⟩ := hSu.out.rt HM.out
      go_simp
      first | done | with_reducible rfl
    (try simp only [Act.put, List.setIfInBounds_toArray, List.set_cons_zero, List.set_cons_succ])
    refine wpAnyH_take (i := 10) (oi := { dst := some 6, op := Op.assign (Operand.tmp 32), type := 3, pos := "make.go:639", after := #[{ on := 9, ground := Ground.data }, { on := 6, ground := Ground.chain }, { on := 0, ground := Ground.phase }, { on := 1, ground := Ground.phase }, { on := 2, ground := Ground.phase }, { on := 3, ground := Ground.phase }, { on := 4, ground := Ground.phase }, { on := 5, ground := Ground.phase }, { on := 6, ground := Ground.phase }, { on := 7, ground := Ground.phase }, { on := 8, ground := Ground.phase }, { on := 9, ground := Ground.phase }], guard := none }) (v := ?_) rfl (by kernel_rfl) (by kernel_rfl) (by kernel_rfl) (fun _ _ _ h => h) (Or.inl ⟨by rfl, ?_⟩) hHeld ?_
    rotate_left 1
    · intro u hSu
      obtain ⟨q0, q1⟩ := row_cells hSu.out.tb
      go_simp
      first | done | with_reducible rfl
    (try simp only [Act.put, List.setIfInBounds_toArray, List.set_cons_zero, List.set_cons_succ])
    refine wpAnyH_done (by kernel_rfl) ?_ _
    have H9 := Lib.hid hHeld.out.st
    clear hHeld
    go_wp2_with fail
    go_ret
    exact ⟨m.id, rfl, H9.out⟩
  · have HT := Lib.hid (H1.out.st.2.alloc (.cells #[.int .i64 0, .int .i64 1, .int .i64 2, .int .i64 7, .int .i64 77, .int .i64 (-1)] 3))
    have HA := Lib.hid (among_list I64 wc a [0, 1, 2, 7, 77, -1] #[.int .i64 0, .int .i64 1, .int .i64 2, .int .i64 7, .int .i64 77, .int .i64 (-1)] 3 H1.out.st.2.lt rfl (by intro x hx; simp at hx; unfold I64; omega))
    go_wp2_with fail
    refine (pick_any _ a _ 0 6 6 (by omega) (by omega) _ HT.out HA.out).mono ?_
    rintro e w2 ⟨x, rfl, -, hs⟩
    have HS := Lib.hid (H1.out.st.trans (St.alloc_left hs))
    clear hs HT HA H1
    go_wp2_with fail
    go_ret
    exact ⟨x, rfl, HS.out⟩
/-- While routers turn capable or not: the topology's block B. -/
structure MK (a : Nat) (w : World) (B : Nat) (vR vL : Value) (R : List Rt) (L : List Lk) (wr : World) : Prop where
  gb : wr.heap[B]? = some (.cells #[vR, vL] 61 (0, 0))
  rb : wr.heap[w.heap.size]? = some (.cells #[.slice none 0 0, .slice none 0 0] 61 (0, 0))
  oR : wr.ownsRow (w.heap.size + 1) 90 2 vR R.length (R.flatMap rtC)
  oL : wr.ownsRow (w.heap.size + 1) 92 5 vL L.length (L.flatMap lkC)
  ap : ∀ g, vR.ownBlock = some g → vL.ownBlock ≠ some g
  nR : vR.ownBlock ≠ some B
  st : St a w wr
  bb : w.heap.size + 1 ≤ B
set_option maxRecDepth 100000 in
theorem MK.keep {a B : Nat} {w wr w1 : World} {vR vL : Value} {R : List Rt} {L : List Lk} (h : MK a w B vR vL R L wr) (g : wr.grownBy w1 none) : MK a w B vR vL R L w1 :=
  ⟨kept_row h.gb g (by simp), kept_row h.rb g (by simp), h.oR.kept g (by cases hv : vR.ownBlock <;> simp), h.oL.kept g (by cases hv : vL.ownBlock <;> simp), h.ap, h.nR, h.st.trans ⟨grown_none g _, h.st.2.keep g⟩, h.bb⟩
set_option maxRecDepth 100000 in
theorem MK.tape {a B : Nat} {w wr w1 : World} {vR vL : Value} {R : List Rt} {L : List Lk} (h : MK a w B vR vL R L wr) (ha : a < w.heap.size) (k : St a wr w1) : MK a w B vR vL R L w1 :=
  ⟨kept_row h.gb k.1 (fun e => by have := Option.some.inj e; have := h.bb; omega), kept_row h.rb k.1 (fun e => by have := Option.some.inj e; omega), own_other h.oR k.1 (by omega), own_other h.oL k.1 (by omega), h.ap, h.nR, h.st.trans k, h.bb⟩
set_option maxRecDepth 100000 in
theorem flat_setR : ∀ (R : List Rt) (k : Nat) (z : Bool), k < R.length → ∃ R' : List Rt, R'.length = R.length ∧ R'.map (·.id) = R.map (·.id) ∧ R'.flatMap rtC = (R.flatMap rtC).set (k * 2 + 1) (.bool z)
  | [], k, _, hk => absurd hk (Nat.not_lt_zero k)
  | m :: t, 0, z, _ => ⟨⟨m.id, z⟩ :: t, rfl, rfl, rfl⟩
  | m :: t, k + 1, z, hk => by
    obtain ⟨R', h1, h2, h3⟩ := flat_setR t k z (by simpa using hk)
    refine ⟨m :: R', by simp [h1], by rw [List.map_cons, h2, List.map_cons], ?_⟩
    rw [List.flatMap_cons, h3, List.flatMap_cons]
    have e : (k + 1) * 2 + 1 = (rtC m).length + (k * 2 + 1) := by
      show (k + 1) * 2 + 1 = 2 + (k * 2 + 1)
      omega
    rw [e, List.set_append_right _ _ (Nat.le_add_right _ _), Nat.add_sub_cancel_left]
set_option maxRecDepth 100000 in
theorem MK.setR {a B g n cap k : Nat} {w wr : World} {vL : Value} {R : List Rt} {L : List Lk} {z : Bool} (h : MK a w B (.slice (some ⟨g, 0, none⟩) n cap) vL R L wr) (ha : a < w.heap.size) (hk : k < R.length) :
    ∃ R' : List Rt, R'.length = R.length ∧ R'.map (·.id) = R.map (·.id) ∧ MK a w B (.slice (some ⟨g, 0, none⟩) n cap) vL R' L (wr.setCell ⟨g, k * 2 + 1, none⟩ (.bool z)) := by
  obtain ⟨R', hl, hm, hf⟩ := flat_setR R k z hk
  have hg0 := (h.oR.lt g rfl).1
  have hn : n = R.length := by
    obtain ⟨p, c, e, _⟩ := own_shape h.oR
    injection e
  subst hn
  obtain ⟨s1, s2⟩ := h.oR.stored (k * 2 + 1) (.bool z)
  refine ⟨R', hl, hm, kept_row h.gb s2 (fun e => h.nR (by rw [e]; rfl)), kept_row h.rb s2 (fun e => by have : w.heap.size = g := Option.some.inj e; omega), ?_, h.oL.kept s2 ?_, h.ap, h.nR, h.st.storeT s2 (by omega) ha, h.bb⟩
  · rw [hl, hf]; exact s1
  · cases hv : vL.ownBlock with
    | none => exact .inl rfl
    | some k => exact .inr (fun e => h.ap g rfl (by rw [hv, e]))
set_option maxRecDepth 100000 in
theorem MK.rtAt {a B g n cap k : Nat} {w wr : World} {vL : Value} {R : List Rt} {L : List Lk} {m : Rt} (h : MK a w B (.slice (some ⟨g, 0, none⟩) n cap) vL R L wr) (hm : R[k]? = some m) : wr.cell? ⟨g, k * 2 + 1, none⟩ = some (.bool m.cap) := by
  have h1 := (List.getElem?_eq_some_iff.1 hm).1
  have hn : n = R.length := by
    obtain ⟨p, c, e, _⟩ := own_shape h.oR
    injection e
  subst hn
  rw [h.oR.cellAt (k * 2 + 1) (by omega)]
  exact (flat_at rtC 2 (fun _ => rfl) R k 1 m hm (by decide)).trans rfl
set_option maxRecDepth 100000 in
theorem MK.frz {a B g n cap : Nat} {w wr : World} {vL : Value} {R : List Rt} {L : List Lk} (h : MK a w B (.slice (some ⟨g, 0, none⟩) n cap) vL R L wr) (j : Nat) : wr.frozen? ⟨g, j, none⟩ = false := by
  have hn : n = R.length := by
    obtain ⟨p, c, e, _⟩ := own_shape h.oR
    injection e
  subst hn
  exact h.oR.frozenAt j
set_option maxRecDepth 100000 in
set_option maxHeartbeats 3200000 in
theorem mixed_any (a most : Nat) (hm1 : 1 ≤ most) (hm8 : most ≤ 8) (w : World) (hT : Tp w a) :
    Calls Tryd.prog 31 #[.pointer (some ⟨a, 0, none⟩), .int .i64 (most : Int)] w fun e w' =>
      ∃ (R0 R : List Rt) (L : List Lk) (vR vL : Value), e = .returned (.agg #[vR, vL]) ∧ w'.ownsRow w.heap.size 90 2 vR R.length (R.flatMap rtC) ∧ w'.ownsRow w.heap.size 92 5 vL L.length (L.flatMap lkC) ∧ TopOf most 0 R0 L ∧ R.map (·.id) = R0.map (·.id) ∧ St a w w' := by
  have ha := hT.lt
  obtain ⟨k1, k2⟩ := tone_box w #[.slice none 0 0, .slice none 0 0] 61
  have HB := Lib.hid (And.intro k1 (And.intro k2 (hT.keep k2)))
  have hsz : w.heap.size + 1 = (w.alloc (.cells #[.slice none 0 0, .slice none 0 0] 61)).heap.size := by simp
  clear k1 k2 hT
  go_enter Tryd.func31, Tryd.ntmps31
  go_upto_region 1 with fail
  generalize w.alloc _ = wa at *
  go_wp2_with fail
  refine (topo_any a most 0 hm1 hm8 (by unfold I64; omega) wa HB.out.2.2).mono ?_
  rintro e w1 ⟨R0, L, vR, vL, rfl, hR, hL, hap, hO, hs⟩
  have gal := World.grownBy_alloc w1 (.cells #[vR, vL] 61) none
  have hw1 : wa.heap.size ≤ w1.heap.size := hs.1.size
  have HK0 : Hid (MK a w w1.heap.size vR vL R0 L (w1.alloc (.cells #[vR, vL] 61))) := Lib.hid ⟨heap_alloc_new w1 _, kept_row (kept_row HB.out.1 hs.1 (fun e => by have := Option.some.inj e; omega)) gal (by simp), (hR.mono (by omega)).alloc _, (hL.mono (by omega)).alloc _, hap, fun e => by have := (hR.lt _ e).2; omega, (show St a w w1 from ⟨grown_trans (grown_none HB.out.2.1 _) hs.1, hs.2⟩).trans ⟨grown_none gal _, hs.2.keep gal⟩, by omega⟩
  have HO := Lib.hid hO
  have hRl : R0.length ≤ 100 := by have := hO.2.2.1; omega
  obtain ⟨pR, cR, rfl, -, -⟩ := own_shape hR
  obtain ⟨pL, cL, rfl, -, -⟩ := own_shape hL
  clear hR hL hap hs gal hO HB
  obtain ⟨NR, hNR⟩ : ∃ NR, R0.length = NR := ⟨_, rfl⟩
  have HNR := Lib.hid hNR
  rw [hNR] at HK0 hRl
  rw [hNR]
  clear hNR
  go_upto_region 2 with fail
  generalize w1.alloc _ = w2 at *
  generalize w1.heap.size = B at *
  go_wp2_with fail
  go_loopw [6] (fun i wr => ∃ k : Nat, k ≤ NR ∧ i = .int .i64 (k : Int) ∧ ∃ R : List Rt, R.map (·.id) = R0.map (·.id) ∧ Hid (MK a w B (.slice pR NR cR) (.slice pL L.length cL) R L wr)) (fun i _ => NR - (RowKit.intOf i).toNat)
  case atStart => exact ⟨0, Nat.zero_le _, rfl, R0, rfl, HK0⟩
  case round =>
  obtain ⟨k, hk, rfl, R, hids, HK⟩ := hrel
  clear HK0
  have hRN : Hid (R.length = NR) := Lib.hid (by have := congrArg List.length hids; rw [List.length_map, List.length_map] at this; rw [this]; exact HNR.out)
  have HI := Lib.hid hids
  clear hids
  obtain ⟨c0, c1⟩ := row_cells HK.out.gb
  by_cases hlt : k < NR
  · have hkR : k < R.length := by rw [hRN.out]; exact hlt
    obtain ⟨g, rfl⟩ : ∃ g, pR = some ⟨g, 0, none⟩ := by
      rcases own_formF HK.out.oR with ⟨-, e0⟩ | ⟨g, cap, e, -⟩
      · omega
      · injection e with e1; exact ⟨g, e1⟩
    obtain ⟨m, hm⟩ : ∃ m, R[k]? = some m := ⟨_, List.getElem?_eq_getElem hkR⟩
    have HM := Lib.hid hm
    have i0 : (0 : Int) ≤ (k : Int) := by omega
    have i1 : (k : Int) < (NR : Int) := by omega
    clear hm
    go_upto_region 5 with fail
    clear c0 c1
    refine region_until (S := fun w' => Hid (MK a w B (.slice (some ⟨g, 0, none⟩) NR cR) (.slice pL L.length cL) R L w')) (fun j => j == 8) (by kernel_rfl) (Lib.hid (HK.out.keep (grown_drew (grown_refl _ _)))) (fun hHeld => ?_)
    refine anyU_take (i := 0) (oi := { dst := some 17, op := Op.fieldAddr 61 (Operand.tmp 5) 0, type := 0, pos := "make.go:285", after := #[], guard := none }) (v := ?_) rfl (by kernel_rfl) (by kernel_rfl) (by kernel_rfl) (by kernel_rfl) (by kernel_rfl) (fun _ _ _ h => h) (Or.inl ⟨by rfl, ?_⟩) hHeld ?_
    rotate_left 1
    · intro u hSu
      obtain ⟨q0, q1⟩ := row_cells hSu.out.gb
      go_simp
      first | done | with_reducible rfl
    (try simp only [Act.put, List.setIfInBounds_toArray, List.set_cons_zero, List.set_cons_succ])
    refine anyU_take (i := 1) (oi := { dst := some 18, op := Op.load 58 (Operand.tmp 17), type := 58, pos := "make.go:285", after := #[{ on := 0, ground := Ground.data }], guard := none }) (v := ?_) rfl (by kernel_rfl) (by kernel_rfl) (by kernel_rfl) (by kernel_rfl) (by kernel_rfl) (fun _ _ _ h => h) (Or.inl ⟨by rfl, ?_⟩) hHeld ?_
    rotate_left 1
    · intro u hSu
      obtain ⟨q0, q1⟩ := row_cells hSu.out.gb
      go_simp
      first | done | with_reducible rfl
    (try simp only [Act.put, List.setIfInBounds_toArray, List.set_cons_zero, List.set_cons_succ])
    refine anyU_take (i := 2) (oi := { dst := some 19, op := Op.move (Operand.tmp 6), type := 3, pos := "make.go:285", after := #[], guard := none }) (v := ?_) rfl (by kernel_rfl) (by kernel_rfl) (by kernel_rfl) (by kernel_rfl) (by kernel_rfl) (fun _ _ _ h => h) (Or.inl ⟨by rfl, ?_⟩) hHeld ?_
    rotate_left 1
    · intro u hSu
      obtain ⟨q0, q1⟩ := row_cells hSu.out.gb
      go_simp
      first | done | with_reducible rfl
    (try simp only [Act.put, List.setIfInBounds_toArray, List.set_cons_zero, List.set_cons_succ])
    refine anyU_take (i := 3) (oi := { dst := some 20, op := Op.move (Operand.tmp 0), type := 27, pos := "make.go:285", after := #[], guard := none }) (v := ?_) rfl (by kernel_rfl) (by kernel_rfl) (by kernel_rfl) (by kernel_rfl) (by kernel_rfl) (fun _ _ _ h => h) (Or.inl ⟨by rfl, ?_⟩) hHeld ?_
    rotate_left 1
    · intro u hSu
      obtain ⟨q0, q1⟩ := row_cells hSu.out.gb
      go_simp
      first | done | with_reducible rfl
    (try simp only [Act.put, List.setIfInBounds_toArray, List.set_cons_zero, List.set_cons_succ])
    refine anyU_ready (rs := [4]) (by kernel_rfl) (by simp) ?_
    refine EachU.cons (o := { dst := some 21, op := Op.call { callee := Callee.value (Operand.func 36), args := #[Operand.tmp 20, Operand.const (Value.int IntKind.i64 3)], argTypes := #[27, 3] }, type := 4, pos := "make.go:285", after := #[{ on := 3, ground := Ground.data }], guard := none }) rfl (fun Kz hK => ?_) EachU.nil
    go_simp
    go_at_call 36
    refine (one_any a 3 (by unfold I64; omega) _ hHeld.out.st.2).mono ?_
    rintro e w5 ⟨z, rfl, hs⟩
    have H5n := Lib.hid (hHeld.out.tape ha hs)
    clear hs
    refine hK.out _ _ (fun _ => H5n) (fun hH2 => ?_)
    clear hK Kz hHeld
    have hHeld := hH2 rfl
    clear hH2
    (try simp only [Act.put, List.setIfInBounds_toArray, List.set_cons_zero, List.set_cons_succ])
    refine anyU_take (i := 5) (oi := { dst := some 22, op := Op.unOp UnOp.not 4 (Operand.tmp 21), type := 4, pos := "make.go:285", after := #[{ on := 4, ground := Ground.data }], guard := none }) (v := ?_) rfl (by kernel_rfl) (by kernel_rfl) (by kernel_rfl) (by kernel_rfl) (by kernel_rfl) (fun _ _ _ h => h) (Or.inl ⟨by rfl, ?_⟩) hHeld ?_
    rotate_left 1
    · intro u hSu
      obtain ⟨q0, q1⟩ := row_cells hSu.out.gb
      go_simp
      first | done | with_reducible rfl
    (try simp only [Act.put, List.setIfInBounds_toArray, List.set_cons_zero, List.set_cons_succ])
    refine anyU_take (i := 6) (oi := { dst := some 23, op := Op.indexAddr 58 (Operand.tmp 18) (Operand.tmp 19), type := 0, pos := "make.go:285", after := #[{ on := 1, ground := Ground.data }, { on := 2, ground := Ground.data }, { on := 0, ground := Ground.phase }, { on := 1, ground := Ground.phase }, { on := 2, ground := Ground.phase }, { on := 3, ground := Ground.phase }, { on := 4, ground := Ground.phase }, { on := 5, ground := Ground.phase }], guard := none }) (v := ?_) rfl (by kernel_rfl) (by kernel_rfl) (by kernel_rfl) (by kernel_rfl) (by kernel_rfl) (fun _ _ _ h => h) (Or.inl ⟨by rfl, ?_⟩) hHeld ?_
    rotate_left 1
    · intro u hSu
      obtain ⟨q0, q1⟩ := row_cells hSu.out.gb
      go_simp
      first | done | with_reducible rfl
    (try simp only [Act.put, List.setIfInBounds_toArray, List.set_cons_zero, List.set_cons_succ])
    refine anyU_take (i := 7) (oi := { dst := some 24, op := Op.fieldAddr 90 (Operand.tmp 23) 1, type := 0, pos := "make.go:285", after := #[{ on := 6, ground := Ground.data }, { on := 0, ground := Ground.phase }, { on := 1, ground := Ground.phase }, { on := 2, ground := Ground.phase }, { on := 3, ground := Ground.phase }, { on := 4, ground := Ground.phase }, { on := 5, ground := Ground.phase }], guard := none }) (v := ?_) rfl (by kernel_rfl) (by kernel_rfl) (by kernel_rfl) (by kernel_rfl) (by kernel_rfl) (fun _ _ _ h => h) (Or.inl ⟨by rfl, ?_⟩) hHeld ?_
    rotate_left 1
    · intro u hSu
      obtain ⟨q0, q1⟩ := row_cells hSu.out.gb
      go_simp
      first | done | with_reducible rfl
    (try simp only [Act.put, List.setIfInBounds_toArray, List.set_cons_zero, List.set_cons_succ])
    refine anyU_ready (rs := [8]) (by kernel_rfl) (by simp) ?_
    refine EachU.cons (o := { dst := none, op := Op.store 4 (Operand.tmp 24) (Operand.tmp 22), type := 0, pos := "make.go:285", after := #[{ on := 7, ground := Ground.data }, { on := 5, ground := Ground.data }, { on := 4, ground := Ground.chain }, { on := 0, ground := Ground.phase }, { on := 1, ground := Ground.phase }, { on := 2, ground := Ground.phase }, { on := 3, ground := Ground.phase }, { on := 4, ground := Ground.phase }, { on := 5, ground := Ground.phase }], guard := none }) rfl (fun Kz hK => ?_) EachU.nil
    have cS := hHeld.out.rtAt HM.out
    have fS := hHeld.out.frz (k * 2 + 1)
    go_simp
    refine hK.out _ _ (fun h => by cases h) (fun _ => ?_)
    clear hK Kz
    (try simp only [Act.put, List.setIfInBounds_toArray, List.set_cons_zero, List.set_cons_succ])
    refine anyU_done (by kernel_rfl) ?_ _
    obtain ⟨R', hl', hm', HS⟩ := hHeld.out.setR (z := !z) ha hkR
    have HS := Lib.hid HS
    have hid' : R'.map (·.id) = R0.map (·.id) := hm'.trans HI.out
    clear hHeld hl' hm' cS fS
    go_wp2_with fail
    exact ⟨⟨k + 1, by omega, congrArg _ (by omega), R', hid', HS⟩, by simp only [RowKit.intOf]; omega⟩
  · obtain rfl : k = NR := by omega
    obtain ⟨d0, d1⟩ := row_cells HK.out.rb
    have f0 := frozen_of_row _ _ 0 _ _ HK.out.rb
    have f1 := frozen_of_row _ _ 1 _ _ HK.out.rb
    have hrow := store2 (u := .slice pR k cR) (z := .slice pL L.length cL) HK.out.rb
    have hst := grown_store2 wr w.heap.size (.slice pR k cR) (.slice pL L.length cL)
    have HR := Lib.hid (And.intro hrow (And.intro (own_other HK.out.oR hst (by omega)) (And.intro (own_other HK.out.oL hst (by omega)) (HK.out.st.storeT hst (Nat.le_refl _) ha))))
    clear hrow hst HK
    go_wp2_with fail
    refine bodyPost_ret (res_topo rfl _ _ w.heap.size _ _ rfl HR.out.1) rfl ?_
    exact ⟨R0, R, L, _, _, rfl, HR.out.2.1.mono (by omega), HR.out.2.2.1.mono (by omega), HO.out, HI.out, HR.out.2.2.2⟩
end Go.Proofs.YtpoocenooomghaaDoor

/- The tape's Router of any topology. -/
namespace Go.Proofs.YtpoocenooomghaaDoor
open Go.RowKit Bs
set_option maxRecDepth 100000 in
set_option maxHeartbeats 3200000 in
theorem router0_any (a : Nat) (T : Tg) (n : Int) (hn : I64 n) (h0 : T.R.length = 0) (q : Nat → Prop) (w : World) (hT : TgOk w q T) (hq : ∀ b, q b → b ≠ a) (hp : Tp w a) :
    Calls Tryd.prog 32 #[.pointer (some ⟨a, 0, none⟩), .agg #[.slice T.pR T.R.length T.cR, .slice T.pL T.L.length T.cL], .int .i64 n] w fun e w' => ∃ x : Int, e = .returned (.int .i64 x) ∧ St a w w' := by
  have ha := hp.lt
  have hmR := Nat.le_trans hT.cr.1 hT.cr.2
  obtain ⟨k1, k2⟩ := tone_box w #[.slice T.pR T.R.length T.cR, .slice T.pL T.L.length T.cL] 61
  have H0 : Hid (RM a w T q _) := Lib.hid ⟨k1, hT.keep k2, ⟨grown_none k2 _, hp.keep k2⟩⟩
  have HQ := Lib.hid hq
  clear k1 k2 hT hp hq
  obtain ⟨R, L, pR, cR, pL, cL⟩ := T
  simp only at hmR H0 h0 ⊢
  have hz : ((R.length : Int) == 0) = true := by rw [beq_iff_eq]; omega
  clear h0
  go_enter Tryd.func32, Tryd.ntmps32
  go_upto_region 1 with fail
  generalize w.alloc _ = wa at *
  obtain ⟨c0, c1⟩ := row_cells H0.out.tb
  go_cut [19] from 7 to 19 (fun bb wx => bb = .bool true ∧ Hid (RM a w ⟨R, L, pR, cR, pL, cL⟩ q wx))
  case first =>
    by_cases hn1 : 0 < n
    · go_wp2_with fail
      refine (one_any a n hn _ H0.out.st.2).mono ?_
      rintro e w5 ⟨z, rfl, hs⟩
      have H1 := Lib.hid (H0.out.tape ha HQ.out hs)
      clear hs c0 c1 H0
      obtain ⟨c0, c1⟩ := row_cells H1.out.tb
      cases z
      · go_wp2_with fail
        go_meet
        exact ⟨by first | rfl | (simp [hz]), H1⟩
      · go_wp2_with fail
        go_meet
        exact ⟨rfl, H1⟩
    · go_wp2_with fail
      go_meet
      exact ⟨by first | rfl | (simp [hz]), H0⟩
  case rest =>
  obtain ⟨rfl, H1⟩ := hcut
  clear H0 c0 c1
  go_upto_if 19 with fail
  have HT := Lib.hid (H1.out.st.2.alloc (.cells #[.int .i64 0, .int .i64 1, .int .i64 2, .int .i64 7, .int .i64 77, .int .i64 (-1)] 3))
  have HA := Lib.hid (among_list I64 wc a [0, 1, 2, 7, 77, -1] #[.int .i64 0, .int .i64 1, .int .i64 2, .int .i64 7, .int .i64 77, .int .i64 (-1)] 3 H1.out.st.2.lt rfl (by intro x hx; simp at hx; unfold I64; omega))
  go_wp2_with fail
  refine (pick_any _ a _ 0 6 6 (by omega) (by omega) _ HT.out HA.out).mono ?_
  rintro e w2 ⟨x, rfl, -, hs⟩
  have HS := Lib.hid (H1.out.st.trans (St.alloc_left hs))
  clear hs HT HA H1
  go_wp2_with fail
  go_ret
  exact ⟨x, rfl, HS.out⟩
set_option maxRecDepth 100000 in
theorem routerN_any (a : Nat) (T : Tg) (n : Int) (hn : I64 n) (q : Nat → Prop) (w : World) (hT : TgOk w q T) (hq : ∀ b, q b → b ≠ a) (hp : Tp w a) :
    Calls Tryd.prog 32 #[.pointer (some ⟨a, 0, none⟩), .agg #[.slice T.pR T.R.length T.cR, .slice T.pL T.L.length T.cL], .int .i64 n] w fun e w' => ∃ x : Int, e = .returned (.int .i64 x) ∧ St a w w' := by
  by_cases h : 0 < T.R.length
  · exact router_any a T n hn h q w hT hq hp
  · exact router0_any a T n hn (by omega) q w hT hq hp
end Go.Proofs.YtpoocenooomghaaDoor

/- The law AdvertOf: Of returns what the reference says. -/
namespace Go.Proofs.YtpoocenooomghaaDoor
open Go.RowKit Bs
set_option maxRecDepth 100000 in
theorem tpO {w w' : World} {a b : Nat} (h : Tp w a) (g : w.grownBy w' (some b)) (hb : a < b) : Tp w' a := by
  have hlt := h.lt
  obtain ⟨v, n, i, T⟩ := h
  have hbk : w'.heap[a]? = w.heap[a]? := g.block a hlt (fun e => by have := Option.some.inj e; omega)
  refine ⟨v, n, i, (World.cell?_of_block (a := ⟨a, 0, none⟩) hbk).trans T.l, (World.cell?_of_block (a := ⟨a, 1, none⟩) hbk).trans T.p, (World.frozen?_of_block (a := ⟨a, 1, none⟩) hbk).trans T.fr, ?_, T.le, T.len⟩
  obtain ⟨p, c, hv, hc⟩ := T.ints
  refine ⟨p, c, hv, fun hn => ?_⟩
  obtain ⟨b1, off, hp, hb1, hx⟩ := hc hn
  refine ⟨b1, off, hp, hb1, fun i hi => ?_⟩
  obtain ⟨x, hx1, hcell⟩ := hx i hi
  exact ⟨x, hx1, g.cell hcell (fun e => by have : b1 = b := Option.some.inj e; omega)⟩
/-- The law's topology lies in its box; the tape. -/
structure LO (W : World) (a G : Nat) (T : Tg) (w : World) : Prop where
  gb : w.heap[G]? = some (.cells #[.slice T.pR T.R.length T.cR, .slice T.pL T.L.length T.cL] 61 (0, 0))
  t : TgOk w (fun b => b ≠ a ∧ b ≠ G) T
  tp : Tp w a
  gr : W.grownBy w none
  al : W.heap.size ≤ a ∧ a < G
section
variable {W w w1 : World} {a G : Nat} {T : Tg}
set_option maxRecDepth 100000 in
theorem LO.keep (h : LO W a G T w) (g : w.grownBy w1 none) : LO W a G T w1 := ⟨kept_row h.gb g (by simp), h.t.keep g, h.tp.keep g, grown_trans h.gr g, h.al⟩
set_option maxRecDepth 100000 in
theorem LO.tape (h : LO W a G T w) (k : St a w w1) : LO W a G T w1 := by
  have hal := h.al
  exact ⟨kept_row h.gb k.1 (fun e => by have := Option.some.inj e; omega), h.t.grown k.1 (fun b hb e => hb.1 (Option.some.inj e)), k.2, grown_new h.gr k.1 (by omega), h.al⟩
set_option maxRecDepth 100000 in
/-- Another topology is stored. -/
theorem LO.put {T2 : Tg} (h : LO W a G T w) (h2 : TgOk w (fun b => b ≠ a ∧ b ≠ G) T2) :
    LO W a G T2 ((w.setCell ⟨G, 0, none⟩ (.slice T2.pR T2.R.length T2.cR)).setCell ⟨G, 1, none⟩ (.slice T2.pL T2.L.length T2.cL)) := by
  have hal := h.al
  obtain ⟨t1, t2⟩ := store2c (.slice T2.pR T2.R.length T2.cR) (.slice T2.pL T2.L.length T2.cL) h.gb
  have htl := h.tp.lt
  exact ⟨t1, h2.grown t2 (fun b hb e => hb.2 (Option.some.inj e)), tpO h.tp t2 (by omega), grown_new h.gr t2 (by omega), h.al⟩
end
set_option maxRecDepth 100000 in
set_option maxHeartbeats 6400000 in
theorem of_walk (v : Value) (rx qx : Int) (C : List T3) (pC : Option Addr) (cC : Nat) (hn : pC = none → cC = 0) (hc : C.length ≤ cC ∧ cC ≤ 9223372036854775807) (w : World) (hv : IntsIn w v) (hC : Rd3 w (· < w.heap.size) (.slice pC C.length cC) C) (hT : Tb w) :
    Calls Tryd.prog 9 #[v, .int .i64 rx, .int .i64 qx, .slice pC C.length cC] w fun e w' => e = .returned (.bool true) ∧ w.grownBy w' none := by
  obtain ⟨ic, hic, hc0, hc1, hc2⟩ := info_parts info_cm
  have HTB := Lib.hid hT
  have HRC := Lib.hid hC
  have HCC := Lib.hid (And.intro hn hc)
  have hcl : C.length ≤ 9223372036854775807 := Nat.le_trans hc.1 hc.2
  clear hT hC hn hc
  go_enter Tryd.func9, Tryd.ntmps9
  go_wp2_with fail
  refine (new_any v w hv).mono ?_
  rintro e w1 ⟨rfl, hg1, hT1⟩
  have H1 := Lib.hid (And.intro hg1 hT1)
  have hlt := hT1.lt
  clear hg1 hT1 hv
  obtain ⟨a, ha⟩ : ∃ a, w.heap.size = a := ⟨_, rfl⟩
  rw [ha] at H1 hlt ⊢
  go_wp2_with fail
  refine (topoJ_any a 7 6 (by decide) (by decide) (by unfold I64; omega) _ H1.out.2).mono ?_
  rintro e w2 ⟨R0, L0, vR, vL, rfl, hoR, hoL, -, -, hs⟩
  obtain ⟨pR0, cR0, pL0, cL0, rfl, rfl, ht⟩ := tg_of_own hoR hoL
  have kb := heap_alloc_new w2 (.cells #[.slice pR0 R0.length cR0, .slice pL0 L0.length cL0] 61)
  have kg := World.grownBy_alloc w2 (.cells #[.slice pR0 R0.length cR0, .slice pL0 L0.length cL0] 61) none
  have hsz := hs.1.size
  have H2 : Hid (LO w a w2.heap.size ⟨R0, L0, pR0, cR0, pL0, cL0⟩ (w2.alloc (.cells #[.slice pR0 R0.length cR0, .slice pL0 L0.length cL0] 61))) := Lib.hid ⟨kb, (ht.keep kg).mono (fun b hb => by constructor <;> omega), hs.2.keep kg, grown_trans (grown_new H1.out.1 hs.1 (by omega)) kg, by omega⟩
  clear hoR hoL ht hs kb kg H1
  go_upto_region 3 with fail
  generalize w2.alloc _ = w3 at *
  obtain ⟨G, hG⟩ : ∃ G, w2.heap.size = G := ⟨_, rfl⟩
  rw [hG] at H2 ⊢
  clear hG hsz
  go_wp2_with fail
  refine (next_any a 2 (by unfold I64; omega) _ H2.out.tp).mono ?_
  rintro e w4 ⟨y, rfl, -, hs⟩
  have H4 := Lib.hid (H2.out.tape hs)
  clear hs H2
  go_upto_if 29 with fail
  obtain ⟨bt0, hbt⟩ : ∃ b, (y == 0) = b := ⟨_, rfl⟩
  rw [hbt]
  clear hbt
  go_cut [] from 30 to 31 (fun wx => ∃ T, Hid (LO w a G T wx))
  case first =>
    cases bt0
    rotate_left
    · go_wp2_with fail
      refine (mixed_any a 7 (by decide) (by decide) _ H4.out.tp).mono ?_
      rintro e w5 ⟨R1, R, L, vR, vL, rfl, hoR, hoL, -, -, hs⟩
      obtain ⟨pR, cR, pL, cL, rfl, rfl, ht⟩ := tg_of_own hoR hoL
      have hGl := World.lt_of_row' H4.out.gb
      have hsz := hs.1.size
      have H5 := Lib.hid (H4.out.tape hs)
      have hal := H5.out.al
      have HP := Lib.hid (H5.out.put (T2 := ⟨R, L, pR, cR, pL, cL⟩) (ht.mono (fun b hb => by constructor <;> omega)))
      obtain ⟨g0, g1⟩ := row_cells H5.out.gb
      have f0 := frozen_of_row _ _ 0 _ _ H5.out.gb
      have f1 := frozen_of_row _ _ 1 _ _ H5.out.gb
      clear hoR hoL ht hs H4 H5 hsz hGl hal
      go_wp2_with fail
      go_meet
      exact ⟨_, HP⟩
    · go_wp2_with fail
      go_meet
      exact ⟨_, H4⟩
  case rest =>
  obtain ⟨⟨R, L, pR, cR, pL, cL⟩, H3⟩ := hcut
  clear H4
  go_wp2_with fail
  refine (adv2_any a 1 4 (by unfold I64; omega) (by unfold I64; omega) _ H3.out.tp).mono ?_
  rintro e w4 ⟨A0, rfl, hTA, hA, hs, hnil⟩
  have hcl4 := hTA.cl
  have H4 := Lib.hid (H3.out.tape hs)
  have hsz := hs.1.size
  have h3l := H3.out.tp.lt
  obtain ⟨ar, aq, acp, aL, aC, apL, acL, apC, acC⟩ := A0
  have HA := Lib.hid (And.intro (hA.c.mono (q' := fun b => b ≠ a) (fun b hb => by omega)) (And.intro hA.hc hnil))
  have HAB := Lib.hid (heap_alloc_new w4 (.cells #[.int .i64 ar, .int .i64 aq, .bool acp, .slice apL aL.length acL, .slice apC aC.length acC] 26))
  have hkg := World.grownBy_alloc w4 (.cells #[.int .i64 ar, .int .i64 aq, .bool acp, .slice apL aL.length acL, .slice apC aC.length acC] 26) none
  have H5 := Lib.hid (And.intro (H4.out.keep hkg) (HA.out.1.grown hkg (fun _ _ => by simp)))
  have HAN := Lib.hid HA.out.2
  simp only at hcl4
  clear hTA hA hs hnil H3 H4 HA hkg h3l hsz
  unfold Ad.val
  go_upto_region 7 with fail
  generalize w4.alloc _ = w5 at *
  obtain ⟨a0, a1, a2, a3, a4⟩ := row5 HAB.out
  go_wp2_with (at_builtin; refine hold_on ?_)
  refine Lib.hid ?_
  refine wpList_append_f t3C 3 24 (by decide) (fun _ => rfl) t3_one 73 24 ic _ Tryd.underlying24 hic hc0 hc1 hc2 rfl (by decide) rfl _ _ rfl w5.heap.size (.slice none 0 0) [] 0 rfl rfl (World.ownsRow_nil _ _ _ _) _ _ _ aC rfl rfl HAN.out.2 _ H5.out.2 HAN.out.1.1 (by omega) (Nat.le_refl _) ?_
  intro v' w6 hown hg
  rw [List.nil_append] at hown
  obtain ⟨p', c', rfl, h6a, h6b⟩ := own_shape hown
  have hg6 : w5.grownBy w6 none := hg
  have H6 := Lib.hid (H5.out.1.keep hg6)
  have h5l := H5.out.1.tp.lt
  have HK6 := Lib.hid (And.intro ((rdf_of_own hown).mono (q' := fun b => b ≠ a) (fun b hb => by omega)) (And.intro (own_nilc hown) (And.intro h6a h6b)))
  clear hown hg hg6 h6a h6b H5 HAN HAB a0 a1 a2 a3 a4 h5l
  obtain ⟨g0, g1⟩ := row_cells H6.out.gb
  go_wp2_with fail
  refine (routerN_any a ⟨R, L, pR, cR, pL, cL⟩ 4 (by unfold I64; omega) _ _ H6.out.t (fun b hb => hb.1) H6.out.tp).mono ?_
  rintro e w7 ⟨x, rfl, hs⟩
  have H7 := Lib.hid (H6.out.tape hs)
  have HK7 := Lib.hid (HK6.out.1.grown hs.1 (fun b hb e => hb (Option.some.inj e)))
  have HKN := Lib.hid HK6.out.2
  clear hs H6 HK6 g0 g1
  go_upto_region 9 with fail
  have HT := Lib.hid (H7.out.tp.alloc (.cells #[.int .i64 1, .int .i64 2, .int .i64 1000000, .int .i64 0, .int .i64 1000001, .int .i64 (-1)] 3))
  have HA : Hid (Among (fun _ => True) (w7.alloc (.cells #[.int .i64 1, .int .i64 2, .int .i64 1000000, .int .i64 0, .int .i64 1000001, .int .i64 (-1)] 3)) a w7.heap.size 0 6) := Lib.hid (among_list _ w7 a [1, 2, 1000000, 0, 1000001, -1] #[.int .i64 1, .int .i64 2, .int .i64 1000000, .int .i64 0, .int .i64 1000001, .int .i64 (-1)] 3 H7.out.tp.lt rfl (fun _ _ => trivial))
  go_wp2_with fail
  refine (pick_any _ a _ 0 6 6 (by omega) (by omega) _ HT.out HA.out).mono ?_
  rintro e w8 ⟨q, rfl, -, hs⟩
  have hs1 := St.alloc_left hs
  have H8 := Lib.hid (H7.out.tape hs1)
  have HK8 := Lib.hid (HK7.out.grown hs1.1 (fun b hb e => hb (Option.some.inj e)))
  have HRC8 := Lib.hid (HRC.out.grown H8.out.gr (fun _ _ => by simp))
  have haC : aC.length ≤ 1000 := by omega
  clear hs hs1 H7 HK7 HT HA
  obtain ⟨g0, g1⟩ := row_cells H8.out.gb
  go_wp2_with fail
  refine (aof_any ⟨R, L, pR, cR, pL, cL⟩ x q aC p' c' _ _ _ H8.out.t HK8.out HKN.out.1 HKN.out.2 haC).mono ?_
  rintro e wp ⟨X1, rfl, hq1, hg, hi1, hi2⟩
  obtain ⟨y, hy⟩ : ∃ y, ofE R L x q aC = y := ⟨_, rfl⟩
  simp only at hi1 hi2 ⊢
  obtain ⟨r1, q1, cp1, L1, C1, pL1, cL1, pC1, cC1⟩ := X1
  unfold Ad.val
  have hga := grown_trans hg (World.grownBy_alloc wp (.cells #[.int .i64 r1, .int .i64 q1, .bool cp1, .slice pL1 L1.length cL1, .slice pC1 C1.length cC1] 26) none)
  have HB1 := Lib.hid (heap_alloc_new wp (.cells #[.int .i64 r1, .int .i64 q1, .bool cp1, .slice pL1 L1.length cL1, .slice pC1 C1.length cC1] 26))
  have HP := Lib.hid (H8.out.keep hga)
  have HKP := Lib.hid (HK8.out.grown hga (fun _ _ => by simp))
  obtain ⟨q1', hq1⟩ := hq1
  have HO1 := Lib.hid (hq1.keep (World.grownBy_alloc wp (.cells #[.int .i64 r1, .int .i64 q1, .bool cp1, .slice pL1 L1.length cL1, .slice pC1 C1.length cC1] 26) none))
  have HI1 := Lib.hid (And.intro hi1 hi2)
  rw [hy]
  have HY := Lib.hid hy
  clear hg hga hq1 hi1 hi2 g0 g1 hy
  go_upto_region 11 with fail
  generalize wp.alloc (.cells #[.int .i64 r1, .int .i64 q1, .bool cp1, .slice pL1 L1.length cL1, .slice pC1 C1.length cC1] 26) = wp2 at *
  obtain ⟨g0, g1⟩ := row_cells HP.out.gb
  generalize wp.heap.size = b1 at *
  go_wp2_with fail
  refine (rof_any ⟨R, L, pR, cR, pL, cL⟩ x q aC p' c' _ _ _ HP.out.t HKP.out HKN.out.2).mono ?_
  rintro e wr ⟨X2, rfl, hq2, hg, hi1, hi2⟩
  simp only at hi1 hi2 ⊢
  obtain ⟨r2, q2, cp2, L2, C2, pL2, cL2, pC2, cC2⟩ := X2
  unfold Ad.val
  have hga := grown_trans hg (World.grownBy_alloc wr (.cells #[.int .i64 r2, .int .i64 q2, .bool cp2, .slice pL2 L2.length cL2, .slice pC2 C2.length cC2] 26) none)
  have HB2 := Lib.hid (heap_alloc_new wr (.cells #[.int .i64 r2, .int .i64 q2, .bool cp2, .slice pL2 L2.length cL2, .slice pC2 C2.length cC2] 26))
  have HB1' := Lib.hid (kept_row HB1.out hga (by simp))
  have HR := Lib.hid (HP.out.keep hga)
  have HO1' := Lib.hid (HO1.out.keep hga)
  obtain ⟨q2', hq2⟩ := hq2
  have HO2 := Lib.hid (hq2.keep (World.grownBy_alloc wr (.cells #[.int .i64 r2, .int .i64 q2, .bool cp2, .slice pL2 L2.length cL2, .slice pC2 C2.length cC2] 26) none))
  have HSM : Hid (cmpA ⟨r1, q1, cp1, L1, C1, pL1, cL1, pC1, cC1⟩ ⟨r2, q2, cp2, L2, C2, pL2, cL2, pC2, cC2⟩ = 0) := Lib.hid (of_sm (R := R) (L := L) (x := x) (s := q) (C := aC) HI1.out.1 HI1.out.2 hi1 hi2)
  rw [HY.out]
  clear hg hga hq2 hi1 hi2 g0 g1 HP HKP HB1 HO1 HI1
  go_upto_region 12 with fail
  generalize wr.alloc (.cells #[.int .i64 r2, .int .i64 q2, .bool cp2, .slice pL2 L2.length cL2, .slice pC2 C2.length cC2] 26) = wr2 at *
  generalize wr.heap.size = b2 at *
  obtain ⟨a0, a1, a2, a3, a4⟩ := row5 HB1'.out
  obtain ⟨d0, d1, d2, d3, d4⟩ := row5 HB2.out
  go_wp2_with fail
  refine (rsame_any ⟨r1, q1, cp1, L1, C1, pL1, cL1, pC1, cC1⟩ ⟨r2, q2, cp2, L2, C2, pL2, cL2, pC2, cC2⟩ _ _ _ HO1'.out HO2.out).mono ?_
  rintro e ws ⟨rfl, hg⟩
  have HS := Lib.hid (HR.out.keep hg)
  rw [HSM.out]
  clear a0 a1 a2 a3 a4 d0 d1 d2 d3 d4 hg HR HO1' HO2 HB1' HB2 HSM HY
  by_cases h50 : 50 < C.length
  · have h50' : (50 : Int) < (C.length : Int) := by omega
    have h50b : decide ((50 : Int) < (C.length : Int)) = true := decide_eq_true h50'
    go_wp2_with fail
    refine (aawake_any _ (HTB.out.keep HS.out.gr)).mono ?_
    rintro e w9 ⟨rfl, hg⟩
    have HF := Lib.hid (grown_trans HS.out.gr hg)
    clear hg HS
    go_wp2_with fail
    go_ret
    exact ⟨rfl, HF.out⟩
  · have h50' : ¬ (50 : Int) < (C.length : Int) := by omega
    have h50b : decide ((50 : Int) < (C.length : Int)) = false := decide_eq_false h50'
    have hC50 : C.length ≤ 1000 := by omega
    have HRC9 := Lib.hid (HRC.out.grown HS.out.gr (fun _ _ => by simp))
    have H9 := HS
    clear HS HK8 HRC8 h50
    go_upto_region 16 with fail
    obtain ⟨g0, g1⟩ := row_cells H9.out.gb
    go_wp2_with fail
    refine (aof_any ⟨R, L, pR, cR, pL, cL⟩ rx qx C pC cC _ _ _ H9.out.t HRC9.out HCC.out.1 HCC.out.2 hC50).mono ?_
    rintro e wp ⟨X1, rfl, hq1, hg, hi1, hi2⟩
    obtain ⟨y, hy⟩ : ∃ y, ofE R L rx qx C = y := ⟨_, rfl⟩
    simp only at hi1 hi2 ⊢
    obtain ⟨r1, q1, cp1, L1, C1, pL1, cL1, pC1, cC1⟩ := X1
    unfold Ad.val
    have hga := grown_trans hg (World.grownBy_alloc wp (.cells #[.int .i64 r1, .int .i64 q1, .bool cp1, .slice pL1 L1.length cL1, .slice pC1 C1.length cC1] 26) none)
    have HB1 := Lib.hid (heap_alloc_new wp (.cells #[.int .i64 r1, .int .i64 q1, .bool cp1, .slice pL1 L1.length cL1, .slice pC1 C1.length cC1] 26))
    have HP := Lib.hid (H9.out.keep hga)
    have HKP := Lib.hid (HRC9.out.grown hga (fun _ _ => by simp))
    obtain ⟨q1', hq1⟩ := hq1
    have HO1 := Lib.hid (hq1.keep (World.grownBy_alloc wp (.cells #[.int .i64 r1, .int .i64 q1, .bool cp1, .slice pL1 L1.length cL1, .slice pC1 C1.length cC1] 26) none))
    have HI1 := Lib.hid (And.intro hi1 hi2)
    rw [hy]
    have HY := Lib.hid hy
    clear hg hga hq1 hi1 hi2 g0 g1 hy
    go_upto_region 17 with fail
    generalize wp.alloc (.cells #[.int .i64 r1, .int .i64 q1, .bool cp1, .slice pL1 L1.length cL1, .slice pC1 C1.length cC1] 26) = wp2 at *
    obtain ⟨g0, g1⟩ := row_cells HP.out.gb
    generalize wp.heap.size = b1 at *
    go_wp2_with fail
    refine (rof_any ⟨R, L, pR, cR, pL, cL⟩ rx qx C pC cC _ _ _ HP.out.t HKP.out HCC.out.2).mono ?_
    rintro e wr ⟨X2, rfl, hq2, hg, hi1, hi2⟩
    simp only at hi1 hi2 ⊢
    obtain ⟨r2, q2, cp2, L2, C2, pL2, cL2, pC2, cC2⟩ := X2
    unfold Ad.val
    have hga := grown_trans hg (World.grownBy_alloc wr (.cells #[.int .i64 r2, .int .i64 q2, .bool cp2, .slice pL2 L2.length cL2, .slice pC2 C2.length cC2] 26) none)
    have HB2 := Lib.hid (heap_alloc_new wr (.cells #[.int .i64 r2, .int .i64 q2, .bool cp2, .slice pL2 L2.length cL2, .slice pC2 C2.length cC2] 26))
    have HB1' := Lib.hid (kept_row HB1.out hga (by simp))
    have HR := Lib.hid (HP.out.keep hga)
    have HO1' := Lib.hid (HO1.out.keep hga)
    obtain ⟨q2', hq2⟩ := hq2
    have HO2 := Lib.hid (hq2.keep (World.grownBy_alloc wr (.cells #[.int .i64 r2, .int .i64 q2, .bool cp2, .slice pL2 L2.length cL2, .slice pC2 C2.length cC2] 26) none))
    have HSM : Hid (cmpA ⟨r1, q1, cp1, L1, C1, pL1, cL1, pC1, cC1⟩ ⟨r2, q2, cp2, L2, C2, pL2, cL2, pC2, cC2⟩ = 0) := Lib.hid (of_sm (R := R) (L := L) (x := rx) (s := qx) (C := C) HI1.out.1 HI1.out.2 hi1 hi2)
    rw [HY.out]
    clear hg hga hq2 hi1 hi2 g0 g1 HP HKP HB1 HO1 HI1
    go_upto_region 18 with fail
    generalize wr.alloc (.cells #[.int .i64 r2, .int .i64 q2, .bool cp2, .slice pL2 L2.length cL2, .slice pC2 C2.length cC2] 26) = wr2 at *
    generalize wr.heap.size = b2 at *
    obtain ⟨a0, a1, a2, a3, a4⟩ := row5 HB1'.out
    obtain ⟨d0, d1, d2, d3, d4⟩ := row5 HB2.out
    go_wp2_with fail
    refine (rsame_any ⟨r1, q1, cp1, L1, C1, pL1, cL1, pC1, cC1⟩ ⟨r2, q2, cp2, L2, C2, pL2, cL2, pC2, cC2⟩ _ _ _ HO1'.out HO2.out).mono ?_
    rintro e ws ⟨rfl, hg⟩
    have HS := Lib.hid (HR.out.keep hg)
    rw [HSM.out]
    clear a0 a1 a2 a3 a4 d0 d1 d2 d3 d4 hg HR HO1' HO2 HB1' HB2 HSM HY
    go_wp2_with fail
    refine (aawake_any _ (HTB.out.keep HS.out.gr)).mono ?_
    rintro e w9 ⟨rfl, hg⟩
    have HF := Lib.hid (grown_trans HS.out.gr hg)
    clear hg HS
    go_wp2_with fail
    go_ret
    exact ⟨rfl, HF.out⟩
end Go.Proofs.YtpoocenooomghaaDoor

/- An advert that comes in as an argument. -/
namespace Go.Proofs.YtpoocenooomghaaDoor
open Go.ChangeShapes Go.WideShapes Go.ChangeAt Go.RowKit Go.Joins Bs
set_option maxRecDepth 100000 in
theorem tlist3 {A : Type} {xs : List A} (h : xs.length = 3) : ∃ x0 x1 x2, xs = [x0, x1, x2] := by
  match xs, h with
  | [x0, x1, x2], _ => exact ⟨x0, x1, x2, rfl⟩
set_option maxRecDepth 100000 in
theorem tlistA5 {A : Type} {xs : List A} (h : xs.length = 5) : ∃ x0 x1 x2 x3 x4, xs = [x0, x1, x2, x3, x4] := by
  match xs, h with
  | [x0, x1, x2, x3, x4], _ => exact ⟨x0, x1, x2, x3, x4, rfl⟩
set_option maxRecDepth 100000 in
theorem kit_cellsre : Tryd.prog.cellsOf 70 = 3 := by kernel_rfl
set_option maxRecDepth 100000 in
theorem kit_cellscm : Tryd.prog.cellsOf 73 = 3 := by kernel_rfl
set_option maxRecDepth 100000 in
theorem kit_cellsBoolA : Tryd.prog.cellsOf 4 = 1 := by kernel_rfl
set_option maxRecDepth 100000 in
theorem kit_cellsres : Tryd.prog.cellsOf 23 = 1 := by kernel_rfl
set_option maxRecDepth 100000 in
theorem kit_cellscms : Tryd.prog.cellsOf 24 = 1 := by kernel_rfl
section
variable {H : Type} {enc : TypeId × Value → H} {W : World} {base : Nat} {v : Value} {d : DataW H} {ps : List MemPlace}
set_option maxRecDepth 100000 in
theorem re_trod {fuel : Nat} {cs : List Value} {y : DataW H × List MemPlace} (h : DataW.trod enc Tryd.prog W 0 (fun _ => true) true fuel 70 cs = some y) : ∃ l : T3, cs = t3C l := by
  have hs := Tryd.underlying70
  obtain ⟨xs, n, _, _, hl, hlen, hf⟩ := DataW.trod_struct hs h
  rw [kit_cellsre] at hl
  obtain ⟨c0, c1, c2, rfl⟩ := tlist3 hl
  obtain ⟨x0, x1, x2, rfl⟩ := tlist3 hlen
  have h0 : DataW.trod enc Tryd.prog W 0 (fun _ => true) true n 3 [c0] = some x0 := by simpa [Value.cells, kit_cellsInt] using hf 0 _ rfl
  have h1 : DataW.trod enc Tryd.prog W 0 (fun _ => true) true n 3 [c1] = some x1 := by simpa [Value.cells, kit_cellsInt] using hf 1 _ rfl
  have h2 : DataW.trod enc Tryd.prog W 0 (fun _ => true) true n 3 [c2] = some x2 := by simpa [Value.cells, kit_cellsInt] using hf 2 _ rfl
  obtain ⟨m0, e0, _, w0⟩ := DataW.trod_int Tryd.underlying3 h0
  obtain rfl : c0 = .int .i64 m0 := by simpa using e0
  obtain ⟨m1, e1, _, w1⟩ := DataW.trod_int Tryd.underlying3 h1
  obtain rfl : c1 = .int .i64 m1 := by simpa using e1
  obtain ⟨m2, e2, _, w2⟩ := DataW.trod_int Tryd.underlying3 h2
  obtain rfl : c2 = .int .i64 m2 := by simpa using e2
  exact ⟨⟨m0, m1, m2⟩, rfl⟩
set_option maxRecDepth 100000 in
theorem cm_trod {fuel : Nat} {cs : List Value} {y : DataW H × List MemPlace} (h : DataW.trod enc Tryd.prog W 0 (fun _ => true) true fuel 73 cs = some y) : ∃ l : T3, cs = t3C l := by
  have hs := Tryd.underlying73
  obtain ⟨xs, n, _, _, hl, hlen, hf⟩ := DataW.trod_struct hs h
  rw [kit_cellscm] at hl
  obtain ⟨c0, c1, c2, rfl⟩ := tlist3 hl
  obtain ⟨x0, x1, x2, rfl⟩ := tlist3 hlen
  have h0 : DataW.trod enc Tryd.prog W 0 (fun _ => true) true n 3 [c0] = some x0 := by simpa [Value.cells, kit_cellsInt] using hf 0 _ rfl
  have h1 : DataW.trod enc Tryd.prog W 0 (fun _ => true) true n 3 [c1] = some x1 := by simpa [Value.cells, kit_cellsInt] using hf 1 _ rfl
  have h2 : DataW.trod enc Tryd.prog W 0 (fun _ => true) true n 3 [c2] = some x2 := by simpa [Value.cells, kit_cellsInt] using hf 2 _ rfl
  obtain ⟨m0, e0, _, w0⟩ := DataW.trod_int Tryd.underlying3 h0
  obtain rfl : c0 = .int .i64 m0 := by simpa using e0
  obtain ⟨m1, e1, _, w1⟩ := DataW.trod_int Tryd.underlying3 h1
  obtain rfl : c1 = .int .i64 m1 := by simpa using e1
  obtain ⟨m2, e2, _, w2⟩ := DataW.trod_int Tryd.underlying3 h2
  obtain rfl : c2 = .int .i64 m2 := by simpa using e2
  exact ⟨⟨m0, m1, m2⟩, rfl⟩
set_option maxRecDepth 100000 in
/-- A slice of structs of k cells. -/
theorem rowsA_trod {α : Type} (f : α → List Value) (k : Nat) (hk : 0 < k) (hf : ∀ x, (f x).length = k) (x0 : α) {E T : TypeId} (hT : Tryd.prog.underlying T = some (.slice E)) (hc : Tryd.prog.cellsOf E = k)
    (hE : ∀ {fuel : Nat} {cs : List Value} {y : DataW H × List MemPlace}, DataW.trod enc Tryd.prog W 0 (fun _ => true) true fuel E cs = some y → ∃ r : α, cs = f r)
    {fuel : Nat} {c0 : Value} {y : DataW H × List MemPlace} (h : DataW.trod enc Tryd.prog W 0 (fun _ => true) true fuel T [c0] = some y) :
    ∃ (l : List α) (p : Option Addr) (c : Nat), c0 = .slice p l.length c ∧ RdF W (· < W.heap.size) (.slice p l.length c) l.length (l.flatMap f) ∧ l.length ≤ c ∧ c ≤ 9223372036854775807 := by
  rcases DataW.trod_slice hT h with ⟨hcs, _⟩ | ⟨a, len, cap, elems, rest, n, _, hcs, _, _, hl, hm, hlen, hel, _, _⟩
  · obtain rfl : c0 = .slice none 0 0 := by simpa using hcs
    exact ⟨[], none, 0, rfl, rdf_nil _ _ _ _, Nat.le_refl _, by omega⟩
  · obtain rfl : c0 = .slice (some a) len cap := by simpa using hcs
    rw [hc] at hel
    have each : ∀ i, ∃ l : α, i < len → ∀ j, j < k → W.cell? ((a.add (i * k)).add j) = (f l)[j]? := by
      intro i
      by_cases hi : i < len
      · have h1 := hel i hi
        rw [List.getElem?_eq_getElem (by omega)] at h1
        obtain ⟨cs, hc1, hc2⟩ := Option.bind_eq_some_iff.1 h1
        obtain ⟨l, rfl⟩ := hE hc2
        obtain ⟨_, _, hc3⟩ := World.cells?_some hc1
        exact ⟨l, fun _ j hj => hc3 j hj⟩
      · exact ⟨x0, fun h => absurd h hi⟩
    obtain ⟨g, hfn⟩ := Classical.axiomOfChoice each
    have hll : ((List.range len).map g).length = len := by simp
    refine ⟨(List.range len).map g, some a, cap, by rw [hll], ?_, by rw [hll]; exact hl, hm⟩
    rw [hll]
    refine ⟨some a, cap, rfl, fun hne => ?_⟩
    have hpos : 0 < len := by
      rcases Nat.eq_zero_or_pos len with h0 | h0
      · subst h0
        exact absurd rfl hne
      · exact h0
    obtain ⟨b, off, spot⟩ := a
    have hget : ∀ i, i < len → ∀ j, j < k → ∃ u, (f (g i))[j]? = some u := fun i _ j hj => ⟨_, List.getElem?_eq_getElem (by rw [hf]; exact hj)⟩
    have hspot : spot = none := by
      obtain ⟨u, hu⟩ := hget 0 hpos 0 hk
      have := (hfn 0 hpos 0 hk).trans hu
      simpa [Addr.add] using World.cell?_spot this
    subst hspot
    have hcell : ∀ i j, i < len → j < k → W.cell? ⟨b, off + (i * k + j), none⟩ = (f (g i))[j]? := by
      intro i j hi hj
      have := hfn i hi j hj
      rw [Go.WideShapes.add_plain, Go.WideShapes.add_plain] at this
      rw [← this]
      congr 2
      omega
    refine ⟨b, off, rfl, ?_, fun j x hj => ?_⟩
    · obtain ⟨u, hu⟩ := hget 0 hpos 0 hk
      exact World.block_lt_of_cell? W ⟨b, off + (0 * k + 0), none⟩ ((hcell 0 0 hpos hk).trans hu)
    have hj2 : j < len * k := by
      have := (List.getElem?_eq_some_iff.1 hj).1
      rw [flat_len f k hf, hll] at this
      exact this
    have hm1 : j / k < len := (Nat.div_lt_iff_lt_mul hk).2 hj2
    have hm2 : j % k < k := Nat.mod_lt _ hk
    have hd : j = j / k * k + j % k := by rw [Nat.mul_comm]; exact (Nat.div_add_mod j k).symm
    have hat : ((List.range len).map g)[j / k]? = some (g (j / k)) := by
      rw [List.getElem?_map, List.getElem?_range hm1]; rfl
    rw [hd] at hj ⊢
    rw [flat_at f k hf _ _ _ _ hat hm2] at hj
    rw [hcell _ _ hm1 hm2]
    exact hj
set_option maxRecDepth 100000 in
theorem opn_advert (hval : Value.okWide Tryd.prog W .any base 26 v) (h : DataW.Trod enc Tryd.prog W 0 (fun _ => true) true 26 v d ps) :
    ∃ A : Ad, v = A.val ∧ AdOk W (· < W.heap.size) A := by
  have hs := Tryd.underlying26
  obtain ⟨cs, rfl, hsz⟩ := okWide_struct hs hval
  obtain ⟨fuel, hf⟩ := h
  obtain ⟨xs, n, _, _, hl, hlen, hf⟩ := DataW.trod_struct hs hf
  have h5 : cs.toList.length = 5 := hsz.trans (by kernel_rfl)
  obtain ⟨c0, c1, c2, c3, c4, hct⟩ := tlistA5 h5
  obtain ⟨x0, x1, x2, x3, x4, rfl⟩ := tlistA5 hlen
  have h0 : DataW.trod enc Tryd.prog W 0 (fun _ => true) true n 3 [c0] = some x0 := by simpa [Value.cells, kit_cellsInt, hct] using hf 0 _ rfl
  have h1 : DataW.trod enc Tryd.prog W 0 (fun _ => true) true n 3 [c1] = some x1 := by simpa [Value.cells, kit_cellsInt, hct] using hf 1 _ rfl
  have h2 : DataW.trod enc Tryd.prog W 0 (fun _ => true) true n 4 [c2] = some x2 := by simpa [Value.cells, kit_cellsBoolA, kit_cellsInt, hct] using hf 2 _ rfl
  have h3 : DataW.trod enc Tryd.prog W 0 (fun _ => true) true n 23 [c3] = some x3 := by simpa [Value.cells, kit_cellsres, kit_cellsBoolA, kit_cellsInt, hct] using hf 3 _ rfl
  have h4 : DataW.trod enc Tryd.prog W 0 (fun _ => true) true n 24 [c4] = some x4 := by simpa [Value.cells, kit_cellsres, kit_cellscms, kit_cellsBoolA, kit_cellsInt, hct] using hf 4 _ rfl
  obtain ⟨m0, e0, _, w0⟩ := DataW.trod_int Tryd.underlying3 h0
  obtain rfl : c0 = .int .i64 m0 := by simpa using e0
  obtain ⟨m1, e1, _, w1⟩ := DataW.trod_int Tryd.underlying3 h1
  obtain rfl : c1 = .int .i64 m1 := by simpa using e1
  obtain ⟨m2, e2, _⟩ := DataW.trod_bool Tryd.underlying4 h2
  obtain rfl : c2 = .bool m2 := by simpa using e2
  obtain ⟨L, pL, cL, rfl, hL, hl1, hl2⟩ := rowsA_trod t3C 3 (by decide) (fun _ => rfl) ⟨0, 0, 0⟩ Tryd.underlying23 kit_cellsre re_trod h3
  obtain ⟨C, pC, cC, rfl, hC, hr1, hr2⟩ := rowsA_trod t3C 3 (by decide) (fun _ => rfl) ⟨0, 0, 0⟩ Tryd.underlying24 kit_cellscm cm_trod h4
  exact ⟨⟨m0, m1, m2, L, C, pL, cL, pC, cC⟩, congrArg Value.agg (Array.ext' hct), ⟨hL, hC, ⟨hl1, hl2⟩, ⟨hr1, hr2⟩⟩⟩
end
end Go.Proofs.YtpoocenooomghaaDoor

/- A slice of claims that comes in as an argument. -/
namespace Go.Proofs.YtpoocenooomghaaDoor
open Go.ChangeShapes Go.WideShapes Go.ChangeAt Go.RowKit Go.Joins Bs
section
variable {H : Type} {enc : TypeId × Value → H} {W : World} {base : Nat} {v : Value} {d : DataW H} {ps : List MemPlace}
set_option maxRecDepth 100000 in
theorem opn_claims (hval : Value.okWide Tryd.prog W .any base 24 v) (h : DataW.Trod enc Tryd.prog W 0 (fun _ => true) true 24 v d ps) :
    ∃ (C : List T3) (p : Option Addr) (c : Nat), v = .slice p C.length c ∧ Rd3 W (· < W.heap.size) (.slice p C.length c) C ∧ (p = none → c = 0) ∧ C.length ≤ c ∧ c ≤ 9223372036854775807 := by
  obtain ⟨p0, n0, c0, rfl⟩ := okWide_slice Tryd.underlying24 hval
  obtain ⟨fuel, hf⟩ := h
  have hf2 : DataW.trod enc Tryd.prog W 0 (fun _ => true) true fuel 24 [.slice p0 n0 c0] = some (d, ps) := by simpa [Value.cells] using hf
  have hn : p0 = none → c0 = 0 := by
    rcases DataW.trod_slice Tryd.underlying24 hf2 with ⟨hcs, _⟩ | ⟨a, len, cap, elems, rest, n, _, hcs, _, _, hl, hm, hlen, hel, _, _⟩
    · simp at hcs
      exact fun _ => hcs.2.2
    · simp at hcs
      intro e
      rw [e] at hcs
      cases hcs.1
  obtain ⟨C, p, c, e, hC, h1, h2⟩ := rowsA_trod t3C 3 (by decide) (fun _ => rfl) ⟨0, 0, 0⟩ Tryd.underlying24 kit_cellscm cm_trod hf2
  injection e with e1 e2 e3
  subst e1 e2 e3
  exact ⟨C, p0, c0, rfl, hC, hn, h1, h2⟩
end
end Go.Proofs.YtpoocenooomghaaDoor
