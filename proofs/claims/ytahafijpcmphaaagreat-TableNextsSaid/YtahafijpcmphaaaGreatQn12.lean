/- Parts of the proof, packed: ToFlr, ToMix, ToRtr, ShRtr, ToChkLaw, ToUnt2, ShPre, ShCtM, ShNxM, ToReach, ToStep, ToOpn, ToOpnF, ToIns. -/
import Derived.Test.YtahafijpcmphaaaGreatQn10
import Derived.Test.YtahafijpcmphaaaGreatQn2
import Derived.Deep.CutBlock
import Derived.Test.YtahafijpcmphaaaGreatQn11
import Derived.Test.YtahafijpcmphaaaGreatQn3
import Derived.Test.YtahafijpcmphaaaGreatQn9
import Derived.Test.YtahafijpcmphaaaGreatQn1
import Derived.Test.YtahafijpcmphaaaGreatQn5
import Derived.Maps.AppendAt
import Derived.Test.YtahafijpcmphaaaGreatQn4
import Derived.Deep.Onto
/- empty -/
namespace Go.Proofs.YtahafijpcmphaaaGreat
end Go.Proofs.YtahafijpcmphaaaGreat

/- The tape's Router and Mixed. -/
namespace Go.Proofs.YtahafijpcmphaaaGreat
open Go.RowKit Bs
/-- While a router is drawn: the topology's box. -/
structure RM (a : Nat) (w : World) (T : Tg) (q : Nat → Prop) (wr : World) : Prop where
  tb : wr.heap[w.heap.size]? = some (.cells #[.slice T.pR T.R.length T.cR, .slice T.pL T.L.length T.cL] 45 (0, 0))
  t : TgOk wr q T
  st : St a w wr
set_option maxRecDepth 100000 in
theorem RM.keep {a : Nat} {w wr w1 : World} {T : Tg} {q : Nat → Prop} (h : RM a w T q wr) (g : wr.grownBy w1 none) : RM a w T q w1 :=
  ⟨kept_row h.tb g (by simp), h.t.keep g, h.st.trans ⟨grown_none g _, h.st.2.keep g⟩⟩
set_option maxRecDepth 100000 in
theorem RM.tape {a : Nat} {w wr w1 : World} {T : Tg} {q : Nat → Prop} (h : RM a w T q wr) (ha : a < w.heap.size) (hq : ∀ b, q b → b ≠ a) (k : St a wr w1) : RM a w T q w1 :=
  ⟨kept_row h.tb k.1 (fun e => by have := Option.some.inj e; omega), h.t.grown k.1 (fun b hb e => hq b hb (Option.some.inj e)), h.st.trans k⟩
set_option maxRecDepth 100000 in
theorem RM.rt {a : Nat} {w wr : World} {R : List Rt} {L : List Lk} {pL : Option Addr} {cR cL b off i : Nat} {q : Nat → Prop} {m : Rt} (h : RM a w ⟨R, L, some ⟨b, off, none⟩, cR, pL, cL⟩ q wr) (hm : R[i]? = some m) :
    wr.cell? ⟨b, off + i * 2, none⟩ = some (.int .i64 m.id) ∧ wr.cell? ⟨b, off + i * 2 + 1, none⟩ = some (.bool m.cap) := by
  have h1 := (List.getElem?_eq_some_iff.1 hm).1
  obtain ⟨-, b', off', e, -, hc⟩ := rdr_cells (R := R) h.t.r (by omega)
  injection e with e
  injection e with e4 e5
  subst e4
  subst e5
  exact hc i m hm
end Go.Proofs.YtahafijpcmphaaaGreat

/- The tape's Router of any topology. -/
namespace Go.Proofs.YtahafijpcmphaaaGreat
open Go.RowKit Bs
end Go.Proofs.YtahafijpcmphaaaGreat

/- The tape's Router of any topology: what is known of its number. -/
namespace Go.Proofs.YtahafijpcmphaaaGreat
open Go.RowKit Bs
def RtP (T : Tg) (n x : Int) : Prop := (∃ r ∈ T.R, r.id = x) ∨ ((0 < n ∨ T.R.length = 0) ∧ -1 ≤ x ∧ x ≤ 77)
set_option maxRecDepth 100000 in
set_option maxHeartbeats 3200000 in
theorem srouter_any (a : Nat) (T : Tg) (n : Int) (hn : I64 n) (h0 : 0 < T.R.length) (q : Nat → Prop) (w : World) (hT : TgOk w q T) (hq : ∀ b, q b → b ≠ a) (hp : Tp w a) :
    Calls Tryz.prog 30 #[.pointer (some ⟨a, 0, none⟩), .agg #[.slice T.pR T.R.length T.cR, .slice T.pL T.L.length T.cL], .int .i64 n] w fun e w' => ∃ x : Int, RtP T n x ∧ e = .returned (.int .i64 x) ∧ St a w w' := by
  have ha := hp.lt
  have hmR := Nat.le_trans hT.cr.1 hT.cr.2
  obtain ⟨k1, k2⟩ := tone_box w #[.slice T.pR T.R.length T.cR, .slice T.pL T.L.length T.cL] 45
  have H0 : Hid (RM a w T q _) := Lib.hid ⟨k1, hT.keep k2, ⟨grown_none k2 _, hp.keep k2⟩⟩
  have HQ := Lib.hid hq
  clear k1 k2 hT hp hq
  obtain ⟨R, L, pR, cR, pL, cL⟩ := T
  simp only at hmR H0 h0 ⊢
  obtain ⟨-, b, off, rfl, -, -⟩ := rdr_cells (R := R) H0.out.t.r h0
  go_enter Tryz.func30, Tryz.ntmps30
  go_upto_region 1 with fail
  generalize w.alloc _ = wa at *
  obtain ⟨c0, c1⟩ := row_cells H0.out.tb
  have hz : ((R.length : Int) == 0) = false := by rw [beq_eq_false_iff_ne]; omega
  go_cut [19] from 7 to 19 (fun bb wx => ∃ z, bb = .bool z ∧ (z = true → 0 < n) ∧ Hid (RM a w ⟨R, L, some ⟨b, off, none⟩, cR, pL, cL⟩ q wx))
  case first =>
    by_cases hn1 : 0 < n
    · go_wp2_with fail
      refine (one_any a n hn _ H0.out.st.2).mono ?_
      rintro e w5 ⟨z, rfl, hs⟩
      have H1 := Lib.hid (H0.out.tape ha HQ.out hs)
      clear hs c0 c1 H0
      obtain ⟨c0, c1⟩ := row_cells H1.out.tb
      cases z
      · go_wp2_with fail
        go_meet
        exact ⟨_, rfl, fun _ => hn1, H1⟩
      · go_wp2_with fail
        go_meet
        exact ⟨_, rfl, fun _ => hn1, H1⟩
    · go_wp2_with fail
      go_meet
      exact ⟨false, rfl, (fun h => (by cases h)), H0⟩
  case rest =>
  obtain ⟨z, rfl, hzn, H1⟩ := hcut
  have HZN := Lib.hid hzn
  clear hzn
  clear H0 c0 c1
  go_upto_if 19 with fail
  cases z
  · have i1 : 0 < R.length := h0
    go_upto_region 3 with fail
    refine wp_region_held_drew (S := fun w' => Hid (RM a w ⟨R, L, some ⟨b, off, none⟩, cR, pL, cL⟩ q w')) (by kernel_rfl) (Lib.hid (H1.out.keep (grown_drew (grown_refl _ _)))) (fun hHeld => ?_)
    refine wpAnyH_take (i := 0) (oi := { dst := some 23, op := Op.fieldAddr 45 (Operand.tmp 4) 0, type := 0, pos := "make.go:639", after := #[], guard := none }) (v := ?_) rfl (by kernel_rfl) (by kernel_rfl) (by kernel_rfl) (fun _ _ _ h => h) (Or.inl ⟨by rfl, ?_⟩) hHeld ?_
    rotate_left 1
    · intro u hSu
      obtain ⟨q0, q1⟩ := row_cells hSu.out.tb
      go_simp
      first | done | with_reducible rfl
    (try simp only [Act.put, List.setIfInBounds_toArray, List.set_cons_zero, List.set_cons_succ])
    refine wpAnyH_take (i := 1) (oi := { dst := some 24, op := Op.load 42 (Operand.tmp 23), type := 42, pos := "make.go:639", after := #[{ on := 0, ground := Ground.data }], guard := none }) (v := ?_) rfl (by kernel_rfl) (by kernel_rfl) (by kernel_rfl) (fun _ _ _ h => h) (Or.inl ⟨by rfl, ?_⟩) hHeld ?_
    rotate_left 1
    · intro u hSu
      obtain ⟨q0, q1⟩ := row_cells hSu.out.tb
      go_simp
      first | done | with_reducible rfl
    (try simp only [Act.put, List.setIfInBounds_toArray, List.set_cons_zero, List.set_cons_succ])
    refine wpAnyH_take (i := 2) (oi := { dst := some 25, op := Op.move (Operand.tmp 0), type := 26, pos := "make.go:639", after := #[], guard := none }) (v := ?_) rfl (by kernel_rfl) (by kernel_rfl) (by kernel_rfl) (fun _ _ _ h => h) (Or.inl ⟨by rfl, ?_⟩) hHeld ?_
    rotate_left 1
    · intro u hSu
      obtain ⟨q0, q1⟩ := row_cells hSu.out.tb
      go_simp
      first | done | with_reducible rfl
    (try simp only [Act.put, List.setIfInBounds_toArray, List.set_cons_zero, List.set_cons_succ])
    refine wpAnyH_take (i := 3) (oi := { dst := some 26, op := Op.fieldAddr 45 (Operand.tmp 4) 0, type := 0, pos := "make.go:639", after := #[], guard := none }) (v := ?_) rfl (by kernel_rfl) (by kernel_rfl) (by kernel_rfl) (fun _ _ _ h => h) (Or.inl ⟨by rfl, ?_⟩) hHeld ?_
    rotate_left 1
    · intro u hSu
      obtain ⟨q0, q1⟩ := row_cells hSu.out.tb
      go_simp
      first | done | with_reducible rfl
    (try simp only [Act.put, List.setIfInBounds_toArray, List.set_cons_zero, List.set_cons_succ])
    refine wpAnyH_take (i := 4) (oi := { dst := some 27, op := Op.load 42 (Operand.tmp 26), type := 42, pos := "make.go:639", after := #[{ on := 3, ground := Ground.data }], guard := none }) (v := ?_) rfl (by kernel_rfl) (by kernel_rfl) (by kernel_rfl) (fun _ _ _ h => h) (Or.inl ⟨by rfl, ?_⟩) hHeld ?_
    rotate_left 1
    · intro u hSu
      obtain ⟨q0, q1⟩ := row_cells hSu.out.tb
      go_simp
      first | done | with_reducible rfl
    (try simp only [Act.put, List.setIfInBounds_toArray, List.set_cons_zero, List.set_cons_succ])
    refine wpAnyH_take (i := 5) (oi := { dst := some 28, op := Op.call { callee := Callee.builtin Builtin.len, args := #[Operand.tmp 27], argTypes := #[42] }, type := 3, pos := "make.go:639", after := #[{ on := 4, ground := Ground.data }], guard := none }) (v := ?_) rfl (by kernel_rfl) (by kernel_rfl) (by kernel_rfl) (fun _ _ _ h => h) (Or.inl ⟨by rfl, ?_⟩) hHeld ?_
    rotate_left 1
    · intro u hSu
      obtain ⟨q0, q1⟩ := row_cells hSu.out.tb
      go_simp
      first | done | with_reducible rfl
    (try simp only [Act.put, List.setIfInBounds_toArray, List.set_cons_zero, List.set_cons_succ])
    refine wpAnyH_ready (rs := [6]) (by kernel_rfl) (by simp) ?_
    refine AllReadyH.cons (o := { dst := some 29, op := Op.call { callee := Callee.value (Operand.func 45), args := #[Operand.tmp 25, Operand.tmp 28], argTypes := #[26, 3] }, type := 3, pos := "make.go:639", after := #[{ on := 2, ground := Ground.data }, { on := 5, ground := Ground.data }], guard := none }) rfl (fun Kz hK => ?_) AllReadyH.nil
    go_simp
    go_at_call 45
    refine (next_any a R.length (by unfold I64; omega) _ hHeld.out.st.2).mono ?_
    rintro e w5 ⟨y, rfl, hy, hs⟩
    obtain ⟨i, rfl⟩ := Int.eq_ofNat_of_zero_le hy.1
    have hi : i < R.length := by have := hy.2.1 (by omega); omega
    have H5n := Lib.hid (hHeld.out.tape ha HQ.out hs)
    clear hy hs
    have j0 : (0 : Int) ≤ (i : Int) := by omega
    have j1 : (i : Int) < (R.length : Int) := by omega
    obtain ⟨m, hm⟩ : ∃ m, R[i]? = some m := ⟨_, List.getElem?_eq_getElem hi⟩
    have HM := Lib.hid hm
    clear hm
    refine hK.out _ _ (H5n) (fun hH2 => ?_)
    clear hK Kz hHeld
    have hHeld := hH2
    clear hH2
    (try simp only [Act.put, List.setIfInBounds_toArray, List.set_cons_zero, List.set_cons_succ])
    refine wpAnyH_take (i := 7) (oi := { dst := some 30, op := Op.indexAddr 42 (Operand.tmp 24) (Operand.tmp 29), type := 0, pos := "make.go:639", after := #[{ on := 1, ground := Ground.data }, { on := 6, ground := Ground.data }], guard := none }) (v := ?_) rfl (by kernel_rfl) (by kernel_rfl) (by kernel_rfl) (fun _ _ _ h => h) (Or.inl ⟨by rfl, ?_⟩) hHeld ?_
    rotate_left 1
    · intro u hSu
      obtain ⟨q0, q1⟩ := row_cells hSu.out.tb
      go_simp
      first | done | with_reducible rfl
    (try simp only [Act.put, List.setIfInBounds_toArray, List.set_cons_zero, List.set_cons_succ])
    refine wpAnyH_take (i := 8) (oi := { dst := some 31, op := Op.fieldAddr 92 (Operand.tmp 30) 0, type := 0, pos := "make.go:639", after := #[{ on := 7, ground := Ground.data }], guard := none }) (v := ?_) rfl (by kernel_rfl) (by kernel_rfl) (by kernel_rfl) (fun _ _ _ h => h) (Or.inl ⟨by rfl, ?_⟩) hHeld ?_
    rotate_left 1
    · intro u hSu
      obtain ⟨q0, q1⟩ := row_cells hSu.out.tb
      go_simp
      first | done | with_reducible rfl
    (try simp only [Act.put, List.setIfInBounds_toArray, List.set_cons_zero, List.set_cons_succ])
    refine wpAnyH_take (i := 9) (oi := { dst := some 32, op := Op.load 3 (Operand.tmp 31), type := 3, pos := "make.go:639", after := #[{ on := 8, ground := Ground.data }], guard := none }) (v := ?_) rfl (by kernel_rfl) (by kernel_rfl) (by kernel_rfl) (fun _ _ _ h => h) (Or.inl ⟨by rfl, ?_⟩) hHeld ?_
    rotate_left 1
    · intro u hSu
      obtain ⟨q0, q1⟩ := row_cells hSu.out.tb
      obtain ⟨e0, e1⟩ := hSu.out.rt HM.out
      go_simp
      first | done | with_reducible rfl
    (try simp only [Act.put, List.setIfInBounds_toArray, List.set_cons_zero, List.set_cons_succ])
    refine wpAnyH_take (i := 10) (oi := { dst := some 6, op := Op.assign (Operand.tmp 32), type := 3, pos := "make.go:639", after := #[{ on := 9, ground := Ground.data }, { on := 6, ground := Ground.chain }, { on := 0, ground := Ground.phase }, { on := 1, ground := Ground.phase }, { on := 2, ground := Ground.phase }, { on := 3, ground := Ground.phase }, { on := 4, ground := Ground.phase }, { on := 5, ground := Ground.phase }, { on := 6, ground := Ground.phase }, { on := 7, ground := Ground.phase }, { on := 8, ground := Ground.phase }, { on := 9, ground := Ground.phase }], guard := none }) (v := ?_) rfl (by kernel_rfl) (by kernel_rfl) (by kernel_rfl) (fun _ _ _ h => h) (Or.inl ⟨by rfl, ?_⟩) hHeld ?_
    rotate_left 1
    · intro u hSu
      obtain ⟨q0, q1⟩ := row_cells hSu.out.tb
      go_simp
      first | done | with_reducible rfl
    (try simp only [Act.put, List.setIfInBounds_toArray, List.set_cons_zero, List.set_cons_succ])
    refine wpAnyH_done (by kernel_rfl) ?_ _
    have H9 := Lib.hid hHeld.out.st
    clear hHeld
    go_wp2_with fail
    go_ret
    exact ⟨m.id, Or.inl ⟨m, List.mem_of_getElem? HM.out, rfl⟩, rfl, H9.out⟩
  · have HT := Lib.hid (H1.out.st.2.alloc (.cells #[.int .i64 0, .int .i64 1, .int .i64 2, .int .i64 7, .int .i64 77, .int .i64 (-1)] 3))
    have HA := Lib.hid (among_list (fun x => -1 ≤ x ∧ x ≤ 77) wc a [0, 1, 2, 7, 77, -1] #[.int .i64 0, .int .i64 1, .int .i64 2, .int .i64 7, .int .i64 77, .int .i64 (-1)] 3 H1.out.st.2.lt rfl (by intro x hx; simp at hx; omega))
    go_wp2_with fail
    refine (pick_any _ a _ 0 6 6 (by omega) (by omega) _ HT.out HA.out).mono ?_
    rintro e w2 ⟨x, rfl, hxp, hs⟩
    have HS := Lib.hid (H1.out.st.trans (St.alloc_left hs))
    clear hs HT HA H1
    have HXP := Lib.hid hxp
    clear hxp
    go_wp2_with fail
    go_ret
    exact ⟨x, Or.inr ⟨Or.inl (HZN.out (by first | rfl | trivial)), HXP.out⟩, rfl, HS.out⟩
set_option maxRecDepth 100000 in
set_option maxHeartbeats 3200000 in
theorem srouter0_any (a : Nat) (T : Tg) (n : Int) (hn : I64 n) (h0 : T.R.length = 0) (q : Nat → Prop) (w : World) (hT : TgOk w q T) (hq : ∀ b, q b → b ≠ a) (hp : Tp w a) :
    Calls Tryz.prog 30 #[.pointer (some ⟨a, 0, none⟩), .agg #[.slice T.pR T.R.length T.cR, .slice T.pL T.L.length T.cL], .int .i64 n] w fun e w' => ∃ x : Int, RtP T n x ∧ e = .returned (.int .i64 x) ∧ St a w w' := by
  have ha := hp.lt
  have hmR := Nat.le_trans hT.cr.1 hT.cr.2
  obtain ⟨k1, k2⟩ := tone_box w #[.slice T.pR T.R.length T.cR, .slice T.pL T.L.length T.cL] 45
  have H0 : Hid (RM a w T q _) := Lib.hid ⟨k1, hT.keep k2, ⟨grown_none k2 _, hp.keep k2⟩⟩
  have HQ := Lib.hid hq
  clear k1 k2 hT hp hq
  obtain ⟨R, L, pR, cR, pL, cL⟩ := T
  simp only at hmR H0 h0 ⊢
  have hz : ((R.length : Int) == 0) = true := by rw [beq_iff_eq]; omega
  have H00 := Lib.hid h0
  clear h0
  go_enter Tryz.func30, Tryz.ntmps30
  go_upto_region 1 with fail
  generalize w.alloc _ = wa at *
  obtain ⟨c0, c1⟩ := row_cells H0.out.tb
  go_cut [19] from 7 to 19 (fun bb wx => bb = .bool true ∧ Hid (RM a w ⟨R, L, pR, cR, pL, cL⟩ q wx))
  case first =>
    by_cases hn1 : 0 < n
    · go_wp2_with fail
      refine (one_any a n hn _ H0.out.st.2).mono ?_
      rintro e w5 ⟨z, rfl, hs⟩
      have H1 := Lib.hid (H0.out.tape ha HQ.out hs)
      clear hs c0 c1 H0
      obtain ⟨c0, c1⟩ := row_cells H1.out.tb
      cases z
      · go_wp2_with fail
        go_meet
        exact ⟨by first | rfl | (simp [hz]), H1⟩
      · go_wp2_with fail
        go_meet
        exact ⟨rfl, H1⟩
    · go_wp2_with fail
      go_meet
      exact ⟨by first | rfl | (simp [hz]), H0⟩
  case rest =>
  obtain ⟨rfl, H1⟩ := hcut
  clear H0 c0 c1
  go_upto_if 19 with fail
  have HT := Lib.hid (H1.out.st.2.alloc (.cells #[.int .i64 0, .int .i64 1, .int .i64 2, .int .i64 7, .int .i64 77, .int .i64 (-1)] 3))
  have HA := Lib.hid (among_list (fun x => -1 ≤ x ∧ x ≤ 77) wc a [0, 1, 2, 7, 77, -1] #[.int .i64 0, .int .i64 1, .int .i64 2, .int .i64 7, .int .i64 77, .int .i64 (-1)] 3 H1.out.st.2.lt rfl (by intro x hx; simp at hx; omega))
  go_wp2_with fail
  refine (pick_any _ a _ 0 6 6 (by omega) (by omega) _ HT.out HA.out).mono ?_
  rintro e w2 ⟨x, rfl, hxp, hs⟩
  have HS := Lib.hid (H1.out.st.trans (St.alloc_left hs))
  clear hs HT HA H1
  have HXP := Lib.hid hxp
  clear hxp
  go_wp2_with fail
  go_ret
  exact ⟨x, Or.inr ⟨Or.inr H00.out, HXP.out⟩, rfl, HS.out⟩
set_option maxRecDepth 100000 in
theorem srtr_any (a : Nat) (T : Tg) (n : Int) (hn : I64 n) (q : Nat → Prop) (w : World) (hT : TgOk w q T) (hq : ∀ b, q b → b ≠ a) (hp : Tp w a) :
    Calls Tryz.prog 30 #[.pointer (some ⟨a, 0, none⟩), .agg #[.slice T.pR T.R.length T.cR, .slice T.pL T.L.length T.cL], .int .i64 n] w fun e w' => ∃ x : Int, RtP T n x ∧ e = .returned (.int .i64 x) ∧ St a w w' := by
  by_cases h : 0 < T.R.length
  · exact srouter_any a T n hn h q w hT hq hp
  · exact srouter0_any a T n hn (by omega) q w hT hq hp
end Go.Proofs.YtahafijpcmphaaaGreat

/- empty -/
namespace Go.Proofs.YtahafijpcmphaaaGreat
end Go.Proofs.YtahafijpcmphaaaGreat

/- As until: what is not late keeps what holds. -/
namespace Go.Proofs.YtahafijpcmphaaaGreat
open Go
section
variable {P : Program} {ops : Array Oper} {Q : Exit → Act → World → Prop} {md : Region.Mode} {S : World → Prop} {late : Nat → Bool}
end
end Go.Proofs.YtahafijpcmphaaaGreat

/- The laws of shortest: what they begin with. -/
namespace Go.Proofs.YtahafijpcmphaaaGreat
open Go.RowKit Go.Maps Bs
set_option maxRecDepth 100000 in
theorem own_formS {α : Type} {f : α → List Value} {w : World} {base size : Nat} {e : TypeId} {v : Value} {l : List α} (h : w.ownsRow base e size v l.length (l.flatMap f)) : (v = .slice none 0 0) ∨ ∃ g cap, v = .slice (some ⟨g, 0, none⟩) l.length cap := by
  rcases h.2 with ⟨rfl, h0⟩ | ⟨g, cap, cur, rfl, _⟩
  · exact .inl rfl
  · exact .inr ⟨g, cap, rfl⟩
end Go.Proofs.YtahafijpcmphaaaGreat

/- Counting without the limit: at most eight routers. -/
namespace Go.Proofs.YtahafijpcmphaaaGreat
open Go.RowKit Go.Maps Bs
set_option maxRecDepth 100000 in
theorem nbL_pair {R : List Rt} {L : List Lk} (h : okT R L = true) (r : Int) : (nbL L r).Pairwise (· < ·) := by
  rw [near_eq (okT_all h) r]
  unfold nearR
  have hr := pair_of_asc ltR ltR_trans R (okT_all h).rs
  rw [List.pairwise_map]
  exact (hr.filter _).imp (fun {a b} h => of_decide_eq_true h)
set_option maxRecDepth 100000 in
theorem nxt_sub (R : List Rt) (L : List Lk) (r z : Int) : (nxt R L r z).Sublist (nbL L r) := by
  unfold nxt
  rw [nxM_next, ← nbD_fst]
  unfold nxM
  exact (List.filter_sublist).map _
set_option maxRecDepth 100000 in
theorem nxt_pair {R : List Rt} {L : List Lk} (h : okT R L = true) (r z : Int) : (nxt R L r z).Pairwise (· < ·) := (nbL_pair h r).sublist (nxt_sub R L r z)
/-- v is nearer to z than r. -/
noncomputable def nearB (R : List Rt) (L : List Lk) (z r v : Int) : Bool := match dst R L v z, dst R L r z with
  | some x, some d => decide (x < d)
  | _, _ => false
set_option maxRecDepth 100000 in
theorem nearB_iff {R : List Rt} {L : List Lk} {z r v : Int} : nearB R L z r v = true ↔ ∃ x d, dst R L v z = some x ∧ dst R L r z = some d ∧ x < d := by
  unfold nearB
  cases h1 : dst R L v z with
  | none => simp
  | some x =>
    cases h2 : dst R L r z with
    | none => simp
    | some d => simp
set_option maxRecDepth 100000 in
theorem nxt_near {R : List Rt} {L : List Lk} {z r u : Int} (hu : u ∈ nxt R L r z) : u ∈ ids R ∧ nearB R L z r u = true := by
  obtain ⟨d, x, c, h1, h2, h3, h4, -⟩ := nxt_step hu
  exact ⟨(dst_both h2).2.1, nearB_iff.2 ⟨x, d, h2, h1, by omega⟩⟩
end Go.Proofs.YtahafijpcmphaaaGreat

/- The law ShortestNexts: its mathematics. -/
namespace Go.Proofs.YtahafijpcmphaaaGreat
open Go.RowKit Go.Maps Bs
set_option maxRecDepth 100000 in
theorem priceB_edg {u v c : Int} {l : Lk} (h : priceB u v l = some c) : (l.a = u ∧ l.b = v ∧ l.ca = c) ∨ (l.b = u ∧ l.a = v ∧ l.cb = c) := by
  unfold priceB at h
  split at h
  · rename_i h1
    exact .inl ⟨h1.1, h1.2, Option.some.inj h⟩
  · split at h
    · rename_i h1
      first
        | exact .inr ⟨h1.2, h1.1, Option.some.inj h⟩
        | exact .inr ⟨h1.1, h1.2, Option.some.inj h⟩
    · cases h
set_option maxRecDepth 100000 in
theorem edg_uniq {R : List Rt} {L : List Lk} (h : okT R L = true) {u v c d : Int} (h1 : edg L u v c) (h2 : edg L u v d) : c = d := by
  have ho := okT_all h
  have he := ends_lt ho
  obtain ⟨l, hl, k1⟩ := h1
  obtain ⟨m, hm, k2⟩ := h2
  have e1 := he l hl
  have e2 := he m hm
  obtain ⟨i, hi⟩ := List.mem_iff_getElem?.1 hl
  obtain ⟨j, hj⟩ := List.mem_iff_getElem?.1 hm
  have key : l.a = m.a → l.b = m.b → l = m := fun ea eb => by
    have := ends_inj ho hi hj ea eb
    rw [this, hj] at hi
    exact (Option.some.inj hi).symm
  rcases k1 with ⟨p1, p2, p3⟩ | ⟨p1, p2, p3⟩ <;> rcases k2 with ⟨q1, q2, q3⟩ | ⟨q1, q2, q3⟩
  · rw [← p3, ← q3, key (p1.trans q1.symm) (p2.trans q2.symm)]
  · omega
  · omega
  · rw [← p3, ← q3, key (p2.trans q2.symm) (p1.trans q1.symm)]
set_option maxRecDepth 100000 in
theorem price_edg {R : List Rt} {L : List Lk} (h : okT R L = true) {u v c : Int} (he : edg L u v c) : priceV L u v = (c, true) := by
  have h2 : (priceV L u v).2 = true := by
    rw [price_ok]
    obtain ⟨l, hl, ⟨rfl, rfl, -⟩ | ⟨rfl, rfl, -⟩⟩ := he
    · exact ⟨l, hl, .inr ⟨rfl, rfl⟩⟩
    · exact ⟨l, hl, .inl ⟨rfl, rfl⟩⟩
  unfold priceV at h2 ⊢
  cases hf : L.findSome? (priceB u v) with
  | none => rw [hf] at h2; cases h2
  | some d =>
    obtain ⟨l, hl, hp⟩ := List.exists_of_findSome?_eq_some hf
    have : edg L u v d := ⟨l, hl, priceB_edg hp⟩
    rw [edg_uniq h he this]
end Go.Proofs.YtahafijpcmphaaaGreat

/- Components: the routers that can be reached from each other (the mathematics). -/
namespace Go.Proofs.YtahafijpcmphaaaGreat
open Go.RowKit Bs
set_option maxRecDepth 100000 in
theorem hasI_mem {S : List Int} {x : Int} : hasI S x = true ↔ x ∈ S := by
  unfold hasI
  rw [List.any_eq_true]
  constructor
  · rintro ⟨y, hy, e⟩
    rw [decide_eq_true_eq] at e
    exact e ▸ hy
  · intro h
    exact ⟨x, h, decide_eq_true rfl⟩
set_option maxRecDepth 100000 in
theorem hasI_not {S : List Int} {x : Int} : hasI S x = false ↔ x ∉ S := by
  rw [← hasI_mem]
  cases hasI S x <;> simp
/-- y lies in whatever holds x and is closed under links. -/
def Rch (L : List Lk) (x y : Int) : Prop := ∀ P : Int → Prop, P x → (∀ u v, P u → v ∈ nbL L u → P v) → P y
set_option maxRecDepth 100000 in
theorem Rch.refl (L : List Lk) (x : Int) : Rch L x x := fun _ h _ => h
set_option maxRecDepth 100000 in
theorem Rch.step {L : List Lk} {x y z : Int} (h : Rch L x y) (hz : z ∈ nbL L y) : Rch L x z := fun P hx hs => hs _ _ (h P hx hs) hz
set_option maxRecDepth 100000 in
theorem Rch.trans {L : List Lk} {x y z : Int} (h : Rch L x y) (k : Rch L y z) : Rch L x z := fun P hx hs => k P (h P hx hs) hs
set_option maxRecDepth 100000 in
theorem nb_symm {L : List Lk} {x y : Int} (h : y ∈ nbL L x) : x ∈ nbL L y := by
  unfold nbL at *
  obtain ⟨l, hl, h1⟩ := List.mem_flatMap.1 h
  refine List.mem_flatMap.2 ⟨l, hl, ?_⟩
  rw [nb1_mem] at h1 ⊢
  omega
set_option maxRecDepth 100000 in
theorem Rch.symm {L : List Lk} {x y : Int} (h : Rch L x y) : Rch L y x :=
  h (fun u => Rch L u x) (Rch.refl L x) (fun u _ hu hv => Rch.trans (Rch.step (Rch.refl L _) (nb_symm hv)) hu)
set_option maxRecDepth 100000 in
theorem Rch.into {L : List Lk} {x y : Int} {S : List Int} (h : Rch L x y) (hx : x ∈ S) (hc : ∀ u ∈ S, ∀ v ∈ nbL L u, v ∈ S) : y ∈ S := h (· ∈ S) hx (fun u v hu hv => hc u hu v hv)
set_option maxRecDepth 100000 in
theorem dfs_sound (L : List Lk) : ∀ (k : Nat) (r : Int) (S : List Int) (x : Int), x ∈ dfs L k r S → x ∈ S ∨ Rch L r x
  | 0, _, _, _, h => .inl h
  | k + 1, r, S, x, h => by
    have fold : ∀ (N T : List Int), (∀ n ∈ N, n ∈ nbL L r) → x ∈ N.foldl (dstep L k) T → x ∈ T ∨ Rch L r x := by
      intro N
      induction N with
      | nil => intro T _ h; exact .inl h
      | cons n N ih =>
        intro T hn h
        rw [List.foldl_cons] at h
        rcases ih _ (fun m hm => hn m (List.mem_cons_of_mem _ hm)) h with h | h
        · unfold dstep at h
          split at h
          · exact .inl h
          · rcases dfs_sound L k n T x h with h | h
            · exact .inl h
            · exact .inr (Rch.trans (Rch.step (Rch.refl L r) (hn n List.mem_cons_self)) h)
        · exact .inr h
    rw [dfs_succ] at h
    rcases fold _ _ (fun _ h => h) h with h | h
    · rcases List.mem_append.1 h with h | h
      · exact .inl h
      · rw [List.mem_singleton] at h
        subst h
        exact .inr (Rch.refl L _)
    · exact .inr h
set_option maxRecDepth 100000 in
theorem fold_sub (L : List Lk) (k : Nat) (N T : List Int) (x : Int) (h : x ∈ T) : x ∈ N.foldl (dstep L k) T := by
  obtain ⟨U, hU⟩ := fold_ext (dstep_ext L k (dfs_ext L k)) N T
  rw [hU]
  exact List.mem_append_left _ h
set_option maxRecDepth 100000 in
theorem dfs_closed (L : List Lk) (hL : ∀ x, ∀ y ∈ nbL L x, ∃ m : Nat, y = (m : Int) ∧ m < 100) : ∀ (k n : Nat) (S : List Int), n < 100 → hasI S (n : Int) = false → uns S ≤ k → (n : Int) ∈ dfs L k (n : Int) S ∧ ∀ x ∈ dfs L k (n : Int) S, x ∈ S ∨ ∀ y ∈ nbL L x, y ∈ dfs L k (n : Int) S
  | 0, n, S, hn, hs, hu => by
    have := uns_pos hn hs
    omega
  | k + 1, n, S, hn, hs, hu => by
    have fold : ∀ (N T : List Int), (∀ y ∈ N, ∃ m : Nat, y = (m : Int) ∧ m < 100) → uns T ≤ k → (∀ y ∈ N, y ∈ N.foldl (dstep L k) T) ∧ ∀ x ∈ N.foldl (dstep L k) T, x ∈ T ∨ ∀ y ∈ nbL L x, y ∈ N.foldl (dstep L k) T := by
      intro N
      induction N with
      | nil => intro T _ _; exact ⟨fun y h => (by cases h), fun x h => .inl h⟩
      | cons y N ih =>
        intro T hy hT
        rw [List.foldl_cons]
        have key : y ∈ dstep L k T y ∧ ∀ x ∈ dstep L k T y, x ∈ T ∨ ∀ z ∈ nbL L x, z ∈ dstep L k T y := by
          unfold dstep
          split
          · rename_i h
            exact ⟨hasI_mem.1 h, fun x hx => .inl hx⟩
          · rename_i h
            obtain ⟨m, rfl, hm⟩ := hy y List.mem_cons_self
            exact dfs_closed L hL k m T hm (by simpa using h) hT
        have hT2 : uns (dstep L k T y) ≤ k := by
          obtain ⟨U, hU⟩ := dstep_ext L k (dfs_ext L k) T y
          rw [hU]
          exact Nat.le_trans (uns_app T U) hT
        obtain ⟨i1, i2⟩ := ih (dstep L k T y) (fun z hz => hy z (List.mem_cons_of_mem _ hz)) hT2
        refine ⟨fun z hz => ?_, fun x hx => ?_⟩
        · rcases List.mem_cons.1 hz with rfl | hz
          · exact fold_sub L k N _ _ key.1
          · exact i1 z hz
        · rcases i2 x hx with h | h
          · rcases key.2 x h with h | h
            · exact .inl h
            · exact .inr (fun z hz => fold_sub L k N _ _ (h z hz))
          · exact .inr h
    rw [dfs_succ]
    have h1 := uns_snoc hn hs
    obtain ⟨f1, f2⟩ := fold (nbL L (n : Int)) (S ++ [(n : Int)]) (hL _) (by omega)
    refine ⟨fold_sub L k _ _ _ (by simp), fun x hx => ?_⟩
    rcases f2 x hx with h | h
    · rcases List.mem_append.1 h with h | h
      · exact .inl h
      · rw [List.mem_singleton] at h
        subst h
        exact .inr f1
    · exact .inr h
set_option maxRecDepth 100000 in
theorem nodup_snoc {S : List Int} {x : Int} (h : S.Nodup) (hx : x ∉ S) : (S ++ [x]).Nodup := by
  rw [List.nodup_append]
  refine ⟨h, by simp, fun a ha b hb e => ?_⟩
  rw [List.mem_singleton] at hb
  subst hb
  subst e
  exact hx ha
set_option maxRecDepth 100000 in
theorem dfs_nodup (L : List Lk) : ∀ (k : Nat) (r : Int) (S : List Int), hasI S r = false → S.Nodup → (dfs L k r S).Nodup
  | 0, _, _, _, h => h
  | k + 1, r, S, hr, h => by
    have fold : ∀ (N T : List Int), T.Nodup → (N.foldl (dstep L k) T).Nodup := by
      intro N
      induction N with
      | nil => intro T h; exact h
      | cons n N ih =>
        intro T h
        rw [List.foldl_cons]
        refine ih _ ?_
        unfold dstep
        split
        · exact h
        · rename_i hh
          exact dfs_nodup L k n T (by simpa using hh) h
    rw [dfs_succ]
    exact fold _ _ (nodup_snoc h (hasI_not.1 hr))
set_option maxRecDepth 100000 in
theorem srt_lt {U : List Int} (h : U.Nodup) : (srt U).Pairwise (· < ·) := by
  have h1 := srt_sorted U
  have h2 : (srt U).Nodup := (srt_perm U).nodup_iff.2 h
  refine List.Pairwise.imp₂ (fun a b (h1 : a ≤ b) (h2 : a ≠ b) => by omega) h1 h2
set_option maxRecDepth 100000 in
theorem srt_mem (U : List Int) (x : Int) : x ∈ srt U ↔ x ∈ U := (srt_perm U).mem_iff
set_option maxRecDepth 100000 in
/-- What a visit from r adds, where all that is visited before is closed: the routers that can be reached. -/
theorem visit {L : List Lk} (hL : ∀ x, ∀ y ∈ nbL L x, ∃ m : Nat, y = (m : Int) ∧ m < 100) {n : Nat} {S : List Int} (hn : n < 100) (hs : hasI S (n : Int) = false) (hS : S.Nodup) (hc : ∀ u ∈ S, ∀ v ∈ nbL L u, v ∈ S) :
    ∃ U, dfs L 100 (n : Int) S = S ++ U ∧ (S ++ U).Nodup ∧ (∀ y, y ∈ U ↔ Rch L (n : Int) y) ∧ ∀ u ∈ S ++ U, ∀ v ∈ nbL L u, v ∈ S ++ U := by
  obtain ⟨U, hU⟩ := dfs_ext L 100 (n : Int) S
  have hu : uns S ≤ 100 := by
    unfold uns
    have := List.countP_le_length (p := notS S) (l := List.range 100)
    simpa using this
  obtain ⟨h1, h2⟩ := dfs_closed L hL 100 n S hn hs hu
  have h3 := dfs_nodup L 100 (n : Int) S hs hS
  have h4 := dfs_sound L 100 (n : Int) S
  rw [hU] at h1 h2 h3 h4
  have hcl : ∀ u ∈ S ++ U, ∀ v ∈ nbL L u, v ∈ S ++ U := fun u hu v hv => by
    rcases h2 u hu with h | h
    · exact List.mem_append_left _ (hc u h v hv)
    · exact h v hv
  refine ⟨U, hU, h3, fun y => ⟨fun hy => ?_, fun hy => ?_⟩, hcl⟩
  · rcases h4 y (List.mem_append_right _ hy) with h | h
    · exact absurd rfl ((List.nodup_append.1 h3).2.2 y h y hy)
    · exact h
  · rcases List.mem_append.1 (hy.into h1 hcl) with h | h
    · exact absurd (hy.symm.into h hc) (hasI_not.1 hs)
    · exact h
/-- The routers that can be reached from r, ascending. -/
def cls (L : List Lk) (r : Int) : List Int := srt (dfs L 100 r [])
set_option maxRecDepth 100000 in
theorem cls_spec {L : List Lk} (hL : ∀ x, ∀ y ∈ nbL L x, ∃ m : Nat, y = (m : Int) ∧ m < 100) {n : Nat} (hn : n < 100) : (cls L (n : Int)).Pairwise (· < ·) ∧ ∀ y, y ∈ cls L (n : Int) ↔ Rch L (n : Int) y := by
  obtain ⟨U, h1, h2, h3, -⟩ := visit hL hn (S := []) rfl List.nodup_nil (fun u h => by cases h)
  rw [List.nil_append] at h1 h2
  unfold cls
  rw [h1]
  exact ⟨srt_lt h2, fun y => (srt_mem U y).trans (h3 y)⟩
/-- While the components are found: P: the routers gone through. -/
structure CI (R : List Rt) (L : List Lk) (P : List Rt) (Cs : List (List Int)) (S : List Int) : Prop where
  nd : S.Nodup
  cl : ∀ u ∈ S, ∀ v ∈ nbL L u, v ∈ S
  pm : Cs.flatten.Perm S
  each : ∀ C ∈ Cs, C.Pairwise (· < ·) ∧ (∀ x ∈ C, ∀ y, y ∈ C ↔ Rch L x y) ∧ ∃ r ∈ P, r.id ∈ C
  ids : ∀ x ∈ S, ∃ r ∈ R, r.id = x
  all : ∀ r ∈ P, r.id ∈ S
set_option maxRecDepth 100000 in
theorem CI.nil (R : List Rt) (L : List Lk) : CI R L [] [] [] := ⟨List.nodup_nil, (fun u h => by cases h), List.Perm.refl _, (fun C h => by cases h), (fun x h => by cases h), (fun r h => by cases h)⟩
set_option maxRecDepth 100000 in
theorem okT_near100 {R : List Rt} {L : List Lk} (h : okT R L = true) : ∀ x, ∀ y ∈ nbL L x, ∃ m : Nat, y = (m : Int) ∧ m < 100 := by
  intro x y hy
  obtain ⟨m, e, hm⟩ := okT_near h x y hy
  obtain ⟨h1, -⟩ := okT_ids h
  obtain ⟨r, hr, e2⟩ := List.mem_map.1 hm
  have := List.any_eq_false.1 h1 r hr
  unfold wrId at this
  have h3 : 1 ≤ r.id ∧ r.id ≤ 99 := by simpa using this
  exact ⟨m, e, by omega⟩
set_option maxRecDepth 100000 in
theorem rt_nat {R : List Rt} {L : List Lk} (h : okT R L = true) {r : Rt} (hr : r ∈ R) : ∃ n : Nat, r.id = (n : Int) ∧ n < 100 := by
  obtain ⟨h1, -⟩ := okT_ids h
  have := List.any_eq_false.1 h1 r hr
  unfold wrId at this
  have h3 : 1 ≤ r.id ∧ r.id ≤ 99 := by simpa using this
  exact ⟨r.id.toNat, by omega, by omega⟩
set_option maxRecDepth 100000 in
theorem reach_id {R : List Rt} {L : List Lk} (h : okT R L = true) {x y : Int} (hx : ∃ r ∈ R, r.id = x) (hy : Rch L x y) : ∃ r ∈ R, r.id = y := by
  refine hy (fun z => ∃ r ∈ R, r.id = z) hx (fun u v _ hv => ?_)
  obtain ⟨m, e, hm⟩ := okT_near h u v hv
  obtain ⟨r, hr, e2⟩ := List.mem_map.1 hm
  obtain ⟨n, e3, -⟩ := rt_nat h hr
  exact ⟨r, hr, by omega⟩
set_option maxRecDepth 100000 in
theorem CI.next {R P : List Rt} {L : List Lk} {Cs : List (List Int)} {S : List Int} {r : Rt} (hv : okT R L = true) (h : CI R L P Cs S) (hr : r ∈ R) :
    CI R L (P ++ [r]) (cstep L (Cs, S) r).1 (cstep L (Cs, S) r).2 ∧ (hasI S r.id = false → (cstep L (Cs, S) r).1 = Cs ++ [cls L r.id]) := by
  obtain ⟨n, en, hn⟩ := rt_nat hv hr
  have hL := okT_near100 hv
  unfold cstep
  simp only
  cases hs : hasI S r.id
  · rw [if_neg (by simp)]
    rw [en] at hs ⊢
    obtain ⟨U, h1, h2, h3, h4⟩ := visit hL hn hs h.nd h.cl
    obtain ⟨c1, c2⟩ := cls_spec hL hn
    simp only [h1, List.drop_left]
    obtain ⟨n1, n2, n3⟩ := List.nodup_append.1 h2
    have hsrt : srt U = cls L (n : Int) := eq_of_asc (srt_lt n2) c1 (fun x => (srt_mem U x).trans ((h3 x).trans (c2 x).symm))
    rw [hsrt]
    have hin : (n : Int) ∈ cls L (n : Int) := (c2 _).2 (Rch.refl L _)
    refine ⟨⟨h2, h4, ?_, ?_, ?_, ?_⟩, fun _ => rfl⟩
    · rw [List.flatten_append]
      refine h.pm.append ?_
      rw [← hsrt]
      simpa using srt_perm U
    · intro C hC
      rcases List.mem_append.1 hC with hC | hC
      · obtain ⟨e1, e2, r', e3, e4⟩ := h.each C hC
        exact ⟨e1, e2, r', List.mem_append_left _ e3, e4⟩
      · rw [List.mem_singleton] at hC
        subst hC
        refine ⟨c1, fun x hx y => ?_, r, by simp, by rw [en]; exact hin⟩
        rw [c2]
        have hx2 := (c2 x).1 hx
        exact ⟨fun hy => hx2.symm.trans hy, fun hy => hx2.trans hy⟩
    · intro x hx
      rcases List.mem_append.1 hx with hx | hx
      · exact h.ids x hx
      · exact reach_id hv ⟨r, hr, en⟩ ((h3 x).1 hx)
    · intro r' hr'
      rcases List.mem_append.1 hr' with hr' | hr'
      · exact List.mem_append_left _ (h.all r' hr')
      · rw [List.mem_singleton] at hr'
        subst hr'
        rw [en]
        exact List.mem_append_right _ ((h3 _).2 (Rch.refl L _))
  · rw [if_pos rfl]
    refine ⟨⟨h.nd, h.cl, h.pm, fun C hC => ?_, h.ids, fun r' hr' => ?_⟩, fun h => by cases h⟩
    · obtain ⟨e1, e2, r', e3, e4⟩ := h.each C hC
      exact ⟨e1, e2, r', List.mem_append_left _ e3, e4⟩
    · rcases List.mem_append.1 hr' with hr' | hr'
      · exact h.all r' hr'
      · rw [List.mem_singleton] at hr'
        subst hr'
        exact hasI_mem.1 hs
set_option maxRecDepth 100000 in
theorem CI.at1_ {R : List Rt} {L : List Lk} (hv : okT R L = true) : ∀ k, k ≤ R.length → CI R L (R.take k) (compsF L (R.take k)).1 (compsF L (R.take k)).2
  | 0, _ => CI.nil R L
  | k + 1, hk => by
    have ih := CI.at1_ hv k (by omega)
    obtain ⟨r, hr⟩ : ∃ r, R[k]? = some r := ⟨_, List.getElem?_eq_getElem (by omega)⟩
    rw [compsF_take hr, List.take_add_one, hr]
    exact (ih.next hv (List.mem_of_getElem? hr)).1
set_option maxRecDepth 100000 in
theorem CI.done {R : List Rt} {L : List Lk} (hv : okT R L = true) : CI R L R (comps R L) (compsF L R).2 := by
  have := CI.at1_ hv R.length (Nat.le_refl _)
  rw [List.take_length] at this
  unfold comps
  rw [if_pos hv]
  exact this
set_option maxRecDepth 100000 in
/-- Two routers are connected. -/
theorem conn_iff {R : List Rt} {L : List Lk} (hv : okT R L = true) (a b : Int) : conn R L a b = true ↔ (∃ r ∈ R, r.id = a) ∧ Rch L a b := by
  have h := CI.done hv
  unfold conn
  rw [List.any_eq_true]
  constructor
  · rintro ⟨C, hC, hb⟩
    unfold both at hb
    rw [Bool.and_eq_true, hasI_mem, hasI_mem] at hb
    refine ⟨h.ids a (h.pm.mem_iff.1 (List.mem_flatten.2 ⟨C, hC, hb.1⟩)), ?_⟩
    exact ((h.each C hC).2.1 a hb.1 b).1 hb.2
  · rintro ⟨⟨r, hr, rfl⟩, hab⟩
    obtain ⟨C, hC, hx⟩ := List.mem_flatten.1 (h.pm.mem_iff.2 (h.all r hr))
    refine ⟨C, hC, ?_⟩
    unfold both
    rw [Bool.and_eq_true, hasI_mem, hasI_mem]
    exact ⟨hx, ((h.each C hC).2.1 _ hx b).2 hab⟩
end Go.Proofs.YtahafijpcmphaaaGreat

/- append at a step of a region that draws its order, whatever the source; failures while they grow. -/
namespace Go.Proofs.YtahafijpcmphaaaGreat
open Go.RowKit Bs
def tvC (z : Int) : List Value := [tv z]
set_option maxRecDepth 100000 in
theorem flat_tv : ∀ X : List Int, X.flatMap tvC = X.map tv
  | [] => rfl
  | a :: t => by rw [List.flatMap_cons, flat_tv t]; rfl
set_option maxRecDepth 100000 in
theorem tv_one (x : Int) : ∀ u ∈ tvC x, u.oneCell' = true := by
  intro u hu
  simp [tvC, tv] at hu
  subst hu
  rfl
section
variable {a Bf : Nat} {w wr w1 : World} {T : Tg} {q : Nat → Prop} {uH uX vH vX v' : Value} {H H' : List Hp} {X X' : List Int}
end
end Go.Proofs.YtahafijpcmphaaaGreat

/- A topology that comes in as an argument. -/
namespace Go.Proofs.YtahafijpcmphaaaGreat
open Go.ChangeShapes Go.WideShapes Go.ChangeAt Go.RowKit Go.Joins Bs
section
variable {H : Type} {enc : TypeId × Value → H} {W : World} {base : Nat} {v : Value} {d : DataW H} {ps : List MemPlace}
end
end Go.Proofs.YtahafijpcmphaaaGreat

/- A failure that comes in as an argument; failures out of rows. -/
namespace Go.Proofs.YtahafijpcmphaaaGreat
open Go.ChangeShapes Go.WideShapes Go.ChangeAt Go.RowKit Go.Joins Bs
section
variable {H : Type} {enc : TypeId × Value → H} {W : World} {base : Nat} {v : Value} {d : DataW H} {ps : List MemPlace}
set_option maxRecDepth 100000 in
theorem rd_of_rdf {w : World} {q : Nat → Prop} {p : Option Addr} {n c : Nat} {xs : List Value} (h : RdF w q (.slice p n c) n xs) (hl : xs.length = n) : Rd w q (.slice p n c) xs := by
  obtain ⟨p1, c1, e, hx⟩ := h
  refine ⟨p1, c1, by rw [hl]; exact e, hx⟩
end
end Go.Proofs.YtahafijpcmphaaaGreat

/- The reference's Insert. -/
namespace Go.Proofs.YtahafijpcmphaaaGreat
open Go.RowKit Bs
/-- A number laid into an ascending list, once. -/
def insU (l : List Int) (n : Int) : List Int := if (l.drop (l.takeWhile (fun y => decide (y < n))).length).head? = some n then l else l.takeWhile (fun y => decide (y < n)) ++ n :: l.drop (l.takeWhile (fun y => decide (y < n))).length
set_option maxRecDepth 100000 in
theorem tw_len (p : Int → Bool) : ∀ (l : List Int) (j : Nat), j ≤ l.length → (∀ i x, i < j → l[i]? = some x → p x = true) → (∀ x, l[j]? = some x → p x = false) → (l.takeWhile p).length = j ∧ l.takeWhile p = l.take j
  | [], j, hj, _, _ => by
    obtain rfl : j = 0 := by simpa using hj
    exact ⟨rfl, rfl⟩
  | a :: t, 0, _, _, h2 => by
    rw [List.takeWhile_cons, h2 a rfl]
    exact ⟨rfl, rfl⟩
  | a :: t, j + 1, hj, h1, h2 => by
    obtain ⟨e1, e2⟩ := tw_len p t j (by simpa using hj) (fun i x hi hx => h1 (i + 1) x (by omega) (by simpa using hx)) (fun x hx => h2 x (by simpa using hx))
    rw [List.takeWhile_cons, h1 0 a (by omega) rfl]
    simp only [if_true, List.length_cons, List.take_succ_cons]
    exact ⟨by rw [e1], by rw [e2]⟩
set_option maxRecDepth 100000 in
theorem insU_at {l : List Int} {n : Int} {j : Nat} (hj : j ≤ l.length) (h1 : ∀ i x, i < j → l[i]? = some x → x < n) (h2 : ∀ x, l[j]? = some x → ¬ x < n) : insU l n = if l[j]? = some n then l else l.take j ++ n :: l.drop j := by
  obtain ⟨e1, e2⟩ := tw_len (fun y => decide (y < n)) l j hj (fun i x hi hx => decide_eq_true (h1 i x hi hx)) (fun x hx => decide_eq_false (h2 x hx))
  unfold insU
  rw [e1, e2, List.head?_drop]
def InsPostZ (l : List Int) (q : Nat → Prop) (w : World) (e : Ending) (w' : World) : Prop :=
  ∃ p c, e = .returned (.slice p l.length c) ∧ Rd w' (fun b => q b ∨ w.heap.size ≤ b) (.slice p l.length c) (l.map tv) ∧ (p = none → c = 0) ∧ (l.length ≤ c ∧ c ≤ 9223372036854775807) ∧ w.grownBy w' none
set_option maxRecDepth 100000 in
set_option maxHeartbeats 6400000 in
theorem rins_any (l : List Int) (n : Int) (p : Option Addr) (c : Nat) (q : Nat → Prop) (w : World) (hR : Rd w q (.slice p l.length c) (l.map tv)) (hp : p = none → c = 0) (hc1 : l.length ≤ c) (hc2 : c ≤ 9223372036854775807) (hm : l.length ≤ 1000) :
    Calls Tryz.prog 80 #[.slice p l.length c, .int .i64 n] w fun e w' => InsPostZ (insU l n) q w e w' := by
  obtain ⟨ii, hii, hi0, hi1, hi2⟩ := info_parts info_int
  have HR := Lib.hid hR
  have HPN := Lib.hid hp
  clear hR hp
  go_enter Tryz.func80, Tryz.ntmps80
  go_upto_block 0 with fail
  go_cut [5] from 7 to 20 (fun v wx => ∃ j : Nat, j ≤ l.length ∧ v = .int .i64 (j : Int) ∧ Hid ((∀ i x, i < j → l[i]? = some x → x < n) ∧ ∀ x, l[j]? = some x → ¬ x < n) ∧ w = wx)
  case first =>
    go_wp2_with fail
    go_loopw [5] (fun a wr => ∃ j : Nat, j ≤ l.length ∧ a = .int .i64 (j : Int) ∧ Hid (∀ i x, i < j → l[i]? = some x → x < n) ∧ w = wr) (fun a _ => l.length - (RowKit.intOf a).toNat)
    case atStart => exact ⟨0, Nat.zero_le _, rfl, Lib.hid (fun i x h => by omega), rfl⟩
    case round =>
      obtain ⟨j, hj, rfl, HN, rfl⟩ := hrel
      by_cases hlt : j < l.length
      · obtain ⟨-, b, off, rfl, -, hc⟩ := rdi_at HR.out (by omega)
        obtain ⟨x, hx⟩ : ∃ x, l[j]? = some x := ⟨_, List.getElem?_eq_getElem hlt⟩
        have d0 := hc j x hx
        have HX := Lib.hid hx
        have hlt' : (j : Int) < (l.length : Int) := by omega
        have j0 : (0 : Int) ≤ (j : Int) := by omega
        clear hc hx
        by_cases hxn : x < n
        · have HN2 : Hid (∀ i x, i < j + 1 → l[i]? = some x → x < n) := Lib.hid (fun i z hi hz => by
            by_cases hij : i < j
            · exact HN.out i z hij hz
            · obtain rfl : i = j := by omega
              rw [HX.out] at hz
              obtain rfl := Option.some.inj hz
              exact hxn)
          go_wp2_with fail
          exact ⟨⟨j + 1, by omega, congrArg _ (by omega), HN2, by first | rfl | trivial⟩, by simp only [RowKit.intOf]; omega⟩
        · have hxd : decide (x < n) = false := decide_eq_false hxn
          have HE : Hid ((∀ i x, i < j → l[i]? = some x → x < n) ∧ ∀ x, l[j]? = some x → ¬ x < n) := Lib.hid ⟨HN.out, fun z hz => by rw [HX.out] at hz; obtain rfl := Option.some.inj hz; exact hxn⟩
          go_wp2_with fail
          go_meet
          exact ⟨j, hj, rfl, HE, by first | rfl | trivial⟩
      · obtain rfl : j = l.length := by omega
        have hld : decide ((l.length : Int) < (l.length : Int)) = false := decide_eq_false (by omega)
        have HE : Hid ((∀ i x, i < l.length → l[i]? = some x → x < n) ∧ ∀ x, l[l.length]? = some x → ¬ x < n) := Lib.hid ⟨HN.out, fun z hz => by rw [List.getElem?_eq_none (Nat.le_refl _)] at hz; cases hz⟩
        go_wp2_with fail
        go_meet
        exact ⟨l.length, hj, rfl, HE, by first | rfl | trivial⟩
  case rest =>
  obtain ⟨j, hj, rfl, HE, rfl⟩ := hcut
  have hat := insU_at hj HE.out.1 HE.out.2
  go_upto_region 4 with fail
  go_cut [32] from 21 to 32 (fun v wx => v = .bool (decide (l[j]? = some n)) ∧ w = wx)
  case first =>
    by_cases hlt : j < l.length
    · obtain ⟨-, b, off, rfl, -, hc⟩ := rdi_at HR.out (by omega)
      obtain ⟨x, hx⟩ : ∃ x, l[j]? = some x := ⟨_, List.getElem?_eq_getElem hlt⟩
      have d0 := hc j x hx
      have hlt' : (j : Int) < (l.length : Int) := by omega
      have j0 : (0 : Int) ≤ (j : Int) := by omega
      have HV : Hid ((x == n) = decide (l[j]? = some n)) := Lib.hid (by rw [hx]; by_cases h : x = n <;> simp [h])
      clear hc hx hat
      go_wp2_with fail
      go_meet
      exact ⟨congrArg _ HV.out, by first | rfl | trivial⟩
    · have hld : decide ((j : Int) < (l.length : Int)) = false := decide_eq_false (by omega)
      have HV : Hid (false = decide (l[j]? = some n)) := Lib.hid (by rw [List.getElem?_eq_none (by omega)]; simp)
      clear hat
      go_wp2_with fail
      go_meet
      exact ⟨congrArg _ HV.out, by first | rfl | trivial⟩
  case rest =>
  obtain ⟨rfl, rfl⟩ := hcut
  go_upto_if 32 with fail
  by_cases hjn : l[j]? = some n
  · have hjd : decide (l[j]? = some n) = true := decide_eq_true hjn
    rw [if_pos hjn] at hat
    have HAT := Lib.hid hat
    rw [hjd]
    clear hjn hat hjd
    go_wp2_with fail
    go_ret
    rw [HAT.out]
    exact ⟨p, c, rfl, HR.out.mono (fun b hb => .inl hb), HPN.out, ⟨hc1, hc2⟩, grown_refl _ _⟩
  · have hjd : decide (l[j]? = some n) = false := decide_eq_false hjn
    rw [if_neg hjn] at hat
    obtain ⟨T1, hT1⟩ : ∃ T1, l.take j = T1 := ⟨_, rfl⟩
    obtain ⟨T2, hT2⟩ : ∃ T2, l.drop j = T2 := ⟨_, rfl⟩
    have HI : Hid (insU l n = T1 ++ n :: T2) := Lib.hid (by rw [← hT1, ← hT2]; exact hat)
    have HJ : Hid (j = T1.length) := Lib.hid (by rw [← hT1, List.length_take]; omega)
    have HJ2 : Hid (l.length - j = T2.length) := Lib.hid (by rw [← hT2, List.length_drop])
    have HT := Lib.hid (And.intro hT1 hT2)
    have HRF : Hid (RdF w (fun b => b < w.heap.size) (.slice p l.length c) l.length (l.flatMap tvC)) := Lib.hid (by
      obtain ⟨p', c', e, hx⟩ := HR.out.old
      rw [flat_tv]
      exact ⟨p', c', by rw [List.length_map] at e; exact e, hx⟩)
    rw [hjd]
    clear hjn hat hjd hT1 hT2
    cases p with
    | none =>
      obtain rfl := HPN.out rfl
      obtain rfl : j = 0 := by omega
      have hl0 : l.length = 0 := by omega
      obtain rfl := List.eq_nil_of_length_eq_zero hl0
      go_wp2_with (at_builtin; refine hold_on ?_)
      refine Lib.hid ?_
      refine (wpList_append_f tvC 1 8 (by decide) (fun _ => rfl) tv_one 3 22 ii _ Tryz.underlying22 hii hi0 hi1 hi2 rfl (by decide) rfl _ _ rfl w.heap.size (.slice none 0 0) [] 0 rfl rfl (World.ownsRow_nil _ _ _ _) _ _ _ T1 rfl HJ.out (by simp) _ (show RdF w (fun _ => True) (.slice none 0 0) T1.length (T1.flatMap tvC) from by obtain rfl := HT.out.1; exact rdf_nil _ _ _ _) (by omega) (by rw [← HJ.out]; omega) (Nat.le_refl _) ?_)
      intro v1 w4 hown1 hg1
      have HO1 : Hid (w4.ownsRow w.heap.size 3 1 v1 T1.length (T1.flatMap tvC)) := Lib.hid hown1
      have G4 := Lib.hid (show w.grownBy w4 none from hg1)
      clear hown1 hg1
      obtain ⟨p1, c1, rfl, -, -⟩ := own_shape HO1.out
      go_wp2_with (at_builtin; refine hold_on ?_)
      refine Lib.hid ?_
      refine (wpList_append_f tvC 1 8 (by decide) (fun _ => rfl) tv_one 3 22 ii _ Tryz.underlying22 hii hi0 hi1 hi2 rfl (by decide) rfl _ _ rfl w.heap.size _ T1 _ rfl rfl (HO1.out.alloc _) _ _ _ [n] rfl rfl (by simp) (fun _ => True) (rdf_one _ trivial (cell_one w4 _ _) 1) (by omega) (by rw [← HJ.out]; simp <;> omega) (by have := G4.out.size; simp <;> omega) ?_)
      intro v2 w5 hown2 hg2
      have G5 := Lib.hid (old_grow (grown_trans G4.out (World.grownBy_alloc w4 _ none)) (HO1.out.alloc _) (Nat.le_refl _) hg2)
      obtain ⟨T3, hT3⟩ : ∃ T3, T3 = T1 ++ [n] := ⟨_, rfl⟩
      rw [← hT3] at hown2
      have HO2 := Lib.hid hown2
      have HT3 := Lib.hid hT3
      clear hown2 hT3 hg2
      obtain ⟨p2, c2, rfl, -, -⟩ := own_shape HO2.out
      go_wp2_with (at_builtin; refine hold_on ?_)
      refine Lib.hid ?_
      refine (wpList_append_f tvC 1 8 (by decide) (fun _ => rfl) tv_one 3 22 ii _ Tryz.underlying22 hii hi0 hi1 hi2 rfl (by decide) rfl _ _ rfl w.heap.size _ T3 _ rfl rfl HO2.out _ _ _ T2 rfl (by have := HJ2.out; omega) (by simp) _ (show RdF w5 (fun _ => True) (.slice none 0 0) T2.length (T2.flatMap tvC) from by obtain rfl := HT.out.2; exact rdf_nil _ _ _ _) (by omega) (by rw [← HJ2.out, HT3.out, List.length_append, ← HJ.out]; simp <;> omega) G5.out.size ?_)
      intro v3 w6 hown3 hg3
      have HE : Hid (insU [] n = T3 ++ T2) := Lib.hid (by rw [HT3.out, HI.out]; simp)
      rw [← HE.out] at hown3
      have HO3 := Lib.hid hown3
      have G6 := Lib.hid (old_grow G5.out HO2.out (Nat.le_refl _) hg3)
      clear hown3 hg3
      obtain ⟨p3, c3, rfl, h31, h32⟩ := own_shape HO3.out
      have hp3 : p3 = none → c3 = 0 := by
        rintro rfl
        rcases own_formF HO3.out with ⟨e, -⟩ | ⟨g, cap, e, -⟩
        · injection e with e1 e2 e3
        · injection e with e1 e2 e3
          cases e1
      have HH := Lib.hid (And.intro h31 (And.intro h32 hp3))
      clear h31 h32 hp3
      go_wp2_with fail
      go_ret
      refine ⟨p3, c3, rfl, ?_, HH.out.2.2, ⟨HH.out.1, HH.out.2.1⟩, G6.out⟩
      have hr := rd_of_rdf (rdf_of_own HO3.out) (by rw [flat_tv]; simp)
      rw [flat_tv] at hr
      exact hr.mono (fun b hb => .inr hb)
    | some ad =>
      obtain ⟨b, off, spot⟩ := ad
      have hsp : l.length = 0 ∨ spot = none := by
        by_cases h0 : l.length = 0
        · exact .inl h0
        · obtain ⟨-, b', off', e, -⟩ := rdi_at HR.out (by omega)
          injection e with e
          injection e with e1 e2 e3
          exact .inr e3
      by_cases hcj : c = j
      · obtain rfl : j = l.length := by omega
        subst hcj
        go_wp2_with (at_builtin; refine hold_on ?_)
        refine Lib.hid ?_
        refine (wpList_append_f tvC 1 8 (by decide) (fun _ => rfl) tv_one 3 22 ii _ Tryz.underlying22 hii hi0 hi1 hi2 rfl (by decide) rfl _ _ rfl w.heap.size (.slice none 0 0) [] 0 rfl rfl (World.ownsRow_nil _ _ _ _) _ _ _ T1 rfl HJ.out (by simp) _ (HT.out.1 ▸ RdF.part (f := tvC) (k := 1) (fun _ => rfl) HRF.out _ hj _) (by omega) (by rw [← HJ.out]; omega) (Nat.le_refl _) ?_)
        intro v1 w4 hown1 hg1
        have HO1 : Hid (w4.ownsRow w.heap.size 3 1 v1 T1.length (T1.flatMap tvC)) := Lib.hid hown1
        have G4 := Lib.hid (show w.grownBy w4 none from hg1)
        clear hown1 hg1
        obtain ⟨p1, c1, rfl, -, -⟩ := own_shape HO1.out
        go_wp2_with (at_builtin; refine hold_on ?_)
        refine Lib.hid ?_
        refine (wpList_append_f tvC 1 8 (by decide) (fun _ => rfl) tv_one 3 22 ii _ Tryz.underlying22 hii hi0 hi1 hi2 rfl (by decide) rfl _ _ rfl w.heap.size _ T1 _ rfl rfl (HO1.out.alloc _) _ _ _ [n] rfl rfl (by simp) (fun _ => True) (rdf_one _ trivial (cell_one w4 _ _) 1) (by omega) (by rw [← HJ.out]; simp <;> omega) (by have := G4.out.size; simp <;> omega) ?_)
        intro v2 w5 hown2 hg2
        have G5 := Lib.hid (old_grow (grown_trans G4.out (World.grownBy_alloc w4 _ none)) (HO1.out.alloc _) (Nat.le_refl _) hg2)
        obtain ⟨T3, hT3⟩ : ∃ T3, T3 = T1 ++ [n] := ⟨_, rfl⟩
        rw [← hT3] at hown2
        have HO2 := Lib.hid hown2
        have HT3 := Lib.hid hT3
        clear hown2 hT3 hg2
        obtain ⟨p2, c2, rfl, -, -⟩ := own_shape HO2.out
        go_wp2_with (at_builtin; refine hold_on ?_)
        refine Lib.hid ?_
        refine (wpList_append_f tvC 1 8 (by decide) (fun _ => rfl) tv_one 3 22 ii _ Tryz.underlying22 hii hi0 hi1 hi2 rfl (by decide) rfl _ _ rfl w.heap.size _ T3 _ rfl rfl HO2.out _ _ _ T2 rfl (by have := HJ2.out; omega) (by simp) _ (show RdF w5 (fun _ => True) (.slice _ 0 _) T2.length (T2.flatMap tvC) from by rw [← HT.out.2, List.drop_length]; exact rdf_nil _ _ _ _) (by omega) (by rw [← HJ2.out, HT3.out, List.length_append, ← HJ.out]; simp <;> omega) G5.out.size ?_)
        intro v3 w6 hown3 hg3
        have HE : Hid (insU l n = T3 ++ T2) := Lib.hid (by rw [HT3.out, HI.out]; simp)
        rw [← HE.out] at hown3
        have HO3 := Lib.hid hown3
        have G6 := Lib.hid (old_grow G5.out HO2.out (Nat.le_refl _) hg3)
        clear hown3 hg3
        obtain ⟨p3, c3, rfl, h31, h32⟩ := own_shape HO3.out
        have hp3 : p3 = none → c3 = 0 := by
          rintro rfl
          rcases own_formF HO3.out with ⟨e, -⟩ | ⟨g, cap, e, -⟩
          · injection e with e1 e2 e3
          · injection e with e1 e2 e3
            cases e1
        have HH := Lib.hid (And.intro h31 (And.intro h32 hp3))
        clear h31 h32 hp3
        go_wp2_with fail
        go_ret
        refine ⟨p3, c3, rfl, ?_, HH.out.2.2, ⟨HH.out.1, HH.out.2.1⟩, G6.out⟩
        have hr := rd_of_rdf (rdf_of_own HO3.out) (by rw [flat_tv]; simp)
        rw [flat_tv] at hr
        exact hr.mono (fun b hb => .inr hb)
      · have n0 : ¬ c - j = 0 := by omega
        by_cases hjl : j = l.length
        · subst hjl
          go_wp2_with (at_builtin; refine hold_on ?_)
          refine Lib.hid ?_
          refine (wpList_append_f tvC 1 8 (by decide) (fun _ => rfl) tv_one 3 22 ii _ Tryz.underlying22 hii hi0 hi1 hi2 rfl (by decide) rfl _ _ rfl w.heap.size (.slice none 0 0) [] 0 rfl rfl (World.ownsRow_nil _ _ _ _) _ _ _ T1 rfl HJ.out (by simp) _ (HT.out.1 ▸ RdF.part (f := tvC) (k := 1) (fun _ => rfl) HRF.out _ hj _) (by omega) (by rw [← HJ.out]; omega) (Nat.le_refl _) ?_)
          intro v1 w4 hown1 hg1
          have HO1 : Hid (w4.ownsRow w.heap.size 3 1 v1 T1.length (T1.flatMap tvC)) := Lib.hid hown1
          have G4 := Lib.hid (show w.grownBy w4 none from hg1)
          clear hown1 hg1
          obtain ⟨p1, c1, rfl, -, -⟩ := own_shape HO1.out
          go_wp2_with (at_builtin; refine hold_on ?_)
          refine Lib.hid ?_
          refine (wpList_append_f tvC 1 8 (by decide) (fun _ => rfl) tv_one 3 22 ii _ Tryz.underlying22 hii hi0 hi1 hi2 rfl (by decide) rfl _ _ rfl w.heap.size _ T1 _ rfl rfl (HO1.out.alloc _) _ _ _ [n] rfl rfl (by simp) (fun _ => True) (rdf_one _ trivial (cell_one w4 _ _) 1) (by omega) (by rw [← HJ.out]; simp <;> omega) (by have := G4.out.size; simp <;> omega) ?_)
          intro v2 w5 hown2 hg2
          have G5 := Lib.hid (old_grow (grown_trans G4.out (World.grownBy_alloc w4 _ none)) (HO1.out.alloc _) (Nat.le_refl _) hg2)
          obtain ⟨T3, hT3⟩ : ∃ T3, T3 = T1 ++ [n] := ⟨_, rfl⟩
          rw [← hT3] at hown2
          have HO2 := Lib.hid hown2
          have HT3 := Lib.hid hT3
          clear hown2 hT3 hg2
          obtain ⟨p2, c2, rfl, -, -⟩ := own_shape HO2.out
          go_wp2_with (at_builtin; refine hold_on ?_)
          refine Lib.hid ?_
          refine (wpList_append_f tvC 1 8 (by decide) (fun _ => rfl) tv_one 3 22 ii _ Tryz.underlying22 hii hi0 hi1 hi2 rfl (by decide) rfl _ _ rfl w.heap.size _ T3 _ rfl rfl HO2.out _ _ _ T2 rfl (by have := HJ2.out; omega) (by simp) _ (show RdF w5 (fun _ => True) (.slice _ 0 _) T2.length (T2.flatMap tvC) from by rw [← HT.out.2, List.drop_length]; exact rdf_nil _ _ _ _) (by omega) (by rw [← HJ2.out, HT3.out, List.length_append, ← HJ.out]; simp <;> omega) G5.out.size ?_)
          intro v3 w6 hown3 hg3
          have HE : Hid (insU l n = T3 ++ T2) := Lib.hid (by rw [HT3.out, HI.out]; simp)
          rw [← HE.out] at hown3
          have HO3 := Lib.hid hown3
          have G6 := Lib.hid (old_grow G5.out HO2.out (Nat.le_refl _) hg3)
          clear hown3 hg3
          obtain ⟨p3, c3, rfl, h31, h32⟩ := own_shape HO3.out
          have hp3 : p3 = none → c3 = 0 := by
            rintro rfl
            rcases own_formF HO3.out with ⟨e, -⟩ | ⟨g, cap, e, -⟩
            · injection e with e1 e2 e3
            · injection e with e1 e2 e3
              cases e1
          have HH := Lib.hid (And.intro h31 (And.intro h32 hp3))
          clear h31 h32 hp3
          go_wp2_with fail
          go_ret
          refine ⟨p3, c3, rfl, ?_, HH.out.2.2, ⟨HH.out.1, HH.out.2.1⟩, G6.out⟩
          have hr := rd_of_rdf (rdf_of_own HO3.out) (by rw [flat_tv]; simp)
          rw [flat_tv] at hr
          exact hr.mono (fun b hb => .inr hb)
        · obtain rfl : spot = none := hsp.resolve_left (by omega)
          go_wp2_with (at_builtin; refine hold_on ?_)
          refine Lib.hid ?_
          refine (wpList_append_f tvC 1 8 (by decide) (fun _ => rfl) tv_one 3 22 ii _ Tryz.underlying22 hii hi0 hi1 hi2 rfl (by decide) rfl _ _ rfl w.heap.size (.slice none 0 0) [] 0 rfl rfl (World.ownsRow_nil _ _ _ _) _ _ _ T1 rfl HJ.out (by simp) _ (HT.out.1 ▸ RdF.part (f := tvC) (k := 1) (fun _ => rfl) HRF.out _ hj _) (by omega) (by rw [← HJ.out]; omega) (Nat.le_refl _) ?_)
          intro v1 w4 hown1 hg1
          have HO1 : Hid (w4.ownsRow w.heap.size 3 1 v1 T1.length (T1.flatMap tvC)) := Lib.hid hown1
          have G4 := Lib.hid (show w.grownBy w4 none from hg1)
          clear hown1 hg1
          obtain ⟨p1, c1, rfl, -, -⟩ := own_shape HO1.out
          go_wp2_with (at_builtin; refine hold_on ?_)
          refine Lib.hid ?_
          refine (wpList_append_f tvC 1 8 (by decide) (fun _ => rfl) tv_one 3 22 ii _ Tryz.underlying22 hii hi0 hi1 hi2 rfl (by decide) rfl _ _ rfl w.heap.size _ T1 _ rfl rfl (HO1.out.alloc _) _ _ _ [n] rfl rfl (by simp) (fun _ => True) (rdf_one _ trivial (cell_one w4 _ _) 1) (by omega) (by rw [← HJ.out]; simp <;> omega) (by have := G4.out.size; simp <;> omega) ?_)
          intro v2 w5 hown2 hg2
          have G5 := Lib.hid (old_grow (grown_trans G4.out (World.grownBy_alloc w4 _ none)) (HO1.out.alloc _) (Nat.le_refl _) hg2)
          obtain ⟨T3, hT3⟩ : ∃ T3, T3 = T1 ++ [n] := ⟨_, rfl⟩
          rw [← hT3] at hown2
          have HO2 := Lib.hid hown2
          have HT3 := Lib.hid hT3
          clear hown2 hT3 hg2
          obtain ⟨p2, c2, rfl, -, -⟩ := own_shape HO2.out
          go_wp2_with (at_builtin; refine hold_on ?_)
          refine Lib.hid ?_
          refine (wpList_append_f tvC 1 8 (by decide) (fun _ => rfl) tv_one 3 22 ii _ Tryz.underlying22 hii hi0 hi1 hi2 rfl (by decide) rfl _ _ rfl w.heap.size _ T3 _ rfl rfl HO2.out _ _ _ T2 rfl (by have := HJ2.out; omega) (by simp) _ (show RdF w5 _ (.slice (some ⟨b, off + j, none⟩) (l.length - j) (c - j)) T2.length (T2.flatMap tvC) from by have := RdF.rest (f := tvC) (k := 1) (fun _ => rfl) (HRF.out.keep G5.out) j (c - j); rw [Nat.mul_one, HT.out.2] at this; exact this) (by omega) (by rw [← HJ2.out, HT3.out, List.length_append, ← HJ.out]; simp <;> omega) G5.out.size ?_)
          intro v3 w6 hown3 hg3
          have HE : Hid (insU l n = T3 ++ T2) := Lib.hid (by rw [HT3.out, HI.out]; simp)
          rw [← HE.out] at hown3
          have HO3 := Lib.hid hown3
          have G6 := Lib.hid (old_grow G5.out HO2.out (Nat.le_refl _) hg3)
          clear hown3 hg3
          obtain ⟨p3, c3, rfl, h31, h32⟩ := own_shape HO3.out
          have hp3 : p3 = none → c3 = 0 := by
            rintro rfl
            rcases own_formF HO3.out with ⟨e, -⟩ | ⟨g, cap, e, -⟩
            · injection e with e1 e2 e3
            · injection e with e1 e2 e3
              cases e1
          have HH := Lib.hid (And.intro h31 (And.intro h32 hp3))
          clear h31 h32 hp3
          go_wp2_with fail
          go_ret
          refine ⟨p3, c3, rfl, ?_, HH.out.2.2, ⟨HH.out.1, HH.out.2.1⟩, G6.out⟩
          have hr := rd_of_rdf (rdf_of_own HO3.out) (by rw [flat_tv]; simp)
          rw [flat_tv] at hr
          exact hr.mono (fun b hb => .inr hb)
end Go.Proofs.YtahafijpcmphaaaGreat
