/- Parts of the proof, packed: ShStLaw. -/
import Derived.Test.YtlefjdglcdopeaaSs15
import Derived.Test.YtlefjdglcdopeaaSs23
import Derived.Test.YtlefjdglcdopeaaSs13
import Derived.Test.YtlefjdglcdopeaaSs24
/- The law ShortestSteps. -/
namespace Go.Proofs.Ytlefjdglcdopeaa
open Go.RowKit Go.Maps Bs
set_option maxRecDepth 100000 in
theorem alloc_eq2 {w w' : World} {o : Obj} {n : Nat} (h : w.alloc o = w') (hn : n < w.heap.size) : w'.heap[w.heap.size]? = some o ∧ w.grownBy w' none ∧ n < w.heap.size := ⟨(alloc_eq h).1, (alloc_eq h).2.1, hn⟩
set_option maxRecDepth 100000 in
theorem kept_rowD {w w' : World} {b : Nat} {o : Obj} {r : Option Nat} (h : w.heap[b]? = some o) (g : w.drew.grownBy w' r) (hr : some b ≠ r) : w'.heap[b]? = some o := kept_row (w := w.drew) h g hr
set_option maxRecDepth 100000 in
theorem store6 {w : World} {b : Nat} {t : TypeId} {z0 z1 z2 z3 z4 z5 u0 u1 u2 u3 u4 u5 : Value} (h : w.heap[b]? = some (.cells #[z0, z1, z2, z3, z4, z5] t (0, 0))) :
    ((((((w.setCell ⟨b, 0, none⟩ u0).setCell ⟨b, 1, none⟩ u1).setCell ⟨b, 2, none⟩ u2).setCell ⟨b, 3, none⟩ u3).setCell ⟨b, 4, none⟩ u4).setCell ⟨b, 5, none⟩ u5).heap[b]? = some (.cells #[u0, u1, u2, u3, u4, u5] t (0, 0)) ∧
    w.grownBy ((((((w.setCell ⟨b, 0, none⟩ u0).setCell ⟨b, 1, none⟩ u1).setCell ⟨b, 2, none⟩ u2).setCell ⟨b, 3, none⟩ u3).setCell ⟨b, 4, none⟩ u4).setCell ⟨b, 5, none⟩ u5) (some b) := by
  refine ⟨?_, ?_⟩
  · have h0 := heap_setCell_same w b 0 _ _ u0 h
    have h1 := heap_setCell_same _ b 1 _ _ u1 h0
    have h2 := heap_setCell_same _ b 2 _ _ u2 h1
    have h3 := heap_setCell_same _ b 3 _ _ u3 h2
    have h4 := heap_setCell_same _ b 4 _ _ u4 h3
    have h5 := heap_setCell_same _ b 5 _ _ u5 h4
    exact h5
  · exact grown_trans (grown_trans (grown_trans (grown_trans (grown_trans (grown_setCell w ⟨b, 0, none⟩ u0) (grown_setCell _ ⟨b, 1, none⟩ u1)) (grown_setCell _ ⟨b, 2, none⟩ u2)) (grown_setCell _ ⟨b, 3, none⟩ u3)) (grown_setCell _ ⟨b, 4, none⟩ u4)) (grown_setCell _ ⟨b, 5, none⟩ u5)
set_option maxRecDepth 100000 in
set_option maxHeartbeats 12800000 in
theorem ssteps_walk (v : Value) (xa ya : Int) (w : World) (hv : IntsIn w v) (hxa : I64 xa) (hya : I64 ya) :
    Calls Try.prog 3 #[v, .int .i64 xa, .int .i64 ya] w fun e w' => e = .returned (.bool true) ∧ w.grownBy w' none := by
  go_enter Try.func3, Try.ntmps3
  go_wp2_with fail
  refine (new_any v w hv).mono ?_
  rintro e w2 ⟨rfl, hg1, hT1⟩
  have H2 := Lib.hid (And.intro hg1 hT1)
  obtain ⟨a, ha⟩ : ∃ a, a = w.heap.size := ⟨_, rfl⟩
  rw [← ha] at H2
  have HA := Lib.hid ha
  clear hg1 hT1 hv
  rw [← HA.out]
  clear ha
  go_wp2_with fail
  refine (stopoJ_any a 7 10 (by decide) (by decide) (by unfold I64; omega) w2 H2.out.2).mono ?_
  rintro e w3 ⟨T, rfl, hT, hO, hpT, hs3⟩
  obtain ⟨R, L, pR, cR, pL, cL⟩ := T
  have HVT : Hid (WT ⟨R, L, pR, cR, pL, cL⟩) := Lib.hid (WT.of (by decide) hO hpT)
  simp only at hO hpT ⊢
  have gal := World.grownBy_alloc w3 (.cells #[.slice pR R.length cR, .slice pL L.length cL] 28) none
  have ha2 : a < w2.heap.size := H2.out.2.lt
  have HW4 : Hid (w.grownBy (w3.alloc (.cells #[.slice pR R.length cR, .slice pL L.length cL] 28)) none) := Lib.hid (grown_trans (grown_tape H2.out.1 (by rw [← HA.out]; exact hs3.1)) gal)
  have HG : Hid ((w3.alloc (.cells #[.slice pR R.length cR, .slice pL L.length cL] 28)).heap[w3.heap.size]? = some (.cells #[.slice pR R.length cR, .slice pL L.length cL] 28 (0, 0)) ∧ TgOk (w3.alloc (.cells #[.slice pR R.length cR, .slice pL L.length cL] 28)) (fun b => w2.heap.size ≤ b ∧ b < w3.heap.size) ⟨R, L, pR, cR, pL, cL⟩ ∧ Tp (w3.alloc (.cells #[.slice pR R.length cR, .slice pL L.length cL] 28)) a) :=
    Lib.hid ⟨heap_alloc_new w3 _, hT.keep gal, hs3.2.keep gal⟩
  have ha3 : a < w3.heap.size := Nat.lt_of_lt_of_le ha2 hs3.1.size
  clear hT hs3 gal hO hpT
  go_upto_region 3 with fail
  generalize w3.alloc _ = w4 at *
  have HXY := Lib.hid (And.intro hxa hya)
  clear hxa hya
  go_cut [9] from 17 to 34 (fun p wx => ∃ (gA : Nat) (x1 y1 x2 y2 : Int), p = .pointer (some ⟨gA, 0, none⟩) ∧ Hid (LW w w3.heap.size ⟨R, L, pR, cR, pL, cL⟩ wx) ∧ Hid (wx.heap[gA]? = some (.cells #[.int .i64 xa, .int .i64 ya, .int .i64 x1, .int .i64 y1, .int .i64 x2, .int .i64 y2] 32 (0, 0))) ∧ Hid (I64 x1 ∧ I64 y1 ∧ I64 x2 ∧ I64 y2))
  case first =>
    refine region_until (S := fun w' => Hid (w4.grownBy w' (some a) ∧ Tp w' a)) (fun j => j == 19) (by kernel_rfl) (Lib.hid ⟨grown_drew (grown_refl _ _), HG.out.2.2.drew⟩) (fun hHeld => ?_)
    refine anyU_take (i := 0) (oi := { dst := some 17, op := Op.move (Operand.tmp 1), type := 3, pos := "law.go:49", after := #[], guard := none }) (v := ?_) rfl (by kernel_rfl) (by kernel_rfl) (by kernel_rfl) (by kernel_rfl) (by kernel_rfl) (fun _ _ _ h => h) (Or.inl ⟨by rfl, ?_⟩) hHeld ?_
    rotate_left 1
    · intro u hSu
      obtain ⟨q0, q1⟩ := row_cells (kept_row HG.out.1 hSu.out.1 (fun e => by have := Option.some.inj e; omega))
      go_simp
      first | done | with_reducible rfl
    (try simp only [Act.put, List.setIfInBounds_toArray, List.set_cons_zero, List.set_cons_succ])
    refine anyU_take (i := 1) (oi := { dst := some 18, op := Op.move (Operand.tmp 2), type := 3, pos := "law.go:49", after := #[], guard := none }) (v := ?_) rfl (by kernel_rfl) (by kernel_rfl) (by kernel_rfl) (by kernel_rfl) (by kernel_rfl) (fun _ _ _ h => h) (Or.inl ⟨by rfl, ?_⟩) hHeld ?_
    rotate_left 1
    · intro u hSu
      obtain ⟨q0, q1⟩ := row_cells (kept_row HG.out.1 hSu.out.1 (fun e => by have := Option.some.inj e; omega))
      go_simp
      first | done | with_reducible rfl
    (try simp only [Act.put, List.setIfInBounds_toArray, List.set_cons_zero, List.set_cons_succ])
    refine anyU_take (i := 2) (oi := { dst := some 19, op := Op.build 30 #[(0, Operand.tmp 17), (1, Operand.tmp 18)], type := 30, pos := "law.go:49", after := #[{ on := 0, ground := Ground.data }, { on := 1, ground := Ground.data }], guard := none }) (v := ?_) rfl (by kernel_rfl) (by kernel_rfl) (by kernel_rfl) (by kernel_rfl) (by kernel_rfl) (fun _ _ _ h => h) (Or.inl ⟨by rfl, ?_⟩) hHeld ?_
    rotate_left 1
    · intro u hSu
      obtain ⟨q0, q1⟩ := row_cells (kept_row HG.out.1 hSu.out.1 (fun e => by have := Option.some.inj e; omega))
      go_simp
      first | done | with_reducible rfl
    (try simp only [Act.put, List.setIfInBounds_toArray, List.set_cons_zero, List.set_cons_succ])
    refine anyU_take (i := 3) (oi := { dst := some 20, op := Op.move (Operand.tmp 7), type := 23, pos := "law.go:49", after := #[], guard := none }) (v := ?_) rfl (by kernel_rfl) (by kernel_rfl) (by kernel_rfl) (by kernel_rfl) (by kernel_rfl) (fun _ _ _ h => h) (Or.inl ⟨by rfl, ?_⟩) hHeld ?_
    rotate_left 1
    · intro u hSu
      obtain ⟨q0, q1⟩ := row_cells (kept_row HG.out.1 hSu.out.1 (fun e => by have := Option.some.inj e; omega))
      go_simp
      first | done | with_reducible rfl
    (try simp only [Act.put, List.setIfInBounds_toArray, List.set_cons_zero, List.set_cons_succ])
    refine anyU_take (i := 4) (oi := { dst := some 21, op := Op.load 28 (Operand.tmp 8), type := 28, pos := "law.go:49", after := #[], guard := none }) (v := ?_) rfl (by kernel_rfl) (by kernel_rfl) (by kernel_rfl) (by kernel_rfl) (by kernel_rfl) (fun _ _ _ h => h) (Or.inl ⟨by rfl, ?_⟩) hHeld ?_
    rotate_left 1
    · intro u hSu
      obtain ⟨q0, q1⟩ := row_cells (kept_row HG.out.1 hSu.out.1 (fun e => by have := Option.some.inj e; omega))
      go_simp
      first | done | with_reducible rfl
    (try simp only [Act.put, List.setIfInBounds_toArray, List.set_cons_zero, List.set_cons_succ])
    refine anyU_take (i := 6) (oi := { dst := some 23, op := Op.move (Operand.tmp 7), type := 23, pos := "law.go:49", after := #[], guard := none }) (v := ?_) rfl (by kernel_rfl) (by kernel_rfl) (by kernel_rfl) (by kernel_rfl) (by kernel_rfl) (fun _ _ _ h => h) (Or.inl ⟨by rfl, ?_⟩) hHeld ?_
    rotate_left 1
    · intro u hSu
      obtain ⟨q0, q1⟩ := row_cells (kept_row HG.out.1 hSu.out.1 (fun e => by have := Option.some.inj e; omega))
      go_simp
      first | done | with_reducible rfl
    (try simp only [Act.put, List.setIfInBounds_toArray, List.set_cons_zero, List.set_cons_succ])
    refine anyU_take (i := 7) (oi := { dst := some 24, op := Op.load 28 (Operand.tmp 8), type := 28, pos := "law.go:49", after := #[], guard := none }) (v := ?_) rfl (by kernel_rfl) (by kernel_rfl) (by kernel_rfl) (by kernel_rfl) (by kernel_rfl) (fun _ _ _ h => h) (Or.inl ⟨by rfl, ?_⟩) hHeld ?_
    rotate_left 1
    · intro u hSu
      obtain ⟨q0, q1⟩ := row_cells (kept_row HG.out.1 hSu.out.1 (fun e => by have := Option.some.inj e; omega))
      go_simp
      first | done | with_reducible rfl
    (try simp only [Act.put, List.setIfInBounds_toArray, List.set_cons_zero, List.set_cons_succ])
    refine anyU_take (i := 10) (oi := { dst := some 27, op := Op.move (Operand.tmp 7), type := 23, pos := "law.go:49", after := #[], guard := none }) (v := ?_) rfl (by kernel_rfl) (by kernel_rfl) (by kernel_rfl) (by kernel_rfl) (by kernel_rfl) (fun _ _ _ h => h) (Or.inl ⟨by rfl, ?_⟩) hHeld ?_
    rotate_left 1
    · intro u hSu
      obtain ⟨q0, q1⟩ := row_cells (kept_row HG.out.1 hSu.out.1 (fun e => by have := Option.some.inj e; omega))
      go_simp
      first | done | with_reducible rfl
    (try simp only [Act.put, List.setIfInBounds_toArray, List.set_cons_zero, List.set_cons_succ])
    refine anyU_take (i := 11) (oi := { dst := some 28, op := Op.load 28 (Operand.tmp 8), type := 28, pos := "law.go:49", after := #[], guard := none }) (v := ?_) rfl (by kernel_rfl) (by kernel_rfl) (by kernel_rfl) (by kernel_rfl) (by kernel_rfl) (fun _ _ _ h => h) (Or.inl ⟨by rfl, ?_⟩) hHeld ?_
    rotate_left 1
    · intro u hSu
      obtain ⟨q0, q1⟩ := row_cells (kept_row HG.out.1 hSu.out.1 (fun e => by have := Option.some.inj e; omega))
      go_simp
      first | done | with_reducible rfl
    (try simp only [Act.put, List.setIfInBounds_toArray, List.set_cons_zero, List.set_cons_succ])
    refine anyU_take (i := 13) (oi := { dst := some 30, op := Op.move (Operand.tmp 7), type := 23, pos := "law.go:49", after := #[], guard := none }) (v := ?_) rfl (by kernel_rfl) (by kernel_rfl) (by kernel_rfl) (by kernel_rfl) (by kernel_rfl) (fun _ _ _ h => h) (Or.inl ⟨by rfl, ?_⟩) hHeld ?_
    rotate_left 1
    · intro u hSu
      obtain ⟨q0, q1⟩ := row_cells (kept_row HG.out.1 hSu.out.1 (fun e => by have := Option.some.inj e; omega))
      go_simp
      first | done | with_reducible rfl
    (try simp only [Act.put, List.setIfInBounds_toArray, List.set_cons_zero, List.set_cons_succ])
    refine anyU_take (i := 14) (oi := { dst := some 31, op := Op.load 28 (Operand.tmp 8), type := 28, pos := "law.go:49", after := #[], guard := none }) (v := ?_) rfl (by kernel_rfl) (by kernel_rfl) (by kernel_rfl) (by kernel_rfl) (by kernel_rfl) (fun _ _ _ h => h) (Or.inl ⟨by rfl, ?_⟩) hHeld ?_
    rotate_left 1
    · intro u hSu
      obtain ⟨q0, q1⟩ := row_cells (kept_row HG.out.1 hSu.out.1 (fun e => by have := Option.some.inj e; omega))
      go_simp
      first | done | with_reducible rfl
    (try simp only [Act.put, List.setIfInBounds_toArray, List.set_cons_zero, List.set_cons_succ])
    refine anyU_ready (rs := [5, 18]) (by kernel_rfl) (by simp) ?_
    refine EachU.cons (o := { dst := some 22, op := Op.call { callee := Callee.value (Operand.func 13), args := #[Operand.tmp 20, Operand.tmp 21, Operand.const (Value.int IntKind.i64 5)], argTypes := #[23, 28, 3] }, type := 3, pos := "law.go:49", after := #[{ on := 3, ground := Ground.data }, { on := 4, ground := Ground.data }], guard := none }) rfl (fun Kz hK => ?_) (EachU.cons (o := { dst := some 9, op := Op.alloc 32, type := 0, pos := "law.go:49", after := #[], guard := none }) rfl (fun Kz hK => ?_) EachU.nil)
    · go_simp
      go_at_call 13
      refine (srtr_any a ⟨R, L, pR, cR, pL, cL⟩ 5 (by unfold I64; omega) (fun b => w2.heap.size ≤ b ∧ b < w3.heap.size) _ (HG.out.2.1.grown hHeld.out.1 (fun b hb e => by have := Option.some.inj e; omega)) (fun b hb => by omega) hHeld.out.2).mono ?_
      rintro e wx1 ⟨x1, hx1, rfl, hs⟩
      have Hx1 : Hid (RtP ⟨R, L, pR, cR, pL, cL⟩ 5 x1) := Lib.hid hx1
      have hs1 := hs.1
      have hs2 := hs.2
      (try ((first | have HBX2 := Lib.hid (kept_row HBX.out.1 hs1 (fun e => by have := Option.some.inj e; have := HBX.out.2; omega)) | have HBX2 := Lib.hid (kept_rowD HBX.out.1 hs1 (fun e => by have := Option.some.inj e; have := HBX.out.2; omega))); have HBX3 := Lib.hid (And.intro HBX2.out HBX.out.2); clear HBX HBX2; have HBX := HBX3; clear HBX3))
      clear hx1 hs
      refine hK.out _ _ (fun _ => Lib.hid ⟨grown_trans hHeld.out.1 hs1, hs2⟩) (fun hH2 => ?_)
      clear hK Kz hHeld
      have hHeld := hH2 rfl
      clear hH2
      (try simp only [Act.put, List.setIfInBounds_toArray, List.set_cons_zero, List.set_cons_succ])
      refine anyU_ready (rs := [8, 18]) (by kernel_rfl) (by simp) ?_
      refine EachU.cons (o := { dst := some 25, op := Op.call { callee := Callee.value (Operand.func 13), args := #[Operand.tmp 23, Operand.tmp 24, Operand.const (Value.int IntKind.i64 5)], argTypes := #[23, 28, 3] }, type := 3, pos := "law.go:49", after := #[{ on := 6, ground := Ground.data }, { on := 7, ground := Ground.data }, { on := 5, ground := Ground.chain }], guard := none }) rfl (fun Kz hK => ?_) (EachU.cons (o := { dst := some 9, op := Op.alloc 32, type := 0, pos := "law.go:49", after := #[], guard := none }) rfl (fun Kz hK => ?_) EachU.nil)
      · go_simp
        go_at_call 13
        refine (srtr_any a ⟨R, L, pR, cR, pL, cL⟩ 5 (by unfold I64; omega) (fun b => w2.heap.size ≤ b ∧ b < w3.heap.size) _ (HG.out.2.1.grown hHeld.out.1 (fun b hb e => by have := Option.some.inj e; omega)) (fun b hb => by omega) hHeld.out.2).mono ?_
        rintro e wy1 ⟨y1, hy1, rfl, hs⟩
        have Hy1 : Hid (RtP ⟨R, L, pR, cR, pL, cL⟩ 5 y1) := Lib.hid hy1
        have hs1 := hs.1
        have hs2 := hs.2
        (try ((first | have HBX2 := Lib.hid (kept_row HBX.out.1 hs1 (fun e => by have := Option.some.inj e; have := HBX.out.2; omega)) | have HBX2 := Lib.hid (kept_rowD HBX.out.1 hs1 (fun e => by have := Option.some.inj e; have := HBX.out.2; omega))); have HBX3 := Lib.hid (And.intro HBX2.out HBX.out.2); clear HBX HBX2; have HBX := HBX3; clear HBX3))
        clear hy1 hs
        refine hK.out _ _ (fun _ => Lib.hid ⟨grown_trans hHeld.out.1 hs1, hs2⟩) (fun hH2 => ?_)
        clear hK Kz hHeld
        have hHeld := hH2 rfl
        clear hH2
        (try simp only [Act.put, List.setIfInBounds_toArray, List.set_cons_zero, List.set_cons_succ])
        refine anyU_take (i := 9) (oi := { dst := some 26, op := Op.build 30 #[(0, Operand.tmp 22), (1, Operand.tmp 25)], type := 30, pos := "law.go:49", after := #[{ on := 5, ground := Ground.data }, { on := 8, ground := Ground.data }], guard := none }) (v := ?_) rfl (by kernel_rfl) (by kernel_rfl) (by kernel_rfl) (by kernel_rfl) (by kernel_rfl) (fun _ _ _ h => h) (Or.inl ⟨by rfl, ?_⟩) hHeld ?_
        rotate_left 1
        · intro u hSu
          obtain ⟨q0, q1⟩ := row_cells (kept_row HG.out.1 hSu.out.1 (fun e => by have := Option.some.inj e; omega))
          go_simp
          first | done | with_reducible rfl
        (try simp only [Act.put, List.setIfInBounds_toArray, List.set_cons_zero, List.set_cons_succ])
        refine anyU_ready (rs := [12, 18]) (by kernel_rfl) (by simp) ?_
        refine EachU.cons (o := { dst := some 29, op := Op.call { callee := Callee.value (Operand.func 13), args := #[Operand.tmp 27, Operand.tmp 28, Operand.const (Value.int IntKind.i64 0)], argTypes := #[23, 28, 3] }, type := 3, pos := "law.go:49", after := #[{ on := 10, ground := Ground.data }, { on := 11, ground := Ground.data }, { on := 8, ground := Ground.chain }], guard := none }) rfl (fun Kz hK => ?_) (EachU.cons (o := { dst := some 9, op := Op.alloc 32, type := 0, pos := "law.go:49", after := #[], guard := none }) rfl (fun Kz hK => ?_) EachU.nil)
        · go_simp
          go_at_call 13
          refine (srtr_any a ⟨R, L, pR, cR, pL, cL⟩ 0 (by unfold I64; omega) (fun b => w2.heap.size ≤ b ∧ b < w3.heap.size) _ (HG.out.2.1.grown hHeld.out.1 (fun b hb e => by have := Option.some.inj e; omega)) (fun b hb => by omega) hHeld.out.2).mono ?_
          rintro e wx2 ⟨x2, hx2, rfl, hs⟩
          have Hx2 : Hid (RtP ⟨R, L, pR, cR, pL, cL⟩ 0 x2) := Lib.hid hx2
          have hs1 := hs.1
          have hs2 := hs.2
          (try ((first | have HBX2 := Lib.hid (kept_row HBX.out.1 hs1 (fun e => by have := Option.some.inj e; have := HBX.out.2; omega)) | have HBX2 := Lib.hid (kept_rowD HBX.out.1 hs1 (fun e => by have := Option.some.inj e; have := HBX.out.2; omega))); have HBX3 := Lib.hid (And.intro HBX2.out HBX.out.2); clear HBX HBX2; have HBX := HBX3; clear HBX3))
          clear hx2 hs
          refine hK.out _ _ (fun _ => Lib.hid ⟨grown_trans hHeld.out.1 hs1, hs2⟩) (fun hH2 => ?_)
          clear hK Kz hHeld
          have hHeld := hH2 rfl
          clear hH2
          (try simp only [Act.put, List.setIfInBounds_toArray, List.set_cons_zero, List.set_cons_succ])
          refine anyU_ready (rs := [15, 18]) (by kernel_rfl) (by simp) ?_
          refine EachU.cons (o := { dst := some 32, op := Op.call { callee := Callee.value (Operand.func 13), args := #[Operand.tmp 30, Operand.tmp 31, Operand.const (Value.int IntKind.i64 0)], argTypes := #[23, 28, 3] }, type := 3, pos := "law.go:49", after := #[{ on := 13, ground := Ground.data }, { on := 14, ground := Ground.data }, { on := 12, ground := Ground.chain }], guard := none }) rfl (fun Kz hK => ?_) (EachU.cons (o := { dst := some 9, op := Op.alloc 32, type := 0, pos := "law.go:49", after := #[], guard := none }) rfl (fun Kz hK => ?_) EachU.nil)
          · go_simp
            go_at_call 13
            refine (srtr_any a ⟨R, L, pR, cR, pL, cL⟩ 0 (by unfold I64; omega) (fun b => w2.heap.size ≤ b ∧ b < w3.heap.size) _ (HG.out.2.1.grown hHeld.out.1 (fun b hb e => by have := Option.some.inj e; omega)) (fun b hb => by omega) hHeld.out.2).mono ?_
            rintro e wy2 ⟨y2, hy2, rfl, hs⟩
            have Hy2 : Hid (RtP ⟨R, L, pR, cR, pL, cL⟩ 0 y2) := Lib.hid hy2
            have hs1 := hs.1
            have hs2 := hs.2
            (try ((first | have HBX2 := Lib.hid (kept_row HBX.out.1 hs1 (fun e => by have := Option.some.inj e; have := HBX.out.2; omega)) | have HBX2 := Lib.hid (kept_rowD HBX.out.1 hs1 (fun e => by have := Option.some.inj e; have := HBX.out.2; omega))); have HBX3 := Lib.hid (And.intro HBX2.out HBX.out.2); clear HBX HBX2; have HBX := HBX3; clear HBX3))
            clear hy2 hs
            refine hK.out _ _ (fun _ => Lib.hid ⟨grown_trans hHeld.out.1 hs1, hs2⟩) (fun hH2 => ?_)
            clear hK Kz hHeld
            have hHeld := hH2 rfl
            clear hH2
            (try simp only [Act.put, List.setIfInBounds_toArray, List.set_cons_zero, List.set_cons_succ])
            refine anyU_take (i := 16) (oi := { dst := some 33, op := Op.build 30 #[(0, Operand.tmp 29), (1, Operand.tmp 32)], type := 30, pos := "law.go:49", after := #[{ on := 12, ground := Ground.data }, { on := 15, ground := Ground.data }], guard := none }) (v := ?_) rfl (by kernel_rfl) (by kernel_rfl) (by kernel_rfl) (by kernel_rfl) (by kernel_rfl) (fun _ _ _ h => h) (Or.inl ⟨by rfl, ?_⟩) hHeld ?_
            rotate_left 1
            · intro u hSu
              obtain ⟨q0, q1⟩ := row_cells (kept_row HG.out.1 hSu.out.1 (fun e => by have := Option.some.inj e; omega))
              go_simp
              first | done | with_reducible rfl
            (try simp only [Act.put, List.setIfInBounds_toArray, List.set_cons_zero, List.set_cons_succ])
            refine anyU_take (i := 17) (oi := { dst := some 34, op := Op.build 32 #[(0, Operand.tmp 19), (1, Operand.tmp 26), (2, Operand.tmp 33)], type := 32, pos := "law.go:49", after := #[{ on := 2, ground := Ground.data }, { on := 9, ground := Ground.data }, { on := 16, ground := Ground.data }], guard := none }) (v := ?_) rfl (by kernel_rfl) (by kernel_rfl) (by kernel_rfl) (by kernel_rfl) (by kernel_rfl) (fun _ _ _ h => h) (Or.inl ⟨by rfl, ?_⟩) hHeld ?_
            rotate_left 1
            · intro u hSu
              obtain ⟨q0, q1⟩ := row_cells (kept_row HG.out.1 hSu.out.1 (fun e => by have := Option.some.inj e; omega))
              go_simp
              first | done | with_reducible rfl
            (try simp only [Act.put, List.setIfInBounds_toArray, List.set_cons_zero, List.set_cons_succ])
            refine anyU_ready (rs := [18]) (by kernel_rfl) (by simp) ?_
            refine EachU.cons (o := { dst := some 9, op := Op.alloc 32, type := 0, pos := "law.go:49", after := #[], guard := none }) rfl (fun Kz hK => ?_) EachU.nil
            go_simp
            generalize hwB : World.alloc _ _ = wB
            have hb4 := hHeld.out.1.size
            have hb5 := box_lt HG.out.1
            obtain ⟨hb1, hb2, hb3⟩ := alloc_eq2 hwB (Nat.lt_of_lt_of_le hb5 hb4)
            have HBX := Lib.hid (And.intro hb1 hb3)
            clear hwB hb1 hb3 hb4 hb5
            refine hK.out _ _ (fun _ => Lib.hid (by first | exact ⟨grown_trans hHeld.out.1 (grown_none hb2 _), hHeld.out.2.keep hb2⟩ | exact ⟨grown_drew (grown_none hb2 _), (HG.out.2.2.keep hb2).drew⟩)) (fun hH2 => ?_)
            clear hK Kz hHeld
            have hHeld := hH2 rfl
            clear hH2
            (try simp only [Act.put, List.setIfInBounds_toArray, List.set_cons_zero, List.set_cons_succ])
            refine anyU_ready (rs := [19]) (by kernel_rfl) (by simp) ?_
            refine EachU.cons (o := { dst := none, op := Op.store 32 (Operand.tmp 9) (Operand.tmp 34), type := 0, pos := "law.go:49", after := #[{ on := 18, ground := Ground.data }, { on := 17, ground := Ground.data }, { on := 15, ground := Ground.chain }, { on := 0, ground := Ground.phase }, { on := 1, ground := Ground.phase }, { on := 2, ground := Ground.phase }, { on := 3, ground := Ground.phase }, { on := 4, ground := Ground.phase }, { on := 5, ground := Ground.phase }, { on := 6, ground := Ground.phase }, { on := 7, ground := Ground.phase }, { on := 8, ground := Ground.phase }, { on := 9, ground := Ground.phase }, { on := 10, ground := Ground.phase }, { on := 11, ground := Ground.phase }, { on := 12, ground := Ground.phase }, { on := 13, ground := Ground.phase }, { on := 14, ground := Ground.phase }, { on := 15, ground := Ground.phase }, { on := 16, ground := Ground.phase }, { on := 17, ground := Ground.phase }, { on := 18, ground := Ground.phase }], guard := none }) rfl (fun Kz hK => ?_) EachU.nil
            have HBY := HBX.out.1
            have z0 := cell_of_row _ _ 0 _ _ _ HBY
            have z1 := cell_of_row _ _ 1 _ _ _ HBY
            have z2 := cell_of_row _ _ 2 _ _ _ HBY
            have z3 := cell_of_row _ _ 3 _ _ _ HBY
            have z4 := cell_of_row _ _ 4 _ _ _ HBY
            have z5 := cell_of_row _ _ 5 _ _ _ HBY
            have y0q := frozen_of_row _ _ 0 _ _ HBY
            have y1q := frozen_of_row _ _ 1 _ _ HBY
            have y2q := frozen_of_row _ _ 2 _ _ HBY
            have y3q := frozen_of_row _ _ 3 _ _ HBY
            have y4q := frozen_of_row _ _ 4 _ _ HBY
            have y5q := frozen_of_row _ _ 5 _ _ HBY
            have hLast := hHeld
            go_simp
            refine hK.out _ _ (fun h => by cases h) (fun _ => ?_)
            clear hK Kz
            (try simp only [Act.put, List.setIfInBounds_toArray, List.set_cons_zero, List.set_cons_succ])
            refine anyU_done (by kernel_rfl) ?_ _
            obtain ⟨s1, s2⟩ := store6 (u0 := .int .i64 xa) (u1 := .int .i64 ya) (u2 := .int .i64 x1) (u3 := .int .i64 y1) (u4 := .int .i64 x2) (u5 := .int .i64 y2) HBY
            have hlt := HBX.out.2
            have HL : Hid (LW w w3.heap.size ⟨R, L, pR, cR, pL, cL⟩ _) := Lib.hid ⟨kept_row (kept_row HG.out.1 hLast.out.1 (fun e => by have := Option.some.inj e; omega)) s2 (fun e => by have := Option.some.inj e; omega), ((HG.out.2.1.grown hLast.out.1 (fun b hb e => by have := Option.some.inj e; omega)).mono (fun b hb => hb.2)).grown s2 (fun b hb e => by have := Option.some.inj e; omega), grown_new (grown_new HW4.out hLast.out.1 (by rw [HA.out]; exact Nat.le_refl _)) s2 (by have := HW4.out.size; have := box_lt HG.out.1; have := HA.out; omega)⟩
            have HI6 := Lib.hid (And.intro (HVT.out.rt Hx1.out) (And.intro (HVT.out.rt Hy1.out) (And.intro (HVT.out.rt Hx2.out) (HVT.out.rt Hy2.out))))
            go_wp2_with fail
            go_meet
            exact ⟨_, x1, y1, x2, y2, rfl, HL, Lib.hid s1, HI6⟩
          · go_simp
            generalize hwB : World.alloc _ _ = wB
            have hb4 := hHeld.out.1.size
            have hb5 := box_lt HG.out.1
            obtain ⟨hb1, hb2, hb3⟩ := alloc_eq2 hwB (Nat.lt_of_lt_of_le hb5 hb4)
            have HBX := Lib.hid (And.intro hb1 hb3)
            clear hwB hb1 hb3 hb4 hb5
            refine hK.out _ _ (fun _ => Lib.hid (by first | exact ⟨grown_trans hHeld.out.1 (grown_none hb2 _), hHeld.out.2.keep hb2⟩ | exact ⟨grown_drew (grown_none hb2 _), (HG.out.2.2.keep hb2).drew⟩)) (fun hH2 => ?_)
            clear hK Kz hHeld
            have hHeld := hH2 rfl
            clear hH2
            (try simp only [Act.put, List.setIfInBounds_toArray, List.set_cons_zero, List.set_cons_succ])
            refine anyU_ready (rs := [15]) (by kernel_rfl) (by simp) ?_
            refine EachU.cons (o := { dst := some 32, op := Op.call { callee := Callee.value (Operand.func 13), args := #[Operand.tmp 30, Operand.tmp 31, Operand.const (Value.int IntKind.i64 0)], argTypes := #[23, 28, 3] }, type := 3, pos := "law.go:49", after := #[{ on := 13, ground := Ground.data }, { on := 14, ground := Ground.data }, { on := 12, ground := Ground.chain }], guard := none }) rfl (fun Kz hK => ?_) EachU.nil
            go_simp
            go_at_call 13
            refine (srtr_any a ⟨R, L, pR, cR, pL, cL⟩ 0 (by unfold I64; omega) (fun b => w2.heap.size ≤ b ∧ b < w3.heap.size) _ (HG.out.2.1.grown hHeld.out.1 (fun b hb e => by have := Option.some.inj e; omega)) (fun b hb => by omega) hHeld.out.2).mono ?_
            rintro e wy2 ⟨y2, hy2, rfl, hs⟩
            have Hy2 : Hid (RtP ⟨R, L, pR, cR, pL, cL⟩ 0 y2) := Lib.hid hy2
            have hs1 := hs.1
            have hs2 := hs.2
            (try ((first | have HBX2 := Lib.hid (kept_row HBX.out.1 hs1 (fun e => by have := Option.some.inj e; have := HBX.out.2; omega)) | have HBX2 := Lib.hid (kept_rowD HBX.out.1 hs1 (fun e => by have := Option.some.inj e; have := HBX.out.2; omega))); have HBX3 := Lib.hid (And.intro HBX2.out HBX.out.2); clear HBX HBX2; have HBX := HBX3; clear HBX3))
            clear hy2 hs
            refine hK.out _ _ (fun _ => Lib.hid ⟨grown_trans hHeld.out.1 hs1, hs2⟩) (fun hH2 => ?_)
            clear hK Kz hHeld
            have hHeld := hH2 rfl
            clear hH2
            (try simp only [Act.put, List.setIfInBounds_toArray, List.set_cons_zero, List.set_cons_succ])
            refine anyU_take (i := 16) (oi := { dst := some 33, op := Op.build 30 #[(0, Operand.tmp 29), (1, Operand.tmp 32)], type := 30, pos := "law.go:49", after := #[{ on := 12, ground := Ground.data }, { on := 15, ground := Ground.data }], guard := none }) (v := ?_) rfl (by kernel_rfl) (by kernel_rfl) (by kernel_rfl) (by kernel_rfl) (by kernel_rfl) (fun _ _ _ h => h) (Or.inl ⟨by rfl, ?_⟩) hHeld ?_
            rotate_left 1
            · intro u hSu
              obtain ⟨q0, q1⟩ := row_cells (kept_row HG.out.1 hSu.out.1 (fun e => by have := Option.some.inj e; omega))
              go_simp
              first | done | with_reducible rfl
            (try simp only [Act.put, List.setIfInBounds_toArray, List.set_cons_zero, List.set_cons_succ])
            refine anyU_take (i := 17) (oi := { dst := some 34, op := Op.build 32 #[(0, Operand.tmp 19), (1, Operand.tmp 26), (2, Operand.tmp 33)], type := 32, pos := "law.go:49", after := #[{ on := 2, ground := Ground.data }, { on := 9, ground := Ground.data }, { on := 16, ground := Ground.data }], guard := none }) (v := ?_) rfl (by kernel_rfl) (by kernel_rfl) (by kernel_rfl) (by kernel_rfl) (by kernel_rfl) (fun _ _ _ h => h) (Or.inl ⟨by rfl, ?_⟩) hHeld ?_
            rotate_left 1
            · intro u hSu
              obtain ⟨q0, q1⟩ := row_cells (kept_row HG.out.1 hSu.out.1 (fun e => by have := Option.some.inj e; omega))
              go_simp
              first | done | with_reducible rfl
            (try simp only [Act.put, List.setIfInBounds_toArray, List.set_cons_zero, List.set_cons_succ])
            refine anyU_ready (rs := [19]) (by kernel_rfl) (by simp) ?_
            refine EachU.cons (o := { dst := none, op := Op.store 32 (Operand.tmp 9) (Operand.tmp 34), type := 0, pos := "law.go:49", after := #[{ on := 18, ground := Ground.data }, { on := 17, ground := Ground.data }, { on := 15, ground := Ground.chain }, { on := 0, ground := Ground.phase }, { on := 1, ground := Ground.phase }, { on := 2, ground := Ground.phase }, { on := 3, ground := Ground.phase }, { on := 4, ground := Ground.phase }, { on := 5, ground := Ground.phase }, { on := 6, ground := Ground.phase }, { on := 7, ground := Ground.phase }, { on := 8, ground := Ground.phase }, { on := 9, ground := Ground.phase }, { on := 10, ground := Ground.phase }, { on := 11, ground := Ground.phase }, { on := 12, ground := Ground.phase }, { on := 13, ground := Ground.phase }, { on := 14, ground := Ground.phase }, { on := 15, ground := Ground.phase }, { on := 16, ground := Ground.phase }, { on := 17, ground := Ground.phase }, { on := 18, ground := Ground.phase }], guard := none }) rfl (fun Kz hK => ?_) EachU.nil
            have HBY := HBX.out.1
            have z0 := cell_of_row _ _ 0 _ _ _ HBY
            have z1 := cell_of_row _ _ 1 _ _ _ HBY
            have z2 := cell_of_row _ _ 2 _ _ _ HBY
            have z3 := cell_of_row _ _ 3 _ _ _ HBY
            have z4 := cell_of_row _ _ 4 _ _ _ HBY
            have z5 := cell_of_row _ _ 5 _ _ _ HBY
            have y0q := frozen_of_row _ _ 0 _ _ HBY
            have y1q := frozen_of_row _ _ 1 _ _ HBY
            have y2q := frozen_of_row _ _ 2 _ _ HBY
            have y3q := frozen_of_row _ _ 3 _ _ HBY
            have y4q := frozen_of_row _ _ 4 _ _ HBY
            have y5q := frozen_of_row _ _ 5 _ _ HBY
            have hLast := hHeld
            go_simp
            refine hK.out _ _ (fun h => by cases h) (fun _ => ?_)
            clear hK Kz
            (try simp only [Act.put, List.setIfInBounds_toArray, List.set_cons_zero, List.set_cons_succ])
            refine anyU_done (by kernel_rfl) ?_ _
            obtain ⟨s1, s2⟩ := store6 (u0 := .int .i64 xa) (u1 := .int .i64 ya) (u2 := .int .i64 x1) (u3 := .int .i64 y1) (u4 := .int .i64 x2) (u5 := .int .i64 y2) HBY
            have hlt := HBX.out.2
            have HL : Hid (LW w w3.heap.size ⟨R, L, pR, cR, pL, cL⟩ _) := Lib.hid ⟨kept_row (kept_row HG.out.1 hLast.out.1 (fun e => by have := Option.some.inj e; omega)) s2 (fun e => by have := Option.some.inj e; omega), ((HG.out.2.1.grown hLast.out.1 (fun b hb e => by have := Option.some.inj e; omega)).mono (fun b hb => hb.2)).grown s2 (fun b hb e => by have := Option.some.inj e; omega), grown_new (grown_new HW4.out hLast.out.1 (by rw [HA.out]; exact Nat.le_refl _)) s2 (by have := HW4.out.size; have := box_lt HG.out.1; have := HA.out; omega)⟩
            have HI6 := Lib.hid (And.intro (HVT.out.rt Hx1.out) (And.intro (HVT.out.rt Hy1.out) (And.intro (HVT.out.rt Hx2.out) (HVT.out.rt Hy2.out))))
            go_wp2_with fail
            go_meet
            exact ⟨_, x1, y1, x2, y2, rfl, HL, Lib.hid s1, HI6⟩
        · go_simp
          generalize hwB : World.alloc _ _ = wB
          have hb4 := hHeld.out.1.size
          have hb5 := box_lt HG.out.1
          obtain ⟨hb1, hb2, hb3⟩ := alloc_eq2 hwB (Nat.lt_of_lt_of_le hb5 hb4)
          have HBX := Lib.hid (And.intro hb1 hb3)
          clear hwB hb1 hb3 hb4 hb5
          refine hK.out _ _ (fun _ => Lib.hid (by first | exact ⟨grown_trans hHeld.out.1 (grown_none hb2 _), hHeld.out.2.keep hb2⟩ | exact ⟨grown_drew (grown_none hb2 _), (HG.out.2.2.keep hb2).drew⟩)) (fun hH2 => ?_)
          clear hK Kz hHeld
          have hHeld := hH2 rfl
          clear hH2
          (try simp only [Act.put, List.setIfInBounds_toArray, List.set_cons_zero, List.set_cons_succ])
          refine anyU_ready (rs := [12]) (by kernel_rfl) (by simp) ?_
          refine EachU.cons (o := { dst := some 29, op := Op.call { callee := Callee.value (Operand.func 13), args := #[Operand.tmp 27, Operand.tmp 28, Operand.const (Value.int IntKind.i64 0)], argTypes := #[23, 28, 3] }, type := 3, pos := "law.go:49", after := #[{ on := 10, ground := Ground.data }, { on := 11, ground := Ground.data }, { on := 8, ground := Ground.chain }], guard := none }) rfl (fun Kz hK => ?_) EachU.nil
          go_simp
          go_at_call 13
          refine (srtr_any a ⟨R, L, pR, cR, pL, cL⟩ 0 (by unfold I64; omega) (fun b => w2.heap.size ≤ b ∧ b < w3.heap.size) _ (HG.out.2.1.grown hHeld.out.1 (fun b hb e => by have := Option.some.inj e; omega)) (fun b hb => by omega) hHeld.out.2).mono ?_
          rintro e wx2 ⟨x2, hx2, rfl, hs⟩
          have Hx2 : Hid (RtP ⟨R, L, pR, cR, pL, cL⟩ 0 x2) := Lib.hid hx2
          have hs1 := hs.1
          have hs2 := hs.2
          (try ((first | have HBX2 := Lib.hid (kept_row HBX.out.1 hs1 (fun e => by have := Option.some.inj e; have := HBX.out.2; omega)) | have HBX2 := Lib.hid (kept_rowD HBX.out.1 hs1 (fun e => by have := Option.some.inj e; have := HBX.out.2; omega))); have HBX3 := Lib.hid (And.intro HBX2.out HBX.out.2); clear HBX HBX2; have HBX := HBX3; clear HBX3))
          clear hx2 hs
          refine hK.out _ _ (fun _ => Lib.hid ⟨grown_trans hHeld.out.1 hs1, hs2⟩) (fun hH2 => ?_)
          clear hK Kz hHeld
          have hHeld := hH2 rfl
          clear hH2
          (try simp only [Act.put, List.setIfInBounds_toArray, List.set_cons_zero, List.set_cons_succ])
          refine anyU_ready (rs := [15]) (by kernel_rfl) (by simp) ?_
          refine EachU.cons (o := { dst := some 32, op := Op.call { callee := Callee.value (Operand.func 13), args := #[Operand.tmp 30, Operand.tmp 31, Operand.const (Value.int IntKind.i64 0)], argTypes := #[23, 28, 3] }, type := 3, pos := "law.go:49", after := #[{ on := 13, ground := Ground.data }, { on := 14, ground := Ground.data }, { on := 12, ground := Ground.chain }], guard := none }) rfl (fun Kz hK => ?_) EachU.nil
          go_simp
          go_at_call 13
          refine (srtr_any a ⟨R, L, pR, cR, pL, cL⟩ 0 (by unfold I64; omega) (fun b => w2.heap.size ≤ b ∧ b < w3.heap.size) _ (HG.out.2.1.grown hHeld.out.1 (fun b hb e => by have := Option.some.inj e; omega)) (fun b hb => by omega) hHeld.out.2).mono ?_
          rintro e wy2 ⟨y2, hy2, rfl, hs⟩
          have Hy2 : Hid (RtP ⟨R, L, pR, cR, pL, cL⟩ 0 y2) := Lib.hid hy2
          have hs1 := hs.1
          have hs2 := hs.2
          (try ((first | have HBX2 := Lib.hid (kept_row HBX.out.1 hs1 (fun e => by have := Option.some.inj e; have := HBX.out.2; omega)) | have HBX2 := Lib.hid (kept_rowD HBX.out.1 hs1 (fun e => by have := Option.some.inj e; have := HBX.out.2; omega))); have HBX3 := Lib.hid (And.intro HBX2.out HBX.out.2); clear HBX HBX2; have HBX := HBX3; clear HBX3))
          clear hy2 hs
          refine hK.out _ _ (fun _ => Lib.hid ⟨grown_trans hHeld.out.1 hs1, hs2⟩) (fun hH2 => ?_)
          clear hK Kz hHeld
          have hHeld := hH2 rfl
          clear hH2
          (try simp only [Act.put, List.setIfInBounds_toArray, List.set_cons_zero, List.set_cons_succ])
          refine anyU_take (i := 16) (oi := { dst := some 33, op := Op.build 30 #[(0, Operand.tmp 29), (1, Operand.tmp 32)], type := 30, pos := "law.go:49", after := #[{ on := 12, ground := Ground.data }, { on := 15, ground := Ground.data }], guard := none }) (v := ?_) rfl (by kernel_rfl) (by kernel_rfl) (by kernel_rfl) (by kernel_rfl) (by kernel_rfl) (fun _ _ _ h => h) (Or.inl ⟨by rfl, ?_⟩) hHeld ?_
          rotate_left 1
          · intro u hSu
            obtain ⟨q0, q1⟩ := row_cells (kept_row HG.out.1 hSu.out.1 (fun e => by have := Option.some.inj e; omega))
            go_simp
            first | done | with_reducible rfl
          (try simp only [Act.put, List.setIfInBounds_toArray, List.set_cons_zero, List.set_cons_succ])
          refine anyU_take (i := 17) (oi := { dst := some 34, op := Op.build 32 #[(0, Operand.tmp 19), (1, Operand.tmp 26), (2, Operand.tmp 33)], type := 32, pos := "law.go:49", after := #[{ on := 2, ground := Ground.data }, { on := 9, ground := Ground.data }, { on := 16, ground := Ground.data }], guard := none }) (v := ?_) rfl (by kernel_rfl) (by kernel_rfl) (by kernel_rfl) (by kernel_rfl) (by kernel_rfl) (fun _ _ _ h => h) (Or.inl ⟨by rfl, ?_⟩) hHeld ?_
          rotate_left 1
          · intro u hSu
            obtain ⟨q0, q1⟩ := row_cells (kept_row HG.out.1 hSu.out.1 (fun e => by have := Option.some.inj e; omega))
            go_simp
            first | done | with_reducible rfl
          (try simp only [Act.put, List.setIfInBounds_toArray, List.set_cons_zero, List.set_cons_succ])
          refine anyU_ready (rs := [19]) (by kernel_rfl) (by simp) ?_
          refine EachU.cons (o := { dst := none, op := Op.store 32 (Operand.tmp 9) (Operand.tmp 34), type := 0, pos := "law.go:49", after := #[{ on := 18, ground := Ground.data }, { on := 17, ground := Ground.data }, { on := 15, ground := Ground.chain }, { on := 0, ground := Ground.phase }, { on := 1, ground := Ground.phase }, { on := 2, ground := Ground.phase }, { on := 3, ground := Ground.phase }, { on := 4, ground := Ground.phase }, { on := 5, ground := Ground.phase }, { on := 6, ground := Ground.phase }, { on := 7, ground := Ground.phase }, { on := 8, ground := Ground.phase }, { on := 9, ground := Ground.phase }, { on := 10, ground := Ground.phase }, { on := 11, ground := Ground.phase }, { on := 12, ground := Ground.phase }, { on := 13, ground := Ground.phase }, { on := 14, ground := Ground.phase }, { on := 15, ground := Ground.phase }, { on := 16, ground := Ground.phase }, { on := 17, ground := Ground.phase }, { on := 18, ground := Ground.phase }], guard := none }) rfl (fun Kz hK => ?_) EachU.nil
          have HBY := HBX.out.1
          have z0 := cell_of_row _ _ 0 _ _ _ HBY
          have z1 := cell_of_row _ _ 1 _ _ _ HBY
          have z2 := cell_of_row _ _ 2 _ _ _ HBY
          have z3 := cell_of_row _ _ 3 _ _ _ HBY
          have z4 := cell_of_row _ _ 4 _ _ _ HBY
          have z5 := cell_of_row _ _ 5 _ _ _ HBY
          have y0q := frozen_of_row _ _ 0 _ _ HBY
          have y1q := frozen_of_row _ _ 1 _ _ HBY
          have y2q := frozen_of_row _ _ 2 _ _ HBY
          have y3q := frozen_of_row _ _ 3 _ _ HBY
          have y4q := frozen_of_row _ _ 4 _ _ HBY
          have y5q := frozen_of_row _ _ 5 _ _ HBY
          have hLast := hHeld
          go_simp
          refine hK.out _ _ (fun h => by cases h) (fun _ => ?_)
          clear hK Kz
          (try simp only [Act.put, List.setIfInBounds_toArray, List.set_cons_zero, List.set_cons_succ])
          refine anyU_done (by kernel_rfl) ?_ _
          obtain ⟨s1, s2⟩ := store6 (u0 := .int .i64 xa) (u1 := .int .i64 ya) (u2 := .int .i64 x1) (u3 := .int .i64 y1) (u4 := .int .i64 x2) (u5 := .int .i64 y2) HBY
          have hlt := HBX.out.2
          have HL : Hid (LW w w3.heap.size ⟨R, L, pR, cR, pL, cL⟩ _) := Lib.hid ⟨kept_row (kept_row HG.out.1 hLast.out.1 (fun e => by have := Option.some.inj e; omega)) s2 (fun e => by have := Option.some.inj e; omega), ((HG.out.2.1.grown hLast.out.1 (fun b hb e => by have := Option.some.inj e; omega)).mono (fun b hb => hb.2)).grown s2 (fun b hb e => by have := Option.some.inj e; omega), grown_new (grown_new HW4.out hLast.out.1 (by rw [HA.out]; exact Nat.le_refl _)) s2 (by have := HW4.out.size; have := box_lt HG.out.1; have := HA.out; omega)⟩
          have HI6 := Lib.hid (And.intro (HVT.out.rt Hx1.out) (And.intro (HVT.out.rt Hy1.out) (And.intro (HVT.out.rt Hx2.out) (HVT.out.rt Hy2.out))))
          go_wp2_with fail
          go_meet
          exact ⟨_, x1, y1, x2, y2, rfl, HL, Lib.hid s1, HI6⟩
      · go_simp
        generalize hwB : World.alloc _ _ = wB
        have hb4 := hHeld.out.1.size
        have hb5 := box_lt HG.out.1
        obtain ⟨hb1, hb2, hb3⟩ := alloc_eq2 hwB (Nat.lt_of_lt_of_le hb5 hb4)
        have HBX := Lib.hid (And.intro hb1 hb3)
        clear hwB hb1 hb3 hb4 hb5
        refine hK.out _ _ (fun _ => Lib.hid (by first | exact ⟨grown_trans hHeld.out.1 (grown_none hb2 _), hHeld.out.2.keep hb2⟩ | exact ⟨grown_drew (grown_none hb2 _), (HG.out.2.2.keep hb2).drew⟩)) (fun hH2 => ?_)
        clear hK Kz hHeld
        have hHeld := hH2 rfl
        clear hH2
        (try simp only [Act.put, List.setIfInBounds_toArray, List.set_cons_zero, List.set_cons_succ])
        refine anyU_ready (rs := [8]) (by kernel_rfl) (by simp) ?_
        refine EachU.cons (o := { dst := some 25, op := Op.call { callee := Callee.value (Operand.func 13), args := #[Operand.tmp 23, Operand.tmp 24, Operand.const (Value.int IntKind.i64 5)], argTypes := #[23, 28, 3] }, type := 3, pos := "law.go:49", after := #[{ on := 6, ground := Ground.data }, { on := 7, ground := Ground.data }, { on := 5, ground := Ground.chain }], guard := none }) rfl (fun Kz hK => ?_) EachU.nil
        go_simp
        go_at_call 13
        refine (srtr_any a ⟨R, L, pR, cR, pL, cL⟩ 5 (by unfold I64; omega) (fun b => w2.heap.size ≤ b ∧ b < w3.heap.size) _ (HG.out.2.1.grown hHeld.out.1 (fun b hb e => by have := Option.some.inj e; omega)) (fun b hb => by omega) hHeld.out.2).mono ?_
        rintro e wy1 ⟨y1, hy1, rfl, hs⟩
        have Hy1 : Hid (RtP ⟨R, L, pR, cR, pL, cL⟩ 5 y1) := Lib.hid hy1
        have hs1 := hs.1
        have hs2 := hs.2
        (try ((first | have HBX2 := Lib.hid (kept_row HBX.out.1 hs1 (fun e => by have := Option.some.inj e; have := HBX.out.2; omega)) | have HBX2 := Lib.hid (kept_rowD HBX.out.1 hs1 (fun e => by have := Option.some.inj e; have := HBX.out.2; omega))); have HBX3 := Lib.hid (And.intro HBX2.out HBX.out.2); clear HBX HBX2; have HBX := HBX3; clear HBX3))
        clear hy1 hs
        refine hK.out _ _ (fun _ => Lib.hid ⟨grown_trans hHeld.out.1 hs1, hs2⟩) (fun hH2 => ?_)
        clear hK Kz hHeld
        have hHeld := hH2 rfl
        clear hH2
        (try simp only [Act.put, List.setIfInBounds_toArray, List.set_cons_zero, List.set_cons_succ])
        refine anyU_take (i := 9) (oi := { dst := some 26, op := Op.build 30 #[(0, Operand.tmp 22), (1, Operand.tmp 25)], type := 30, pos := "law.go:49", after := #[{ on := 5, ground := Ground.data }, { on := 8, ground := Ground.data }], guard := none }) (v := ?_) rfl (by kernel_rfl) (by kernel_rfl) (by kernel_rfl) (by kernel_rfl) (by kernel_rfl) (fun _ _ _ h => h) (Or.inl ⟨by rfl, ?_⟩) hHeld ?_
        rotate_left 1
        · intro u hSu
          obtain ⟨q0, q1⟩ := row_cells (kept_row HG.out.1 hSu.out.1 (fun e => by have := Option.some.inj e; omega))
          go_simp
          first | done | with_reducible rfl
        (try simp only [Act.put, List.setIfInBounds_toArray, List.set_cons_zero, List.set_cons_succ])
        refine anyU_ready (rs := [12]) (by kernel_rfl) (by simp) ?_
        refine EachU.cons (o := { dst := some 29, op := Op.call { callee := Callee.value (Operand.func 13), args := #[Operand.tmp 27, Operand.tmp 28, Operand.const (Value.int IntKind.i64 0)], argTypes := #[23, 28, 3] }, type := 3, pos := "law.go:49", after := #[{ on := 10, ground := Ground.data }, { on := 11, ground := Ground.data }, { on := 8, ground := Ground.chain }], guard := none }) rfl (fun Kz hK => ?_) EachU.nil
        go_simp
        go_at_call 13
        refine (srtr_any a ⟨R, L, pR, cR, pL, cL⟩ 0 (by unfold I64; omega) (fun b => w2.heap.size ≤ b ∧ b < w3.heap.size) _ (HG.out.2.1.grown hHeld.out.1 (fun b hb e => by have := Option.some.inj e; omega)) (fun b hb => by omega) hHeld.out.2).mono ?_
        rintro e wx2 ⟨x2, hx2, rfl, hs⟩
        have Hx2 : Hid (RtP ⟨R, L, pR, cR, pL, cL⟩ 0 x2) := Lib.hid hx2
        have hs1 := hs.1
        have hs2 := hs.2
        (try ((first | have HBX2 := Lib.hid (kept_row HBX.out.1 hs1 (fun e => by have := Option.some.inj e; have := HBX.out.2; omega)) | have HBX2 := Lib.hid (kept_rowD HBX.out.1 hs1 (fun e => by have := Option.some.inj e; have := HBX.out.2; omega))); have HBX3 := Lib.hid (And.intro HBX2.out HBX.out.2); clear HBX HBX2; have HBX := HBX3; clear HBX3))
        clear hx2 hs
        refine hK.out _ _ (fun _ => Lib.hid ⟨grown_trans hHeld.out.1 hs1, hs2⟩) (fun hH2 => ?_)
        clear hK Kz hHeld
        have hHeld := hH2 rfl
        clear hH2
        (try simp only [Act.put, List.setIfInBounds_toArray, List.set_cons_zero, List.set_cons_succ])
        refine anyU_ready (rs := [15]) (by kernel_rfl) (by simp) ?_
        refine EachU.cons (o := { dst := some 32, op := Op.call { callee := Callee.value (Operand.func 13), args := #[Operand.tmp 30, Operand.tmp 31, Operand.const (Value.int IntKind.i64 0)], argTypes := #[23, 28, 3] }, type := 3, pos := "law.go:49", after := #[{ on := 13, ground := Ground.data }, { on := 14, ground := Ground.data }, { on := 12, ground := Ground.chain }], guard := none }) rfl (fun Kz hK => ?_) EachU.nil
        go_simp
        go_at_call 13
        refine (srtr_any a ⟨R, L, pR, cR, pL, cL⟩ 0 (by unfold I64; omega) (fun b => w2.heap.size ≤ b ∧ b < w3.heap.size) _ (HG.out.2.1.grown hHeld.out.1 (fun b hb e => by have := Option.some.inj e; omega)) (fun b hb => by omega) hHeld.out.2).mono ?_
        rintro e wy2 ⟨y2, hy2, rfl, hs⟩
        have Hy2 : Hid (RtP ⟨R, L, pR, cR, pL, cL⟩ 0 y2) := Lib.hid hy2
        have hs1 := hs.1
        have hs2 := hs.2
        (try ((first | have HBX2 := Lib.hid (kept_row HBX.out.1 hs1 (fun e => by have := Option.some.inj e; have := HBX.out.2; omega)) | have HBX2 := Lib.hid (kept_rowD HBX.out.1 hs1 (fun e => by have := Option.some.inj e; have := HBX.out.2; omega))); have HBX3 := Lib.hid (And.intro HBX2.out HBX.out.2); clear HBX HBX2; have HBX := HBX3; clear HBX3))
        clear hy2 hs
        refine hK.out _ _ (fun _ => Lib.hid ⟨grown_trans hHeld.out.1 hs1, hs2⟩) (fun hH2 => ?_)
        clear hK Kz hHeld
        have hHeld := hH2 rfl
        clear hH2
        (try simp only [Act.put, List.setIfInBounds_toArray, List.set_cons_zero, List.set_cons_succ])
        refine anyU_take (i := 16) (oi := { dst := some 33, op := Op.build 30 #[(0, Operand.tmp 29), (1, Operand.tmp 32)], type := 30, pos := "law.go:49", after := #[{ on := 12, ground := Ground.data }, { on := 15, ground := Ground.data }], guard := none }) (v := ?_) rfl (by kernel_rfl) (by kernel_rfl) (by kernel_rfl) (by kernel_rfl) (by kernel_rfl) (fun _ _ _ h => h) (Or.inl ⟨by rfl, ?_⟩) hHeld ?_
        rotate_left 1
        · intro u hSu
          obtain ⟨q0, q1⟩ := row_cells (kept_row HG.out.1 hSu.out.1 (fun e => by have := Option.some.inj e; omega))
          go_simp
          first | done | with_reducible rfl
        (try simp only [Act.put, List.setIfInBounds_toArray, List.set_cons_zero, List.set_cons_succ])
        refine anyU_take (i := 17) (oi := { dst := some 34, op := Op.build 32 #[(0, Operand.tmp 19), (1, Operand.tmp 26), (2, Operand.tmp 33)], type := 32, pos := "law.go:49", after := #[{ on := 2, ground := Ground.data }, { on := 9, ground := Ground.data }, { on := 16, ground := Ground.data }], guard := none }) (v := ?_) rfl (by kernel_rfl) (by kernel_rfl) (by kernel_rfl) (by kernel_rfl) (by kernel_rfl) (fun _ _ _ h => h) (Or.inl ⟨by rfl, ?_⟩) hHeld ?_
        rotate_left 1
        · intro u hSu
          obtain ⟨q0, q1⟩ := row_cells (kept_row HG.out.1 hSu.out.1 (fun e => by have := Option.some.inj e; omega))
          go_simp
          first | done | with_reducible rfl
        (try simp only [Act.put, List.setIfInBounds_toArray, List.set_cons_zero, List.set_cons_succ])
        refine anyU_ready (rs := [19]) (by kernel_rfl) (by simp) ?_
        refine EachU.cons (o := { dst := none, op := Op.store 32 (Operand.tmp 9) (Operand.tmp 34), type := 0, pos := "law.go:49", after := #[{ on := 18, ground := Ground.data }, { on := 17, ground := Ground.data }, { on := 15, ground := Ground.chain }, { on := 0, ground := Ground.phase }, { on := 1, ground := Ground.phase }, { on := 2, ground := Ground.phase }, { on := 3, ground := Ground.phase }, { on := 4, ground := Ground.phase }, { on := 5, ground := Ground.phase }, { on := 6, ground := Ground.phase }, { on := 7, ground := Ground.phase }, { on := 8, ground := Ground.phase }, { on := 9, ground := Ground.phase }, { on := 10, ground := Ground.phase }, { on := 11, ground := Ground.phase }, { on := 12, ground := Ground.phase }, { on := 13, ground := Ground.phase }, { on := 14, ground := Ground.phase }, { on := 15, ground := Ground.phase }, { on := 16, ground := Ground.phase }, { on := 17, ground := Ground.phase }, { on := 18, ground := Ground.phase }], guard := none }) rfl (fun Kz hK => ?_) EachU.nil
        have HBY := HBX.out.1
        have z0 := cell_of_row _ _ 0 _ _ _ HBY
        have z1 := cell_of_row _ _ 1 _ _ _ HBY
        have z2 := cell_of_row _ _ 2 _ _ _ HBY
        have z3 := cell_of_row _ _ 3 _ _ _ HBY
        have z4 := cell_of_row _ _ 4 _ _ _ HBY
        have z5 := cell_of_row _ _ 5 _ _ _ HBY
        have y0q := frozen_of_row _ _ 0 _ _ HBY
        have y1q := frozen_of_row _ _ 1 _ _ HBY
        have y2q := frozen_of_row _ _ 2 _ _ HBY
        have y3q := frozen_of_row _ _ 3 _ _ HBY
        have y4q := frozen_of_row _ _ 4 _ _ HBY
        have y5q := frozen_of_row _ _ 5 _ _ HBY
        have hLast := hHeld
        go_simp
        refine hK.out _ _ (fun h => by cases h) (fun _ => ?_)
        clear hK Kz
        (try simp only [Act.put, List.setIfInBounds_toArray, List.set_cons_zero, List.set_cons_succ])
        refine anyU_done (by kernel_rfl) ?_ _
        obtain ⟨s1, s2⟩ := store6 (u0 := .int .i64 xa) (u1 := .int .i64 ya) (u2 := .int .i64 x1) (u3 := .int .i64 y1) (u4 := .int .i64 x2) (u5 := .int .i64 y2) HBY
        have hlt := HBX.out.2
        have HL : Hid (LW w w3.heap.size ⟨R, L, pR, cR, pL, cL⟩ _) := Lib.hid ⟨kept_row (kept_row HG.out.1 hLast.out.1 (fun e => by have := Option.some.inj e; omega)) s2 (fun e => by have := Option.some.inj e; omega), ((HG.out.2.1.grown hLast.out.1 (fun b hb e => by have := Option.some.inj e; omega)).mono (fun b hb => hb.2)).grown s2 (fun b hb e => by have := Option.some.inj e; omega), grown_new (grown_new HW4.out hLast.out.1 (by rw [HA.out]; exact Nat.le_refl _)) s2 (by have := HW4.out.size; have := box_lt HG.out.1; have := HA.out; omega)⟩
        have HI6 := Lib.hid (And.intro (HVT.out.rt Hx1.out) (And.intro (HVT.out.rt Hy1.out) (And.intro (HVT.out.rt Hx2.out) (HVT.out.rt Hy2.out))))
        go_wp2_with fail
        go_meet
        exact ⟨_, x1, y1, x2, y2, rfl, HL, Lib.hid s1, HI6⟩
    · go_simp
      generalize hwB : World.alloc _ _ = wB
      have hb4 := hHeld.out.1.size
      have hb5 := box_lt HG.out.1
      obtain ⟨hb1, hb2, hb3⟩ := alloc_eq2 hwB (Nat.lt_of_lt_of_le hb5 hb4)
      have HBX := Lib.hid (And.intro hb1 hb3)
      clear hwB hb1 hb3 hb4 hb5
      refine hK.out _ _ (fun _ => Lib.hid (by first | exact ⟨grown_trans hHeld.out.1 (grown_none hb2 _), hHeld.out.2.keep hb2⟩ | exact ⟨grown_drew (grown_none hb2 _), (HG.out.2.2.keep hb2).drew⟩)) (fun hH2 => ?_)
      clear hK Kz hHeld
      have hHeld := hH2 rfl
      clear hH2
      (try simp only [Act.put, List.setIfInBounds_toArray, List.set_cons_zero, List.set_cons_succ])
      refine anyU_ready (rs := [5]) (by kernel_rfl) (by simp) ?_
      refine EachU.cons (o := { dst := some 22, op := Op.call { callee := Callee.value (Operand.func 13), args := #[Operand.tmp 20, Operand.tmp 21, Operand.const (Value.int IntKind.i64 5)], argTypes := #[23, 28, 3] }, type := 3, pos := "law.go:49", after := #[{ on := 3, ground := Ground.data }, { on := 4, ground := Ground.data }], guard := none }) rfl (fun Kz hK => ?_) EachU.nil
      go_simp
      go_at_call 13
      refine (srtr_any a ⟨R, L, pR, cR, pL, cL⟩ 5 (by unfold I64; omega) (fun b => w2.heap.size ≤ b ∧ b < w3.heap.size) _ (HG.out.2.1.grown hHeld.out.1 (fun b hb e => by have := Option.some.inj e; omega)) (fun b hb => by omega) hHeld.out.2).mono ?_
      rintro e wx1 ⟨x1, hx1, rfl, hs⟩
      have Hx1 : Hid (RtP ⟨R, L, pR, cR, pL, cL⟩ 5 x1) := Lib.hid hx1
      have hs1 := hs.1
      have hs2 := hs.2
      (try ((first | have HBX2 := Lib.hid (kept_row HBX.out.1 hs1 (fun e => by have := Option.some.inj e; have := HBX.out.2; omega)) | have HBX2 := Lib.hid (kept_rowD HBX.out.1 hs1 (fun e => by have := Option.some.inj e; have := HBX.out.2; omega))); have HBX3 := Lib.hid (And.intro HBX2.out HBX.out.2); clear HBX HBX2; have HBX := HBX3; clear HBX3))
      clear hx1 hs
      refine hK.out _ _ (fun _ => Lib.hid ⟨grown_trans hHeld.out.1 hs1, hs2⟩) (fun hH2 => ?_)
      clear hK Kz hHeld
      have hHeld := hH2 rfl
      clear hH2
      (try simp only [Act.put, List.setIfInBounds_toArray, List.set_cons_zero, List.set_cons_succ])
      refine anyU_ready (rs := [8]) (by kernel_rfl) (by simp) ?_
      refine EachU.cons (o := { dst := some 25, op := Op.call { callee := Callee.value (Operand.func 13), args := #[Operand.tmp 23, Operand.tmp 24, Operand.const (Value.int IntKind.i64 5)], argTypes := #[23, 28, 3] }, type := 3, pos := "law.go:49", after := #[{ on := 6, ground := Ground.data }, { on := 7, ground := Ground.data }, { on := 5, ground := Ground.chain }], guard := none }) rfl (fun Kz hK => ?_) EachU.nil
      go_simp
      go_at_call 13
      refine (srtr_any a ⟨R, L, pR, cR, pL, cL⟩ 5 (by unfold I64; omega) (fun b => w2.heap.size ≤ b ∧ b < w3.heap.size) _ (HG.out.2.1.grown hHeld.out.1 (fun b hb e => by have := Option.some.inj e; omega)) (fun b hb => by omega) hHeld.out.2).mono ?_
      rintro e wy1 ⟨y1, hy1, rfl, hs⟩
      have Hy1 : Hid (RtP ⟨R, L, pR, cR, pL, cL⟩ 5 y1) := Lib.hid hy1
      have hs1 := hs.1
      have hs2 := hs.2
      (try ((first | have HBX2 := Lib.hid (kept_row HBX.out.1 hs1 (fun e => by have := Option.some.inj e; have := HBX.out.2; omega)) | have HBX2 := Lib.hid (kept_rowD HBX.out.1 hs1 (fun e => by have := Option.some.inj e; have := HBX.out.2; omega))); have HBX3 := Lib.hid (And.intro HBX2.out HBX.out.2); clear HBX HBX2; have HBX := HBX3; clear HBX3))
      clear hy1 hs
      refine hK.out _ _ (fun _ => Lib.hid ⟨grown_trans hHeld.out.1 hs1, hs2⟩) (fun hH2 => ?_)
      clear hK Kz hHeld
      have hHeld := hH2 rfl
      clear hH2
      (try simp only [Act.put, List.setIfInBounds_toArray, List.set_cons_zero, List.set_cons_succ])
      refine anyU_take (i := 9) (oi := { dst := some 26, op := Op.build 30 #[(0, Operand.tmp 22), (1, Operand.tmp 25)], type := 30, pos := "law.go:49", after := #[{ on := 5, ground := Ground.data }, { on := 8, ground := Ground.data }], guard := none }) (v := ?_) rfl (by kernel_rfl) (by kernel_rfl) (by kernel_rfl) (by kernel_rfl) (by kernel_rfl) (fun _ _ _ h => h) (Or.inl ⟨by rfl, ?_⟩) hHeld ?_
      rotate_left 1
      · intro u hSu
        obtain ⟨q0, q1⟩ := row_cells (kept_row HG.out.1 hSu.out.1 (fun e => by have := Option.some.inj e; omega))
        go_simp
        first | done | with_reducible rfl
      (try simp only [Act.put, List.setIfInBounds_toArray, List.set_cons_zero, List.set_cons_succ])
      refine anyU_ready (rs := [12]) (by kernel_rfl) (by simp) ?_
      refine EachU.cons (o := { dst := some 29, op := Op.call { callee := Callee.value (Operand.func 13), args := #[Operand.tmp 27, Operand.tmp 28, Operand.const (Value.int IntKind.i64 0)], argTypes := #[23, 28, 3] }, type := 3, pos := "law.go:49", after := #[{ on := 10, ground := Ground.data }, { on := 11, ground := Ground.data }, { on := 8, ground := Ground.chain }], guard := none }) rfl (fun Kz hK => ?_) EachU.nil
      go_simp
      go_at_call 13
      refine (srtr_any a ⟨R, L, pR, cR, pL, cL⟩ 0 (by unfold I64; omega) (fun b => w2.heap.size ≤ b ∧ b < w3.heap.size) _ (HG.out.2.1.grown hHeld.out.1 (fun b hb e => by have := Option.some.inj e; omega)) (fun b hb => by omega) hHeld.out.2).mono ?_
      rintro e wx2 ⟨x2, hx2, rfl, hs⟩
      have Hx2 : Hid (RtP ⟨R, L, pR, cR, pL, cL⟩ 0 x2) := Lib.hid hx2
      have hs1 := hs.1
      have hs2 := hs.2
      (try ((first | have HBX2 := Lib.hid (kept_row HBX.out.1 hs1 (fun e => by have := Option.some.inj e; have := HBX.out.2; omega)) | have HBX2 := Lib.hid (kept_rowD HBX.out.1 hs1 (fun e => by have := Option.some.inj e; have := HBX.out.2; omega))); have HBX3 := Lib.hid (And.intro HBX2.out HBX.out.2); clear HBX HBX2; have HBX := HBX3; clear HBX3))
      clear hx2 hs
      refine hK.out _ _ (fun _ => Lib.hid ⟨grown_trans hHeld.out.1 hs1, hs2⟩) (fun hH2 => ?_)
      clear hK Kz hHeld
      have hHeld := hH2 rfl
      clear hH2
      (try simp only [Act.put, List.setIfInBounds_toArray, List.set_cons_zero, List.set_cons_succ])
      refine anyU_ready (rs := [15]) (by kernel_rfl) (by simp) ?_
      refine EachU.cons (o := { dst := some 32, op := Op.call { callee := Callee.value (Operand.func 13), args := #[Operand.tmp 30, Operand.tmp 31, Operand.const (Value.int IntKind.i64 0)], argTypes := #[23, 28, 3] }, type := 3, pos := "law.go:49", after := #[{ on := 13, ground := Ground.data }, { on := 14, ground := Ground.data }, { on := 12, ground := Ground.chain }], guard := none }) rfl (fun Kz hK => ?_) EachU.nil
      go_simp
      go_at_call 13
      refine (srtr_any a ⟨R, L, pR, cR, pL, cL⟩ 0 (by unfold I64; omega) (fun b => w2.heap.size ≤ b ∧ b < w3.heap.size) _ (HG.out.2.1.grown hHeld.out.1 (fun b hb e => by have := Option.some.inj e; omega)) (fun b hb => by omega) hHeld.out.2).mono ?_
      rintro e wy2 ⟨y2, hy2, rfl, hs⟩
      have Hy2 : Hid (RtP ⟨R, L, pR, cR, pL, cL⟩ 0 y2) := Lib.hid hy2
      have hs1 := hs.1
      have hs2 := hs.2
      (try ((first | have HBX2 := Lib.hid (kept_row HBX.out.1 hs1 (fun e => by have := Option.some.inj e; have := HBX.out.2; omega)) | have HBX2 := Lib.hid (kept_rowD HBX.out.1 hs1 (fun e => by have := Option.some.inj e; have := HBX.out.2; omega))); have HBX3 := Lib.hid (And.intro HBX2.out HBX.out.2); clear HBX HBX2; have HBX := HBX3; clear HBX3))
      clear hy2 hs
      refine hK.out _ _ (fun _ => Lib.hid ⟨grown_trans hHeld.out.1 hs1, hs2⟩) (fun hH2 => ?_)
      clear hK Kz hHeld
      have hHeld := hH2 rfl
      clear hH2
      (try simp only [Act.put, List.setIfInBounds_toArray, List.set_cons_zero, List.set_cons_succ])
      refine anyU_take (i := 16) (oi := { dst := some 33, op := Op.build 30 #[(0, Operand.tmp 29), (1, Operand.tmp 32)], type := 30, pos := "law.go:49", after := #[{ on := 12, ground := Ground.data }, { on := 15, ground := Ground.data }], guard := none }) (v := ?_) rfl (by kernel_rfl) (by kernel_rfl) (by kernel_rfl) (by kernel_rfl) (by kernel_rfl) (fun _ _ _ h => h) (Or.inl ⟨by rfl, ?_⟩) hHeld ?_
      rotate_left 1
      · intro u hSu
        obtain ⟨q0, q1⟩ := row_cells (kept_row HG.out.1 hSu.out.1 (fun e => by have := Option.some.inj e; omega))
        go_simp
        first | done | with_reducible rfl
      (try simp only [Act.put, List.setIfInBounds_toArray, List.set_cons_zero, List.set_cons_succ])
      refine anyU_take (i := 17) (oi := { dst := some 34, op := Op.build 32 #[(0, Operand.tmp 19), (1, Operand.tmp 26), (2, Operand.tmp 33)], type := 32, pos := "law.go:49", after := #[{ on := 2, ground := Ground.data }, { on := 9, ground := Ground.data }, { on := 16, ground := Ground.data }], guard := none }) (v := ?_) rfl (by kernel_rfl) (by kernel_rfl) (by kernel_rfl) (by kernel_rfl) (by kernel_rfl) (fun _ _ _ h => h) (Or.inl ⟨by rfl, ?_⟩) hHeld ?_
      rotate_left 1
      · intro u hSu
        obtain ⟨q0, q1⟩ := row_cells (kept_row HG.out.1 hSu.out.1 (fun e => by have := Option.some.inj e; omega))
        go_simp
        first | done | with_reducible rfl
      (try simp only [Act.put, List.setIfInBounds_toArray, List.set_cons_zero, List.set_cons_succ])
      refine anyU_ready (rs := [19]) (by kernel_rfl) (by simp) ?_
      refine EachU.cons (o := { dst := none, op := Op.store 32 (Operand.tmp 9) (Operand.tmp 34), type := 0, pos := "law.go:49", after := #[{ on := 18, ground := Ground.data }, { on := 17, ground := Ground.data }, { on := 15, ground := Ground.chain }, { on := 0, ground := Ground.phase }, { on := 1, ground := Ground.phase }, { on := 2, ground := Ground.phase }, { on := 3, ground := Ground.phase }, { on := 4, ground := Ground.phase }, { on := 5, ground := Ground.phase }, { on := 6, ground := Ground.phase }, { on := 7, ground := Ground.phase }, { on := 8, ground := Ground.phase }, { on := 9, ground := Ground.phase }, { on := 10, ground := Ground.phase }, { on := 11, ground := Ground.phase }, { on := 12, ground := Ground.phase }, { on := 13, ground := Ground.phase }, { on := 14, ground := Ground.phase }, { on := 15, ground := Ground.phase }, { on := 16, ground := Ground.phase }, { on := 17, ground := Ground.phase }, { on := 18, ground := Ground.phase }], guard := none }) rfl (fun Kz hK => ?_) EachU.nil
      have HBY := HBX.out.1
      have z0 := cell_of_row _ _ 0 _ _ _ HBY
      have z1 := cell_of_row _ _ 1 _ _ _ HBY
      have z2 := cell_of_row _ _ 2 _ _ _ HBY
      have z3 := cell_of_row _ _ 3 _ _ _ HBY
      have z4 := cell_of_row _ _ 4 _ _ _ HBY
      have z5 := cell_of_row _ _ 5 _ _ _ HBY
      have y0q := frozen_of_row _ _ 0 _ _ HBY
      have y1q := frozen_of_row _ _ 1 _ _ HBY
      have y2q := frozen_of_row _ _ 2 _ _ HBY
      have y3q := frozen_of_row _ _ 3 _ _ HBY
      have y4q := frozen_of_row _ _ 4 _ _ HBY
      have y5q := frozen_of_row _ _ 5 _ _ HBY
      have hLast := hHeld
      go_simp
      refine hK.out _ _ (fun h => by cases h) (fun _ => ?_)
      clear hK Kz
      (try simp only [Act.put, List.setIfInBounds_toArray, List.set_cons_zero, List.set_cons_succ])
      refine anyU_done (by kernel_rfl) ?_ _
      obtain ⟨s1, s2⟩ := store6 (u0 := .int .i64 xa) (u1 := .int .i64 ya) (u2 := .int .i64 x1) (u3 := .int .i64 y1) (u4 := .int .i64 x2) (u5 := .int .i64 y2) HBY
      have hlt := HBX.out.2
      have HL : Hid (LW w w3.heap.size ⟨R, L, pR, cR, pL, cL⟩ _) := Lib.hid ⟨kept_row (kept_row HG.out.1 hLast.out.1 (fun e => by have := Option.some.inj e; omega)) s2 (fun e => by have := Option.some.inj e; omega), ((HG.out.2.1.grown hLast.out.1 (fun b hb e => by have := Option.some.inj e; omega)).mono (fun b hb => hb.2)).grown s2 (fun b hb e => by have := Option.some.inj e; omega), grown_new (grown_new HW4.out hLast.out.1 (by rw [HA.out]; exact Nat.le_refl _)) s2 (by have := HW4.out.size; have := box_lt HG.out.1; have := HA.out; omega)⟩
      have HI6 := Lib.hid (And.intro (HVT.out.rt Hx1.out) (And.intro (HVT.out.rt Hy1.out) (And.intro (HVT.out.rt Hx2.out) (HVT.out.rt Hy2.out))))
      go_wp2_with fail
      go_meet
      exact ⟨_, x1, y1, x2, y2, rfl, HL, Lib.hid s1, HI6⟩
  case rest =>
  obtain ⟨gA, x1, y1, x2, y2, rfl, HL, HX, HI⟩ := hcut
  clear HG HW4 H2
  obtain ⟨G, hG⟩ : ∃ G, G = w3.heap.size := ⟨_, rfl⟩
  rw [← hG] at HL ⊢
  obtain ⟨w6, rfl⟩ : ∃ w6, w6 = wc := ⟨_, rfl⟩
  clear hG ha2 ha3 HA
  have hR := HVT.out.len
  have hL := HVT.out.l60
  simp only at hR hL
  have HP : Hid (∀ k : Nat, k < 3 → ∃ p q : Int, I64 p ∧ I64 q ∧ ∀ u : World, u.heap[gA]? = some (.cells #[.int .i64 xa, .int .i64 ya, .int .i64 x1, .int .i64 y1, .int .i64 x2, .int .i64 y2] 32 (0, 0)) → u.cell? ⟨gA, k * 2, none⟩ = some (.int .i64 p) ∧ u.cell? ⟨gA, k * 2 + 1, none⟩ = some (.int .i64 q)) := Lib.hid (fun k hk => by
    rcases (show k = 0 ∨ k = 1 ∨ k = 2 by omega) with rfl | rfl | rfl
    · exact ⟨xa, ya, HXY.out.1, HXY.out.2, fun u h => ⟨by rw [cell_of_row _ _ _ _ _ _ h]; rfl, by rw [cell_of_row _ _ _ _ _ _ h]; rfl⟩⟩
    · exact ⟨x1, y1, HI.out.1, HI.out.2.1, fun u h => ⟨by rw [cell_of_row _ _ _ _ _ _ h]; rfl, by rw [cell_of_row _ _ _ _ _ _ h]; rfl⟩⟩
    · exact ⟨x2, y2, HI.out.2.2.1, HI.out.2.2.2, fun u h => ⟨by rw [cell_of_row _ _ _ _ _ _ h]; rfl, by rw [cell_of_row _ _ _ _ _ _ h]; rfl⟩⟩)
  clear HI HXY
  go_wp2_with fail
  go_loopw [10] (fun i wr => ∃ k : Nat, k ≤ 3 ∧ i = .int .i64 (k : Int) ∧ Hid (LW w G ⟨R, L, pR, cR, pL, cL⟩ wr) ∧ Hid (w6.grownBy wr none)) (fun i _ => 3 - (RowKit.intOf i).toNat)
  case atStart => exact ⟨0, by omega, rfl, HL, Lib.hid (grown_refl _ _)⟩
  case round =>
  obtain ⟨w7, rfl⟩ : ∃ w7, w7 = wr := ⟨_, rfl⟩
  obtain ⟨k, hk, rfl, HLk, HGk⟩ := hrel
  clear HL
  by_cases hlt : k < 3
  · obtain ⟨p, q, hp, hq, hc⟩ := HP.out k hlt
    have HPQ := Lib.hid (And.intro hp (And.intro hq hc))
    have hlt2 : (k : Int) < 3 := by omega
    clear hp hq hc
    go_upto_region 7 with fail
    refine wp_region_held_drew (S := fun w' => Hid (w7.grownBy w' none)) (by kernel_rfl) (Lib.hid (grown_drew (grown_refl _ _))) (fun hHeld => ?_)
    refine wpAnyH_take (i := 0) (oi := { dst := some 39, op := Op.move (Operand.tmp 10), type := 3, pos := "law.go:51", after := #[], guard := none }) (v := ?_) rfl (by kernel_rfl) (by kernel_rfl) (by kernel_rfl) (fun _ _ _ h => h) (Or.inl ⟨by rfl, ?_⟩) hHeld ?_
    rotate_left 1
    · intro u hSu
      obtain ⟨q1, q2⟩ := HPQ.out.2.2 u (kept_row HX.out (grown_trans HGk.out hSu.out) (by simp))
      go_simp
      first | done | with_reducible rfl
    (try simp only [Act.put, List.setIfInBounds_toArray, List.set_cons_zero, List.set_cons_succ])
    refine wpAnyH_take (i := 1) (oi := { dst := some 40, op := Op.indexAddr 32 (Operand.tmp 9) (Operand.tmp 39), type := 0, pos := "law.go:51", after := #[{ on := 0, ground := Ground.data }], guard := none }) (v := ?_) rfl (by kernel_rfl) (by kernel_rfl) (by kernel_rfl) (fun _ _ _ h => h) (Or.inl ⟨by rfl, ?_⟩) hHeld ?_
    rotate_left 1
    · intro u hSu
      obtain ⟨q1, q2⟩ := HPQ.out.2.2 u (kept_row HX.out (grown_trans HGk.out hSu.out) (by simp))
      go_simp
      first | done | with_reducible rfl
    (try simp only [Act.put, List.setIfInBounds_toArray, List.set_cons_zero, List.set_cons_succ])
    refine wpAnyH_take (i := 2) (oi := { dst := some 41, op := Op.indexAddr 30 (Operand.tmp 40) (Operand.const (Value.int IntKind.i64 0)), type := 0, pos := "law.go:51", after := #[{ on := 1, ground := Ground.data }], guard := none }) (v := ?_) rfl (by kernel_rfl) (by kernel_rfl) (by kernel_rfl) (fun _ _ _ h => h) (Or.inl ⟨by rfl, ?_⟩) hHeld ?_
    rotate_left 1
    · intro u hSu
      obtain ⟨q1, q2⟩ := HPQ.out.2.2 u (kept_row HX.out (grown_trans HGk.out hSu.out) (by simp))
      go_simp
      first | done | with_reducible rfl
    (try simp only [Act.put, List.setIfInBounds_toArray, List.set_cons_zero, List.set_cons_succ])
    refine wpAnyH_take (i := 3) (oi := { dst := some 42, op := Op.load 3 (Operand.tmp 41), type := 3, pos := "law.go:51", after := #[{ on := 2, ground := Ground.data }], guard := none }) (v := ?_) rfl (by kernel_rfl) (by kernel_rfl) (by kernel_rfl) (fun _ _ _ h => h) (Or.inl ⟨by rfl, ?_⟩) hHeld ?_
    rotate_left 1
    · intro u hSu
      obtain ⟨q1, q2⟩ := HPQ.out.2.2 u (kept_row HX.out (grown_trans HGk.out hSu.out) (by simp))
      go_simp
      first | done | with_reducible rfl
    (try simp only [Act.put, List.setIfInBounds_toArray, List.set_cons_zero, List.set_cons_succ])
    refine wpAnyH_take (i := 4) (oi := { dst := some 43, op := Op.move (Operand.tmp 10), type := 3, pos := "law.go:51", after := #[{ on := 8, ground := Ground.gcOnly Departure.lateStores }], guard := none }) (v := ?_) rfl (by kernel_rfl) (by kernel_rfl) (by kernel_rfl) (fun _ _ _ h => h) (Or.inl ⟨by rfl, ?_⟩) hHeld ?_
    rotate_left 1
    · intro u hSu
      obtain ⟨q1, q2⟩ := HPQ.out.2.2 u (kept_row HX.out (grown_trans HGk.out hSu.out) (by simp))
      go_simp
      first | done | with_reducible rfl
    (try simp only [Act.put, List.setIfInBounds_toArray, List.set_cons_zero, List.set_cons_succ])
    refine wpAnyH_take (i := 5) (oi := { dst := some 44, op := Op.indexAddr 32 (Operand.tmp 9) (Operand.tmp 43), type := 0, pos := "law.go:51", after := #[{ on := 4, ground := Ground.data }, { on := 8, ground := Ground.gcOnly Departure.lateStores }], guard := none }) (v := ?_) rfl (by kernel_rfl) (by kernel_rfl) (by kernel_rfl) (fun _ _ _ h => h) (Or.inl ⟨by rfl, ?_⟩) hHeld ?_
    rotate_left 1
    · intro u hSu
      obtain ⟨q1, q2⟩ := HPQ.out.2.2 u (kept_row HX.out (grown_trans HGk.out hSu.out) (by simp))
      go_simp
      first | done | with_reducible rfl
    (try simp only [Act.put, List.setIfInBounds_toArray, List.set_cons_zero, List.set_cons_succ])
    refine wpAnyH_take (i := 6) (oi := { dst := some 45, op := Op.indexAddr 30 (Operand.tmp 44) (Operand.const (Value.int IntKind.i64 1)), type := 0, pos := "law.go:51", after := #[{ on := 5, ground := Ground.data }, { on := 8, ground := Ground.gcOnly Departure.lateStores }], guard := none }) (v := ?_) rfl (by kernel_rfl) (by kernel_rfl) (by kernel_rfl) (fun _ _ _ h => h) (Or.inl ⟨by rfl, ?_⟩) hHeld ?_
    rotate_left 1
    · intro u hSu
      obtain ⟨q1, q2⟩ := HPQ.out.2.2 u (kept_row HX.out (grown_trans HGk.out hSu.out) (by simp))
      go_simp
      first | done | with_reducible rfl
    (try simp only [Act.put, List.setIfInBounds_toArray, List.set_cons_zero, List.set_cons_succ])
    refine wpAnyH_take (i := 7) (oi := { dst := some 46, op := Op.load 3 (Operand.tmp 45), type := 3, pos := "law.go:51", after := #[{ on := 6, ground := Ground.data }, { on := 8, ground := Ground.gcOnly Departure.lateStores }], guard := none }) (v := ?_) rfl (by kernel_rfl) (by kernel_rfl) (by kernel_rfl) (fun _ _ _ h => h) (Or.inl ⟨by rfl, ?_⟩) hHeld ?_
    rotate_left 1
    · intro u hSu
      obtain ⟨q1, q2⟩ := HPQ.out.2.2 u (kept_row HX.out (grown_trans HGk.out hSu.out) (by simp))
      go_simp
      first | done | with_reducible rfl
    (try simp only [Act.put, List.setIfInBounds_toArray, List.set_cons_zero, List.set_cons_succ])
    refine wpAnyH_take (i := 8) (oi := { dst := some 11, op := Op.assign (Operand.tmp 42), type := 3, pos := "law.go:51", after := #[{ on := 3, ground := Ground.data }, { on := 0, ground := Ground.phase }, { on := 1, ground := Ground.phase }, { on := 2, ground := Ground.phase }, { on := 3, ground := Ground.phase }, { on := 4, ground := Ground.textOnly Departure.lateStores }, { on := 5, ground := Ground.textOnly Departure.lateStores }, { on := 6, ground := Ground.textOnly Departure.lateStores }, { on := 7, ground := Ground.textOnly Departure.lateStores }], guard := none }) (v := ?_) rfl (by kernel_rfl) (by kernel_rfl) (by kernel_rfl) (fun _ _ _ h => h) (Or.inl ⟨by rfl, ?_⟩) hHeld ?_
    rotate_left 1
    · intro u hSu
      obtain ⟨q1, q2⟩ := HPQ.out.2.2 u (kept_row HX.out (grown_trans HGk.out hSu.out) (by simp))
      go_simp
      first | done | with_reducible rfl
    (try simp only [Act.put, List.setIfInBounds_toArray, List.set_cons_zero, List.set_cons_succ])
    refine wpAnyH_take (i := 9) (oi := { dst := some 12, op := Op.assign (Operand.tmp 46), type := 3, pos := "law.go:51", after := #[{ on := 7, ground := Ground.data }, { on := 8, ground := Ground.chain }, { on := 0, ground := Ground.phase }, { on := 1, ground := Ground.phase }, { on := 2, ground := Ground.phase }, { on := 3, ground := Ground.phase }, { on := 4, ground := Ground.phase }, { on := 5, ground := Ground.phase }, { on := 6, ground := Ground.phase }, { on := 7, ground := Ground.phase }, { on := 8, ground := Ground.phase }], guard := none }) (v := ?_) rfl (by kernel_rfl) (by kernel_rfl) (by kernel_rfl) (fun _ _ _ h => h) (Or.inl ⟨by rfl, ?_⟩) hHeld ?_
    rotate_left 1
    · intro u hSu
      obtain ⟨q1, q2⟩ := HPQ.out.2.2 u (kept_row HX.out (grown_trans HGk.out hSu.out) (by simp))
      go_simp
      first | done | with_reducible rfl
    (try simp only [Act.put, List.setIfInBounds_toArray, List.set_cons_zero, List.set_cons_succ])
    refine wpAnyH_done (by kernel_rfl) ?_ _
    obtain ⟨w8, hw8⟩ : ∃ w8, w8 = w7.drew := ⟨_, rfl⟩
    have HL8 := Lib.hid (HLk.out.keep hHeld.out)
    have HG8 := Lib.hid (grown_trans HGk.out hHeld.out)
    rw [← hw8] at HL8 HG8 ⊢
    clear hHeld hw8 HLk HGk
    go_upto_region 8 with fail
    obtain ⟨XN, hXN⟩ : ∃ X, nxt R L p q = X := ⟨_, rfl⟩
    have hXNl : XN.length ≤ 2000 := by rw [← hXN]; exact Nat.le_trans (nxt_len R L p q) (by omega)
    have HVALN := Lib.hid hXN
    obtain ⟨XR, hXR⟩ : ∃ X, rtV R L q p = X := ⟨_, rfl⟩
    have hXRl : XR.length ≤ 24000 := by rw [← hXR]; exact Nat.le_trans (rtV_len R L q _ p (Nat.le_refl _)) (far_le R L q p)
    have HVALR := Lib.hid hXR
    obtain ⟨XP, hXP⟩ : ∃ X, pV R L p q = X := ⟨_, rfl⟩
    have HVALP := Lib.hid hXP
    clear hXN hXR hXP
    refine wp_region_held_drew (S := fun w' => Hid (w8.grownBy w' none)) (by kernel_rfl) (Lib.hid (grown_drew (grown_refl _ _))) (fun hHeld => ?_)
    refine wpAnyH_take (i := 0) (oi := { dst := some 47, op := Op.load 28 (Operand.tmp 8), type := 28, pos := "law.go:52", after := #[], guard := none }) (v := ?_) rfl (by kernel_rfl) (by kernel_rfl) (by kernel_rfl) (fun _ _ _ h => h) (Or.inl ⟨by rfl, ?_⟩) hHeld ?_
    rotate_left 1
    · intro u hSu
      obtain ⟨q0, q1⟩ := row_cells (kept_row HL8.out.gb hSu.out (by simp))
      go_simp
      first | done | with_reducible rfl
    (try simp only [Act.put, List.setIfInBounds_toArray, List.set_cons_zero, List.set_cons_succ])
    refine wpAnyH_take (i := 1) (oi := { dst := some 48, op := Op.move (Operand.tmp 11), type := 3, pos := "law.go:52", after := #[], guard := none }) (v := ?_) rfl (by kernel_rfl) (by kernel_rfl) (by kernel_rfl) (fun _ _ _ h => h) (Or.inl ⟨by rfl, ?_⟩) hHeld ?_
    rotate_left 1
    · intro u hSu
      obtain ⟨q0, q1⟩ := row_cells (kept_row HL8.out.gb hSu.out (by simp))
      go_simp
      first | done | with_reducible rfl
    (try simp only [Act.put, List.setIfInBounds_toArray, List.set_cons_zero, List.set_cons_succ])
    refine wpAnyH_take (i := 2) (oi := { dst := some 49, op := Op.move (Operand.tmp 12), type := 3, pos := "law.go:52", after := #[], guard := none }) (v := ?_) rfl (by kernel_rfl) (by kernel_rfl) (by kernel_rfl) (fun _ _ _ h => h) (Or.inl ⟨by rfl, ?_⟩) hHeld ?_
    rotate_left 1
    · intro u hSu
      obtain ⟨q0, q1⟩ := row_cells (kept_row HL8.out.gb hSu.out (by simp))
      go_simp
      first | done | with_reducible rfl
    (try simp only [Act.put, List.setIfInBounds_toArray, List.set_cons_zero, List.set_cons_succ])
    refine wpAnyH_take (i := 4) (oi := { dst := some 51, op := Op.load 28 (Operand.tmp 8), type := 28, pos := "law.go:52", after := #[], guard := none }) (v := ?_) rfl (by kernel_rfl) (by kernel_rfl) (by kernel_rfl) (fun _ _ _ h => h) (Or.inl ⟨by rfl, ?_⟩) hHeld ?_
    rotate_left 1
    · intro u hSu
      obtain ⟨q0, q1⟩ := row_cells (kept_row HL8.out.gb hSu.out (by simp))
      go_simp
      first | done | with_reducible rfl
    (try simp only [Act.put, List.setIfInBounds_toArray, List.set_cons_zero, List.set_cons_succ])
    refine wpAnyH_take (i := 5) (oi := { dst := some 52, op := Op.move (Operand.tmp 11), type := 3, pos := "law.go:52", after := #[], guard := none }) (v := ?_) rfl (by kernel_rfl) (by kernel_rfl) (by kernel_rfl) (fun _ _ _ h => h) (Or.inl ⟨by rfl, ?_⟩) hHeld ?_
    rotate_left 1
    · intro u hSu
      obtain ⟨q0, q1⟩ := row_cells (kept_row HL8.out.gb hSu.out (by simp))
      go_simp
      first | done | with_reducible rfl
    (try simp only [Act.put, List.setIfInBounds_toArray, List.set_cons_zero, List.set_cons_succ])
    refine wpAnyH_take (i := 6) (oi := { dst := some 53, op := Op.move (Operand.tmp 12), type := 3, pos := "law.go:52", after := #[], guard := none }) (v := ?_) rfl (by kernel_rfl) (by kernel_rfl) (by kernel_rfl) (fun _ _ _ h => h) (Or.inl ⟨by rfl, ?_⟩) hHeld ?_
    rotate_left 1
    · intro u hSu
      obtain ⟨q0, q1⟩ := row_cells (kept_row HL8.out.gb hSu.out (by simp))
      go_simp
      first | done | with_reducible rfl
    (try simp only [Act.put, List.setIfInBounds_toArray, List.set_cons_zero, List.set_cons_succ])
    refine wpAnyH_ready (rs := [3]) (by kernel_rfl) (by simp) ?_
    refine AllReadyH.cons (o := { dst := some 50, op := Op.call { callee := Callee.value (Operand.func 15), args := #[Operand.tmp 47, Operand.tmp 48, Operand.tmp 49], argTypes := #[28, 3, 3] }, type := 22, pos := "law.go:52", after := #[{ on := 0, ground := Ground.data }, { on := 1, ground := Ground.data }, { on := 2, ground := Ground.data }], guard := none }) rfl (fun Kz hK => ?_) AllReadyH.nil
    go_simp
    go_at_call 15
    refine (tnext_any ⟨R, L, pR, cR, pL, cL⟩ p q _ _ ((HL8.out.keep hHeld.out).t) hR hL HVT.out.pl HPQ.out.1).mono ?_
    rintro e wr1 ⟨pr1, cr1, rfl, hr, hc, hn, hg1⟩
    (try simp only at hr hc ⊢)
    rw [HVALN.out] at hr hc ⊢
    have HRD1 : Hid (Rd wr1 (fun _ => True) (.slice pr1 XN.length cr1) (XN.map tv)) := Lib.hid (hr.mono (fun _ _ => trivial))
    clear hr hc hn
    refine hK.out _ _ (Lib.hid (grown_trans hHeld.out hg1)) (fun hH2 => ?_)
    clear hK Kz hHeld
    have hHeld := hH2
    clear hH2
    (try simp only [Act.put, List.setIfInBounds_toArray, List.set_cons_zero, List.set_cons_succ])
    refine wpAnyH_ready (rs := [7]) (by kernel_rfl) (by simp) ?_
    refine AllReadyH.cons (o := { dst := some 54, op := Op.call { callee := Callee.value (Operand.func 16), args := #[Operand.tmp 51, Operand.tmp 52, Operand.tmp 53], argTypes := #[28, 3, 3] }, type := 22, pos := "law.go:52", after := #[{ on := 4, ground := Ground.data }, { on := 5, ground := Ground.data }, { on := 6, ground := Ground.data }, { on := 3, ground := Ground.chain }], guard := none }) rfl (fun Kz hK => ?_) AllReadyH.nil
    go_simp
    go_at_call 16
    refine (rnx_any ⟨R, L, pR, cR, pL, cL⟩ p q _ _ ((HL8.out.keep hHeld.out).t)).mono ?_
    rintro e wr2 ⟨pr2, cr2, rfl, hr, hc, hn, hg2⟩
    (try simp only at hr hc ⊢)
    rw [HVALN.out] at hr hc ⊢
    have HRD2 : Hid (Rd wr2 (fun _ => True) (.slice pr2 XN.length cr2) (XN.map tv)) := Lib.hid (hr.mono (fun _ _ => trivial))
    clear hr hc hn
    have HRD12 : Hid (Rd wr2 (fun _ => True) (.slice pr1 XN.length cr1) (XN.map tv)) := Lib.hid (HRD1.out.grown hg2 (fun _ _ => by simp))
    refine hK.out _ _ (Lib.hid (grown_trans hHeld.out hg2)) (fun hH2 => ?_)
    clear hK Kz hHeld
    have hHeld := hH2
    clear hH2
    (try simp only [Act.put, List.setIfInBounds_toArray, List.set_cons_zero, List.set_cons_succ])
    refine wpAnyH_ready (rs := [8]) (by kernel_rfl) (by simp) ?_
    refine AllReadyH.cons (o := { dst := some 55, op := Op.call { callee := Callee.value (Operand.func 14), args := #[Operand.tmp 50, Operand.tmp 54], argTypes := #[22, 22] }, type := 4, pos := "law.go:52", after := #[{ on := 3, ground := Ground.data }, { on := 7, ground := Ground.data }, { on := 7, ground := Ground.chain }], guard := none }) rfl (fun Kz hK => ?_) AllReadyH.nil
    go_simp
    go_at_call 14
    refine (rints_any XN pr1 pr2 cr1 cr2 _ _ _ HRD12.out HRD2.out (by omega)).mono ?_
    rintro e ws2 ⟨rfl, hgs2⟩
    refine hK.out _ _ (Lib.hid (grown_trans hHeld.out hgs2)) (fun hH2 => ?_)
    clear hK Kz hHeld
    have hHeld := hH2
    clear hH2
    (try simp only [Act.put, List.setIfInBounds_toArray, List.set_cons_zero, List.set_cons_succ])
    refine wpAnyH_take (i := 9) (oi := { dst := some 56, op := Op.unOp UnOp.not 4 (Operand.tmp 55), type := 4, pos := "law.go:52", after := #[{ on := 8, ground := Ground.data }], guard := none }) (v := ?_) rfl (by kernel_rfl) (by kernel_rfl) (by kernel_rfl) (fun _ _ _ h => h) (Or.inl ⟨by rfl, ?_⟩) hHeld ?_
    rotate_left 1
    · intro u hSu
      obtain ⟨q0, q1⟩ := row_cells (kept_row HL8.out.gb hSu.out (by simp))
      go_simp
      first | done | with_reducible rfl
    (try simp only [Act.put, List.setIfInBounds_toArray, List.set_cons_zero, List.set_cons_succ])
    refine wpAnyH_take (i := 10) (oi := { dst := some 57, op := Op.move (Operand.tmp 56), type := 4, pos := "law.go:52", after := #[{ on := 9, ground := Ground.data }, { on := 8, ground := Ground.chain }], guard := none }) (v := ?_) rfl (by kernel_rfl) (by kernel_rfl) (by kernel_rfl) (fun _ _ _ h => h) (Or.inl ⟨by rfl, ?_⟩) hHeld ?_
    rotate_left 1
    · intro u hSu
      obtain ⟨q0, q1⟩ := row_cells (kept_row HL8.out.gb hSu.out (by simp))
      go_simp
      first | done | with_reducible rfl
    (try simp only [Act.put, List.setIfInBounds_toArray, List.set_cons_zero, List.set_cons_succ])
    refine wpAnyH_take (i := 11) (oi := { dst := some 58, op := Op.load 28 (Operand.tmp 8), type := 28, pos := "law.go:52", after := #[{ on := 10, ground := Ground.guard }], guard := some (10, false) }) (v := ?_) rfl (by kernel_rfl) (by kernel_rfl) (by kernel_rfl) (fun _ _ _ h => h) (Or.inl ⟨by rfl, ?_⟩) hHeld ?_
    rotate_left 1
    · intro u hSu
      obtain ⟨q0, q1⟩ := row_cells (kept_row HL8.out.gb hSu.out (by simp))
      go_simp
      first | done | with_reducible rfl
    (try simp only [Act.put, List.setIfInBounds_toArray, List.set_cons_zero, List.set_cons_succ])
    refine wpAnyH_take (i := 12) (oi := { dst := some 59, op := Op.move (Operand.tmp 11), type := 3, pos := "law.go:52", after := #[{ on := 10, ground := Ground.guard }], guard := some (10, false) }) (v := ?_) rfl (by kernel_rfl) (by kernel_rfl) (by kernel_rfl) (fun _ _ _ h => h) (Or.inl ⟨by rfl, ?_⟩) hHeld ?_
    rotate_left 1
    · intro u hSu
      obtain ⟨q0, q1⟩ := row_cells (kept_row HL8.out.gb hSu.out (by simp))
      go_simp
      first | done | with_reducible rfl
    (try simp only [Act.put, List.setIfInBounds_toArray, List.set_cons_zero, List.set_cons_succ])
    refine wpAnyH_take (i := 13) (oi := { dst := some 60, op := Op.move (Operand.tmp 12), type := 3, pos := "law.go:52", after := #[{ on := 10, ground := Ground.guard }], guard := some (10, false) }) (v := ?_) rfl (by kernel_rfl) (by kernel_rfl) (by kernel_rfl) (fun _ _ _ h => h) (Or.inl ⟨by rfl, ?_⟩) hHeld ?_
    rotate_left 1
    · intro u hSu
      obtain ⟨q0, q1⟩ := row_cells (kept_row HL8.out.gb hSu.out (by simp))
      go_simp
      first | done | with_reducible rfl
    (try simp only [Act.put, List.setIfInBounds_toArray, List.set_cons_zero, List.set_cons_succ])
    refine wpAnyH_take (i := 15) (oi := { dst := some 62, op := Op.load 28 (Operand.tmp 8), type := 28, pos := "law.go:52", after := #[{ on := 10, ground := Ground.guard }], guard := some (10, false) }) (v := ?_) rfl (by kernel_rfl) (by kernel_rfl) (by kernel_rfl) (fun _ _ _ h => h) (Or.inl ⟨by rfl, ?_⟩) hHeld ?_
    rotate_left 1
    · intro u hSu
      obtain ⟨q0, q1⟩ := row_cells (kept_row HL8.out.gb hSu.out (by simp))
      go_simp
      first | done | with_reducible rfl
    (try simp only [Act.put, List.setIfInBounds_toArray, List.set_cons_zero, List.set_cons_succ])
    refine wpAnyH_take (i := 16) (oi := { dst := some 63, op := Op.move (Operand.tmp 11), type := 3, pos := "law.go:52", after := #[{ on := 10, ground := Ground.guard }], guard := some (10, false) }) (v := ?_) rfl (by kernel_rfl) (by kernel_rfl) (by kernel_rfl) (fun _ _ _ h => h) (Or.inl ⟨by rfl, ?_⟩) hHeld ?_
    rotate_left 1
    · intro u hSu
      obtain ⟨q0, q1⟩ := row_cells (kept_row HL8.out.gb hSu.out (by simp))
      go_simp
      first | done | with_reducible rfl
    (try simp only [Act.put, List.setIfInBounds_toArray, List.set_cons_zero, List.set_cons_succ])
    refine wpAnyH_take (i := 17) (oi := { dst := some 64, op := Op.move (Operand.tmp 12), type := 3, pos := "law.go:52", after := #[{ on := 10, ground := Ground.guard }], guard := some (10, false) }) (v := ?_) rfl (by kernel_rfl) (by kernel_rfl) (by kernel_rfl) (fun _ _ _ h => h) (Or.inl ⟨by rfl, ?_⟩) hHeld ?_
    rotate_left 1
    · intro u hSu
      obtain ⟨q0, q1⟩ := row_cells (kept_row HL8.out.gb hSu.out (by simp))
      go_simp
      first | done | with_reducible rfl
    (try simp only [Act.put, List.setIfInBounds_toArray, List.set_cons_zero, List.set_cons_succ])
    refine wpAnyH_ready (rs := [14]) (by kernel_rfl) (by simp) ?_
    refine AllReadyH.cons (o := { dst := some 61, op := Op.call { callee := Callee.value (Operand.func 17), args := #[Operand.tmp 58, Operand.tmp 59, Operand.tmp 60], argTypes := #[28, 3, 3] }, type := 22, pos := "law.go:52", after := #[{ on := 11, ground := Ground.data }, { on := 12, ground := Ground.data }, { on := 13, ground := Ground.data }, { on := 10, ground := Ground.chain }, { on := 10, ground := Ground.guard }], guard := some (10, false) }) rfl (fun Kz hK => ?_) AllReadyH.nil
    go_simp
    go_at_call 17
    refine (troute_any ⟨R, L, pR, cR, pL, cL⟩ p q _ _ ((HL8.out.keep hHeld.out).t) hR hL HVT.out.pl HPQ.out.1).mono ?_
    rintro e wr3 ⟨pr3, cr3, rfl, hr, hc, hn, hg3⟩
    (try simp only at hr hc ⊢)
    rw [HVALR.out] at hr hc ⊢
    have HRD3 : Hid (Rd wr3 (fun _ => True) (.slice pr3 XR.length cr3) (XR.map tv)) := Lib.hid (hr.mono (fun _ _ => trivial))
    clear hr hc hn
    refine hK.out _ _ (Lib.hid (grown_trans hHeld.out hg3)) (fun hH2 => ?_)
    clear hK Kz hHeld
    have hHeld := hH2
    clear hH2
    (try simp only [Act.put, List.setIfInBounds_toArray, List.set_cons_zero, List.set_cons_succ])
    refine wpAnyH_ready (rs := [18]) (by kernel_rfl) (by simp) ?_
    refine AllReadyH.cons (o := { dst := some 65, op := Op.call { callee := Callee.value (Operand.func 18), args := #[Operand.tmp 62, Operand.tmp 63, Operand.tmp 64], argTypes := #[28, 3, 3] }, type := 22, pos := "law.go:52", after := #[{ on := 15, ground := Ground.data }, { on := 16, ground := Ground.data }, { on := 17, ground := Ground.data }, { on := 14, ground := Ground.chain }, { on := 10, ground := Ground.guard }], guard := some (10, false) }) rfl (fun Kz hK => ?_) AllReadyH.nil
    go_simp
    go_at_call 18
    refine (rrt_any ⟨R, L, pR, cR, pL, cL⟩ p q _ _ ((HL8.out.keep hHeld.out).t) HPQ.out.1).mono ?_
    rintro e wr4 ⟨pr4, cr4, rfl, hr, hc, hn, hg4⟩
    (try simp only at hr hc ⊢)
    rw [HVALR.out] at hr hc ⊢
    have HRD4 : Hid (Rd wr4 (fun _ => True) (.slice pr4 XR.length cr4) (XR.map tv)) := Lib.hid (hr.mono (fun _ _ => trivial))
    clear hr hc hn
    have HRD32 : Hid (Rd wr4 (fun _ => True) (.slice pr3 XR.length cr3) (XR.map tv)) := Lib.hid (HRD3.out.grown hg4 (fun _ _ => by simp))
    refine hK.out _ _ (Lib.hid (grown_trans hHeld.out hg4)) (fun hH2 => ?_)
    clear hK Kz hHeld
    have hHeld := hH2
    clear hH2
    (try simp only [Act.put, List.setIfInBounds_toArray, List.set_cons_zero, List.set_cons_succ])
    refine wpAnyH_ready (rs := [19]) (by kernel_rfl) (by simp) ?_
    refine AllReadyH.cons (o := { dst := some 66, op := Op.call { callee := Callee.value (Operand.func 14), args := #[Operand.tmp 61, Operand.tmp 65], argTypes := #[22, 22] }, type := 4, pos := "law.go:52", after := #[{ on := 14, ground := Ground.data }, { on := 18, ground := Ground.data }, { on := 18, ground := Ground.chain }, { on := 10, ground := Ground.guard }], guard := some (10, false) }) rfl (fun Kz hK => ?_) AllReadyH.nil
    go_simp
    go_at_call 14
    refine (rints_any XR pr3 pr4 cr3 cr4 _ _ _ HRD32.out HRD4.out (by omega)).mono ?_
    rintro e ws4 ⟨rfl, hgs4⟩
    refine hK.out _ _ (Lib.hid (grown_trans hHeld.out hgs4)) (fun hH2 => ?_)
    clear hK Kz hHeld
    have hHeld := hH2
    clear hH2
    (try simp only [Act.put, List.setIfInBounds_toArray, List.set_cons_zero, List.set_cons_succ])
    refine wpAnyH_take (i := 20) (oi := { dst := some 67, op := Op.unOp UnOp.not 4 (Operand.tmp 66), type := 4, pos := "law.go:52", after := #[{ on := 19, ground := Ground.data }, { on := 10, ground := Ground.guard }], guard := some (10, false) }) (v := ?_) rfl (by kernel_rfl) (by kernel_rfl) (by kernel_rfl) (fun _ _ _ h => h) (Or.inl ⟨by rfl, ?_⟩) hHeld ?_
    rotate_left 1
    · intro u hSu
      obtain ⟨q0, q1⟩ := row_cells (kept_row HL8.out.gb hSu.out (by simp))
      go_simp
      first | done | with_reducible rfl
    (try simp only [Act.put, List.setIfInBounds_toArray, List.set_cons_zero, List.set_cons_succ])
    refine wpAnyH_take (i := 21) (oi := { dst := some 68, op := Op.pick (Operand.tmp 57) (Operand.const (Value.bool true)) (Operand.tmp 67), type := 4, pos := "law.go:52", after := #[{ on := 10, ground := Ground.data }, { on := 20, ground := Ground.data }], guard := none }) (v := ?_) rfl (by kernel_rfl) (by kernel_rfl) (by kernel_rfl) (fun _ _ _ h => h) (Or.inl ⟨by rfl, ?_⟩) hHeld ?_
    rotate_left 1
    · intro u hSu
      obtain ⟨q0, q1⟩ := row_cells (kept_row HL8.out.gb hSu.out (by simp))
      go_simp
      first | done | with_reducible rfl
    (try simp only [Act.put, List.setIfInBounds_toArray, List.set_cons_zero, List.set_cons_succ])
    refine wpAnyH_take (i := 22) (oi := { dst := some 69, op := Op.move (Operand.tmp 68), type := 4, pos := "law.go:52", after := #[{ on := 21, ground := Ground.data }, { on := 19, ground := Ground.chain }], guard := none }) (v := ?_) rfl (by kernel_rfl) (by kernel_rfl) (by kernel_rfl) (fun _ _ _ h => h) (Or.inl ⟨by rfl, ?_⟩) hHeld ?_
    rotate_left 1
    · intro u hSu
      obtain ⟨q0, q1⟩ := row_cells (kept_row HL8.out.gb hSu.out (by simp))
      go_simp
      first | done | with_reducible rfl
    (try simp only [Act.put, List.setIfInBounds_toArray, List.set_cons_zero, List.set_cons_succ])
    refine wpAnyH_take (i := 23) (oi := { dst := some 70, op := Op.load 28 (Operand.tmp 8), type := 28, pos := "law.go:52", after := #[{ on := 22, ground := Ground.guard }], guard := some (22, false) }) (v := ?_) rfl (by kernel_rfl) (by kernel_rfl) (by kernel_rfl) (fun _ _ _ h => h) (Or.inl ⟨by rfl, ?_⟩) hHeld ?_
    rotate_left 1
    · intro u hSu
      obtain ⟨q0, q1⟩ := row_cells (kept_row HL8.out.gb hSu.out (by simp))
      go_simp
      first | done | with_reducible rfl
    (try simp only [Act.put, List.setIfInBounds_toArray, List.set_cons_zero, List.set_cons_succ])
    refine wpAnyH_take (i := 24) (oi := { dst := some 71, op := Op.move (Operand.tmp 11), type := 3, pos := "law.go:52", after := #[{ on := 22, ground := Ground.guard }], guard := some (22, false) }) (v := ?_) rfl (by kernel_rfl) (by kernel_rfl) (by kernel_rfl) (fun _ _ _ h => h) (Or.inl ⟨by rfl, ?_⟩) hHeld ?_
    rotate_left 1
    · intro u hSu
      obtain ⟨q0, q1⟩ := row_cells (kept_row HL8.out.gb hSu.out (by simp))
      go_simp
      first | done | with_reducible rfl
    (try simp only [Act.put, List.setIfInBounds_toArray, List.set_cons_zero, List.set_cons_succ])
    refine wpAnyH_take (i := 25) (oi := { dst := some 72, op := Op.move (Operand.tmp 12), type := 3, pos := "law.go:52", after := #[{ on := 22, ground := Ground.guard }], guard := some (22, false) }) (v := ?_) rfl (by kernel_rfl) (by kernel_rfl) (by kernel_rfl) (fun _ _ _ h => h) (Or.inl ⟨by rfl, ?_⟩) hHeld ?_
    rotate_left 1
    · intro u hSu
      obtain ⟨q0, q1⟩ := row_cells (kept_row HL8.out.gb hSu.out (by simp))
      go_simp
      first | done | with_reducible rfl
    (try simp only [Act.put, List.setIfInBounds_toArray, List.set_cons_zero, List.set_cons_succ])
    refine wpAnyH_take (i := 27) (oi := { dst := some 74, op := Op.load 28 (Operand.tmp 8), type := 28, pos := "law.go:52", after := #[{ on := 22, ground := Ground.guard }], guard := some (22, false) }) (v := ?_) rfl (by kernel_rfl) (by kernel_rfl) (by kernel_rfl) (fun _ _ _ h => h) (Or.inl ⟨by rfl, ?_⟩) hHeld ?_
    rotate_left 1
    · intro u hSu
      obtain ⟨q0, q1⟩ := row_cells (kept_row HL8.out.gb hSu.out (by simp))
      go_simp
      first | done | with_reducible rfl
    (try simp only [Act.put, List.setIfInBounds_toArray, List.set_cons_zero, List.set_cons_succ])
    refine wpAnyH_take (i := 28) (oi := { dst := some 75, op := Op.move (Operand.tmp 11), type := 3, pos := "law.go:52", after := #[{ on := 22, ground := Ground.guard }], guard := some (22, false) }) (v := ?_) rfl (by kernel_rfl) (by kernel_rfl) (by kernel_rfl) (fun _ _ _ h => h) (Or.inl ⟨by rfl, ?_⟩) hHeld ?_
    rotate_left 1
    · intro u hSu
      obtain ⟨q0, q1⟩ := row_cells (kept_row HL8.out.gb hSu.out (by simp))
      go_simp
      first | done | with_reducible rfl
    (try simp only [Act.put, List.setIfInBounds_toArray, List.set_cons_zero, List.set_cons_succ])
    refine wpAnyH_take (i := 29) (oi := { dst := some 76, op := Op.move (Operand.tmp 12), type := 3, pos := "law.go:52", after := #[{ on := 22, ground := Ground.guard }], guard := some (22, false) }) (v := ?_) rfl (by kernel_rfl) (by kernel_rfl) (by kernel_rfl) (fun _ _ _ h => h) (Or.inl ⟨by rfl, ?_⟩) hHeld ?_
    rotate_left 1
    · intro u hSu
      obtain ⟨q0, q1⟩ := row_cells (kept_row HL8.out.gb hSu.out (by simp))
      go_simp
      first | done | with_reducible rfl
    (try simp only [Act.put, List.setIfInBounds_toArray, List.set_cons_zero, List.set_cons_succ])
    refine wpAnyH_ready (rs := [26]) (by kernel_rfl) (by simp) ?_
    refine AllReadyH.cons (o := { dst := some 73, op := Op.call { callee := Callee.value (Operand.func 19), args := #[Operand.tmp 70, Operand.tmp 71, Operand.tmp 72], argTypes := #[28, 3, 3] }, type := 3, pos := "law.go:52", after := #[{ on := 23, ground := Ground.data }, { on := 24, ground := Ground.data }, { on := 25, ground := Ground.data }, { on := 22, ground := Ground.chain }, { on := 22, ground := Ground.guard }], guard := some (22, false) }) rfl (fun Kz hK => ?_) AllReadyH.nil
    go_simp
    go_at_call 19
    refine (tpaths_any ⟨R, L, pR, cR, pL, cL⟩ p q _ _ ((HL8.out.keep hHeld.out).t) hR hL HVT.out.pl HPQ.out.1).mono ?_
    rintro e wq5 ⟨rfl, hgq5⟩
    (try simp only)
    rw [HVALP.out]
    refine hK.out _ _ (Lib.hid (grown_trans hHeld.out hgq5)) (fun hH2 => ?_)
    clear hK Kz hHeld
    have hHeld := hH2
    clear hH2
    (try simp only [Act.put, List.setIfInBounds_toArray, List.set_cons_zero, List.set_cons_succ])
    refine wpAnyH_ready (rs := [30]) (by kernel_rfl) (by simp) ?_
    refine AllReadyH.cons (o := { dst := some 77, op := Op.call { callee := Callee.value (Operand.func 20), args := #[Operand.tmp 74, Operand.tmp 75, Operand.tmp 76], argTypes := #[28, 3, 3] }, type := 3, pos := "law.go:52", after := #[{ on := 27, ground := Ground.data }, { on := 28, ground := Ground.data }, { on := 29, ground := Ground.data }, { on := 26, ground := Ground.chain }, { on := 22, ground := Ground.guard }], guard := some (22, false) }) rfl (fun Kz hK => ?_) AllReadyH.nil
    go_simp
    go_at_call 20
    refine (rpa_any ⟨R, L, pR, cR, pL, cL⟩ p q _ _ ((HL8.out.keep hHeld.out).t)).mono ?_
    rintro e wq6 ⟨rfl, hgq6⟩
    (try simp only)
    rw [HVALP.out]
    refine hK.out _ _ (Lib.hid (grown_trans hHeld.out hgq6)) (fun hH2 => ?_)
    clear hK Kz hHeld
    have hHeld := hH2
    clear hH2
    (try simp only [Act.put, List.setIfInBounds_toArray, List.set_cons_zero, List.set_cons_succ])
    refine wpAnyH_take (i := 31) (oi := { dst := some 78, op := Op.binOp BinOp.neq 3 (Operand.tmp 73) (Operand.tmp 77) 3, type := 4, pos := "law.go:52", after := #[{ on := 26, ground := Ground.data }, { on := 30, ground := Ground.data }, { on := 22, ground := Ground.guard }], guard := some (22, false) }) (v := (.bool false)) rfl (by kernel_rfl) (by kernel_rfl) (by kernel_rfl) (fun _ _ _ h => h) (Or.inl ⟨by rfl, ?_⟩) hHeld ?_
    · intro u hSu
      obtain ⟨q0, q1⟩ := row_cells (kept_row HL8.out.gb hSu.out (by simp))
      go_simp
      first | done | simp
    (try simp only [Act.put, List.setIfInBounds_toArray, List.set_cons_zero, List.set_cons_succ])
    refine wpAnyH_take (i := 32) (oi := { dst := some 79, op := Op.pick (Operand.tmp 69) (Operand.const (Value.bool true)) (Operand.tmp 78), type := 4, pos := "law.go:52", after := #[{ on := 22, ground := Ground.data }, { on := 31, ground := Ground.data }], guard := none }) (v := ?_) rfl (by kernel_rfl) (by kernel_rfl) (by kernel_rfl) (fun _ _ _ h => h) (Or.inl ⟨by rfl, ?_⟩) hHeld ?_
    rotate_left 1
    · intro u hSu
      obtain ⟨q0, q1⟩ := row_cells (kept_row HL8.out.gb hSu.out (by simp))
      go_simp
      first | done | with_reducible rfl
    (try simp only [Act.put, List.setIfInBounds_toArray, List.set_cons_zero, List.set_cons_succ])
    refine wpAnyH_done (by kernel_rfl) ?_ _
    have HL9 := Lib.hid (HL8.out.keep hHeld.out)
    have HG9 := Lib.hid (grown_trans HG8.out hHeld.out)
    clear hHeld HL8 HG8
    go_wp2_with fail
    exact ⟨⟨k + 1, by omega, congrArg _ (by omega), HL9, HG9⟩, by simp only [RowKit.intOf]; omega⟩
  · obtain rfl : k = 3 := by omega
    go_wp2_with fail
    refine (sawake_any _).mono ?_
    rintro e w9 ⟨rfl, hg9⟩
    have HE := Lib.hid (grown_trans HLk.out.gr hg9)
    clear hg9
    go_wp2_with fail
    go_ret
    exact ⟨rfl, HE.out⟩
end Go.Proofs.Ytlefjdglcdopeaa
