/- Parts of the proof, packed: ShUsLaw. -/
import Derived.Test.YtlefjdglcdopeaaUs15
import Derived.Test.YtlefjdglcdopeaaUs22
import Derived.Test.YtlefjdglcdopeaaUs13
/- The law ShortestUses. -/
namespace Go.Proofs.Ytlefjdglcdopeaa
open Go.RowKit Go.Maps Bs
set_option maxRecDepth 100000 in
theorem lk_cells {w : World} {q : Nat → Prop} {R : List Rt} {L : List Lk} {pR : Option Addr} {cR bL oL cL k : Nat} {l : Lk} (h : TgOk w q ⟨R, L, pR, cR, some ⟨bL, oL, none⟩, cL⟩) (hl : L[k]? = some l) :
    w.cell? ⟨bL, oL + k * 5, none⟩ = some (.int .i64 l.a) ∧ w.cell? ⟨bL, oL + k * 5 + 1, none⟩ = some (.int .i64 l.b) ∧ w.cell? ⟨bL, oL + k * 5 + 2, none⟩ = some (.int .i64 l.ca) ∧ w.cell? ⟨bL, oL + k * 5 + 3, none⟩ = some (.int .i64 l.cb) ∧ w.cell? ⟨bL, oL + k * 5 + 4, none⟩ = some (.int .i64 l.cp) := by
  have h0 : 0 < L.length := by have := (List.getElem?_eq_some_iff.1 hl).1; omega
  obtain ⟨-, b, o, e, -, hc⟩ := rdl_cells (L := L) h.l h0
  injection e with e
  injection e with e1 e2
  subst e1
  subst e2
  exact hc k l hl
set_option maxRecDepth 100000 in
set_option maxHeartbeats 12800000 in
theorem suses_walk (v : Value) (xa ya za ha ka : Int) (w : World) (hv : IntsIn w v) (hxa : I64 xa) (hya : I64 ya) (hza : I64 za) (hha : I64 ha) :
    Calls Try.prog 5 #[v, .int .i64 xa, .int .i64 ya, .int .i64 za, .agg #[.int .i64 ha, .int .i64 ka]] w fun e w' => e = .returned (.bool true) ∧ w.grownBy w' none := by
  go_enter Try.func5, Try.ntmps5
  go_upto_region 1 with fail
  have HXY := Lib.hid (And.intro hxa (And.intro hya (And.intro hza hha)))
  clear hxa hya hza hha
  have hq1 := heap_alloc_new w (.cells #[.int .i64 ha, .int .i64 ka] 41)
  have hq2 := World.grownBy_alloc w (.cells #[.int .i64 ha, .int .i64 ka] 41) none
  have HQ := Lib.hid (And.intro hq1 hq2)
  have hv1 := hv.keepS hq2
  clear hq1 hq2 hv
  generalize w.alloc _ = w1 at *
  obtain ⟨B0, hB0⟩ : ∃ B0, w.heap.size = B0 := ⟨_, rfl⟩
  rw [hB0] at HQ ⊢
  clear hB0
  go_wp2_with fail
  refine (new_any v w1 hv1).mono ?_
  rintro e w2 ⟨rfl, hg1, hT1⟩
  have H2 := Lib.hid (And.intro hg1 hT1)
  obtain ⟨a, ha⟩ : ∃ a, a = w1.heap.size := ⟨_, rfl⟩
  rw [← ha] at H2
  have HA := Lib.hid ha
  clear hg1 hT1 hv1
  rw [← HA.out]
  clear ha
  go_wp2_with fail
  refine (stopoJ_any a 7 10 (by decide) (by decide) (by unfold I64; omega) w2 H2.out.2).mono ?_
  rintro e w3 ⟨T, rfl, hT, hO, hpT, hs3⟩
  obtain ⟨R, L, pR, cR, pL, cL⟩ := T
  have HVT : Hid (WT ⟨R, L, pR, cR, pL, cL⟩) := Lib.hid (WT.of (by decide) hO hpT)
  simp only at hO hpT ⊢
  have gal := World.grownBy_alloc w3 (.cells #[.slice pR R.length cR, .slice pL L.length cL] 28) none
  have ha2 : a < w2.heap.size := H2.out.2.lt
  have HW4 : Hid (w1.grownBy (w3.alloc (.cells #[.slice pR R.length cR, .slice pL L.length cL] 28)) none) := Lib.hid (grown_trans (grown_tape H2.out.1 (by rw [← HA.out]; exact hs3.1)) gal)
  have HG : Hid ((w3.alloc (.cells #[.slice pR R.length cR, .slice pL L.length cL] 28)).heap[w3.heap.size]? = some (.cells #[.slice pR R.length cR, .slice pL L.length cL] 28 (0, 0)) ∧ TgOk (w3.alloc (.cells #[.slice pR R.length cR, .slice pL L.length cL] 28)) (fun b => w2.heap.size ≤ b ∧ b < w3.heap.size) ⟨R, L, pR, cR, pL, cL⟩ ∧ Tp (w3.alloc (.cells #[.slice pR R.length cR, .slice pL L.length cL] 28)) a) :=
    Lib.hid ⟨heap_alloc_new w3 _, hT.keep gal, hs3.2.keep gal⟩
  have ha3 : a < w3.heap.size := Nat.lt_of_lt_of_le ha2 hs3.1.size
  clear hT hs3 gal hO hpT
  go_upto_region 3 with fail
  generalize w3.alloc _ = w4 at *
  have hw34 : w3.heap.size < w4.heap.size := box_lt HG.out.1
  have HQ4 : Hid (w4.heap[B0]? = some (.cells #[.int .i64 ha, .int .i64 ka] 41 (0, 0)) ∧ B0 < a) := Lib.hid ⟨kept_row HQ.out.1 HW4.out (by simp), by rw [HA.out]; exact box_lt HQ.out.1⟩
  refine wp_region_held_drew (S := fun w' => Hid (w4.grownBy w' (some a) ∧ Tp w' a)) (by kernel_rfl) (Lib.hid ⟨grown_drew (grown_refl _ _), HG.out.2.2.drew⟩) (fun hHeld => ?_)
  refine wpAnyH_take (i := 0) (oi := { dst := some 22, op := Op.move (Operand.tmp 11), type := 23, pos := "law.go:70", after := #[], guard := none }) (v := ?_) rfl (by kernel_rfl) (by kernel_rfl) (by kernel_rfl) (fun _ _ _ h => h) (Or.inl ⟨by rfl, ?_⟩) hHeld ?_
  rotate_left 1
  · intro u hSu
    obtain ⟨q0, q1⟩ := row_cells (kept_row HG.out.1 hSu.out.1 (fun e => by have := Option.some.inj e; omega))
    go_simp
    first | done | with_reducible rfl
  (try simp only [Act.put, List.setIfInBounds_toArray, List.set_cons_zero, List.set_cons_succ])
  refine wpAnyH_take (i := 1) (oi := { dst := some 23, op := Op.load 28 (Operand.tmp 12), type := 28, pos := "law.go:70", after := #[], guard := none }) (v := ?_) rfl (by kernel_rfl) (by kernel_rfl) (by kernel_rfl) (fun _ _ _ h => h) (Or.inl ⟨by rfl, ?_⟩) hHeld ?_
  rotate_left 1
  · intro u hSu
    obtain ⟨q0, q1⟩ := row_cells (kept_row HG.out.1 hSu.out.1 (fun e => by have := Option.some.inj e; omega))
    go_simp
    first | done | with_reducible rfl
  (try simp only [Act.put, List.setIfInBounds_toArray, List.set_cons_zero, List.set_cons_succ])
  refine wpAnyH_take (i := 3) (oi := { dst := some 25, op := Op.move (Operand.tmp 11), type := 23, pos := "law.go:70", after := #[], guard := none }) (v := ?_) rfl (by kernel_rfl) (by kernel_rfl) (by kernel_rfl) (fun _ _ _ h => h) (Or.inl ⟨by rfl, ?_⟩) hHeld ?_
  rotate_left 1
  · intro u hSu
    obtain ⟨q0, q1⟩ := row_cells (kept_row HG.out.1 hSu.out.1 (fun e => by have := Option.some.inj e; omega))
    go_simp
    first | done | with_reducible rfl
  (try simp only [Act.put, List.setIfInBounds_toArray, List.set_cons_zero, List.set_cons_succ])
  refine wpAnyH_take (i := 4) (oi := { dst := some 26, op := Op.load 28 (Operand.tmp 12), type := 28, pos := "law.go:70", after := #[], guard := none }) (v := ?_) rfl (by kernel_rfl) (by kernel_rfl) (by kernel_rfl) (fun _ _ _ h => h) (Or.inl ⟨by rfl, ?_⟩) hHeld ?_
  rotate_left 1
  · intro u hSu
    obtain ⟨q0, q1⟩ := row_cells (kept_row HG.out.1 hSu.out.1 (fun e => by have := Option.some.inj e; omega))
    go_simp
    first | done | with_reducible rfl
  (try simp only [Act.put, List.setIfInBounds_toArray, List.set_cons_zero, List.set_cons_succ])
  refine wpAnyH_take (i := 6) (oi := { dst := some 28, op := Op.move (Operand.tmp 11), type := 23, pos := "law.go:70", after := #[], guard := none }) (v := ?_) rfl (by kernel_rfl) (by kernel_rfl) (by kernel_rfl) (fun _ _ _ h => h) (Or.inl ⟨by rfl, ?_⟩) hHeld ?_
  rotate_left 1
  · intro u hSu
    obtain ⟨q0, q1⟩ := row_cells (kept_row HG.out.1 hSu.out.1 (fun e => by have := Option.some.inj e; omega))
    go_simp
    first | done | with_reducible rfl
  (try simp only [Act.put, List.setIfInBounds_toArray, List.set_cons_zero, List.set_cons_succ])
  refine wpAnyH_take (i := 7) (oi := { dst := some 29, op := Op.load 28 (Operand.tmp 12), type := 28, pos := "law.go:70", after := #[], guard := none }) (v := ?_) rfl (by kernel_rfl) (by kernel_rfl) (by kernel_rfl) (fun _ _ _ h => h) (Or.inl ⟨by rfl, ?_⟩) hHeld ?_
  rotate_left 1
  · intro u hSu
    obtain ⟨q0, q1⟩ := row_cells (kept_row HG.out.1 hSu.out.1 (fun e => by have := Option.some.inj e; omega))
    go_simp
    first | done | with_reducible rfl
  (try simp only [Act.put, List.setIfInBounds_toArray, List.set_cons_zero, List.set_cons_succ])
  refine wpAnyH_ready (rs := [2]) (by kernel_rfl) (by simp) ?_
  refine AllReadyH.cons (o := { dst := some 24, op := Op.call { callee := Callee.value (Operand.func 13), args := #[Operand.tmp 22, Operand.tmp 23, Operand.const (Value.int IntKind.i64 6)], argTypes := #[23, 28, 3] }, type := 3, pos := "law.go:70", after := #[{ on := 0, ground := Ground.data }, { on := 1, ground := Ground.data }], guard := none }) rfl (fun Kz hK => ?_) AllReadyH.nil
  go_simp
  go_at_call 13
  refine (srtr_any a ⟨R, L, pR, cR, pL, cL⟩ 6 (by unfold I64; omega) (fun b => w2.heap.size ≤ b ∧ b < w3.heap.size) _ (HG.out.2.1.grown hHeld.out.1 (fun b hb e => by have := Option.some.inj e; omega)) (fun b hb => by omega) hHeld.out.2).mono ?_
  rintro e wx1 ⟨x1, hx1, rfl, hs⟩
  have Hx1 : Hid (RtP ⟨R, L, pR, cR, pL, cL⟩ 6 x1) := Lib.hid hx1
  have hs1 := hs.1
  have hs2 := hs.2
  clear hx1 hs
  refine hK.out _ _ (Lib.hid ⟨grown_trans hHeld.out.1 hs1, hs2⟩) (fun hH2 => ?_)
  clear hK Kz hHeld
  have hHeld := hH2
  clear hH2
  (try simp only [Act.put, List.setIfInBounds_toArray, List.set_cons_zero, List.set_cons_succ])
  refine wpAnyH_ready (rs := [5]) (by kernel_rfl) (by simp) ?_
  refine AllReadyH.cons (o := { dst := some 27, op := Op.call { callee := Callee.value (Operand.func 13), args := #[Operand.tmp 25, Operand.tmp 26, Operand.const (Value.int IntKind.i64 6)], argTypes := #[23, 28, 3] }, type := 3, pos := "law.go:70", after := #[{ on := 3, ground := Ground.data }, { on := 4, ground := Ground.data }, { on := 2, ground := Ground.chain }], guard := none }) rfl (fun Kz hK => ?_) AllReadyH.nil
  go_simp
  go_at_call 13
  refine (srtr_any a ⟨R, L, pR, cR, pL, cL⟩ 6 (by unfold I64; omega) (fun b => w2.heap.size ≤ b ∧ b < w3.heap.size) _ (HG.out.2.1.grown hHeld.out.1 (fun b hb e => by have := Option.some.inj e; omega)) (fun b hb => by omega) hHeld.out.2).mono ?_
  rintro e wy1 ⟨y1, hy1, rfl, hs⟩
  have Hy1 : Hid (RtP ⟨R, L, pR, cR, pL, cL⟩ 6 y1) := Lib.hid hy1
  have hs1 := hs.1
  have hs2 := hs.2
  clear hy1 hs
  refine hK.out _ _ (Lib.hid ⟨grown_trans hHeld.out.1 hs1, hs2⟩) (fun hH2 => ?_)
  clear hK Kz hHeld
  have hHeld := hH2
  clear hH2
  (try simp only [Act.put, List.setIfInBounds_toArray, List.set_cons_zero, List.set_cons_succ])
  refine wpAnyH_ready (rs := [8]) (by kernel_rfl) (by simp) ?_
  refine AllReadyH.cons (o := { dst := some 30, op := Op.call { callee := Callee.value (Operand.func 13), args := #[Operand.tmp 28, Operand.tmp 29, Operand.const (Value.int IntKind.i64 6)], argTypes := #[23, 28, 3] }, type := 3, pos := "law.go:70", after := #[{ on := 6, ground := Ground.data }, { on := 7, ground := Ground.data }, { on := 5, ground := Ground.chain }], guard := none }) rfl (fun Kz hK => ?_) AllReadyH.nil
  go_simp
  go_at_call 13
  refine (srtr_any a ⟨R, L, pR, cR, pL, cL⟩ 6 (by unfold I64; omega) (fun b => w2.heap.size ≤ b ∧ b < w3.heap.size) _ (HG.out.2.1.grown hHeld.out.1 (fun b hb e => by have := Option.some.inj e; omega)) (fun b hb => by omega) hHeld.out.2).mono ?_
  rintro e wz1 ⟨z1, hz1, rfl, hs⟩
  have Hz1 : Hid (RtP ⟨R, L, pR, cR, pL, cL⟩ 6 z1) := Lib.hid hz1
  have hs1 := hs.1
  have hs2 := hs.2
  clear hz1 hs
  refine hK.out _ _ (Lib.hid ⟨grown_trans hHeld.out.1 hs1, hs2⟩) (fun hH2 => ?_)
  clear hK Kz hHeld
  have hHeld := hH2
  clear hH2
  (try simp only [Act.put, List.setIfInBounds_toArray, List.set_cons_zero, List.set_cons_succ])
  refine wpAnyH_take (i := 9) (oi := { dst := some 13, op := Op.assign (Operand.tmp 24), type := 3, pos := "law.go:70", after := #[{ on := 2, ground := Ground.data }, { on := 8, ground := Ground.chain }, { on := 0, ground := Ground.phase }, { on := 1, ground := Ground.phase }, { on := 2, ground := Ground.phase }, { on := 3, ground := Ground.textOnly Departure.lateStores }, { on := 4, ground := Ground.textOnly Departure.lateStores }, { on := 5, ground := Ground.textOnly Departure.lateStoresUnsure }, { on := 6, ground := Ground.textOnly Departure.lateStores }, { on := 7, ground := Ground.textOnly Departure.lateStores }, { on := 8, ground := Ground.textOnly Departure.lateStoresUnsure }], guard := none }) (v := ?_) rfl (by kernel_rfl) (by kernel_rfl) (by kernel_rfl) (fun _ _ _ h => h) (Or.inl ⟨by rfl, ?_⟩) hHeld ?_
  rotate_left 1
  · intro u hSu
    obtain ⟨q0, q1⟩ := row_cells (kept_row HG.out.1 hSu.out.1 (fun e => by have := Option.some.inj e; omega))
    go_simp
    first | done | with_reducible rfl
  (try simp only [Act.put, List.setIfInBounds_toArray, List.set_cons_zero, List.set_cons_succ])
  refine wpAnyH_take (i := 10) (oi := { dst := some 14, op := Op.assign (Operand.tmp 27), type := 3, pos := "law.go:70", after := #[{ on := 5, ground := Ground.data }, { on := 9, ground := Ground.chain }, { on := 0, ground := Ground.phase }, { on := 1, ground := Ground.phase }, { on := 2, ground := Ground.phase }, { on := 3, ground := Ground.phase }, { on := 4, ground := Ground.phase }, { on := 5, ground := Ground.phase }, { on := 6, ground := Ground.textOnly Departure.lateStores }, { on := 7, ground := Ground.textOnly Departure.lateStores }, { on := 8, ground := Ground.textOnly Departure.lateStoresUnsure }, { on := 9, ground := Ground.phase }], guard := none }) (v := ?_) rfl (by kernel_rfl) (by kernel_rfl) (by kernel_rfl) (fun _ _ _ h => h) (Or.inl ⟨by rfl, ?_⟩) hHeld ?_
  rotate_left 1
  · intro u hSu
    obtain ⟨q0, q1⟩ := row_cells (kept_row HG.out.1 hSu.out.1 (fun e => by have := Option.some.inj e; omega))
    go_simp
    first | done | with_reducible rfl
  (try simp only [Act.put, List.setIfInBounds_toArray, List.set_cons_zero, List.set_cons_succ])
  refine wpAnyH_take (i := 11) (oi := { dst := some 15, op := Op.assign (Operand.tmp 30), type := 3, pos := "law.go:70", after := #[{ on := 8, ground := Ground.data }, { on := 10, ground := Ground.chain }, { on := 0, ground := Ground.phase }, { on := 1, ground := Ground.phase }, { on := 2, ground := Ground.phase }, { on := 3, ground := Ground.phase }, { on := 4, ground := Ground.phase }, { on := 5, ground := Ground.phase }, { on := 6, ground := Ground.phase }, { on := 7, ground := Ground.phase }, { on := 8, ground := Ground.phase }, { on := 9, ground := Ground.phase }, { on := 10, ground := Ground.phase }], guard := none }) (v := ?_) rfl (by kernel_rfl) (by kernel_rfl) (by kernel_rfl) (fun _ _ _ h => h) (Or.inl ⟨by rfl, ?_⟩) hHeld ?_
  rotate_left 1
  · intro u hSu
    obtain ⟨q0, q1⟩ := row_cells (kept_row HG.out.1 hSu.out.1 (fun e => by have := Option.some.inj e; omega))
    go_simp
    first | done | with_reducible rfl
  (try simp only [Act.put, List.setIfInBounds_toArray, List.set_cons_zero, List.set_cons_succ])
  refine wpAnyH_done (by kernel_rfl) ?_ _
  obtain ⟨w5, hw5⟩ : ∃ w5, w5 = wz1 := ⟨_, rfl⟩
  have H5 := hHeld
  rw [← hw5] at H5 ⊢
  clear hHeld hw5
  have HI3 := Lib.hid (And.intro (HVT.out.rt Hx1.out) (And.intro (HVT.out.rt Hy1.out) (HVT.out.rt Hz1.out)))
  clear hs1 hs2
  go_upto_region 4 with fail
  go_cut [16] from 31 to 37 (fun p wx => ∃ (gH : Nat) (p1 p2 : Int), p = .pointer (some ⟨gH, 0, none⟩) ∧ w4.heap.size ≤ gH ∧ Hid (w4.grownBy wx (some a) ∧ Tp wx a) ∧ Hid (wx.heap[gH]? = some (.cells #[.int .i64 p1, .int .i64 p2] 41 (0, 0))) ∧ Hid (I64 p1))
  case first =>
    refine region_until (S := fun w' => Hid (w4.grownBy w' (some a) ∧ Tp w' a)) (fun j => j == 8) (by kernel_rfl) (Lib.hid ⟨grown_drew H5.out.1, H5.out.2.drew⟩) (fun hHeld => ?_)
    refine anyU_take (i := 0) (oi := { dst := some 31, op := Op.move (Operand.tmp 11), type := 23, pos := "law.go:71", after := #[], guard := none }) (v := ?_) rfl (by kernel_rfl) (by kernel_rfl) (by kernel_rfl) (by kernel_rfl) (by kernel_rfl) (fun _ _ _ h => h) (Or.inl ⟨by rfl, ?_⟩) hHeld ?_
    rotate_left 1
    · intro u hSu
      obtain ⟨q0, q1⟩ := row_cells (kept_row HG.out.1 hSu.out.1 (fun e => by have := Option.some.inj e; omega))
      go_simp
      first | done | with_reducible rfl
    (try simp only [Act.put, List.setIfInBounds_toArray, List.set_cons_zero, List.set_cons_succ])
    refine anyU_take (i := 1) (oi := { dst := some 32, op := Op.load 28 (Operand.tmp 12), type := 28, pos := "law.go:71", after := #[], guard := none }) (v := ?_) rfl (by kernel_rfl) (by kernel_rfl) (by kernel_rfl) (by kernel_rfl) (by kernel_rfl) (fun _ _ _ h => h) (Or.inl ⟨by rfl, ?_⟩) hHeld ?_
    rotate_left 1
    · intro u hSu
      obtain ⟨q0, q1⟩ := row_cells (kept_row HG.out.1 hSu.out.1 (fun e => by have := Option.some.inj e; omega))
      go_simp
      first | done | with_reducible rfl
    (try simp only [Act.put, List.setIfInBounds_toArray, List.set_cons_zero, List.set_cons_succ])
    refine anyU_take (i := 3) (oi := { dst := some 34, op := Op.move (Operand.tmp 11), type := 23, pos := "law.go:71", after := #[], guard := none }) (v := ?_) rfl (by kernel_rfl) (by kernel_rfl) (by kernel_rfl) (by kernel_rfl) (by kernel_rfl) (fun _ _ _ h => h) (Or.inl ⟨by rfl, ?_⟩) hHeld ?_
    rotate_left 1
    · intro u hSu
      obtain ⟨q0, q1⟩ := row_cells (kept_row HG.out.1 hSu.out.1 (fun e => by have := Option.some.inj e; omega))
      go_simp
      first | done | with_reducible rfl
    (try simp only [Act.put, List.setIfInBounds_toArray, List.set_cons_zero, List.set_cons_succ])
    refine anyU_take (i := 4) (oi := { dst := some 35, op := Op.load 28 (Operand.tmp 12), type := 28, pos := "law.go:71", after := #[], guard := none }) (v := ?_) rfl (by kernel_rfl) (by kernel_rfl) (by kernel_rfl) (by kernel_rfl) (by kernel_rfl) (fun _ _ _ h => h) (Or.inl ⟨by rfl, ?_⟩) hHeld ?_
    rotate_left 1
    · intro u hSu
      obtain ⟨q0, q1⟩ := row_cells (kept_row HG.out.1 hSu.out.1 (fun e => by have := Option.some.inj e; omega))
      go_simp
      first | done | with_reducible rfl
    (try simp only [Act.put, List.setIfInBounds_toArray, List.set_cons_zero, List.set_cons_succ])
    refine anyU_ready (rs := [2, 7]) (by kernel_rfl) (by simp) ?_
    refine EachU.cons (o := { dst := some 33, op := Op.call { callee := Callee.value (Operand.func 13), args := #[Operand.tmp 31, Operand.tmp 32, Operand.const (Value.int IntKind.i64 6)], argTypes := #[23, 28, 3] }, type := 3, pos := "law.go:71", after := #[{ on := 0, ground := Ground.data }, { on := 1, ground := Ground.data }], guard := none }) rfl (fun Kz hK => ?_) (EachU.cons (o := { dst := some 16, op := Op.alloc 41, type := 0, pos := "law.go:71", after := #[], guard := none }) rfl (fun Kz hK => ?_) EachU.nil)
    · go_simp
      go_at_call 13
      refine (srtr_any a ⟨R, L, pR, cR, pL, cL⟩ 6 (by unfold I64; omega) (fun b => w2.heap.size ≤ b ∧ b < w3.heap.size) _ (HG.out.2.1.grown hHeld.out.1 (fun b hb e => by have := Option.some.inj e; omega)) (fun b hb => by omega) hHeld.out.2).mono ?_
      rintro e wp1 ⟨p1, hp1, rfl, hs⟩
      have Hp1 : Hid (RtP ⟨R, L, pR, cR, pL, cL⟩ 6 p1) := Lib.hid hp1
      have hs1 := hs.1
      have hs2 := hs.2
      (try ((first | have HBX2 := Lib.hid (kept_row HBX.out.1 hs1 (fun e => by have := Option.some.inj e; have := HBX.out.2; omega)) | have HBX2 := Lib.hid (kept_rowD HBX.out.1 hs1 (fun e => by have := Option.some.inj e; have := HBX.out.2; omega))); have HBX3 := Lib.hid (And.intro HBX2.out HBX.out.2); clear HBX HBX2; have HBX := HBX3; clear HBX3))
      clear hp1 hs
      refine hK.out _ _ (fun _ => Lib.hid ⟨grown_trans hHeld.out.1 hs1, hs2⟩) (fun hH2 => ?_)
      clear hK Kz hHeld
      have hHeld := hH2 rfl
      clear hH2
      (try simp only [Act.put, List.setIfInBounds_toArray, List.set_cons_zero, List.set_cons_succ])
      refine anyU_ready (rs := [5, 7]) (by kernel_rfl) (by simp) ?_
      refine EachU.cons (o := { dst := some 36, op := Op.call { callee := Callee.value (Operand.func 13), args := #[Operand.tmp 34, Operand.tmp 35, Operand.const (Value.int IntKind.i64 6)], argTypes := #[23, 28, 3] }, type := 3, pos := "law.go:71", after := #[{ on := 3, ground := Ground.data }, { on := 4, ground := Ground.data }, { on := 2, ground := Ground.chain }], guard := none }) rfl (fun Kz hK => ?_) (EachU.cons (o := { dst := some 16, op := Op.alloc 41, type := 0, pos := "law.go:71", after := #[], guard := none }) rfl (fun Kz hK => ?_) EachU.nil)
      · go_simp
        go_at_call 13
        refine (srtr_any a ⟨R, L, pR, cR, pL, cL⟩ 6 (by unfold I64; omega) (fun b => w2.heap.size ≤ b ∧ b < w3.heap.size) _ (HG.out.2.1.grown hHeld.out.1 (fun b hb e => by have := Option.some.inj e; omega)) (fun b hb => by omega) hHeld.out.2).mono ?_
        rintro e wp2 ⟨p2, hp2, rfl, hs⟩
        have Hp2 : Hid (RtP ⟨R, L, pR, cR, pL, cL⟩ 6 p2) := Lib.hid hp2
        have hs1 := hs.1
        have hs2 := hs.2
        (try ((first | have HBX2 := Lib.hid (kept_row HBX.out.1 hs1 (fun e => by have := Option.some.inj e; have := HBX.out.2; omega)) | have HBX2 := Lib.hid (kept_rowD HBX.out.1 hs1 (fun e => by have := Option.some.inj e; have := HBX.out.2; omega))); have HBX3 := Lib.hid (And.intro HBX2.out HBX.out.2); clear HBX HBX2; have HBX := HBX3; clear HBX3))
        clear hp2 hs
        refine hK.out _ _ (fun _ => Lib.hid ⟨grown_trans hHeld.out.1 hs1, hs2⟩) (fun hH2 => ?_)
        clear hK Kz hHeld
        have hHeld := hH2 rfl
        clear hH2
        (try simp only [Act.put, List.setIfInBounds_toArray, List.set_cons_zero, List.set_cons_succ])
        refine anyU_take (i := 6) (oi := { dst := some 37, op := Op.build 41 #[(0, Operand.tmp 33), (1, Operand.tmp 36)], type := 41, pos := "law.go:71", after := #[{ on := 2, ground := Ground.data }, { on := 5, ground := Ground.data }], guard := none }) (v := ?_) rfl (by kernel_rfl) (by kernel_rfl) (by kernel_rfl) (by kernel_rfl) (by kernel_rfl) (fun _ _ _ h => h) (Or.inl ⟨by rfl, ?_⟩) hHeld ?_
        rotate_left 1
        · intro u hSu
          obtain ⟨q0, q1⟩ := row_cells (kept_row HG.out.1 hSu.out.1 (fun e => by have := Option.some.inj e; omega))
          go_simp
          first | done | with_reducible rfl
        (try simp only [Act.put, List.setIfInBounds_toArray, List.set_cons_zero, List.set_cons_succ])
        refine anyU_ready (rs := [7]) (by kernel_rfl) (by simp) ?_
        refine EachU.cons (o := { dst := some 16, op := Op.alloc 41, type := 0, pos := "law.go:71", after := #[], guard := none }) rfl (fun Kz hK => ?_) EachU.nil
        go_simp
        generalize hwB : World.alloc _ _ = wB
        have hb4 := hHeld.out.1.size
        obtain ⟨hb1, hb2, hb3⟩ := alloc_eq3 hwB hb4
        have HBX := Lib.hid (And.intro hb1 hb3)
        clear hwB hb1 hb3 hb4
        refine hK.out _ _ (fun _ => Lib.hid (by first | exact ⟨grown_trans hHeld.out.1 (grown_none hb2 _), hHeld.out.2.keep hb2⟩ | exact ⟨grown_drew (grown_trans H5.out.1 (grown_none hb2 _)), (H5.out.2.keep hb2).drew⟩)) (fun hH2 => ?_)
        clear hK Kz hHeld
        have hHeld := hH2 rfl
        clear hH2
        (try simp only [Act.put, List.setIfInBounds_toArray, List.set_cons_zero, List.set_cons_succ])
        refine anyU_ready (rs := [8]) (by kernel_rfl) (by simp) ?_
        refine EachU.cons (o := { dst := none, op := Op.store 41 (Operand.tmp 16) (Operand.tmp 37), type := 0, pos := "law.go:71", after := #[{ on := 7, ground := Ground.data }, { on := 6, ground := Ground.data }, { on := 5, ground := Ground.chain }, { on := 0, ground := Ground.phase }, { on := 1, ground := Ground.phase }, { on := 2, ground := Ground.phase }, { on := 3, ground := Ground.phase }, { on := 4, ground := Ground.phase }, { on := 5, ground := Ground.phase }, { on := 6, ground := Ground.phase }, { on := 7, ground := Ground.phase }], guard := none }) rfl (fun Kz hK => ?_) EachU.nil
        have HBY := HBX.out.1
        have z0 := cell_of_row _ _ 0 _ _ _ HBY
        have z1 := cell_of_row _ _ 1 _ _ _ HBY
        have y0q := frozen_of_row _ _ 0 _ _ HBY
        have y1q := frozen_of_row _ _ 1 _ _ HBY
        have hLast := hHeld
        go_simp
        refine hK.out _ _ (fun h => by cases h) (fun _ => ?_)
        clear hK Kz
        (try simp only [Act.put, List.setIfInBounds_toArray, List.set_cons_zero, List.set_cons_succ])
        refine anyU_done (by kernel_rfl) ?_ _
        obtain ⟨s1, s2⟩ := store2b (.int .i64 p1) (.int .i64 p2) HBY
        have hlt := HBX.out.2
        have HL : Hid (w4.grownBy _ (some a) ∧ Tp _ a) := Lib.hid ⟨grown_newS hLast.out.1 s2 hlt, hLast.out.2.otherS s2 (by omega)⟩
        go_wp2_with fail
        go_meet
        exact ⟨_, p1, p2, rfl, hlt, HL, Lib.hid s1, Lib.hid (HVT.out.rt Hp1.out)⟩
      · go_simp
        generalize hwB : World.alloc _ _ = wB
        have hb4 := hHeld.out.1.size
        obtain ⟨hb1, hb2, hb3⟩ := alloc_eq3 hwB hb4
        have HBX := Lib.hid (And.intro hb1 hb3)
        clear hwB hb1 hb3 hb4
        refine hK.out _ _ (fun _ => Lib.hid (by first | exact ⟨grown_trans hHeld.out.1 (grown_none hb2 _), hHeld.out.2.keep hb2⟩ | exact ⟨grown_drew (grown_trans H5.out.1 (grown_none hb2 _)), (H5.out.2.keep hb2).drew⟩)) (fun hH2 => ?_)
        clear hK Kz hHeld
        have hHeld := hH2 rfl
        clear hH2
        (try simp only [Act.put, List.setIfInBounds_toArray, List.set_cons_zero, List.set_cons_succ])
        refine anyU_ready (rs := [5]) (by kernel_rfl) (by simp) ?_
        refine EachU.cons (o := { dst := some 36, op := Op.call { callee := Callee.value (Operand.func 13), args := #[Operand.tmp 34, Operand.tmp 35, Operand.const (Value.int IntKind.i64 6)], argTypes := #[23, 28, 3] }, type := 3, pos := "law.go:71", after := #[{ on := 3, ground := Ground.data }, { on := 4, ground := Ground.data }, { on := 2, ground := Ground.chain }], guard := none }) rfl (fun Kz hK => ?_) EachU.nil
        go_simp
        go_at_call 13
        refine (srtr_any a ⟨R, L, pR, cR, pL, cL⟩ 6 (by unfold I64; omega) (fun b => w2.heap.size ≤ b ∧ b < w3.heap.size) _ (HG.out.2.1.grown hHeld.out.1 (fun b hb e => by have := Option.some.inj e; omega)) (fun b hb => by omega) hHeld.out.2).mono ?_
        rintro e wp2 ⟨p2, hp2, rfl, hs⟩
        have Hp2 : Hid (RtP ⟨R, L, pR, cR, pL, cL⟩ 6 p2) := Lib.hid hp2
        have hs1 := hs.1
        have hs2 := hs.2
        (try ((first | have HBX2 := Lib.hid (kept_row HBX.out.1 hs1 (fun e => by have := Option.some.inj e; have := HBX.out.2; omega)) | have HBX2 := Lib.hid (kept_rowD HBX.out.1 hs1 (fun e => by have := Option.some.inj e; have := HBX.out.2; omega))); have HBX3 := Lib.hid (And.intro HBX2.out HBX.out.2); clear HBX HBX2; have HBX := HBX3; clear HBX3))
        clear hp2 hs
        refine hK.out _ _ (fun _ => Lib.hid ⟨grown_trans hHeld.out.1 hs1, hs2⟩) (fun hH2 => ?_)
        clear hK Kz hHeld
        have hHeld := hH2 rfl
        clear hH2
        (try simp only [Act.put, List.setIfInBounds_toArray, List.set_cons_zero, List.set_cons_succ])
        refine anyU_take (i := 6) (oi := { dst := some 37, op := Op.build 41 #[(0, Operand.tmp 33), (1, Operand.tmp 36)], type := 41, pos := "law.go:71", after := #[{ on := 2, ground := Ground.data }, { on := 5, ground := Ground.data }], guard := none }) (v := ?_) rfl (by kernel_rfl) (by kernel_rfl) (by kernel_rfl) (by kernel_rfl) (by kernel_rfl) (fun _ _ _ h => h) (Or.inl ⟨by rfl, ?_⟩) hHeld ?_
        rotate_left 1
        · intro u hSu
          obtain ⟨q0, q1⟩ := row_cells (kept_row HG.out.1 hSu.out.1 (fun e => by have := Option.some.inj e; omega))
          go_simp
          first | done | with_reducible rfl
        (try simp only [Act.put, List.setIfInBounds_toArray, List.set_cons_zero, List.set_cons_succ])
        refine anyU_ready (rs := [8]) (by kernel_rfl) (by simp) ?_
        refine EachU.cons (o := { dst := none, op := Op.store 41 (Operand.tmp 16) (Operand.tmp 37), type := 0, pos := "law.go:71", after := #[{ on := 7, ground := Ground.data }, { on := 6, ground := Ground.data }, { on := 5, ground := Ground.chain }, { on := 0, ground := Ground.phase }, { on := 1, ground := Ground.phase }, { on := 2, ground := Ground.phase }, { on := 3, ground := Ground.phase }, { on := 4, ground := Ground.phase }, { on := 5, ground := Ground.phase }, { on := 6, ground := Ground.phase }, { on := 7, ground := Ground.phase }], guard := none }) rfl (fun Kz hK => ?_) EachU.nil
        have HBY := HBX.out.1
        have z0 := cell_of_row _ _ 0 _ _ _ HBY
        have z1 := cell_of_row _ _ 1 _ _ _ HBY
        have y0q := frozen_of_row _ _ 0 _ _ HBY
        have y1q := frozen_of_row _ _ 1 _ _ HBY
        have hLast := hHeld
        go_simp
        refine hK.out _ _ (fun h => by cases h) (fun _ => ?_)
        clear hK Kz
        (try simp only [Act.put, List.setIfInBounds_toArray, List.set_cons_zero, List.set_cons_succ])
        refine anyU_done (by kernel_rfl) ?_ _
        obtain ⟨s1, s2⟩ := store2b (.int .i64 p1) (.int .i64 p2) HBY
        have hlt := HBX.out.2
        have HL : Hid (w4.grownBy _ (some a) ∧ Tp _ a) := Lib.hid ⟨grown_newS hLast.out.1 s2 hlt, hLast.out.2.otherS s2 (by omega)⟩
        go_wp2_with fail
        go_meet
        exact ⟨_, p1, p2, rfl, hlt, HL, Lib.hid s1, Lib.hid (HVT.out.rt Hp1.out)⟩
    · go_simp
      generalize hwB : World.alloc _ _ = wB
      have hb4 := hHeld.out.1.size
      obtain ⟨hb1, hb2, hb3⟩ := alloc_eq3 hwB hb4
      have HBX := Lib.hid (And.intro hb1 hb3)
      clear hwB hb1 hb3 hb4
      refine hK.out _ _ (fun _ => Lib.hid (by first | exact ⟨grown_trans hHeld.out.1 (grown_none hb2 _), hHeld.out.2.keep hb2⟩ | exact ⟨grown_drew (grown_trans H5.out.1 (grown_none hb2 _)), (H5.out.2.keep hb2).drew⟩)) (fun hH2 => ?_)
      clear hK Kz hHeld
      have hHeld := hH2 rfl
      clear hH2
      (try simp only [Act.put, List.setIfInBounds_toArray, List.set_cons_zero, List.set_cons_succ])
      refine anyU_ready (rs := [2]) (by kernel_rfl) (by simp) ?_
      refine EachU.cons (o := { dst := some 33, op := Op.call { callee := Callee.value (Operand.func 13), args := #[Operand.tmp 31, Operand.tmp 32, Operand.const (Value.int IntKind.i64 6)], argTypes := #[23, 28, 3] }, type := 3, pos := "law.go:71", after := #[{ on := 0, ground := Ground.data }, { on := 1, ground := Ground.data }], guard := none }) rfl (fun Kz hK => ?_) EachU.nil
      go_simp
      go_at_call 13
      refine (srtr_any a ⟨R, L, pR, cR, pL, cL⟩ 6 (by unfold I64; omega) (fun b => w2.heap.size ≤ b ∧ b < w3.heap.size) _ (HG.out.2.1.grown hHeld.out.1 (fun b hb e => by have := Option.some.inj e; omega)) (fun b hb => by omega) hHeld.out.2).mono ?_
      rintro e wp1 ⟨p1, hp1, rfl, hs⟩
      have Hp1 : Hid (RtP ⟨R, L, pR, cR, pL, cL⟩ 6 p1) := Lib.hid hp1
      have hs1 := hs.1
      have hs2 := hs.2
      (try ((first | have HBX2 := Lib.hid (kept_row HBX.out.1 hs1 (fun e => by have := Option.some.inj e; have := HBX.out.2; omega)) | have HBX2 := Lib.hid (kept_rowD HBX.out.1 hs1 (fun e => by have := Option.some.inj e; have := HBX.out.2; omega))); have HBX3 := Lib.hid (And.intro HBX2.out HBX.out.2); clear HBX HBX2; have HBX := HBX3; clear HBX3))
      clear hp1 hs
      refine hK.out _ _ (fun _ => Lib.hid ⟨grown_trans hHeld.out.1 hs1, hs2⟩) (fun hH2 => ?_)
      clear hK Kz hHeld
      have hHeld := hH2 rfl
      clear hH2
      (try simp only [Act.put, List.setIfInBounds_toArray, List.set_cons_zero, List.set_cons_succ])
      refine anyU_ready (rs := [5]) (by kernel_rfl) (by simp) ?_
      refine EachU.cons (o := { dst := some 36, op := Op.call { callee := Callee.value (Operand.func 13), args := #[Operand.tmp 34, Operand.tmp 35, Operand.const (Value.int IntKind.i64 6)], argTypes := #[23, 28, 3] }, type := 3, pos := "law.go:71", after := #[{ on := 3, ground := Ground.data }, { on := 4, ground := Ground.data }, { on := 2, ground := Ground.chain }], guard := none }) rfl (fun Kz hK => ?_) EachU.nil
      go_simp
      go_at_call 13
      refine (srtr_any a ⟨R, L, pR, cR, pL, cL⟩ 6 (by unfold I64; omega) (fun b => w2.heap.size ≤ b ∧ b < w3.heap.size) _ (HG.out.2.1.grown hHeld.out.1 (fun b hb e => by have := Option.some.inj e; omega)) (fun b hb => by omega) hHeld.out.2).mono ?_
      rintro e wp2 ⟨p2, hp2, rfl, hs⟩
      have Hp2 : Hid (RtP ⟨R, L, pR, cR, pL, cL⟩ 6 p2) := Lib.hid hp2
      have hs1 := hs.1
      have hs2 := hs.2
      (try ((first | have HBX2 := Lib.hid (kept_row HBX.out.1 hs1 (fun e => by have := Option.some.inj e; have := HBX.out.2; omega)) | have HBX2 := Lib.hid (kept_rowD HBX.out.1 hs1 (fun e => by have := Option.some.inj e; have := HBX.out.2; omega))); have HBX3 := Lib.hid (And.intro HBX2.out HBX.out.2); clear HBX HBX2; have HBX := HBX3; clear HBX3))
      clear hp2 hs
      refine hK.out _ _ (fun _ => Lib.hid ⟨grown_trans hHeld.out.1 hs1, hs2⟩) (fun hH2 => ?_)
      clear hK Kz hHeld
      have hHeld := hH2 rfl
      clear hH2
      (try simp only [Act.put, List.setIfInBounds_toArray, List.set_cons_zero, List.set_cons_succ])
      refine anyU_take (i := 6) (oi := { dst := some 37, op := Op.build 41 #[(0, Operand.tmp 33), (1, Operand.tmp 36)], type := 41, pos := "law.go:71", after := #[{ on := 2, ground := Ground.data }, { on := 5, ground := Ground.data }], guard := none }) (v := ?_) rfl (by kernel_rfl) (by kernel_rfl) (by kernel_rfl) (by kernel_rfl) (by kernel_rfl) (fun _ _ _ h => h) (Or.inl ⟨by rfl, ?_⟩) hHeld ?_
      rotate_left 1
      · intro u hSu
        obtain ⟨q0, q1⟩ := row_cells (kept_row HG.out.1 hSu.out.1 (fun e => by have := Option.some.inj e; omega))
        go_simp
        first | done | with_reducible rfl
      (try simp only [Act.put, List.setIfInBounds_toArray, List.set_cons_zero, List.set_cons_succ])
      refine anyU_ready (rs := [8]) (by kernel_rfl) (by simp) ?_
      refine EachU.cons (o := { dst := none, op := Op.store 41 (Operand.tmp 16) (Operand.tmp 37), type := 0, pos := "law.go:71", after := #[{ on := 7, ground := Ground.data }, { on := 6, ground := Ground.data }, { on := 5, ground := Ground.chain }, { on := 0, ground := Ground.phase }, { on := 1, ground := Ground.phase }, { on := 2, ground := Ground.phase }, { on := 3, ground := Ground.phase }, { on := 4, ground := Ground.phase }, { on := 5, ground := Ground.phase }, { on := 6, ground := Ground.phase }, { on := 7, ground := Ground.phase }], guard := none }) rfl (fun Kz hK => ?_) EachU.nil
      have HBY := HBX.out.1
      have z0 := cell_of_row _ _ 0 _ _ _ HBY
      have z1 := cell_of_row _ _ 1 _ _ _ HBY
      have y0q := frozen_of_row _ _ 0 _ _ HBY
      have y1q := frozen_of_row _ _ 1 _ _ HBY
      have hLast := hHeld
      go_simp
      refine hK.out _ _ (fun h => by cases h) (fun _ => ?_)
      clear hK Kz
      (try simp only [Act.put, List.setIfInBounds_toArray, List.set_cons_zero, List.set_cons_succ])
      refine anyU_done (by kernel_rfl) ?_ _
      obtain ⟨s1, s2⟩ := store2b (.int .i64 p1) (.int .i64 p2) HBY
      have hlt := HBX.out.2
      have HL : Hid (w4.grownBy _ (some a) ∧ Tp _ a) := Lib.hid ⟨grown_newS hLast.out.1 s2 hlt, hLast.out.2.otherS s2 (by omega)⟩
      go_wp2_with fail
      go_meet
      exact ⟨_, p1, p2, rfl, hlt, HL, Lib.hid s1, Lib.hid (HVT.out.rt Hp1.out)⟩
  case rest =>
  obtain ⟨gH, p1, p2, rfl, hgH, H6, HH6, HP6⟩ := hcut
  obtain ⟨w6, rfl⟩ : ∃ w6, w6 = wc := ⟨_, rfl⟩
  clear H5
  go_upto_region 5 with fail
  go_cut [46] from 38 to 46 (fun zz wx => ∃ z' : Bool, zz = .bool z' ∧ (z' = true → 0 < L.length) ∧ Hid (w4.grownBy wx (some a) ∧ Tp wx a) ∧ Hid (wx.heap[gH]? = some (.cells #[.int .i64 p1, .int .i64 p2] 41 (0, 0))))
  case first =>
    obtain ⟨c0, c1⟩ := row_cells (kept_row HG.out.1 H6.out.1 (fun e => by have := Option.some.inj e; omega))
    by_cases hL0 : 0 < L.length
    · have hL1 : (0 : Int) < (L.length : Int) := by omega
      go_wp2_with fail
      refine (next_any a 4 (by unfold I64; omega) _ H6.out.2).mono ?_
      rintro e w7 ⟨qq, rfl, hq, hs⟩
      have HS7 := Lib.hid (And.intro (grown_trans H6.out.1 hs.1) hs.2)
      have HH7 := Lib.hid (kept_row HH6.out hs.1 (fun e => by have := Option.some.inj e; omega))
      clear hs hq
      by_cases hq0 : 0 < qq
      · go_wp2_with fail
        go_meet
        exact ⟨true, rfl, fun _ => hL0, HS7, HH7⟩
      · go_wp2_with fail
        go_meet
        exact ⟨false, by rw [decide_eq_false (by omega)], fun h => (by cases h), HS7, HH7⟩
    · have hL1 : ¬ (0 : Int) < (L.length : Int) := by omega
      go_wp2_with fail
      go_meet
      exact ⟨false, rfl, fun h => (by cases h), H6, HH6⟩
  case rest =>
  obtain ⟨z', rfl, hzl, H7, HH7⟩ := hcut
  obtain ⟨w7, rfl⟩ : ∃ w7, w7 = wc := ⟨_, rfl⟩
  have HZL := Lib.hid hzl
  clear hzl H6 HH6
  go_upto_if 46 with fail
  go_cut [17] from 47 to 60 (fun ll wx => ∃ p3 p4 : Int, Hid (w4.grownBy wx (some a)) ∧ Hid (wx.heap[gH]? = some (.cells #[.int .i64 p3, .int .i64 p4] 41 (0, 0))) ∧ Hid (okT R L = true → I64 p3))
  case first =>
    cases z' with
    | false =>
      go_wp2_with fail
      go_meet
      exact ⟨p1, p2, Lib.hid H7.out.1, HH7, Lib.hid (fun _ => HP6.out)⟩
    | true =>
      have hL0 := HZL.out rfl
      have hL1 : (0 : Int) < (L.length : Int) := by omega
      have hL60 := HVT.out.l60
      simp only at hL60
      obtain ⟨-, bL, oL, rfl, -, -⟩ := rdl_cells (L := L) HG.out.2.1.l hL0
      go_upto_region 6 with fail
      have HHA : Hid (w7.heap[gH]? = some (.cells #[.int .i64 p1, .int .i64 p2] 41 (0, 0))) := HH7
      refine region_until (S := fun w' => Hid (w4.grownBy w' (some a) ∧ Tp w' a)) (fun j => j == 10) (by kernel_rfl) (Lib.hid ⟨grown_drew H7.out.1, H7.out.2.drew⟩) (fun hHeld => ?_)
      refine anyU_take (i := 0) (oi := { dst := some 47, op := Op.fieldAddr 28 (Operand.tmp 12) 1, type := 0, pos := "law.go:73", after := #[], guard := none }) (v := ?_) rfl (by kernel_rfl) (by kernel_rfl) (by kernel_rfl) (by kernel_rfl) (by kernel_rfl) (fun _ _ _ h => h) (Or.inl ⟨by rfl, ?_⟩) hHeld ?_
      rotate_left 1
      · intro u hSu
        obtain ⟨q0, q1⟩ := row_cells (kept_row HG.out.1 hSu.out.1 (fun e => by have := Option.some.inj e; omega))
        go_simp
        first | done | with_reducible rfl
      (try simp only [Act.put, List.setIfInBounds_toArray, List.set_cons_zero, List.set_cons_succ])
      refine anyU_take (i := 1) (oi := { dst := some 48, op := Op.load 26 (Operand.tmp 47), type := 26, pos := "law.go:73", after := #[{ on := 0, ground := Ground.data }], guard := none }) (v := ?_) rfl (by kernel_rfl) (by kernel_rfl) (by kernel_rfl) (by kernel_rfl) (by kernel_rfl) (fun _ _ _ h => h) (Or.inl ⟨by rfl, ?_⟩) hHeld ?_
      rotate_left 1
      · intro u hSu
        obtain ⟨q0, q1⟩ := row_cells (kept_row HG.out.1 hSu.out.1 (fun e => by have := Option.some.inj e; omega))
        go_simp
        first | done | with_reducible rfl
      (try simp only [Act.put, List.setIfInBounds_toArray, List.set_cons_zero, List.set_cons_succ])
      refine anyU_take (i := 2) (oi := { dst := some 49, op := Op.move (Operand.tmp 11), type := 23, pos := "law.go:73", after := #[], guard := none }) (v := ?_) rfl (by kernel_rfl) (by kernel_rfl) (by kernel_rfl) (by kernel_rfl) (by kernel_rfl) (fun _ _ _ h => h) (Or.inl ⟨by rfl, ?_⟩) hHeld ?_
      rotate_left 1
      · intro u hSu
        obtain ⟨q0, q1⟩ := row_cells (kept_row HG.out.1 hSu.out.1 (fun e => by have := Option.some.inj e; omega))
        go_simp
        first | done | with_reducible rfl
      (try simp only [Act.put, List.setIfInBounds_toArray, List.set_cons_zero, List.set_cons_succ])
      refine anyU_take (i := 3) (oi := { dst := some 50, op := Op.fieldAddr 28 (Operand.tmp 12) 1, type := 0, pos := "law.go:73", after := #[], guard := none }) (v := ?_) rfl (by kernel_rfl) (by kernel_rfl) (by kernel_rfl) (by kernel_rfl) (by kernel_rfl) (fun _ _ _ h => h) (Or.inl ⟨by rfl, ?_⟩) hHeld ?_
      rotate_left 1
      · intro u hSu
        obtain ⟨q0, q1⟩ := row_cells (kept_row HG.out.1 hSu.out.1 (fun e => by have := Option.some.inj e; omega))
        go_simp
        first | done | with_reducible rfl
      (try simp only [Act.put, List.setIfInBounds_toArray, List.set_cons_zero, List.set_cons_succ])
      refine anyU_take (i := 4) (oi := { dst := some 51, op := Op.load 26 (Operand.tmp 50), type := 26, pos := "law.go:73", after := #[{ on := 3, ground := Ground.data }], guard := none }) (v := ?_) rfl (by kernel_rfl) (by kernel_rfl) (by kernel_rfl) (by kernel_rfl) (by kernel_rfl) (fun _ _ _ h => h) (Or.inl ⟨by rfl, ?_⟩) hHeld ?_
      rotate_left 1
      · intro u hSu
        obtain ⟨q0, q1⟩ := row_cells (kept_row HG.out.1 hSu.out.1 (fun e => by have := Option.some.inj e; omega))
        go_simp
        first | done | with_reducible rfl
      (try simp only [Act.put, List.setIfInBounds_toArray, List.set_cons_zero, List.set_cons_succ])
      refine anyU_take (i := 5) (oi := { dst := some 52, op := Op.call { callee := Callee.builtin Builtin.len, args := #[Operand.tmp 51], argTypes := #[26] }, type := 3, pos := "law.go:73", after := #[{ on := 4, ground := Ground.data }], guard := none }) (v := ?_) rfl (by kernel_rfl) (by kernel_rfl) (by kernel_rfl) (by kernel_rfl) (by kernel_rfl) (fun _ _ _ h => h) (Or.inl ⟨by rfl, ?_⟩) hHeld ?_
      rotate_left 1
      · intro u hSu
        obtain ⟨q0, q1⟩ := row_cells (kept_row HG.out.1 hSu.out.1 (fun e => by have := Option.some.inj e; omega))
        go_simp
        first | done | with_reducible rfl
      (try simp only [Act.put, List.setIfInBounds_toArray, List.set_cons_zero, List.set_cons_succ])
      refine anyU_ready (rs := [6, 9]) (by kernel_rfl) (by simp) ?_
      refine EachU.cons (o := { dst := some 53, op := Op.call { callee := Callee.value (Operand.func 24), args := #[Operand.tmp 49, Operand.tmp 52], argTypes := #[23, 3] }, type := 3, pos := "law.go:73", after := #[{ on := 2, ground := Ground.data }, { on := 5, ground := Ground.data }], guard := none }) rfl (fun Kz hK => ?_) (EachU.cons (o := { dst := some 17, op := Op.alloc 44, type := 0, pos := "law.go:73", after := #[], guard := none }) rfl (fun Kz hK => ?_) EachU.nil)
      · go_simp
        go_at_call 24
        refine (next_any a (L.length : Int) (by unfold I64; omega) _ hHeld.out.2).mono ?_
        rintro e wq ⟨qq, rfl, hq, hs⟩
        obtain ⟨kq, rfl⟩ := Int.eq_ofNat_of_zero_le hq.1
        have hkq : kq < L.length := by have := hq.2.1 (by omega); omega
        have hk0 : (0 : Int) ≤ (kq : Int) := by omega
        have hk1 : (kq : Int) < (L.length : Int) := by omega
        obtain ⟨l, hl⟩ : ∃ l, L[kq]? = some l := ⟨_, List.getElem?_eq_getElem hkq⟩
        have HLL := Lib.hid hl
        have hs1 := hs.1
        have hs2 := hs.2
        have HHQ : Hid (wq.heap[gH]? = _ ) := Lib.hid (by first | exact kept_row HHA.out hs1 (fun e => by have := Option.some.inj e; omega) | exact kept_rowD HHA.out hs1 (fun e => by have := Option.some.inj e; omega))
        clear HHA
        have HHA := HHQ
        clear HHQ
        (try ((first | have HBX2 := Lib.hid (kept_row HBX.out.1 hs1 (fun e => by have := Option.some.inj e; have := HBX.out.2; omega)) | have HBX2 := Lib.hid (kept_rowD HBX.out.1 hs1 (fun e => by have := Option.some.inj e; have := HBX.out.2; omega))); have HBX3 := Lib.hid (And.intro HBX2.out HBX.out.2); clear HBX HBX2; have HBX := HBX3; clear HBX3))
        clear hs hq hl
        refine hK.out _ _ (fun _ => Lib.hid ⟨grown_trans hHeld.out.1 hs1, hs2⟩) (fun hH2 => ?_)
        clear hK Kz hHeld
        have hHeld := hH2 rfl
        clear hH2
        (try simp only [Act.put, List.setIfInBounds_toArray, List.set_cons_zero, List.set_cons_succ])
        refine anyU_take (i := 7) (oi := { dst := some 54, op := Op.indexAddr 26 (Operand.tmp 48) (Operand.tmp 53), type := 0, pos := "law.go:73", after := #[{ on := 1, ground := Ground.data }, { on := 6, ground := Ground.data }], guard := none }) (v := ?_) rfl (by kernel_rfl) (by kernel_rfl) (by kernel_rfl) (by kernel_rfl) (by kernel_rfl) (fun _ _ _ h => h) (Or.inl ⟨by rfl, ?_⟩) hHeld ?_
        rotate_left 1
        · intro u hSu
          obtain ⟨q0, q1⟩ := row_cells (kept_row HG.out.1 hSu.out.1 (fun e => by have := Option.some.inj e; omega))
          go_simp
          first | done | with_reducible rfl
        (try simp only [Act.put, List.setIfInBounds_toArray, List.set_cons_zero, List.set_cons_succ])
        refine anyU_take (i := 8) (oi := { dst := some 55, op := Op.load 44 (Operand.tmp 54), type := 44, pos := "law.go:73", after := #[{ on := 7, ground := Ground.data }], guard := none }) (v := (.agg #[.int .i64 l.a, .int .i64 l.b, .int .i64 l.ca, .int .i64 l.cb, .int .i64 l.cp])) rfl (by kernel_rfl) (by kernel_rfl) (by kernel_rfl) (by kernel_rfl) (by kernel_rfl) (fun _ _ _ h => h) (Or.inl ⟨by rfl, ?_⟩) hHeld ?_
        · intro u hSu
          obtain ⟨q0, q1⟩ := row_cells (kept_row HG.out.1 hSu.out.1 (fun e => by have := Option.some.inj e; omega))
          obtain ⟨l0, l1, l2, l3, l4⟩ := lk_cells (HG.out.2.1.grown hSu.out.1 (fun b hb e => by have := Option.some.inj e; omega)) HLL.out
          go_simp
          first | done | with_reducible rfl
        (try simp only [Act.put, List.setIfInBounds_toArray, List.set_cons_zero, List.set_cons_succ])
        refine anyU_ready (rs := [9]) (by kernel_rfl) (by simp) ?_
        refine EachU.cons (o := { dst := some 17, op := Op.alloc 44, type := 0, pos := "law.go:73", after := #[], guard := none }) rfl (fun Kz hK => ?_) EachU.nil
        go_simp
        generalize hwB : World.alloc _ _ = wB
        have hb4 := hHeld.out.1.size
        obtain ⟨hb1, hb2, hb3⟩ := alloc_eq3 hwB hb4
        have HBX := Lib.hid (And.intro hb1 hb3)
        clear hwB hb1 hb3 hb4
        have HHB : Hid (wB.heap[gH]? = some (.cells #[.int .i64 p1, .int .i64 p2] 41 (0, 0)) ∧ gH < wB.heap.size) := Lib.hid (by first | exact ⟨kept_row HHA.out hb2 (by simp), box_lt (kept_row HHA.out hb2 (by simp))⟩ | exact ⟨kept_row (w := World.drew _) HHA.out hb2 (by simp), box_lt (kept_row (w := World.drew _) HHA.out hb2 (by simp))⟩)
        have hgne := box_lt HHA.out
        clear HHA
        have HHA := Lib.hid HHB.out.1
        clear HHB
        refine hK.out _ _ (fun _ => Lib.hid (by first | exact ⟨grown_trans hHeld.out.1 (grown_none hb2 _), hHeld.out.2.keep hb2⟩ | exact ⟨grown_drew (grown_trans H7.out.1 (grown_none hb2 _)), (H7.out.2.keep hb2).drew⟩)) (fun hH2 => ?_)
        clear hK Kz hHeld
        have hHeld := hH2 rfl
        clear hH2
        (try simp only [Act.put, List.setIfInBounds_toArray, List.set_cons_zero, List.set_cons_succ])
        refine anyU_ready (rs := [10]) (by kernel_rfl) (by simp) ?_
        refine EachU.cons (o := { dst := none, op := Op.store 44 (Operand.tmp 17) (Operand.tmp 55), type := 0, pos := "law.go:73", after := #[{ on := 9, ground := Ground.data }, { on := 8, ground := Ground.data }, { on := 6, ground := Ground.chain }, { on := 0, ground := Ground.phase }, { on := 1, ground := Ground.phase }, { on := 2, ground := Ground.phase }, { on := 3, ground := Ground.phase }, { on := 4, ground := Ground.phase }, { on := 5, ground := Ground.phase }, { on := 6, ground := Ground.phase }, { on := 7, ground := Ground.phase }, { on := 8, ground := Ground.phase }, { on := 9, ground := Ground.phase }], guard := none }) rfl (fun Kz hK => ?_) EachU.nil
        have HBY := HBX.out.1
        have z0 := cell_of_row _ _ 0 _ _ _ HBY
        have z1 := cell_of_row _ _ 1 _ _ _ HBY
        have z2 := cell_of_row _ _ 2 _ _ _ HBY
        have z3 := cell_of_row _ _ 3 _ _ _ HBY
        have z4 := cell_of_row _ _ 4 _ _ _ HBY
        have y0q := frozen_of_row _ _ 0 _ _ HBY
        have y1q := frozen_of_row _ _ 1 _ _ HBY
        have y2q := frozen_of_row _ _ 2 _ _ HBY
        have y3q := frozen_of_row _ _ 3 _ _ HBY
        have y4q := frozen_of_row _ _ 4 _ _ HBY
        have hLast := hHeld
        go_simp
        refine hK.out _ _ (fun h => by cases h) (fun _ => ?_)
        clear hK Kz
        (try simp only [Act.put, List.setIfInBounds_toArray, List.set_cons_zero, List.set_cons_succ])
        refine anyU_done (by kernel_rfl) ?_ _
        obtain ⟨s1, s2⟩ := store5b (.int .i64 l.a) (.int .i64 l.b) (.int .i64 l.ca) (.int .i64 l.cb) (.int .i64 l.cp) HBY
        have hlt := HBX.out.2
        have HL := Lib.hid (grown_newS hLast.out.1 s2 hlt)
        have HH8 := Lib.hid (kept_row HHA.out s2 (fun e => by have := Option.some.inj e; omega))
        have HS1 := Lib.hid s1
        clear s1 s2 HBY z0 z1 z2 z3 z4 y0q y1q y2q y3q y4q
        generalize World.setCell (World.setCell (World.setCell (World.setCell (World.setCell _ _ _) _ _) _ _) _ _) _ _ = w9 at *
        have e0 : w9.cell? _ = some (.int .i64 l.a) := (cell_of_row _ _ 0 _ _ _ HS1.out)
        have e1 : w9.cell? _ = some (.int .i64 l.b) := (cell_of_row _ _ 1 _ _ _ HS1.out)
        obtain ⟨g0, g1⟩ := row_cells HH8.out
        have f0 := frozen_of_row _ _ 0 _ _ HH8.out
        have f1 := frozen_of_row _ _ 1 _ _ HH8.out
        obtain ⟨t1, t2⟩ := store2b (.int .i64 l.b) (.int .i64 l.a) HH8.out
        have HOUT := Lib.hid (And.intro t1 (grown_newS HL.out t2 hgH))
        have HOK3 : Hid (okT R L = true → I64 l.b) := Lib.hid (fun h => by have := (okT_ends h l (List.mem_of_getElem? HLL.out)).2; unfold I64; omega)
        clear t1 t2
        go_wp2_with fail
        go_meet
        exact ⟨l.b, l.a, Lib.hid HOUT.out.2, Lib.hid HOUT.out.1, HOK3⟩
      · go_simp
        generalize hwB : World.alloc _ _ = wB
        have hb4 := hHeld.out.1.size
        obtain ⟨hb1, hb2, hb3⟩ := alloc_eq3 hwB hb4
        have HBX := Lib.hid (And.intro hb1 hb3)
        clear hwB hb1 hb3 hb4
        have HHB : Hid (wB.heap[gH]? = some (.cells #[.int .i64 p1, .int .i64 p2] 41 (0, 0)) ∧ gH < wB.heap.size) := Lib.hid (by first | exact ⟨kept_row HHA.out hb2 (by simp), box_lt (kept_row HHA.out hb2 (by simp))⟩ | exact ⟨kept_row (w := World.drew _) HHA.out hb2 (by simp), box_lt (kept_row (w := World.drew _) HHA.out hb2 (by simp))⟩)
        have hgne := box_lt HHA.out
        clear HHA
        have HHA := Lib.hid HHB.out.1
        clear HHB
        refine hK.out _ _ (fun _ => Lib.hid (by first | exact ⟨grown_trans hHeld.out.1 (grown_none hb2 _), hHeld.out.2.keep hb2⟩ | exact ⟨grown_drew (grown_trans H7.out.1 (grown_none hb2 _)), (H7.out.2.keep hb2).drew⟩)) (fun hH2 => ?_)
        clear hK Kz hHeld
        have hHeld := hH2 rfl
        clear hH2
        (try simp only [Act.put, List.setIfInBounds_toArray, List.set_cons_zero, List.set_cons_succ])
        refine anyU_ready (rs := [6]) (by kernel_rfl) (by simp) ?_
        refine EachU.cons (o := { dst := some 53, op := Op.call { callee := Callee.value (Operand.func 24), args := #[Operand.tmp 49, Operand.tmp 52], argTypes := #[23, 3] }, type := 3, pos := "law.go:73", after := #[{ on := 2, ground := Ground.data }, { on := 5, ground := Ground.data }], guard := none }) rfl (fun Kz hK => ?_) EachU.nil
        go_simp
        go_at_call 24
        refine (next_any a (L.length : Int) (by unfold I64; omega) _ hHeld.out.2).mono ?_
        rintro e wq ⟨qq, rfl, hq, hs⟩
        obtain ⟨kq, rfl⟩ := Int.eq_ofNat_of_zero_le hq.1
        have hkq : kq < L.length := by have := hq.2.1 (by omega); omega
        have hk0 : (0 : Int) ≤ (kq : Int) := by omega
        have hk1 : (kq : Int) < (L.length : Int) := by omega
        obtain ⟨l, hl⟩ : ∃ l, L[kq]? = some l := ⟨_, List.getElem?_eq_getElem hkq⟩
        have HLL := Lib.hid hl
        have hs1 := hs.1
        have hs2 := hs.2
        have HHQ : Hid (wq.heap[gH]? = _ ) := Lib.hid (by first | exact kept_row HHA.out hs1 (fun e => by have := Option.some.inj e; omega) | exact kept_rowD HHA.out hs1 (fun e => by have := Option.some.inj e; omega))
        clear HHA
        have HHA := HHQ
        clear HHQ
        (try ((first | have HBX2 := Lib.hid (kept_row HBX.out.1 hs1 (fun e => by have := Option.some.inj e; have := HBX.out.2; omega)) | have HBX2 := Lib.hid (kept_rowD HBX.out.1 hs1 (fun e => by have := Option.some.inj e; have := HBX.out.2; omega))); have HBX3 := Lib.hid (And.intro HBX2.out HBX.out.2); clear HBX HBX2; have HBX := HBX3; clear HBX3))
        clear hs hq hl
        refine hK.out _ _ (fun _ => Lib.hid ⟨grown_trans hHeld.out.1 hs1, hs2⟩) (fun hH2 => ?_)
        clear hK Kz hHeld
        have hHeld := hH2 rfl
        clear hH2
        (try simp only [Act.put, List.setIfInBounds_toArray, List.set_cons_zero, List.set_cons_succ])
        refine anyU_take (i := 7) (oi := { dst := some 54, op := Op.indexAddr 26 (Operand.tmp 48) (Operand.tmp 53), type := 0, pos := "law.go:73", after := #[{ on := 1, ground := Ground.data }, { on := 6, ground := Ground.data }], guard := none }) (v := ?_) rfl (by kernel_rfl) (by kernel_rfl) (by kernel_rfl) (by kernel_rfl) (by kernel_rfl) (fun _ _ _ h => h) (Or.inl ⟨by rfl, ?_⟩) hHeld ?_
        rotate_left 1
        · intro u hSu
          obtain ⟨q0, q1⟩ := row_cells (kept_row HG.out.1 hSu.out.1 (fun e => by have := Option.some.inj e; omega))
          go_simp
          first | done | with_reducible rfl
        (try simp only [Act.put, List.setIfInBounds_toArray, List.set_cons_zero, List.set_cons_succ])
        refine anyU_take (i := 8) (oi := { dst := some 55, op := Op.load 44 (Operand.tmp 54), type := 44, pos := "law.go:73", after := #[{ on := 7, ground := Ground.data }], guard := none }) (v := (.agg #[.int .i64 l.a, .int .i64 l.b, .int .i64 l.ca, .int .i64 l.cb, .int .i64 l.cp])) rfl (by kernel_rfl) (by kernel_rfl) (by kernel_rfl) (by kernel_rfl) (by kernel_rfl) (fun _ _ _ h => h) (Or.inl ⟨by rfl, ?_⟩) hHeld ?_
        · intro u hSu
          obtain ⟨q0, q1⟩ := row_cells (kept_row HG.out.1 hSu.out.1 (fun e => by have := Option.some.inj e; omega))
          obtain ⟨l0, l1, l2, l3, l4⟩ := lk_cells (HG.out.2.1.grown hSu.out.1 (fun b hb e => by have := Option.some.inj e; omega)) HLL.out
          go_simp
          first | done | with_reducible rfl
        (try simp only [Act.put, List.setIfInBounds_toArray, List.set_cons_zero, List.set_cons_succ])
        refine anyU_ready (rs := [10]) (by kernel_rfl) (by simp) ?_
        refine EachU.cons (o := { dst := none, op := Op.store 44 (Operand.tmp 17) (Operand.tmp 55), type := 0, pos := "law.go:73", after := #[{ on := 9, ground := Ground.data }, { on := 8, ground := Ground.data }, { on := 6, ground := Ground.chain }, { on := 0, ground := Ground.phase }, { on := 1, ground := Ground.phase }, { on := 2, ground := Ground.phase }, { on := 3, ground := Ground.phase }, { on := 4, ground := Ground.phase }, { on := 5, ground := Ground.phase }, { on := 6, ground := Ground.phase }, { on := 7, ground := Ground.phase }, { on := 8, ground := Ground.phase }, { on := 9, ground := Ground.phase }], guard := none }) rfl (fun Kz hK => ?_) EachU.nil
        have HBY := HBX.out.1
        have z0 := cell_of_row _ _ 0 _ _ _ HBY
        have z1 := cell_of_row _ _ 1 _ _ _ HBY
        have z2 := cell_of_row _ _ 2 _ _ _ HBY
        have z3 := cell_of_row _ _ 3 _ _ _ HBY
        have z4 := cell_of_row _ _ 4 _ _ _ HBY
        have y0q := frozen_of_row _ _ 0 _ _ HBY
        have y1q := frozen_of_row _ _ 1 _ _ HBY
        have y2q := frozen_of_row _ _ 2 _ _ HBY
        have y3q := frozen_of_row _ _ 3 _ _ HBY
        have y4q := frozen_of_row _ _ 4 _ _ HBY
        have hLast := hHeld
        go_simp
        refine hK.out _ _ (fun h => by cases h) (fun _ => ?_)
        clear hK Kz
        (try simp only [Act.put, List.setIfInBounds_toArray, List.set_cons_zero, List.set_cons_succ])
        refine anyU_done (by kernel_rfl) ?_ _
        obtain ⟨s1, s2⟩ := store5b (.int .i64 l.a) (.int .i64 l.b) (.int .i64 l.ca) (.int .i64 l.cb) (.int .i64 l.cp) HBY
        have hlt := HBX.out.2
        have HL := Lib.hid (grown_newS hLast.out.1 s2 hlt)
        have HH8 := Lib.hid (kept_row HHA.out s2 (fun e => by have := Option.some.inj e; omega))
        have HS1 := Lib.hid s1
        clear s1 s2 HBY z0 z1 z2 z3 z4 y0q y1q y2q y3q y4q
        generalize World.setCell (World.setCell (World.setCell (World.setCell (World.setCell _ _ _) _ _) _ _) _ _) _ _ = w9 at *
        have e0 : w9.cell? _ = some (.int .i64 l.a) := (cell_of_row _ _ 0 _ _ _ HS1.out)
        have e1 : w9.cell? _ = some (.int .i64 l.b) := (cell_of_row _ _ 1 _ _ _ HS1.out)
        obtain ⟨g0, g1⟩ := row_cells HH8.out
        have f0 := frozen_of_row _ _ 0 _ _ HH8.out
        have f1 := frozen_of_row _ _ 1 _ _ HH8.out
        obtain ⟨t1, t2⟩ := store2b (.int .i64 l.b) (.int .i64 l.a) HH8.out
        have HOUT := Lib.hid (And.intro t1 (grown_newS HL.out t2 hgH))
        have HOK3 : Hid (okT R L = true → I64 l.b) := Lib.hid (fun h => by have := (okT_ends h l (List.mem_of_getElem? HLL.out)).2; unfold I64; omega)
        clear t1 t2
        go_wp2_with fail
        go_meet
        exact ⟨l.b, l.a, Lib.hid HOUT.out.2, Lib.hid HOUT.out.1, HOK3⟩
  case rest =>
  obtain ⟨p3, p4, H8, HH8, HP8⟩ := hcut
  obtain ⟨w8, rfl⟩ : ∃ w8, w8 = wc := ⟨_, rfl⟩
  have HL8 : Hid (LW w w3.heap.size ⟨R, L, pR, cR, pL, cL⟩ w8) := Lib.hid ⟨kept_row HG.out.1 H8.out (fun e => by have := Option.some.inj e; omega), (HG.out.2.1.grown H8.out (fun b hb e => by have := Option.some.inj e; omega)).mono (fun b hb => hb.2), grown_trans HQ.out.2 (grown_new HW4.out H8.out (by rw [HA.out]; exact Nat.le_refl _))⟩
  have HB8 : Hid (w8.heap[B0]? = some (.cells #[.int .i64 ha, .int .i64 ka] 41 (0, 0))) := Lib.hid (kept_row HQ4.out.1 H8.out (fun e => by have := Option.some.inj e; have := HQ4.out.2; omega))
  obtain ⟨G, hG⟩ : ∃ G, G = w3.heap.size := ⟨_, rfl⟩
  rw [← hG] at HL8
  rw [← hG]
  have hR := HVT.out.len
  have hL := HVT.out.l60
  simp only at hR hL
  clear hG ha2 ha3 hw34 hgH HG HW4 H2 HA HQ HQ4 H7 HH7 H8
  go_upto_region 8 with fail
  obtain ⟨v1, hv1⟩ : ∃ x, usV R L x1 y1 p3 p4 = x := ⟨_, rfl⟩
  have HV1 := Lib.hid hv1
  obtain ⟨v2, hv2⟩ : ∃ x, usV R L xa ya ha ka = x := ⟨_, rfl⟩
  have HV2 := Lib.hid hv2
  obtain ⟨v3, hv3⟩ : ∃ x, avV R L x1 y1 z1 = x := ⟨_, rfl⟩
  have HV3 := Lib.hid hv3
  obtain ⟨v4, hv4⟩ : ∃ x, avV R L xa ya za = x := ⟨_, rfl⟩
  have HV4 := Lib.hid hv4
  clear hv1 hv2 hv3 hv4
  refine wp_region_held_drew (S := fun w' => Hid (w8.grownBy w' none)) (by kernel_rfl) (Lib.hid (grown_drew (grown_refl _ _))) (fun hHeld => ?_)
  refine wpAnyH_take (i := 0) (oi := { dst := some 61, op := Op.load 28 (Operand.tmp 12), type := 28, pos := "law.go:76", after := #[], guard := none }) (v := ?_) rfl (by kernel_rfl) (by kernel_rfl) (by kernel_rfl) (fun _ _ _ h => h) (Or.inl ⟨by rfl, ?_⟩) hHeld ?_
  rotate_left 1
  · intro u hSu
    obtain ⟨q0, q1⟩ := row_cells (kept_row HL8.out.gb hSu.out (by simp))
    obtain ⟨q2, q3⟩ := row_cells (kept_row HB8.out hSu.out (by simp))
    obtain ⟨q4, q5⟩ := row_cells (kept_row HH8.out hSu.out (by simp))
    go_simp
    first | done | with_reducible rfl
  (try simp only [Act.put, List.setIfInBounds_toArray, List.set_cons_zero, List.set_cons_succ])
  refine wpAnyH_take (i := 1) (oi := { dst := some 62, op := Op.move (Operand.tmp 13), type := 3, pos := "law.go:76", after := #[], guard := none }) (v := ?_) rfl (by kernel_rfl) (by kernel_rfl) (by kernel_rfl) (fun _ _ _ h => h) (Or.inl ⟨by rfl, ?_⟩) hHeld ?_
  rotate_left 1
  · intro u hSu
    obtain ⟨q0, q1⟩ := row_cells (kept_row HL8.out.gb hSu.out (by simp))
    obtain ⟨q2, q3⟩ := row_cells (kept_row HB8.out hSu.out (by simp))
    obtain ⟨q4, q5⟩ := row_cells (kept_row HH8.out hSu.out (by simp))
    go_simp
    first | done | with_reducible rfl
  (try simp only [Act.put, List.setIfInBounds_toArray, List.set_cons_zero, List.set_cons_succ])
  refine wpAnyH_take (i := 2) (oi := { dst := some 63, op := Op.move (Operand.tmp 14), type := 3, pos := "law.go:76", after := #[], guard := none }) (v := ?_) rfl (by kernel_rfl) (by kernel_rfl) (by kernel_rfl) (fun _ _ _ h => h) (Or.inl ⟨by rfl, ?_⟩) hHeld ?_
  rotate_left 1
  · intro u hSu
    obtain ⟨q0, q1⟩ := row_cells (kept_row HL8.out.gb hSu.out (by simp))
    obtain ⟨q2, q3⟩ := row_cells (kept_row HB8.out hSu.out (by simp))
    obtain ⟨q4, q5⟩ := row_cells (kept_row HH8.out hSu.out (by simp))
    go_simp
    first | done | with_reducible rfl
  (try simp only [Act.put, List.setIfInBounds_toArray, List.set_cons_zero, List.set_cons_succ])
  refine wpAnyH_take (i := 3) (oi := { dst := some 64, op := Op.load 41 (Operand.tmp 16), type := 41, pos := "law.go:76", after := #[], guard := none }) (v := ?_) rfl (by kernel_rfl) (by kernel_rfl) (by kernel_rfl) (fun _ _ _ h => h) (Or.inl ⟨by rfl, ?_⟩) hHeld ?_
  rotate_left 1
  · intro u hSu
    obtain ⟨q0, q1⟩ := row_cells (kept_row HL8.out.gb hSu.out (by simp))
    obtain ⟨q2, q3⟩ := row_cells (kept_row HB8.out hSu.out (by simp))
    obtain ⟨q4, q5⟩ := row_cells (kept_row HH8.out hSu.out (by simp))
    go_simp
    first | done | with_reducible rfl
  (try simp only [Act.put, List.setIfInBounds_toArray, List.set_cons_zero, List.set_cons_succ])
  refine wpAnyH_take (i := 5) (oi := { dst := some 66, op := Op.load 28 (Operand.tmp 12), type := 28, pos := "law.go:76", after := #[], guard := none }) (v := ?_) rfl (by kernel_rfl) (by kernel_rfl) (by kernel_rfl) (fun _ _ _ h => h) (Or.inl ⟨by rfl, ?_⟩) hHeld ?_
  rotate_left 1
  · intro u hSu
    obtain ⟨q0, q1⟩ := row_cells (kept_row HL8.out.gb hSu.out (by simp))
    obtain ⟨q2, q3⟩ := row_cells (kept_row HB8.out hSu.out (by simp))
    obtain ⟨q4, q5⟩ := row_cells (kept_row HH8.out hSu.out (by simp))
    go_simp
    first | done | with_reducible rfl
  (try simp only [Act.put, List.setIfInBounds_toArray, List.set_cons_zero, List.set_cons_succ])
  refine wpAnyH_take (i := 6) (oi := { dst := some 67, op := Op.move (Operand.tmp 13), type := 3, pos := "law.go:76", after := #[], guard := none }) (v := ?_) rfl (by kernel_rfl) (by kernel_rfl) (by kernel_rfl) (fun _ _ _ h => h) (Or.inl ⟨by rfl, ?_⟩) hHeld ?_
  rotate_left 1
  · intro u hSu
    obtain ⟨q0, q1⟩ := row_cells (kept_row HL8.out.gb hSu.out (by simp))
    obtain ⟨q2, q3⟩ := row_cells (kept_row HB8.out hSu.out (by simp))
    obtain ⟨q4, q5⟩ := row_cells (kept_row HH8.out hSu.out (by simp))
    go_simp
    first | done | with_reducible rfl
  (try simp only [Act.put, List.setIfInBounds_toArray, List.set_cons_zero, List.set_cons_succ])
  refine wpAnyH_take (i := 7) (oi := { dst := some 68, op := Op.move (Operand.tmp 14), type := 3, pos := "law.go:76", after := #[], guard := none }) (v := ?_) rfl (by kernel_rfl) (by kernel_rfl) (by kernel_rfl) (fun _ _ _ h => h) (Or.inl ⟨by rfl, ?_⟩) hHeld ?_
  rotate_left 1
  · intro u hSu
    obtain ⟨q0, q1⟩ := row_cells (kept_row HL8.out.gb hSu.out (by simp))
    obtain ⟨q2, q3⟩ := row_cells (kept_row HB8.out hSu.out (by simp))
    obtain ⟨q4, q5⟩ := row_cells (kept_row HH8.out hSu.out (by simp))
    go_simp
    first | done | with_reducible rfl
  (try simp only [Act.put, List.setIfInBounds_toArray, List.set_cons_zero, List.set_cons_succ])
  refine wpAnyH_take (i := 8) (oi := { dst := some 69, op := Op.load 41 (Operand.tmp 16), type := 41, pos := "law.go:76", after := #[], guard := none }) (v := ?_) rfl (by kernel_rfl) (by kernel_rfl) (by kernel_rfl) (fun _ _ _ h => h) (Or.inl ⟨by rfl, ?_⟩) hHeld ?_
  rotate_left 1
  · intro u hSu
    obtain ⟨q0, q1⟩ := row_cells (kept_row HL8.out.gb hSu.out (by simp))
    obtain ⟨q2, q3⟩ := row_cells (kept_row HB8.out hSu.out (by simp))
    obtain ⟨q4, q5⟩ := row_cells (kept_row HH8.out hSu.out (by simp))
    go_simp
    first | done | with_reducible rfl
  (try simp only [Act.put, List.setIfInBounds_toArray, List.set_cons_zero, List.set_cons_succ])
  refine wpAnyH_ready (rs := [4]) (by kernel_rfl) (by simp) ?_
  refine AllReadyH.cons (o := { dst := some 65, op := Op.call { callee := Callee.value (Operand.func 25), args := #[Operand.tmp 61, Operand.tmp 62, Operand.tmp 63, Operand.tmp 64], argTypes := #[28, 3, 3, 41] }, type := 4, pos := "law.go:76", after := #[{ on := 0, ground := Ground.data }, { on := 1, ground := Ground.data }, { on := 2, ground := Ground.data }, { on := 3, ground := Ground.data }], guard := none }) rfl (fun Kz hK => ?_) AllReadyH.nil
  go_simp
  go_at_call 25
  refine (tusesW_any ⟨R, L, pR, cR, pL, cL⟩ x1 y1 p3 p4 _ _ ((HL8.out.keep hHeld.out).t) hR hL HVT.out.pl HI3.out.2.1 HP8.out).mono ?_
  rintro e wv1 ⟨rfl, hgv1⟩
  (try simp only)
  rw [HV1.out]
  refine hK.out _ _ (Lib.hid (grown_trans hHeld.out hgv1)) (fun hH2 => ?_)
  clear hK Kz hHeld
  have hHeld := hH2
  clear hH2
  (try simp only [Act.put, List.setIfInBounds_toArray, List.set_cons_zero, List.set_cons_succ])
  refine wpAnyH_ready (rs := [9]) (by kernel_rfl) (by simp) ?_
  refine AllReadyH.cons (o := { dst := some 70, op := Op.call { callee := Callee.value (Operand.func 26), args := #[Operand.tmp 66, Operand.tmp 67, Operand.tmp 68, Operand.tmp 69], argTypes := #[28, 3, 3, 41] }, type := 4, pos := "law.go:76", after := #[{ on := 5, ground := Ground.data }, { on := 6, ground := Ground.data }, { on := 7, ground := Ground.data }, { on := 8, ground := Ground.data }, { on := 4, ground := Ground.chain }], guard := none }) rfl (fun Kz hK => ?_) AllReadyH.nil
  go_simp
  go_at_call 26
  refine (rus_any ⟨R, L, pR, cR, pL, cL⟩ x1 y1 p3 p4 _ _ ((HL8.out.keep hHeld.out).t)).mono ?_
  rintro e wv2 ⟨rfl, hgv2⟩
  (try simp only)
  rw [HV1.out]
  refine hK.out _ _ (Lib.hid (grown_trans hHeld.out hgv2)) (fun hH2 => ?_)
  clear hK Kz hHeld
  have hHeld := hH2
  clear hH2
  (try simp only [Act.put, List.setIfInBounds_toArray, List.set_cons_zero, List.set_cons_succ])
  refine wpAnyH_take (i := 10) (oi := { dst := some 71, op := Op.binOp BinOp.eql 4 (Operand.tmp 65) (Operand.tmp 70) 4, type := 4, pos := "law.go:76", after := #[{ on := 4, ground := Ground.data }, { on := 9, ground := Ground.data }], guard := none }) (v := (.bool true)) rfl (by kernel_rfl) (by kernel_rfl) (by kernel_rfl) (fun _ _ _ h => h) (Or.inl ⟨by rfl, ?_⟩) hHeld ?_
  · intro u hSu
    obtain ⟨q0, q1⟩ := row_cells (kept_row HL8.out.gb hSu.out (by simp))
    obtain ⟨q2, q3⟩ := row_cells (kept_row HB8.out hSu.out (by simp))
    obtain ⟨q4, q5⟩ := row_cells (kept_row HH8.out hSu.out (by simp))
    go_simp
    first | done | simp
  (try simp only [Act.put, List.setIfInBounds_toArray, List.set_cons_zero, List.set_cons_succ])
  refine wpAnyH_take (i := 11) (oi := { dst := some 72, op := Op.move (Operand.tmp 71), type := 4, pos := "law.go:76", after := #[{ on := 10, ground := Ground.data }, { on := 9, ground := Ground.chain }], guard := none }) (v := ?_) rfl (by kernel_rfl) (by kernel_rfl) (by kernel_rfl) (fun _ _ _ h => h) (Or.inl ⟨by rfl, ?_⟩) hHeld ?_
  rotate_left 1
  · intro u hSu
    obtain ⟨q0, q1⟩ := row_cells (kept_row HL8.out.gb hSu.out (by simp))
    obtain ⟨q2, q3⟩ := row_cells (kept_row HB8.out hSu.out (by simp))
    obtain ⟨q4, q5⟩ := row_cells (kept_row HH8.out hSu.out (by simp))
    go_simp
    first | done | with_reducible rfl
  (try simp only [Act.put, List.setIfInBounds_toArray, List.set_cons_zero, List.set_cons_succ])
  refine wpAnyH_take (i := 12) (oi := { dst := some 73, op := Op.load 28 (Operand.tmp 12), type := 28, pos := "law.go:76", after := #[{ on := 11, ground := Ground.guard }], guard := some (11, true) }) (v := ?_) rfl (by kernel_rfl) (by kernel_rfl) (by kernel_rfl) (fun _ _ _ h => h) (Or.inl ⟨by rfl, ?_⟩) hHeld ?_
  rotate_left 1
  · intro u hSu
    obtain ⟨q0, q1⟩ := row_cells (kept_row HL8.out.gb hSu.out (by simp))
    obtain ⟨q2, q3⟩ := row_cells (kept_row HB8.out hSu.out (by simp))
    obtain ⟨q4, q5⟩ := row_cells (kept_row HH8.out hSu.out (by simp))
    go_simp
    first | done | with_reducible rfl
  (try simp only [Act.put, List.setIfInBounds_toArray, List.set_cons_zero, List.set_cons_succ])
  refine wpAnyH_take (i := 13) (oi := { dst := some 74, op := Op.move (Operand.tmp 1), type := 3, pos := "law.go:76", after := #[{ on := 11, ground := Ground.guard }], guard := some (11, true) }) (v := ?_) rfl (by kernel_rfl) (by kernel_rfl) (by kernel_rfl) (fun _ _ _ h => h) (Or.inl ⟨by rfl, ?_⟩) hHeld ?_
  rotate_left 1
  · intro u hSu
    obtain ⟨q0, q1⟩ := row_cells (kept_row HL8.out.gb hSu.out (by simp))
    obtain ⟨q2, q3⟩ := row_cells (kept_row HB8.out hSu.out (by simp))
    obtain ⟨q4, q5⟩ := row_cells (kept_row HH8.out hSu.out (by simp))
    go_simp
    first | done | with_reducible rfl
  (try simp only [Act.put, List.setIfInBounds_toArray, List.set_cons_zero, List.set_cons_succ])
  refine wpAnyH_take (i := 14) (oi := { dst := some 75, op := Op.move (Operand.tmp 2), type := 3, pos := "law.go:76", after := #[{ on := 11, ground := Ground.guard }], guard := some (11, true) }) (v := ?_) rfl (by kernel_rfl) (by kernel_rfl) (by kernel_rfl) (fun _ _ _ h => h) (Or.inl ⟨by rfl, ?_⟩) hHeld ?_
  rotate_left 1
  · intro u hSu
    obtain ⟨q0, q1⟩ := row_cells (kept_row HL8.out.gb hSu.out (by simp))
    obtain ⟨q2, q3⟩ := row_cells (kept_row HB8.out hSu.out (by simp))
    obtain ⟨q4, q5⟩ := row_cells (kept_row HH8.out hSu.out (by simp))
    go_simp
    first | done | with_reducible rfl
  (try simp only [Act.put, List.setIfInBounds_toArray, List.set_cons_zero, List.set_cons_succ])
  refine wpAnyH_take (i := 15) (oi := { dst := some 76, op := Op.load 41 (Operand.tmp 9), type := 41, pos := "law.go:76", after := #[{ on := 11, ground := Ground.guard }], guard := some (11, true) }) (v := ?_) rfl (by kernel_rfl) (by kernel_rfl) (by kernel_rfl) (fun _ _ _ h => h) (Or.inl ⟨by rfl, ?_⟩) hHeld ?_
  rotate_left 1
  · intro u hSu
    obtain ⟨q0, q1⟩ := row_cells (kept_row HL8.out.gb hSu.out (by simp))
    obtain ⟨q2, q3⟩ := row_cells (kept_row HB8.out hSu.out (by simp))
    obtain ⟨q4, q5⟩ := row_cells (kept_row HH8.out hSu.out (by simp))
    go_simp
    first | done | with_reducible rfl
  (try simp only [Act.put, List.setIfInBounds_toArray, List.set_cons_zero, List.set_cons_succ])
  refine wpAnyH_take (i := 17) (oi := { dst := some 78, op := Op.load 28 (Operand.tmp 12), type := 28, pos := "law.go:76", after := #[{ on := 11, ground := Ground.guard }], guard := some (11, true) }) (v := ?_) rfl (by kernel_rfl) (by kernel_rfl) (by kernel_rfl) (fun _ _ _ h => h) (Or.inl ⟨by rfl, ?_⟩) hHeld ?_
  rotate_left 1
  · intro u hSu
    obtain ⟨q0, q1⟩ := row_cells (kept_row HL8.out.gb hSu.out (by simp))
    obtain ⟨q2, q3⟩ := row_cells (kept_row HB8.out hSu.out (by simp))
    obtain ⟨q4, q5⟩ := row_cells (kept_row HH8.out hSu.out (by simp))
    go_simp
    first | done | with_reducible rfl
  (try simp only [Act.put, List.setIfInBounds_toArray, List.set_cons_zero, List.set_cons_succ])
  refine wpAnyH_take (i := 18) (oi := { dst := some 79, op := Op.move (Operand.tmp 1), type := 3, pos := "law.go:76", after := #[{ on := 11, ground := Ground.guard }], guard := some (11, true) }) (v := ?_) rfl (by kernel_rfl) (by kernel_rfl) (by kernel_rfl) (fun _ _ _ h => h) (Or.inl ⟨by rfl, ?_⟩) hHeld ?_
  rotate_left 1
  · intro u hSu
    obtain ⟨q0, q1⟩ := row_cells (kept_row HL8.out.gb hSu.out (by simp))
    obtain ⟨q2, q3⟩ := row_cells (kept_row HB8.out hSu.out (by simp))
    obtain ⟨q4, q5⟩ := row_cells (kept_row HH8.out hSu.out (by simp))
    go_simp
    first | done | with_reducible rfl
  (try simp only [Act.put, List.setIfInBounds_toArray, List.set_cons_zero, List.set_cons_succ])
  refine wpAnyH_take (i := 19) (oi := { dst := some 80, op := Op.move (Operand.tmp 2), type := 3, pos := "law.go:76", after := #[{ on := 11, ground := Ground.guard }], guard := some (11, true) }) (v := ?_) rfl (by kernel_rfl) (by kernel_rfl) (by kernel_rfl) (fun _ _ _ h => h) (Or.inl ⟨by rfl, ?_⟩) hHeld ?_
  rotate_left 1
  · intro u hSu
    obtain ⟨q0, q1⟩ := row_cells (kept_row HL8.out.gb hSu.out (by simp))
    obtain ⟨q2, q3⟩ := row_cells (kept_row HB8.out hSu.out (by simp))
    obtain ⟨q4, q5⟩ := row_cells (kept_row HH8.out hSu.out (by simp))
    go_simp
    first | done | with_reducible rfl
  (try simp only [Act.put, List.setIfInBounds_toArray, List.set_cons_zero, List.set_cons_succ])
  refine wpAnyH_take (i := 20) (oi := { dst := some 81, op := Op.load 41 (Operand.tmp 9), type := 41, pos := "law.go:76", after := #[{ on := 11, ground := Ground.guard }], guard := some (11, true) }) (v := ?_) rfl (by kernel_rfl) (by kernel_rfl) (by kernel_rfl) (fun _ _ _ h => h) (Or.inl ⟨by rfl, ?_⟩) hHeld ?_
  rotate_left 1
  · intro u hSu
    obtain ⟨q0, q1⟩ := row_cells (kept_row HL8.out.gb hSu.out (by simp))
    obtain ⟨q2, q3⟩ := row_cells (kept_row HB8.out hSu.out (by simp))
    obtain ⟨q4, q5⟩ := row_cells (kept_row HH8.out hSu.out (by simp))
    go_simp
    first | done | with_reducible rfl
  (try simp only [Act.put, List.setIfInBounds_toArray, List.set_cons_zero, List.set_cons_succ])
  refine wpAnyH_ready (rs := [16]) (by kernel_rfl) (by simp) ?_
  refine AllReadyH.cons (o := { dst := some 77, op := Op.call { callee := Callee.value (Operand.func 25), args := #[Operand.tmp 73, Operand.tmp 74, Operand.tmp 75, Operand.tmp 76], argTypes := #[28, 3, 3, 41] }, type := 4, pos := "law.go:76", after := #[{ on := 12, ground := Ground.data }, { on := 13, ground := Ground.data }, { on := 14, ground := Ground.data }, { on := 15, ground := Ground.data }, { on := 11, ground := Ground.chain }, { on := 11, ground := Ground.guard }], guard := some (11, true) }) rfl (fun Kz hK => ?_) AllReadyH.nil
  go_simp
  go_at_call 25
  refine (tusesW_any ⟨R, L, pR, cR, pL, cL⟩ xa ya ha ka _ _ ((HL8.out.keep hHeld.out).t) hR hL HVT.out.pl HXY.out.2.1 (fun _ => HXY.out.2.2.2)).mono ?_
  rintro e wv3 ⟨rfl, hgv3⟩
  (try simp only)
  rw [HV2.out]
  refine hK.out _ _ (Lib.hid (grown_trans hHeld.out hgv3)) (fun hH2 => ?_)
  clear hK Kz hHeld
  have hHeld := hH2
  clear hH2
  (try simp only [Act.put, List.setIfInBounds_toArray, List.set_cons_zero, List.set_cons_succ])
  refine wpAnyH_ready (rs := [21]) (by kernel_rfl) (by simp) ?_
  refine AllReadyH.cons (o := { dst := some 82, op := Op.call { callee := Callee.value (Operand.func 26), args := #[Operand.tmp 78, Operand.tmp 79, Operand.tmp 80, Operand.tmp 81], argTypes := #[28, 3, 3, 41] }, type := 4, pos := "law.go:76", after := #[{ on := 17, ground := Ground.data }, { on := 18, ground := Ground.data }, { on := 19, ground := Ground.data }, { on := 20, ground := Ground.data }, { on := 16, ground := Ground.chain }, { on := 11, ground := Ground.guard }], guard := some (11, true) }) rfl (fun Kz hK => ?_) AllReadyH.nil
  go_simp
  go_at_call 26
  refine (rus_any ⟨R, L, pR, cR, pL, cL⟩ xa ya ha ka _ _ ((HL8.out.keep hHeld.out).t)).mono ?_
  rintro e wv4 ⟨rfl, hgv4⟩
  (try simp only)
  rw [HV2.out]
  refine hK.out _ _ (Lib.hid (grown_trans hHeld.out hgv4)) (fun hH2 => ?_)
  clear hK Kz hHeld
  have hHeld := hH2
  clear hH2
  (try simp only [Act.put, List.setIfInBounds_toArray, List.set_cons_zero, List.set_cons_succ])
  refine wpAnyH_take (i := 22) (oi := { dst := some 83, op := Op.binOp BinOp.eql 4 (Operand.tmp 77) (Operand.tmp 82) 4, type := 4, pos := "law.go:76", after := #[{ on := 16, ground := Ground.data }, { on := 21, ground := Ground.data }, { on := 11, ground := Ground.guard }], guard := some (11, true) }) (v := (.bool true)) rfl (by kernel_rfl) (by kernel_rfl) (by kernel_rfl) (fun _ _ _ h => h) (Or.inl ⟨by rfl, ?_⟩) hHeld ?_
  · intro u hSu
    obtain ⟨q0, q1⟩ := row_cells (kept_row HL8.out.gb hSu.out (by simp))
    obtain ⟨q2, q3⟩ := row_cells (kept_row HB8.out hSu.out (by simp))
    obtain ⟨q4, q5⟩ := row_cells (kept_row HH8.out hSu.out (by simp))
    go_simp
    first | done | simp
  (try simp only [Act.put, List.setIfInBounds_toArray, List.set_cons_zero, List.set_cons_succ])
  refine wpAnyH_take (i := 23) (oi := { dst := some 84, op := Op.pick (Operand.tmp 72) (Operand.tmp 83) (Operand.const (Value.bool false)), type := 4, pos := "law.go:76", after := #[{ on := 11, ground := Ground.data }, { on := 22, ground := Ground.data }], guard := none }) (v := ?_) rfl (by kernel_rfl) (by kernel_rfl) (by kernel_rfl) (fun _ _ _ h => h) (Or.inl ⟨by rfl, ?_⟩) hHeld ?_
  rotate_left 1
  · intro u hSu
    obtain ⟨q0, q1⟩ := row_cells (kept_row HL8.out.gb hSu.out (by simp))
    obtain ⟨q2, q3⟩ := row_cells (kept_row HB8.out hSu.out (by simp))
    obtain ⟨q4, q5⟩ := row_cells (kept_row HH8.out hSu.out (by simp))
    go_simp
    first | done | with_reducible rfl
  (try simp only [Act.put, List.setIfInBounds_toArray, List.set_cons_zero, List.set_cons_succ])
  refine wpAnyH_take (i := 24) (oi := { dst := some 85, op := Op.move (Operand.tmp 84), type := 4, pos := "law.go:76", after := #[{ on := 23, ground := Ground.data }, { on := 21, ground := Ground.chain }], guard := none }) (v := ?_) rfl (by kernel_rfl) (by kernel_rfl) (by kernel_rfl) (fun _ _ _ h => h) (Or.inl ⟨by rfl, ?_⟩) hHeld ?_
  rotate_left 1
  · intro u hSu
    obtain ⟨q0, q1⟩ := row_cells (kept_row HL8.out.gb hSu.out (by simp))
    obtain ⟨q2, q3⟩ := row_cells (kept_row HB8.out hSu.out (by simp))
    obtain ⟨q4, q5⟩ := row_cells (kept_row HH8.out hSu.out (by simp))
    go_simp
    first | done | with_reducible rfl
  (try simp only [Act.put, List.setIfInBounds_toArray, List.set_cons_zero, List.set_cons_succ])
  refine wpAnyH_take (i := 25) (oi := { dst := some 86, op := Op.load 28 (Operand.tmp 12), type := 28, pos := "law.go:76", after := #[{ on := 24, ground := Ground.guard }], guard := some (24, true) }) (v := ?_) rfl (by kernel_rfl) (by kernel_rfl) (by kernel_rfl) (fun _ _ _ h => h) (Or.inl ⟨by rfl, ?_⟩) hHeld ?_
  rotate_left 1
  · intro u hSu
    obtain ⟨q0, q1⟩ := row_cells (kept_row HL8.out.gb hSu.out (by simp))
    obtain ⟨q2, q3⟩ := row_cells (kept_row HB8.out hSu.out (by simp))
    obtain ⟨q4, q5⟩ := row_cells (kept_row HH8.out hSu.out (by simp))
    go_simp
    first | done | with_reducible rfl
  (try simp only [Act.put, List.setIfInBounds_toArray, List.set_cons_zero, List.set_cons_succ])
  refine wpAnyH_take (i := 26) (oi := { dst := some 87, op := Op.move (Operand.tmp 13), type := 3, pos := "law.go:76", after := #[{ on := 24, ground := Ground.guard }], guard := some (24, true) }) (v := ?_) rfl (by kernel_rfl) (by kernel_rfl) (by kernel_rfl) (fun _ _ _ h => h) (Or.inl ⟨by rfl, ?_⟩) hHeld ?_
  rotate_left 1
  · intro u hSu
    obtain ⟨q0, q1⟩ := row_cells (kept_row HL8.out.gb hSu.out (by simp))
    obtain ⟨q2, q3⟩ := row_cells (kept_row HB8.out hSu.out (by simp))
    obtain ⟨q4, q5⟩ := row_cells (kept_row HH8.out hSu.out (by simp))
    go_simp
    first | done | with_reducible rfl
  (try simp only [Act.put, List.setIfInBounds_toArray, List.set_cons_zero, List.set_cons_succ])
  refine wpAnyH_take (i := 27) (oi := { dst := some 88, op := Op.move (Operand.tmp 14), type := 3, pos := "law.go:76", after := #[{ on := 24, ground := Ground.guard }], guard := some (24, true) }) (v := ?_) rfl (by kernel_rfl) (by kernel_rfl) (by kernel_rfl) (fun _ _ _ h => h) (Or.inl ⟨by rfl, ?_⟩) hHeld ?_
  rotate_left 1
  · intro u hSu
    obtain ⟨q0, q1⟩ := row_cells (kept_row HL8.out.gb hSu.out (by simp))
    obtain ⟨q2, q3⟩ := row_cells (kept_row HB8.out hSu.out (by simp))
    obtain ⟨q4, q5⟩ := row_cells (kept_row HH8.out hSu.out (by simp))
    go_simp
    first | done | with_reducible rfl
  (try simp only [Act.put, List.setIfInBounds_toArray, List.set_cons_zero, List.set_cons_succ])
  refine wpAnyH_take (i := 28) (oi := { dst := some 89, op := Op.move (Operand.tmp 15), type := 3, pos := "law.go:76", after := #[{ on := 24, ground := Ground.guard }], guard := some (24, true) }) (v := ?_) rfl (by kernel_rfl) (by kernel_rfl) (by kernel_rfl) (fun _ _ _ h => h) (Or.inl ⟨by rfl, ?_⟩) hHeld ?_
  rotate_left 1
  · intro u hSu
    obtain ⟨q0, q1⟩ := row_cells (kept_row HL8.out.gb hSu.out (by simp))
    obtain ⟨q2, q3⟩ := row_cells (kept_row HB8.out hSu.out (by simp))
    obtain ⟨q4, q5⟩ := row_cells (kept_row HH8.out hSu.out (by simp))
    go_simp
    first | done | with_reducible rfl
  (try simp only [Act.put, List.setIfInBounds_toArray, List.set_cons_zero, List.set_cons_succ])
  refine wpAnyH_take (i := 30) (oi := { dst := some 91, op := Op.load 28 (Operand.tmp 12), type := 28, pos := "law.go:76", after := #[{ on := 24, ground := Ground.guard }], guard := some (24, true) }) (v := ?_) rfl (by kernel_rfl) (by kernel_rfl) (by kernel_rfl) (fun _ _ _ h => h) (Or.inl ⟨by rfl, ?_⟩) hHeld ?_
  rotate_left 1
  · intro u hSu
    obtain ⟨q0, q1⟩ := row_cells (kept_row HL8.out.gb hSu.out (by simp))
    obtain ⟨q2, q3⟩ := row_cells (kept_row HB8.out hSu.out (by simp))
    obtain ⟨q4, q5⟩ := row_cells (kept_row HH8.out hSu.out (by simp))
    go_simp
    first | done | with_reducible rfl
  (try simp only [Act.put, List.setIfInBounds_toArray, List.set_cons_zero, List.set_cons_succ])
  refine wpAnyH_take (i := 31) (oi := { dst := some 92, op := Op.move (Operand.tmp 13), type := 3, pos := "law.go:76", after := #[{ on := 24, ground := Ground.guard }], guard := some (24, true) }) (v := ?_) rfl (by kernel_rfl) (by kernel_rfl) (by kernel_rfl) (fun _ _ _ h => h) (Or.inl ⟨by rfl, ?_⟩) hHeld ?_
  rotate_left 1
  · intro u hSu
    obtain ⟨q0, q1⟩ := row_cells (kept_row HL8.out.gb hSu.out (by simp))
    obtain ⟨q2, q3⟩ := row_cells (kept_row HB8.out hSu.out (by simp))
    obtain ⟨q4, q5⟩ := row_cells (kept_row HH8.out hSu.out (by simp))
    go_simp
    first | done | with_reducible rfl
  (try simp only [Act.put, List.setIfInBounds_toArray, List.set_cons_zero, List.set_cons_succ])
  refine wpAnyH_take (i := 32) (oi := { dst := some 93, op := Op.move (Operand.tmp 14), type := 3, pos := "law.go:76", after := #[{ on := 24, ground := Ground.guard }], guard := some (24, true) }) (v := ?_) rfl (by kernel_rfl) (by kernel_rfl) (by kernel_rfl) (fun _ _ _ h => h) (Or.inl ⟨by rfl, ?_⟩) hHeld ?_
  rotate_left 1
  · intro u hSu
    obtain ⟨q0, q1⟩ := row_cells (kept_row HL8.out.gb hSu.out (by simp))
    obtain ⟨q2, q3⟩ := row_cells (kept_row HB8.out hSu.out (by simp))
    obtain ⟨q4, q5⟩ := row_cells (kept_row HH8.out hSu.out (by simp))
    go_simp
    first | done | with_reducible rfl
  (try simp only [Act.put, List.setIfInBounds_toArray, List.set_cons_zero, List.set_cons_succ])
  refine wpAnyH_take (i := 33) (oi := { dst := some 94, op := Op.move (Operand.tmp 15), type := 3, pos := "law.go:76", after := #[{ on := 24, ground := Ground.guard }], guard := some (24, true) }) (v := ?_) rfl (by kernel_rfl) (by kernel_rfl) (by kernel_rfl) (fun _ _ _ h => h) (Or.inl ⟨by rfl, ?_⟩) hHeld ?_
  rotate_left 1
  · intro u hSu
    obtain ⟨q0, q1⟩ := row_cells (kept_row HL8.out.gb hSu.out (by simp))
    obtain ⟨q2, q3⟩ := row_cells (kept_row HB8.out hSu.out (by simp))
    obtain ⟨q4, q5⟩ := row_cells (kept_row HH8.out hSu.out (by simp))
    go_simp
    first | done | with_reducible rfl
  (try simp only [Act.put, List.setIfInBounds_toArray, List.set_cons_zero, List.set_cons_succ])
  refine wpAnyH_ready (rs := [29]) (by kernel_rfl) (by simp) ?_
  refine AllReadyH.cons (o := { dst := some 90, op := Op.call { callee := Callee.value (Operand.func 27), args := #[Operand.tmp 86, Operand.tmp 87, Operand.tmp 88, Operand.tmp 89], argTypes := #[28, 3, 3, 3] }, type := 4, pos := "law.go:76", after := #[{ on := 25, ground := Ground.data }, { on := 26, ground := Ground.data }, { on := 27, ground := Ground.data }, { on := 28, ground := Ground.data }, { on := 24, ground := Ground.chain }, { on := 24, ground := Ground.guard }], guard := some (24, true) }) rfl (fun Kz hK => ?_) AllReadyH.nil
  go_simp
  go_at_call 27
  refine (tav_any ⟨R, L, pR, cR, pL, cL⟩ x1 y1 z1 _ _ ((HL8.out.keep hHeld.out).t) hR hL HI3.out.2.1 HI3.out.2.2).mono ?_
  rintro e wv5 ⟨rfl, hgv5⟩
  (try simp only)
  rw [HV3.out]
  refine hK.out _ _ (Lib.hid (grown_trans hHeld.out hgv5)) (fun hH2 => ?_)
  clear hK Kz hHeld
  have hHeld := hH2
  clear hH2
  (try simp only [Act.put, List.setIfInBounds_toArray, List.set_cons_zero, List.set_cons_succ])
  refine wpAnyH_ready (rs := [34]) (by kernel_rfl) (by simp) ?_
  refine AllReadyH.cons (o := { dst := some 95, op := Op.call { callee := Callee.value (Operand.func 28), args := #[Operand.tmp 91, Operand.tmp 92, Operand.tmp 93, Operand.tmp 94], argTypes := #[28, 3, 3, 3] }, type := 4, pos := "law.go:76", after := #[{ on := 30, ground := Ground.data }, { on := 31, ground := Ground.data }, { on := 32, ground := Ground.data }, { on := 33, ground := Ground.data }, { on := 29, ground := Ground.chain }, { on := 24, ground := Ground.guard }], guard := some (24, true) }) rfl (fun Kz hK => ?_) AllReadyH.nil
  go_simp
  go_at_call 28
  refine (rav_any ⟨R, L, pR, cR, pL, cL⟩ x1 y1 z1 _ _ ((HL8.out.keep hHeld.out).t)).mono ?_
  rintro e wv6 ⟨rfl, hgv6⟩
  (try simp only)
  rw [HV3.out]
  refine hK.out _ _ (Lib.hid (grown_trans hHeld.out hgv6)) (fun hH2 => ?_)
  clear hK Kz hHeld
  have hHeld := hH2
  clear hH2
  (try simp only [Act.put, List.setIfInBounds_toArray, List.set_cons_zero, List.set_cons_succ])
  refine wpAnyH_take (i := 35) (oi := { dst := some 96, op := Op.binOp BinOp.eql 4 (Operand.tmp 90) (Operand.tmp 95) 4, type := 4, pos := "law.go:76", after := #[{ on := 29, ground := Ground.data }, { on := 34, ground := Ground.data }, { on := 24, ground := Ground.guard }], guard := some (24, true) }) (v := (.bool true)) rfl (by kernel_rfl) (by kernel_rfl) (by kernel_rfl) (fun _ _ _ h => h) (Or.inl ⟨by rfl, ?_⟩) hHeld ?_
  · intro u hSu
    obtain ⟨q0, q1⟩ := row_cells (kept_row HL8.out.gb hSu.out (by simp))
    obtain ⟨q2, q3⟩ := row_cells (kept_row HB8.out hSu.out (by simp))
    obtain ⟨q4, q5⟩ := row_cells (kept_row HH8.out hSu.out (by simp))
    go_simp
    first | done | simp
  (try simp only [Act.put, List.setIfInBounds_toArray, List.set_cons_zero, List.set_cons_succ])
  refine wpAnyH_take (i := 36) (oi := { dst := some 97, op := Op.pick (Operand.tmp 85) (Operand.tmp 96) (Operand.const (Value.bool false)), type := 4, pos := "law.go:76", after := #[{ on := 24, ground := Ground.data }, { on := 35, ground := Ground.data }], guard := none }) (v := ?_) rfl (by kernel_rfl) (by kernel_rfl) (by kernel_rfl) (fun _ _ _ h => h) (Or.inl ⟨by rfl, ?_⟩) hHeld ?_
  rotate_left 1
  · intro u hSu
    obtain ⟨q0, q1⟩ := row_cells (kept_row HL8.out.gb hSu.out (by simp))
    obtain ⟨q2, q3⟩ := row_cells (kept_row HB8.out hSu.out (by simp))
    obtain ⟨q4, q5⟩ := row_cells (kept_row HH8.out hSu.out (by simp))
    go_simp
    first | done | with_reducible rfl
  (try simp only [Act.put, List.setIfInBounds_toArray, List.set_cons_zero, List.set_cons_succ])
  refine wpAnyH_take (i := 37) (oi := { dst := some 98, op := Op.move (Operand.tmp 97), type := 4, pos := "law.go:76", after := #[{ on := 36, ground := Ground.data }, { on := 34, ground := Ground.chain }], guard := none }) (v := ?_) rfl (by kernel_rfl) (by kernel_rfl) (by kernel_rfl) (fun _ _ _ h => h) (Or.inl ⟨by rfl, ?_⟩) hHeld ?_
  rotate_left 1
  · intro u hSu
    obtain ⟨q0, q1⟩ := row_cells (kept_row HL8.out.gb hSu.out (by simp))
    obtain ⟨q2, q3⟩ := row_cells (kept_row HB8.out hSu.out (by simp))
    obtain ⟨q4, q5⟩ := row_cells (kept_row HH8.out hSu.out (by simp))
    go_simp
    first | done | with_reducible rfl
  (try simp only [Act.put, List.setIfInBounds_toArray, List.set_cons_zero, List.set_cons_succ])
  refine wpAnyH_take (i := 38) (oi := { dst := some 99, op := Op.load 28 (Operand.tmp 12), type := 28, pos := "law.go:76", after := #[{ on := 37, ground := Ground.guard }], guard := some (37, true) }) (v := ?_) rfl (by kernel_rfl) (by kernel_rfl) (by kernel_rfl) (fun _ _ _ h => h) (Or.inl ⟨by rfl, ?_⟩) hHeld ?_
  rotate_left 1
  · intro u hSu
    obtain ⟨q0, q1⟩ := row_cells (kept_row HL8.out.gb hSu.out (by simp))
    obtain ⟨q2, q3⟩ := row_cells (kept_row HB8.out hSu.out (by simp))
    obtain ⟨q4, q5⟩ := row_cells (kept_row HH8.out hSu.out (by simp))
    go_simp
    first | done | with_reducible rfl
  (try simp only [Act.put, List.setIfInBounds_toArray, List.set_cons_zero, List.set_cons_succ])
  refine wpAnyH_take (i := 39) (oi := { dst := some 100, op := Op.move (Operand.tmp 1), type := 3, pos := "law.go:76", after := #[{ on := 37, ground := Ground.guard }], guard := some (37, true) }) (v := ?_) rfl (by kernel_rfl) (by kernel_rfl) (by kernel_rfl) (fun _ _ _ h => h) (Or.inl ⟨by rfl, ?_⟩) hHeld ?_
  rotate_left 1
  · intro u hSu
    obtain ⟨q0, q1⟩ := row_cells (kept_row HL8.out.gb hSu.out (by simp))
    obtain ⟨q2, q3⟩ := row_cells (kept_row HB8.out hSu.out (by simp))
    obtain ⟨q4, q5⟩ := row_cells (kept_row HH8.out hSu.out (by simp))
    go_simp
    first | done | with_reducible rfl
  (try simp only [Act.put, List.setIfInBounds_toArray, List.set_cons_zero, List.set_cons_succ])
  refine wpAnyH_take (i := 40) (oi := { dst := some 101, op := Op.move (Operand.tmp 2), type := 3, pos := "law.go:76", after := #[{ on := 37, ground := Ground.guard }], guard := some (37, true) }) (v := ?_) rfl (by kernel_rfl) (by kernel_rfl) (by kernel_rfl) (fun _ _ _ h => h) (Or.inl ⟨by rfl, ?_⟩) hHeld ?_
  rotate_left 1
  · intro u hSu
    obtain ⟨q0, q1⟩ := row_cells (kept_row HL8.out.gb hSu.out (by simp))
    obtain ⟨q2, q3⟩ := row_cells (kept_row HB8.out hSu.out (by simp))
    obtain ⟨q4, q5⟩ := row_cells (kept_row HH8.out hSu.out (by simp))
    go_simp
    first | done | with_reducible rfl
  (try simp only [Act.put, List.setIfInBounds_toArray, List.set_cons_zero, List.set_cons_succ])
  refine wpAnyH_take (i := 41) (oi := { dst := some 102, op := Op.move (Operand.tmp 3), type := 3, pos := "law.go:76", after := #[{ on := 37, ground := Ground.guard }], guard := some (37, true) }) (v := ?_) rfl (by kernel_rfl) (by kernel_rfl) (by kernel_rfl) (fun _ _ _ h => h) (Or.inl ⟨by rfl, ?_⟩) hHeld ?_
  rotate_left 1
  · intro u hSu
    obtain ⟨q0, q1⟩ := row_cells (kept_row HL8.out.gb hSu.out (by simp))
    obtain ⟨q2, q3⟩ := row_cells (kept_row HB8.out hSu.out (by simp))
    obtain ⟨q4, q5⟩ := row_cells (kept_row HH8.out hSu.out (by simp))
    go_simp
    first | done | with_reducible rfl
  (try simp only [Act.put, List.setIfInBounds_toArray, List.set_cons_zero, List.set_cons_succ])
  refine wpAnyH_take (i := 43) (oi := { dst := some 104, op := Op.load 28 (Operand.tmp 12), type := 28, pos := "law.go:76", after := #[{ on := 37, ground := Ground.guard }], guard := some (37, true) }) (v := ?_) rfl (by kernel_rfl) (by kernel_rfl) (by kernel_rfl) (fun _ _ _ h => h) (Or.inl ⟨by rfl, ?_⟩) hHeld ?_
  rotate_left 1
  · intro u hSu
    obtain ⟨q0, q1⟩ := row_cells (kept_row HL8.out.gb hSu.out (by simp))
    obtain ⟨q2, q3⟩ := row_cells (kept_row HB8.out hSu.out (by simp))
    obtain ⟨q4, q5⟩ := row_cells (kept_row HH8.out hSu.out (by simp))
    go_simp
    first | done | with_reducible rfl
  (try simp only [Act.put, List.setIfInBounds_toArray, List.set_cons_zero, List.set_cons_succ])
  refine wpAnyH_take (i := 44) (oi := { dst := some 105, op := Op.move (Operand.tmp 1), type := 3, pos := "law.go:76", after := #[{ on := 37, ground := Ground.guard }], guard := some (37, true) }) (v := ?_) rfl (by kernel_rfl) (by kernel_rfl) (by kernel_rfl) (fun _ _ _ h => h) (Or.inl ⟨by rfl, ?_⟩) hHeld ?_
  rotate_left 1
  · intro u hSu
    obtain ⟨q0, q1⟩ := row_cells (kept_row HL8.out.gb hSu.out (by simp))
    obtain ⟨q2, q3⟩ := row_cells (kept_row HB8.out hSu.out (by simp))
    obtain ⟨q4, q5⟩ := row_cells (kept_row HH8.out hSu.out (by simp))
    go_simp
    first | done | with_reducible rfl
  (try simp only [Act.put, List.setIfInBounds_toArray, List.set_cons_zero, List.set_cons_succ])
  refine wpAnyH_take (i := 45) (oi := { dst := some 106, op := Op.move (Operand.tmp 2), type := 3, pos := "law.go:76", after := #[{ on := 37, ground := Ground.guard }], guard := some (37, true) }) (v := ?_) rfl (by kernel_rfl) (by kernel_rfl) (by kernel_rfl) (fun _ _ _ h => h) (Or.inl ⟨by rfl, ?_⟩) hHeld ?_
  rotate_left 1
  · intro u hSu
    obtain ⟨q0, q1⟩ := row_cells (kept_row HL8.out.gb hSu.out (by simp))
    obtain ⟨q2, q3⟩ := row_cells (kept_row HB8.out hSu.out (by simp))
    obtain ⟨q4, q5⟩ := row_cells (kept_row HH8.out hSu.out (by simp))
    go_simp
    first | done | with_reducible rfl
  (try simp only [Act.put, List.setIfInBounds_toArray, List.set_cons_zero, List.set_cons_succ])
  refine wpAnyH_take (i := 46) (oi := { dst := some 107, op := Op.move (Operand.tmp 3), type := 3, pos := "law.go:76", after := #[{ on := 37, ground := Ground.guard }], guard := some (37, true) }) (v := ?_) rfl (by kernel_rfl) (by kernel_rfl) (by kernel_rfl) (fun _ _ _ h => h) (Or.inl ⟨by rfl, ?_⟩) hHeld ?_
  rotate_left 1
  · intro u hSu
    obtain ⟨q0, q1⟩ := row_cells (kept_row HL8.out.gb hSu.out (by simp))
    obtain ⟨q2, q3⟩ := row_cells (kept_row HB8.out hSu.out (by simp))
    obtain ⟨q4, q5⟩ := row_cells (kept_row HH8.out hSu.out (by simp))
    go_simp
    first | done | with_reducible rfl
  (try simp only [Act.put, List.setIfInBounds_toArray, List.set_cons_zero, List.set_cons_succ])
  refine wpAnyH_ready (rs := [42]) (by kernel_rfl) (by simp) ?_
  refine AllReadyH.cons (o := { dst := some 103, op := Op.call { callee := Callee.value (Operand.func 27), args := #[Operand.tmp 99, Operand.tmp 100, Operand.tmp 101, Operand.tmp 102], argTypes := #[28, 3, 3, 3] }, type := 4, pos := "law.go:76", after := #[{ on := 38, ground := Ground.data }, { on := 39, ground := Ground.data }, { on := 40, ground := Ground.data }, { on := 41, ground := Ground.data }, { on := 37, ground := Ground.chain }, { on := 37, ground := Ground.guard }], guard := some (37, true) }) rfl (fun Kz hK => ?_) AllReadyH.nil
  go_simp
  go_at_call 27
  refine (tav_any ⟨R, L, pR, cR, pL, cL⟩ xa ya za _ _ ((HL8.out.keep hHeld.out).t) hR hL HXY.out.2.1 HXY.out.2.2.1).mono ?_
  rintro e wv7 ⟨rfl, hgv7⟩
  (try simp only)
  rw [HV4.out]
  refine hK.out _ _ (Lib.hid (grown_trans hHeld.out hgv7)) (fun hH2 => ?_)
  clear hK Kz hHeld
  have hHeld := hH2
  clear hH2
  (try simp only [Act.put, List.setIfInBounds_toArray, List.set_cons_zero, List.set_cons_succ])
  refine wpAnyH_ready (rs := [47]) (by kernel_rfl) (by simp) ?_
  refine AllReadyH.cons (o := { dst := some 108, op := Op.call { callee := Callee.value (Operand.func 28), args := #[Operand.tmp 104, Operand.tmp 105, Operand.tmp 106, Operand.tmp 107], argTypes := #[28, 3, 3, 3] }, type := 4, pos := "law.go:76", after := #[{ on := 43, ground := Ground.data }, { on := 44, ground := Ground.data }, { on := 45, ground := Ground.data }, { on := 46, ground := Ground.data }, { on := 42, ground := Ground.chain }, { on := 37, ground := Ground.guard }], guard := some (37, true) }) rfl (fun Kz hK => ?_) AllReadyH.nil
  go_simp
  go_at_call 28
  refine (rav_any ⟨R, L, pR, cR, pL, cL⟩ xa ya za _ _ ((HL8.out.keep hHeld.out).t)).mono ?_
  rintro e wv8 ⟨rfl, hgv8⟩
  (try simp only)
  rw [HV4.out]
  refine hK.out _ _ (Lib.hid (grown_trans hHeld.out hgv8)) (fun hH2 => ?_)
  clear hK Kz hHeld
  have hHeld := hH2
  clear hH2
  (try simp only [Act.put, List.setIfInBounds_toArray, List.set_cons_zero, List.set_cons_succ])
  refine wpAnyH_take (i := 48) (oi := { dst := some 109, op := Op.binOp BinOp.eql 4 (Operand.tmp 103) (Operand.tmp 108) 4, type := 4, pos := "law.go:76", after := #[{ on := 42, ground := Ground.data }, { on := 47, ground := Ground.data }, { on := 37, ground := Ground.guard }], guard := some (37, true) }) (v := (.bool true)) rfl (by kernel_rfl) (by kernel_rfl) (by kernel_rfl) (fun _ _ _ h => h) (Or.inl ⟨by rfl, ?_⟩) hHeld ?_
  · intro u hSu
    obtain ⟨q0, q1⟩ := row_cells (kept_row HL8.out.gb hSu.out (by simp))
    obtain ⟨q2, q3⟩ := row_cells (kept_row HB8.out hSu.out (by simp))
    obtain ⟨q4, q5⟩ := row_cells (kept_row HH8.out hSu.out (by simp))
    go_simp
    first | done | simp
  (try simp only [Act.put, List.setIfInBounds_toArray, List.set_cons_zero, List.set_cons_succ])
  refine wpAnyH_take (i := 49) (oi := { dst := some 110, op := Op.pick (Operand.tmp 98) (Operand.tmp 109) (Operand.const (Value.bool false)), type := 4, pos := "law.go:76", after := #[{ on := 37, ground := Ground.data }, { on := 48, ground := Ground.data }], guard := none }) (v := ?_) rfl (by kernel_rfl) (by kernel_rfl) (by kernel_rfl) (fun _ _ _ h => h) (Or.inl ⟨by rfl, ?_⟩) hHeld ?_
  rotate_left 1
  · intro u hSu
    obtain ⟨q0, q1⟩ := row_cells (kept_row HL8.out.gb hSu.out (by simp))
    obtain ⟨q2, q3⟩ := row_cells (kept_row HB8.out hSu.out (by simp))
    obtain ⟨q4, q5⟩ := row_cells (kept_row HH8.out hSu.out (by simp))
    go_simp
    first | done | with_reducible rfl
  (try simp only [Act.put, List.setIfInBounds_toArray, List.set_cons_zero, List.set_cons_succ])
  refine wpAnyH_take (i := 50) (oi := { dst := some 111, op := Op.move (Operand.tmp 110), type := 4, pos := "law.go:76", after := #[{ on := 49, ground := Ground.data }, { on := 47, ground := Ground.chain }], guard := none }) (v := ?_) rfl (by kernel_rfl) (by kernel_rfl) (by kernel_rfl) (fun _ _ _ h => h) (Or.inl ⟨by rfl, ?_⟩) hHeld ?_
  rotate_left 1
  · intro u hSu
    obtain ⟨q0, q1⟩ := row_cells (kept_row HL8.out.gb hSu.out (by simp))
    obtain ⟨q2, q3⟩ := row_cells (kept_row HB8.out hSu.out (by simp))
    obtain ⟨q4, q5⟩ := row_cells (kept_row HH8.out hSu.out (by simp))
    go_simp
    first | done | with_reducible rfl
  (try simp only [Act.put, List.setIfInBounds_toArray, List.set_cons_zero, List.set_cons_succ])
  refine wpAnyH_ready (rs := [51]) (by kernel_rfl) (by simp) ?_
  refine AllReadyH.cons (o := { dst := some 112, op := Op.call { callee := Callee.value (Operand.func 21), args := #[], argTypes := #[] }, type := 4, pos := "law.go:76", after := #[{ on := 50, ground := Ground.chain }, { on := 50, ground := Ground.guard }], guard := some (50, true) }) rfl (fun Kz hK => ?_) AllReadyH.nil
  go_simp
  go_at_call 21
  refine (sawake_any _).mono ?_
  rintro e wv9 ⟨rfl, hgv9⟩
  refine hK.out _ _ (Lib.hid (grown_trans hHeld.out hgv9)) (fun hH2 => ?_)
  clear hK Kz hHeld
  have hHeld := hH2
  clear hH2
  (try simp only [Act.put, List.setIfInBounds_toArray, List.set_cons_zero, List.set_cons_succ])
  refine wpAnyH_take (i := 52) (oi := { dst := some 113, op := Op.pick (Operand.tmp 111) (Operand.tmp 112) (Operand.const (Value.bool false)), type := 4, pos := "law.go:76", after := #[{ on := 50, ground := Ground.data }, { on := 51, ground := Ground.data }], guard := none }) (v := ?_) rfl (by kernel_rfl) (by kernel_rfl) (by kernel_rfl) (fun _ _ _ h => h) (Or.inl ⟨by rfl, ?_⟩) hHeld ?_
  rotate_left 1
  · intro u hSu
    obtain ⟨q0, q1⟩ := row_cells (kept_row HL8.out.gb hSu.out (by simp))
    obtain ⟨q2, q3⟩ := row_cells (kept_row HB8.out hSu.out (by simp))
    obtain ⟨q4, q5⟩ := row_cells (kept_row HH8.out hSu.out (by simp))
    go_simp
    first | done | with_reducible rfl
  (try simp only [Act.put, List.setIfInBounds_toArray, List.set_cons_zero, List.set_cons_succ])
  refine wpAnyH_take (i := 53) (oi := { dst := some 10, op := Op.assign (Operand.tmp 113), type := 4, pos := "law.go:76", after := #[{ on := 52, ground := Ground.data }, { on := 51, ground := Ground.chain }, { on := 0, ground := Ground.phase }, { on := 1, ground := Ground.phase }, { on := 2, ground := Ground.phase }, { on := 3, ground := Ground.phase }, { on := 4, ground := Ground.phase }, { on := 5, ground := Ground.phase }, { on := 6, ground := Ground.phase }, { on := 7, ground := Ground.phase }, { on := 8, ground := Ground.phase }, { on := 9, ground := Ground.phase }, { on := 10, ground := Ground.phase }, { on := 11, ground := Ground.phase }, { on := 12, ground := Ground.phase }, { on := 13, ground := Ground.phase }, { on := 14, ground := Ground.phase }, { on := 15, ground := Ground.phase }, { on := 16, ground := Ground.phase }, { on := 17, ground := Ground.phase }, { on := 18, ground := Ground.phase }, { on := 19, ground := Ground.phase }, { on := 20, ground := Ground.phase }, { on := 21, ground := Ground.phase }, { on := 22, ground := Ground.phase }, { on := 23, ground := Ground.phase }, { on := 24, ground := Ground.phase }, { on := 25, ground := Ground.phase }, { on := 26, ground := Ground.phase }, { on := 27, ground := Ground.phase }, { on := 28, ground := Ground.phase }, { on := 29, ground := Ground.phase }, { on := 30, ground := Ground.phase }, { on := 31, ground := Ground.phase }, { on := 32, ground := Ground.phase }, { on := 33, ground := Ground.phase }, { on := 34, ground := Ground.phase }, { on := 35, ground := Ground.phase }, { on := 36, ground := Ground.phase }, { on := 37, ground := Ground.phase }, { on := 38, ground := Ground.phase }, { on := 39, ground := Ground.phase }, { on := 40, ground := Ground.phase }, { on := 41, ground := Ground.phase }, { on := 42, ground := Ground.phase }, { on := 43, ground := Ground.phase }, { on := 44, ground := Ground.phase }, { on := 45, ground := Ground.phase }, { on := 46, ground := Ground.phase }, { on := 47, ground := Ground.phase }, { on := 48, ground := Ground.phase }, { on := 49, ground := Ground.phase }, { on := 50, ground := Ground.phase }, { on := 51, ground := Ground.phase }, { on := 52, ground := Ground.phase }], guard := none }) (v := ?_) rfl (by kernel_rfl) (by kernel_rfl) (by kernel_rfl) (fun _ _ _ h => h) (Or.inl ⟨by rfl, ?_⟩) hHeld ?_
  rotate_left 1
  · intro u hSu
    obtain ⟨q0, q1⟩ := row_cells (kept_row HL8.out.gb hSu.out (by simp))
    obtain ⟨q2, q3⟩ := row_cells (kept_row HB8.out hSu.out (by simp))
    obtain ⟨q4, q5⟩ := row_cells (kept_row HH8.out hSu.out (by simp))
    go_simp
    first | done | with_reducible rfl
  (try simp only [Act.put, List.setIfInBounds_toArray, List.set_cons_zero, List.set_cons_succ])
  refine wpAnyH_done (by kernel_rfl) ?_ _
  have HE := Lib.hid (grown_trans HL8.out.gr hHeld.out)
  clear hHeld
  go_wp2_with fail
  go_ret
  exact ⟨rfl, HE.out⟩
end Go.Proofs.Ytlefjdglcdopeaa
