/- Parts of the proof, packed: SzLaw. -/
import Derived.Test.YtlefjdglcdopeaaGreatCo16
import Derived.Test.YtlefjdglcdopeaaGreatCo20
/- The law ShortestCosts. -/
namespace Go.Proofs.YtlefjdglcdopeaaGreat
open Go.RowKit Go.Maps Bs
set_option maxRecDepth 100000 in
theorem ds_at {w : World} {q : Nat → Prop} {b off n c : Nat} {l : List (Int × Int)} {k : Nat} {y : Int × Int} (h : RdF w q (.slice (some ⟨b, off, none⟩) n c) l.length (l.flatMap dsC)) (hy : l[k]? = some y) :
    w.cell? ⟨b, off + k * 2, none⟩ = some (.int .i64 y.1) ∧ w.cell? ⟨b, off + k * 2 + 1, none⟩ = some (.int .i64 y.2) := by
  obtain ⟨-, b', o', e, -, hc⟩ := dsn_cells h (by have := (List.getElem?_eq_some_iff.1 hy).1; omega)
  injection e with e
  injection e with e1 e2
  subst e1
  subst e2
  exact hc k y hy
set_option maxRecDepth 100000 in
set_option maxHeartbeats 12800000 in
theorem scosts_walk (v : Value) (xa ya : Int) (w : World) (hv : IntsIn w v) (hxa : I64 xa) (hya : I64 ya) :
    Calls Tryz.prog 3 #[v, .int .i64 xa, .int .i64 ya] w fun e w' => e = .returned (.bool true) ∧ w.grownBy w' none := by
  go_enter Tryz.func3, Tryz.ntmps3
  go_wp2_with fail
  refine (new_any v w hv).mono ?_
  rintro e w2 ⟨rfl, hg1, hT1⟩
  have H2 := Lib.hid (And.intro hg1 hT1)
  obtain ⟨a, ha⟩ : ∃ a, a = w.heap.size := ⟨_, rfl⟩
  rw [← ha] at H2
  have HA := Lib.hid ha
  clear hg1 hT1 hv
  rw [← HA.out]
  clear ha
  go_wp2_with fail
  refine (stopoJ_any a 7 10 (by decide) (by decide) (by unfold I64; omega) w2 H2.out.2).mono ?_
  rintro e w3 ⟨T, rfl, hT, hO, hpT, hs3⟩
  obtain ⟨R, L, pR, cR, pL, cL⟩ := T
  have HVT : Hid (WT ⟨R, L, pR, cR, pL, cL⟩) := Lib.hid (WT.of (by decide) hO hpT)
  simp only at hO hpT ⊢
  have gal := World.grownBy_alloc w3 (.cells #[.slice pR R.length cR, .slice pL L.length cL] 28) none
  have ha2 : a < w2.heap.size := H2.out.2.lt
  have HW4 : Hid (w.grownBy (w3.alloc (.cells #[.slice pR R.length cR, .slice pL L.length cL] 28)) none) := Lib.hid (grown_trans (grown_tape H2.out.1 (by rw [← HA.out]; exact hs3.1)) gal)
  have HG : Hid ((w3.alloc (.cells #[.slice pR R.length cR, .slice pL L.length cL] 28)).heap[w3.heap.size]? = some (.cells #[.slice pR R.length cR, .slice pL L.length cL] 28 (0, 0)) ∧ TgOk (w3.alloc (.cells #[.slice pR R.length cR, .slice pL L.length cL] 28)) (fun b => w2.heap.size ≤ b ∧ b < w3.heap.size) ⟨R, L, pR, cR, pL, cL⟩ ∧ Tp (w3.alloc (.cells #[.slice pR R.length cR, .slice pL L.length cL] 28)) a) :=
    Lib.hid ⟨heap_alloc_new w3 _, hT.keep gal, hs3.2.keep gal⟩
  have ha3 : a < w3.heap.size := Nat.lt_of_lt_of_le ha2 hs3.1.size
  clear hT hs3 gal hO hpT
  go_upto_region 3 with fail
  generalize w3.alloc _ = w4 at *
  have HXY := Lib.hid (And.intro hxa hya)
  have hw34 : w3.heap.size < w4.heap.size := by
    rcases Nat.lt_or_ge w3.heap.size w4.heap.size with h | h
    · exact h
    · have := HG.out.1; rw [Array.getElem?_eq_none h] at this; cases this
  clear hxa hya
  refine wp_region_held_drew (S := fun w' => Hid (w4.grownBy w' (some a) ∧ Tp w' a)) (by kernel_rfl) (Lib.hid ⟨grown_drew (grown_refl _ _), HG.out.2.2.drew⟩) (fun hHeld => ?_)
  refine wpAnyH_take (i := 0) (oi := { dst := some 23, op := Op.move (Operand.tmp 1), type := 3, pos := "law.go:23", after := #[], guard := none }) (v := ?_) rfl (by kernel_rfl) (by kernel_rfl) (by kernel_rfl) (fun _ _ _ h => h) (Or.inl ⟨by rfl, ?_⟩) hHeld ?_
  rotate_left 1
  · intro u hSu
    obtain ⟨q0, q1⟩ := row_cells (kept_row HG.out.1 hSu.out.1 (fun e => by have := Option.some.inj e; omega))
    go_simp
    first | done | with_reducible rfl
  (try simp only [Act.put, List.setIfInBounds_toArray, List.set_cons_zero, List.set_cons_succ])
  refine wpAnyH_take (i := 1) (oi := { dst := some 24, op := Op.move (Operand.tmp 2), type := 3, pos := "law.go:23", after := #[], guard := none }) (v := ?_) rfl (by kernel_rfl) (by kernel_rfl) (by kernel_rfl) (fun _ _ _ h => h) (Or.inl ⟨by rfl, ?_⟩) hHeld ?_
  rotate_left 1
  · intro u hSu
    obtain ⟨q0, q1⟩ := row_cells (kept_row HG.out.1 hSu.out.1 (fun e => by have := Option.some.inj e; omega))
    go_simp
    first | done | with_reducible rfl
  (try simp only [Act.put, List.setIfInBounds_toArray, List.set_cons_zero, List.set_cons_succ])
  refine wpAnyH_take (i := 2) (oi := { dst := some 25, op := Op.move (Operand.tmp 7), type := 23, pos := "law.go:23", after := #[], guard := none }) (v := ?_) rfl (by kernel_rfl) (by kernel_rfl) (by kernel_rfl) (fun _ _ _ h => h) (Or.inl ⟨by rfl, ?_⟩) hHeld ?_
  rotate_left 1
  · intro u hSu
    obtain ⟨q0, q1⟩ := row_cells (kept_row HG.out.1 hSu.out.1 (fun e => by have := Option.some.inj e; omega))
    go_simp
    first | done | with_reducible rfl
  (try simp only [Act.put, List.setIfInBounds_toArray, List.set_cons_zero, List.set_cons_succ])
  refine wpAnyH_take (i := 3) (oi := { dst := some 26, op := Op.load 28 (Operand.tmp 8), type := 28, pos := "law.go:23", after := #[], guard := none }) (v := ?_) rfl (by kernel_rfl) (by kernel_rfl) (by kernel_rfl) (fun _ _ _ h => h) (Or.inl ⟨by rfl, ?_⟩) hHeld ?_
  rotate_left 1
  · intro u hSu
    obtain ⟨q0, q1⟩ := row_cells (kept_row HG.out.1 hSu.out.1 (fun e => by have := Option.some.inj e; omega))
    go_simp
    first | done | with_reducible rfl
  (try simp only [Act.put, List.setIfInBounds_toArray, List.set_cons_zero, List.set_cons_succ])
  refine wpAnyH_take (i := 5) (oi := { dst := some 28, op := Op.move (Operand.tmp 7), type := 23, pos := "law.go:23", after := #[], guard := none }) (v := ?_) rfl (by kernel_rfl) (by kernel_rfl) (by kernel_rfl) (fun _ _ _ h => h) (Or.inl ⟨by rfl, ?_⟩) hHeld ?_
  rotate_left 1
  · intro u hSu
    obtain ⟨q0, q1⟩ := row_cells (kept_row HG.out.1 hSu.out.1 (fun e => by have := Option.some.inj e; omega))
    go_simp
    first | done | with_reducible rfl
  (try simp only [Act.put, List.setIfInBounds_toArray, List.set_cons_zero, List.set_cons_succ])
  refine wpAnyH_take (i := 6) (oi := { dst := some 29, op := Op.load 28 (Operand.tmp 8), type := 28, pos := "law.go:23", after := #[], guard := none }) (v := ?_) rfl (by kernel_rfl) (by kernel_rfl) (by kernel_rfl) (fun _ _ _ h => h) (Or.inl ⟨by rfl, ?_⟩) hHeld ?_
  rotate_left 1
  · intro u hSu
    obtain ⟨q0, q1⟩ := row_cells (kept_row HG.out.1 hSu.out.1 (fun e => by have := Option.some.inj e; omega))
    go_simp
    first | done | with_reducible rfl
  (try simp only [Act.put, List.setIfInBounds_toArray, List.set_cons_zero, List.set_cons_succ])
  refine wpAnyH_ready (rs := [4]) (by kernel_rfl) (by simp) ?_
  refine AllReadyH.cons (o := { dst := some 27, op := Op.call { callee := Callee.value (Operand.func 6), args := #[Operand.tmp 25, Operand.tmp 26, Operand.const (Value.int IntKind.i64 4)], argTypes := #[23, 28, 3] }, type := 3, pos := "law.go:23", after := #[{ on := 2, ground := Ground.data }, { on := 3, ground := Ground.data }], guard := none }) rfl (fun Kz hK => ?_) AllReadyH.nil
  go_simp
  go_at_call 6
  refine (srtr_any a ⟨R, L, pR, cR, pL, cL⟩ 4 (by unfold I64; omega) (fun b => w2.heap.size ≤ b ∧ b < w3.heap.size) _ (HG.out.2.1.grown hHeld.out.1 (fun b hb e => by have := Option.some.inj e; omega)) (fun b hb => by omega) hHeld.out.2).mono ?_
  rintro e wx1 ⟨x1, hx1, rfl, hs⟩
  have Hx1 : Hid (RtP ⟨R, L, pR, cR, pL, cL⟩ 4 x1) := Lib.hid hx1
  have hs1 := hs.1
  have hs2 := hs.2
  clear hx1 hs
  refine hK.out _ _ (Lib.hid ⟨grown_trans hHeld.out.1 hs1, hs2⟩) (fun hH2 => ?_)
  clear hK Kz hHeld
  have hHeld := hH2
  clear hH2
  (try simp only [Act.put, List.setIfInBounds_toArray, List.set_cons_zero, List.set_cons_succ])
  refine wpAnyH_ready (rs := [7]) (by kernel_rfl) (by simp) ?_
  refine AllReadyH.cons (o := { dst := some 30, op := Op.call { callee := Callee.value (Operand.func 6), args := #[Operand.tmp 28, Operand.tmp 29, Operand.const (Value.int IntKind.i64 0)], argTypes := #[23, 28, 3] }, type := 3, pos := "law.go:23", after := #[{ on := 5, ground := Ground.data }, { on := 6, ground := Ground.data }, { on := 4, ground := Ground.chain }], guard := none }) rfl (fun Kz hK => ?_) AllReadyH.nil
  go_simp
  go_at_call 6
  refine (srtr_any a ⟨R, L, pR, cR, pL, cL⟩ 0 (by unfold I64; omega) (fun b => w2.heap.size ≤ b ∧ b < w3.heap.size) _ (HG.out.2.1.grown hHeld.out.1 (fun b hb e => by have := Option.some.inj e; omega)) (fun b hb => by omega) hHeld.out.2).mono ?_
  rintro e wy1 ⟨y1, hy1, rfl, hs⟩
  have Hy1 : Hid (RtP ⟨R, L, pR, cR, pL, cL⟩ 0 y1) := Lib.hid hy1
  have hs1 := hs.1
  have hs2 := hs.2
  clear hy1 hs
  refine hK.out _ _ (Lib.hid ⟨grown_trans hHeld.out.1 hs1, hs2⟩) (fun hH2 => ?_)
  clear hK Kz hHeld
  have hHeld := hH2
  clear hH2
  (try simp only [Act.put, List.setIfInBounds_toArray, List.set_cons_zero, List.set_cons_succ])
  refine wpAnyH_ready (rs := [8]) (by kernel_rfl) (by simp) ?_
  refine AllReadyH.cons (o := { dst := some 31, op := Op.buildSlice 22 4 #[(0, Operand.tmp 23), (1, Operand.tmp 24), (2, Operand.tmp 27), (3, Operand.tmp 30)], type := 22, pos := "law.go:23", after := #[{ on := 0, ground := Ground.data }, { on := 1, ground := Ground.data }, { on := 4, ground := Ground.data }, { on := 7, ground := Ground.data }], guard := none }) rfl (fun Kz hK => ?_) AllReadyH.nil
  go_simp
  generalize hwB : World.alloc _ _ = wB
  have hb4 := hHeld.out.1.size
  obtain ⟨hb1, hb2, hb3⟩ := alloc_eq3 hwB hb4
  have HBX := Lib.hid (And.intro hb1 hb3)
  clear hwB hb1 hb3 hb4
  refine hK.out _ _ (Lib.hid ⟨grown_trans hHeld.out.1 (grown_none hb2 _), hHeld.out.2.keep hb2⟩) (fun hH2 => ?_)
  clear hK Kz hHeld
  have hHeld := hH2
  clear hH2
  (try simp only [Act.put, List.setIfInBounds_toArray, List.set_cons_zero, List.set_cons_succ])
  refine wpAnyH_take (i := 9) (oi := { dst := some 9, op := Op.assign (Operand.tmp 31), type := 22, pos := "law.go:23", after := #[{ on := 8, ground := Ground.data }, { on := 7, ground := Ground.chain }, { on := 0, ground := Ground.phase }, { on := 1, ground := Ground.phase }, { on := 2, ground := Ground.phase }, { on := 3, ground := Ground.phase }, { on := 4, ground := Ground.phase }, { on := 5, ground := Ground.phase }, { on := 6, ground := Ground.phase }, { on := 7, ground := Ground.phase }, { on := 8, ground := Ground.phase }], guard := none }) (v := ?_) rfl (by kernel_rfl) (by kernel_rfl) (by kernel_rfl) (fun _ _ _ h => h) (Or.inl ⟨by rfl, ?_⟩) hHeld ?_
  rotate_left 1
  · intro u hSu
    obtain ⟨q0, q1⟩ := row_cells (kept_row HG.out.1 hSu.out.1 (fun e => by have := Option.some.inj e; omega))
    go_simp
    first | done | with_reducible rfl
  (try simp only [Act.put, List.setIfInBounds_toArray, List.set_cons_zero, List.set_cons_succ])
  refine wpAnyH_done (by kernel_rfl) ?_ _
  have HL : Hid (LW w w3.heap.size ⟨R, L, pR, cR, pL, cL⟩ wB) := Lib.hid ⟨kept_row HG.out.1 hHeld.out.1 (fun e => by have := Option.some.inj e; omega), (HG.out.2.1.grown hHeld.out.1 (fun b hb e => by have := Option.some.inj e; omega)).mono (fun b hb => hb.2), grown_new HW4.out hHeld.out.1 (by rw [HA.out]; exact Nat.le_refl _)⟩
  have HI := Lib.hid (And.intro (HVT.out.rt Hx1.out) (HVT.out.rt Hy1.out))
  have HQ := Lib.hid HBX.out.1
  obtain ⟨G, hG⟩ : ∃ G, G = w3.heap.size := ⟨_, rfl⟩
  rw [← hG] at HL
  rw [← hG]
  have hR := HVT.out.len
  have hL := HVT.out.l60
  simp only at hR hL
  clear hHeld HG HW4 H2 hG ha2 ha3 HA hw34 HBX hs1 hs2
  obtain ⟨gl, hgl⟩ : ∃ gl, wy1.heap.size = gl := ⟨_, rfl⟩
  (try rw [hgl] at HQ)
  (try rw [hgl])
  clear hgl
  have HP : Hid (∀ k : Nat, k < 4 → ∃ p : Int, I64 p ∧ ∀ u : World, wB.grownBy u none → u.cell? ⟨gl, k, none⟩ = some (.int .i64 p)) := Lib.hid (fun k hk => by
    rcases (show k = 0 ∨ k = 1 ∨ k = 2 ∨ k = 3 by omega) with rfl | rfl | rfl | rfl
    · exact ⟨xa, HXY.out.1, fun u g => by rw [cell_of_row _ _ _ _ _ _ (kept_row HQ.out g (by simp))]; rfl⟩
    · exact ⟨ya, HXY.out.2, fun u g => by rw [cell_of_row _ _ _ _ _ _ (kept_row HQ.out g (by simp))]; rfl⟩
    · exact ⟨x1, HI.out.1, fun u g => by rw [cell_of_row _ _ _ _ _ _ (kept_row HQ.out g (by simp))]; rfl⟩
    · exact ⟨y1, HI.out.2, fun u g => by rw [cell_of_row _ _ _ _ _ _ (kept_row HQ.out g (by simp))]; rfl⟩)
  clear HI HXY HQ
  go_wp2_with fail
  go_loopw [10] (fun i wr => ∃ k : Nat, k ≤ 4 ∧ i = .int .i64 (k : Int) ∧ Hid (LW w G ⟨R, L, pR, cR, pL, cL⟩ wr) ∧ Hid (wB.grownBy wr none)) (fun i _ => 4 - (RowKit.intOf i).toNat)
  case atStart => exact ⟨0, by omega, rfl, HL, Lib.hid (grown_refl _ _)⟩
  case round =>
  obtain ⟨w7, rfl⟩ : ∃ w7, w7 = wr := ⟨_, rfl⟩
  obtain ⟨k, hk, rfl, HLk, HGk⟩ := hrel
  clear HL
  by_cases hlt : k < 4
  · obtain ⟨p, hp, hpc⟩ := HP.out k hlt
    have HPP := Lib.hid (And.intro hp hpc)
    have hlt2 : (k : Int) < 4 := by omega
    have hlt0 : (0 : Int) ≤ (k : Int) := by omega
    obtain ⟨X, hX⟩ : ∃ X, disL R L p = X := ⟨_, rfl⟩
    have hXl : X.length ≤ 1000 := by rw [← hX]; unfold disL disF; rw [List.length_map]; exact Nat.le_trans (List.length_filter_le _ _) (by unfold ids; rw [List.length_map]; exact hR)
    have HX := Lib.hid hX
    clear hp hpc hX
    go_upto_region 7 with fail
    refine wp_region_held_drew (S := fun w' => Hid (w7.grownBy w' none)) (by kernel_rfl) (Lib.hid (grown_drew (grown_refl _ _))) (fun hHeld => ?_)
    refine wpAnyH_take (i := 0) (oi := { dst := some 38, op := Op.load 28 (Operand.tmp 8), type := 28, pos := "law.go:25", after := #[], guard := none }) (v := ?_) rfl (by kernel_rfl) (by kernel_rfl) (by kernel_rfl) (fun _ _ _ h => h) (Or.inl ⟨by rfl, ?_⟩) hHeld ?_
    rotate_left 1
    · intro u hSu
      obtain ⟨q0, q1⟩ := row_cells (kept_row HLk.out.gb hSu.out (by simp))
      have q2 := HPP.out.2 u (grown_trans HGk.out hSu.out)
      go_simp
      first | done | with_reducible rfl
    (try simp only [Act.put, List.setIfInBounds_toArray, List.set_cons_zero, List.set_cons_succ])
    refine wpAnyH_take (i := 1) (oi := { dst := some 39, op := Op.move (Operand.tmp 9), type := 22, pos := "law.go:25", after := #[], guard := none }) (v := ?_) rfl (by kernel_rfl) (by kernel_rfl) (by kernel_rfl) (fun _ _ _ h => h) (Or.inl ⟨by rfl, ?_⟩) hHeld ?_
    rotate_left 1
    · intro u hSu
      obtain ⟨q0, q1⟩ := row_cells (kept_row HLk.out.gb hSu.out (by simp))
      have q2 := HPP.out.2 u (grown_trans HGk.out hSu.out)
      go_simp
      first | done | with_reducible rfl
    (try simp only [Act.put, List.setIfInBounds_toArray, List.set_cons_zero, List.set_cons_succ])
    refine wpAnyH_take (i := 2) (oi := { dst := some 40, op := Op.move (Operand.tmp 10), type := 3, pos := "law.go:25", after := #[], guard := none }) (v := ?_) rfl (by kernel_rfl) (by kernel_rfl) (by kernel_rfl) (fun _ _ _ h => h) (Or.inl ⟨by rfl, ?_⟩) hHeld ?_
    rotate_left 1
    · intro u hSu
      obtain ⟨q0, q1⟩ := row_cells (kept_row HLk.out.gb hSu.out (by simp))
      have q2 := HPP.out.2 u (grown_trans HGk.out hSu.out)
      go_simp
      first | done | with_reducible rfl
    (try simp only [Act.put, List.setIfInBounds_toArray, List.set_cons_zero, List.set_cons_succ])
    refine wpAnyH_take (i := 3) (oi := { dst := some 41, op := Op.indexAddr 22 (Operand.tmp 39) (Operand.tmp 40), type := 0, pos := "law.go:25", after := #[{ on := 1, ground := Ground.data }, { on := 2, ground := Ground.data }], guard := none }) (v := ?_) rfl (by kernel_rfl) (by kernel_rfl) (by kernel_rfl) (fun _ _ _ h => h) (Or.inl ⟨by rfl, ?_⟩) hHeld ?_
    rotate_left 1
    · intro u hSu
      obtain ⟨q0, q1⟩ := row_cells (kept_row HLk.out.gb hSu.out (by simp))
      have q2 := HPP.out.2 u (grown_trans HGk.out hSu.out)
      go_simp
      first | done | with_reducible rfl
    (try simp only [Act.put, List.setIfInBounds_toArray, List.set_cons_zero, List.set_cons_succ])
    refine wpAnyH_take (i := 4) (oi := { dst := some 42, op := Op.load 3 (Operand.tmp 41), type := 3, pos := "law.go:25", after := #[{ on := 3, ground := Ground.data }], guard := none }) (v := ?_) rfl (by kernel_rfl) (by kernel_rfl) (by kernel_rfl) (fun _ _ _ h => h) (Or.inl ⟨by rfl, ?_⟩) hHeld ?_
    rotate_left 1
    · intro u hSu
      obtain ⟨q0, q1⟩ := row_cells (kept_row HLk.out.gb hSu.out (by simp))
      have q2 := HPP.out.2 u (grown_trans HGk.out hSu.out)
      go_simp
      first | done | with_reducible rfl
    (try simp only [Act.put, List.setIfInBounds_toArray, List.set_cons_zero, List.set_cons_succ])
    refine wpAnyH_take (i := 6) (oi := { dst := some 44, op := Op.load 28 (Operand.tmp 8), type := 28, pos := "law.go:25", after := #[], guard := none }) (v := ?_) rfl (by kernel_rfl) (by kernel_rfl) (by kernel_rfl) (fun _ _ _ h => h) (Or.inl ⟨by rfl, ?_⟩) hHeld ?_
    rotate_left 1
    · intro u hSu
      obtain ⟨q0, q1⟩ := row_cells (kept_row HLk.out.gb hSu.out (by simp))
      have q2 := HPP.out.2 u (grown_trans HGk.out hSu.out)
      go_simp
      first | done | with_reducible rfl
    (try simp only [Act.put, List.setIfInBounds_toArray, List.set_cons_zero, List.set_cons_succ])
    refine wpAnyH_take (i := 7) (oi := { dst := some 45, op := Op.move (Operand.tmp 9), type := 22, pos := "law.go:25", after := #[], guard := none }) (v := ?_) rfl (by kernel_rfl) (by kernel_rfl) (by kernel_rfl) (fun _ _ _ h => h) (Or.inl ⟨by rfl, ?_⟩) hHeld ?_
    rotate_left 1
    · intro u hSu
      obtain ⟨q0, q1⟩ := row_cells (kept_row HLk.out.gb hSu.out (by simp))
      have q2 := HPP.out.2 u (grown_trans HGk.out hSu.out)
      go_simp
      first | done | with_reducible rfl
    (try simp only [Act.put, List.setIfInBounds_toArray, List.set_cons_zero, List.set_cons_succ])
    refine wpAnyH_take (i := 8) (oi := { dst := some 46, op := Op.move (Operand.tmp 10), type := 3, pos := "law.go:25", after := #[], guard := none }) (v := ?_) rfl (by kernel_rfl) (by kernel_rfl) (by kernel_rfl) (fun _ _ _ h => h) (Or.inl ⟨by rfl, ?_⟩) hHeld ?_
    rotate_left 1
    · intro u hSu
      obtain ⟨q0, q1⟩ := row_cells (kept_row HLk.out.gb hSu.out (by simp))
      have q2 := HPP.out.2 u (grown_trans HGk.out hSu.out)
      go_simp
      first | done | with_reducible rfl
    (try simp only [Act.put, List.setIfInBounds_toArray, List.set_cons_zero, List.set_cons_succ])
    refine wpAnyH_take (i := 9) (oi := { dst := some 47, op := Op.indexAddr 22 (Operand.tmp 45) (Operand.tmp 46), type := 0, pos := "law.go:25", after := #[{ on := 7, ground := Ground.data }, { on := 8, ground := Ground.data }], guard := none }) (v := ?_) rfl (by kernel_rfl) (by kernel_rfl) (by kernel_rfl) (fun _ _ _ h => h) (Or.inl ⟨by rfl, ?_⟩) hHeld ?_
    rotate_left 1
    · intro u hSu
      obtain ⟨q0, q1⟩ := row_cells (kept_row HLk.out.gb hSu.out (by simp))
      have q2 := HPP.out.2 u (grown_trans HGk.out hSu.out)
      go_simp
      first | done | with_reducible rfl
    (try simp only [Act.put, List.setIfInBounds_toArray, List.set_cons_zero, List.set_cons_succ])
    refine wpAnyH_take (i := 10) (oi := { dst := some 48, op := Op.load 3 (Operand.tmp 47), type := 3, pos := "law.go:25", after := #[{ on := 9, ground := Ground.data }], guard := none }) (v := ?_) rfl (by kernel_rfl) (by kernel_rfl) (by kernel_rfl) (fun _ _ _ h => h) (Or.inl ⟨by rfl, ?_⟩) hHeld ?_
    rotate_left 1
    · intro u hSu
      obtain ⟨q0, q1⟩ := row_cells (kept_row HLk.out.gb hSu.out (by simp))
      have q2 := HPP.out.2 u (grown_trans HGk.out hSu.out)
      go_simp
      first | done | with_reducible rfl
    (try simp only [Act.put, List.setIfInBounds_toArray, List.set_cons_zero, List.set_cons_succ])
    refine wpAnyH_ready (rs := [5]) (by kernel_rfl) (by simp) ?_
    refine AllReadyH.cons (o := { dst := some 43, op := Op.call { callee := Callee.value (Operand.func 7), args := #[Operand.tmp 38, Operand.tmp 42], argTypes := #[28, 3] }, type := 31, pos := "law.go:25", after := #[{ on := 0, ground := Ground.data }, { on := 4, ground := Ground.data }], guard := none }) rfl (fun Kz hK => ?_) AllReadyH.nil
    go_simp
    go_at_call 7
    refine (tdis_any ⟨R, L, pR, cR, pL, cL⟩ p _ _ ((HLk.out.keep hHeld.out).t) hR hL).mono ?_
    rintro e wd1 ⟨vd, rfl, hown, hgd⟩
    (try simp only at hown)
    rw [HX.out] at hown
    obtain ⟨pd1, cd1, rfl, hd11, hd21⟩ := own_shape hown
    have HD1 : Hid (RdF wd1 (fun _ => True) (.slice pd1 X.length cd1) X.length (X.flatMap dsC)) := Lib.hid ((rdf_of_own2 hown).mono (fun _ _ => trivial))
    clear hown
    refine hK.out _ _ (Lib.hid (grown_trans hHeld.out hgd)) (fun hH2 => ?_)
    clear hK Kz hHeld
    have hHeld := hH2
    clear hH2
    (try simp only [Act.put, List.setIfInBounds_toArray, List.set_cons_zero, List.set_cons_succ])
    refine wpAnyH_ready (rs := [11]) (by kernel_rfl) (by simp) ?_
    refine AllReadyH.cons (o := { dst := some 49, op := Op.call { callee := Callee.value (Operand.func 8), args := #[Operand.tmp 44, Operand.tmp 48], argTypes := #[28, 3] }, type := 31, pos := "law.go:25", after := #[{ on := 6, ground := Ground.data }, { on := 10, ground := Ground.data }, { on := 5, ground := Ground.chain }], guard := none }) rfl (fun Kz hK => ?_) AllReadyH.nil
    go_simp
    go_at_call 8
    refine (rdis_any ⟨R, L, pR, cR, pL, cL⟩ p _ _ ((HLk.out.keep hHeld.out).t) hR).mono ?_
    rintro e wd2 ⟨vd, rfl, hown, hgd⟩
    (try simp only at hown)
    rw [HX.out] at hown
    obtain ⟨pd2, cd2, rfl, hd12, hd22⟩ := own_shape hown
    have HD2 : Hid (RdF wd2 (fun _ => True) (.slice pd2 X.length cd2) X.length (X.flatMap dsC)) := Lib.hid ((rdf_of_own2 hown).mono (fun _ _ => trivial))
    have HDA := Lib.hid (HD1.out.keep hgd)
    clear hown
    refine hK.out _ _ (Lib.hid (grown_trans hHeld.out hgd)) (fun hH2 => ?_)
    clear hK Kz hHeld
    have hHeld := hH2
    clear hH2
    (try simp only [Act.put, List.setIfInBounds_toArray, List.set_cons_zero, List.set_cons_succ])
    refine wpAnyH_take (i := 12) (oi := { dst := some 11, op := Op.assign (Operand.tmp 43), type := 31, pos := "law.go:25", after := #[{ on := 5, ground := Ground.data }, { on := 11, ground := Ground.chain }, { on := 0, ground := Ground.phase }, { on := 1, ground := Ground.phase }, { on := 2, ground := Ground.phase }, { on := 3, ground := Ground.phase }, { on := 4, ground := Ground.phase }, { on := 5, ground := Ground.phase }, { on := 6, ground := Ground.textOnly Departure.lateStores }, { on := 7, ground := Ground.textOnly Departure.lateStores }, { on := 8, ground := Ground.textOnly Departure.lateStores }, { on := 9, ground := Ground.textOnly Departure.lateStores }, { on := 10, ground := Ground.textOnly Departure.lateStores }, { on := 11, ground := Ground.textOnly Departure.lateStoresUnsure }], guard := none }) (v := ?_) rfl (by kernel_rfl) (by kernel_rfl) (by kernel_rfl) (fun _ _ _ h => h) (Or.inl ⟨by rfl, ?_⟩) hHeld ?_
    rotate_left 1
    · intro u hSu
      obtain ⟨q0, q1⟩ := row_cells (kept_row HLk.out.gb hSu.out (by simp))
      have q2 := HPP.out.2 u (grown_trans HGk.out hSu.out)
      go_simp
      first | done | with_reducible rfl
    (try simp only [Act.put, List.setIfInBounds_toArray, List.set_cons_zero, List.set_cons_succ])
    refine wpAnyH_take (i := 13) (oi := { dst := some 12, op := Op.assign (Operand.tmp 49), type := 31, pos := "law.go:25", after := #[{ on := 11, ground := Ground.data }, { on := 12, ground := Ground.chain }, { on := 0, ground := Ground.phase }, { on := 1, ground := Ground.phase }, { on := 2, ground := Ground.phase }, { on := 3, ground := Ground.phase }, { on := 4, ground := Ground.phase }, { on := 5, ground := Ground.phase }, { on := 6, ground := Ground.phase }, { on := 7, ground := Ground.phase }, { on := 8, ground := Ground.phase }, { on := 9, ground := Ground.phase }, { on := 10, ground := Ground.phase }, { on := 11, ground := Ground.phase }, { on := 12, ground := Ground.phase }], guard := none }) (v := ?_) rfl (by kernel_rfl) (by kernel_rfl) (by kernel_rfl) (fun _ _ _ h => h) (Or.inl ⟨by rfl, ?_⟩) hHeld ?_
    rotate_left 1
    · intro u hSu
      obtain ⟨q0, q1⟩ := row_cells (kept_row HLk.out.gb hSu.out (by simp))
      have q2 := HPP.out.2 u (grown_trans HGk.out hSu.out)
      go_simp
      first | done | with_reducible rfl
    (try simp only [Act.put, List.setIfInBounds_toArray, List.set_cons_zero, List.set_cons_succ])
    refine wpAnyH_done (by kernel_rfl) ?_ _
    have HL8 := Lib.hid (HLk.out.keep hHeld.out)
    have HG8 := Lib.hid (grown_trans HGk.out hHeld.out)
    obtain ⟨w8, hw8⟩ : ∃ w8, w8 = wd2 := ⟨_, rfl⟩
    rw [← hw8] at HL8 HG8 HDA HD2 ⊢
    clear hHeld hw8 HLk HGk HD1 hgd
    go_wp2_with fail
    go_loopw [13] (fun i wr => ∃ j : Nat, j ≤ X.length ∧ i = .int .i64 (j : Int) ∧ Hid (LW w G ⟨R, L, pR, cR, pL, cL⟩ wr) ∧ Hid (w8.grownBy wr none)) (fun i _ => X.length - (RowKit.intOf i).toNat)
    case atStart => exact ⟨0, Nat.zero_le _, rfl, HL8, Lib.hid (grown_refl _ _)⟩
    case round =>
    obtain ⟨w9, rfl⟩ : ∃ w9, w9 = wr := ⟨_, rfl⟩
    obtain ⟨j, hj, rfl, HLj, HGj⟩ := hrel
    clear HL8
    by_cases hltj : j < X.length
    · obtain ⟨-, bA, oA, rfl, -, -⟩ := dsn_cells (HDA.out.keep HGj.out) (by omega)
      obtain ⟨-, bB, oB, rfl, -, -⟩ := dsn_cells (HD2.out.keep HGj.out) (by omega)
      obtain ⟨y, hy⟩ : ∃ y, X[j]? = some y := ⟨_, List.getElem?_eq_getElem hltj⟩
      have HY := Lib.hid hy
      have j1 : (j : Int) < (X.length : Int) := by omega
      have j0 : (0 : Int) ≤ (j : Int) := by omega
      clear hy
      go_upto_region 13 with fail
      refine wp_region_held_drew (S := fun w' => Hid (w9.grownBy w' none)) (by kernel_rfl) (Lib.hid (grown_drew (grown_refl _ _))) (fun hHeld => ?_)
      refine wpAnyH_take (i := 0) (oi := { dst := some 61, op := Op.move (Operand.tmp 11), type := 31, pos := "law.go:30", after := #[], guard := none }) (v := ?_) rfl (by kernel_rfl) (by kernel_rfl) (by kernel_rfl) (fun _ _ _ h => h) (Or.inl ⟨by rfl, ?_⟩) hHeld ?_
      rotate_left 1
      · intro u hSu
        obtain ⟨qa0, qa1⟩ := ds_at (HDA.out.keep (grown_trans HGj.out hSu.out)) HY.out
        obtain ⟨qb0, qb1⟩ := ds_at (HD2.out.keep (grown_trans HGj.out hSu.out)) HY.out
        go_simp
        first | done | with_reducible rfl
      (try simp only [Act.put, List.setIfInBounds_toArray, List.set_cons_zero, List.set_cons_succ])
      refine wpAnyH_take (i := 1) (oi := { dst := some 62, op := Op.move (Operand.tmp 13), type := 3, pos := "law.go:30", after := #[], guard := none }) (v := ?_) rfl (by kernel_rfl) (by kernel_rfl) (by kernel_rfl) (fun _ _ _ h => h) (Or.inl ⟨by rfl, ?_⟩) hHeld ?_
      rotate_left 1
      · intro u hSu
        obtain ⟨qa0, qa1⟩ := ds_at (HDA.out.keep (grown_trans HGj.out hSu.out)) HY.out
        obtain ⟨qb0, qb1⟩ := ds_at (HD2.out.keep (grown_trans HGj.out hSu.out)) HY.out
        go_simp
        first | done | with_reducible rfl
      (try simp only [Act.put, List.setIfInBounds_toArray, List.set_cons_zero, List.set_cons_succ])
      refine wpAnyH_take (i := 2) (oi := { dst := some 63, op := Op.indexAddr 31 (Operand.tmp 61) (Operand.tmp 62), type := 0, pos := "law.go:30", after := #[{ on := 0, ground := Ground.data }, { on := 1, ground := Ground.data }], guard := none }) (v := ?_) rfl (by kernel_rfl) (by kernel_rfl) (by kernel_rfl) (fun _ _ _ h => h) (Or.inl ⟨by rfl, ?_⟩) hHeld ?_
      rotate_left 1
      · intro u hSu
        obtain ⟨qa0, qa1⟩ := ds_at (HDA.out.keep (grown_trans HGj.out hSu.out)) HY.out
        obtain ⟨qb0, qb1⟩ := ds_at (HD2.out.keep (grown_trans HGj.out hSu.out)) HY.out
        go_simp
        first | done | with_reducible rfl
      (try simp only [Act.put, List.setIfInBounds_toArray, List.set_cons_zero, List.set_cons_succ])
      refine wpAnyH_take (i := 3) (oi := { dst := some 64, op := Op.load 34 (Operand.tmp 63), type := 34, pos := "law.go:30", after := #[{ on := 2, ground := Ground.data }], guard := none }) (v := (.agg #[.int .i64 y.1, .int .i64 y.2])) rfl (by kernel_rfl) (by kernel_rfl) (by kernel_rfl) (fun _ _ _ h => h) (Or.inl ⟨by rfl, ?_⟩) hHeld ?_
      · intro u hSu
        obtain ⟨qa0, qa1⟩ := ds_at (HDA.out.keep (grown_trans HGj.out hSu.out)) HY.out
        obtain ⟨qb0, qb1⟩ := ds_at (HD2.out.keep (grown_trans HGj.out hSu.out)) HY.out
        go_simp
        first | done | with_reducible rfl
      (try simp only [Act.put, List.setIfInBounds_toArray, List.set_cons_zero, List.set_cons_succ])
      refine wpAnyH_take (i := 4) (oi := { dst := some 65, op := Op.move (Operand.tmp 12), type := 31, pos := "law.go:30", after := #[], guard := none }) (v := ?_) rfl (by kernel_rfl) (by kernel_rfl) (by kernel_rfl) (fun _ _ _ h => h) (Or.inl ⟨by rfl, ?_⟩) hHeld ?_
      rotate_left 1
      · intro u hSu
        obtain ⟨qa0, qa1⟩ := ds_at (HDA.out.keep (grown_trans HGj.out hSu.out)) HY.out
        obtain ⟨qb0, qb1⟩ := ds_at (HD2.out.keep (grown_trans HGj.out hSu.out)) HY.out
        go_simp
        first | done | with_reducible rfl
      (try simp only [Act.put, List.setIfInBounds_toArray, List.set_cons_zero, List.set_cons_succ])
      refine wpAnyH_take (i := 5) (oi := { dst := some 66, op := Op.move (Operand.tmp 13), type := 3, pos := "law.go:30", after := #[], guard := none }) (v := ?_) rfl (by kernel_rfl) (by kernel_rfl) (by kernel_rfl) (fun _ _ _ h => h) (Or.inl ⟨by rfl, ?_⟩) hHeld ?_
      rotate_left 1
      · intro u hSu
        obtain ⟨qa0, qa1⟩ := ds_at (HDA.out.keep (grown_trans HGj.out hSu.out)) HY.out
        obtain ⟨qb0, qb1⟩ := ds_at (HD2.out.keep (grown_trans HGj.out hSu.out)) HY.out
        go_simp
        first | done | with_reducible rfl
      (try simp only [Act.put, List.setIfInBounds_toArray, List.set_cons_zero, List.set_cons_succ])
      refine wpAnyH_take (i := 6) (oi := { dst := some 67, op := Op.indexAddr 31 (Operand.tmp 65) (Operand.tmp 66), type := 0, pos := "law.go:30", after := #[{ on := 4, ground := Ground.data }, { on := 5, ground := Ground.data }], guard := none }) (v := ?_) rfl (by kernel_rfl) (by kernel_rfl) (by kernel_rfl) (fun _ _ _ h => h) (Or.inl ⟨by rfl, ?_⟩) hHeld ?_
      rotate_left 1
      · intro u hSu
        obtain ⟨qa0, qa1⟩ := ds_at (HDA.out.keep (grown_trans HGj.out hSu.out)) HY.out
        obtain ⟨qb0, qb1⟩ := ds_at (HD2.out.keep (grown_trans HGj.out hSu.out)) HY.out
        go_simp
        first | done | with_reducible rfl
      (try simp only [Act.put, List.setIfInBounds_toArray, List.set_cons_zero, List.set_cons_succ])
      refine wpAnyH_take (i := 7) (oi := { dst := some 68, op := Op.load 34 (Operand.tmp 67), type := 34, pos := "law.go:30", after := #[{ on := 6, ground := Ground.data }], guard := none }) (v := (.agg #[.int .i64 y.1, .int .i64 y.2])) rfl (by kernel_rfl) (by kernel_rfl) (by kernel_rfl) (fun _ _ _ h => h) (Or.inl ⟨by rfl, ?_⟩) hHeld ?_
      · intro u hSu
        obtain ⟨qa0, qa1⟩ := ds_at (HDA.out.keep (grown_trans HGj.out hSu.out)) HY.out
        obtain ⟨qb0, qb1⟩ := ds_at (HD2.out.keep (grown_trans HGj.out hSu.out)) HY.out
        go_simp
        first | done | with_reducible rfl
      (try simp only [Act.put, List.setIfInBounds_toArray, List.set_cons_zero, List.set_cons_succ])
      refine wpAnyH_take (i := 8) (oi := { dst := some 69, op := Op.binOp BinOp.neq 34 (Operand.tmp 64) (Operand.tmp 68) 34, type := 4, pos := "law.go:30", after := #[{ on := 3, ground := Ground.data }, { on := 7, ground := Ground.data }], guard := none }) (v := (.bool false)) rfl (by kernel_rfl) (by kernel_rfl) (by kernel_rfl) (fun _ _ _ h => h) (Or.inl ⟨by rfl, ?_⟩) hHeld ?_
      · intro u hSu
        obtain ⟨qa0, qa1⟩ := ds_at (HDA.out.keep (grown_trans HGj.out hSu.out)) HY.out
        obtain ⟨qb0, qb1⟩ := ds_at (HD2.out.keep (grown_trans HGj.out hSu.out)) HY.out
        go_simp
        first | done | with_reducible rfl | simp | rfl
      (try simp only [Act.put, List.setIfInBounds_toArray, List.set_cons_zero, List.set_cons_succ])
      refine wpAnyH_done (by kernel_rfl) ?_ _
      have HLa := Lib.hid (HLj.out.keep hHeld.out)
      have HGa := Lib.hid (grown_trans HGj.out hHeld.out)
      clear hHeld HLj HGj
      go_wp2_with fail
      exact ⟨⟨j + 1, by omega, congrArg _ (by omega), HLa, HGa⟩, by simp only [RowKit.intOf]; omega⟩
    · obtain rfl : j = X.length := by omega
      have HG9 := Lib.hid (grown_trans HG8.out HGj.out)
      clear HDA HD2 HGj HG8
      go_wp2_with fail
      go_loopw [14] (fun i wr => ∃ m : Nat, m ≤ 4 ∧ i = .int .i64 (m : Int) ∧ Hid (LW w G ⟨R, L, pR, cR, pL, cL⟩ wr) ∧ Hid (wB.grownBy wr none)) (fun i _ => 4 - (RowKit.intOf i).toNat)
      case atStart => exact ⟨0, by omega, rfl, HLj, HG9⟩
      case round =>
      obtain ⟨w10, rfl⟩ : ∃ w10, w10 = wr := ⟨_, rfl⟩
      obtain ⟨m, hm, rfl, HLm, HGm⟩ := hrel
      clear HLj HG9
      by_cases hltm : m < 4
      · obtain ⟨z, hz, hzc⟩ := HP.out m hltm
        have HZZ := Lib.hid (And.intro hz hzc)
        have m1 : (m : Int) < 4 := by omega
        have m0 : (0 : Int) ≤ (m : Int) := by omega
        obtain ⟨D, hD⟩ : ∃ D, (dst R L p z).getD 0 = D := ⟨_, rfl⟩
        obtain ⟨o, ho⟩ : ∃ o, (dst R L p z).isSome = o := ⟨_, rfl⟩
        have HDO := Lib.hid (And.intro hD ho)
        clear hz hzc hD ho
        go_upto_region 18 with fail
        refine wp_region_held_drew (S := fun w' => Hid (w10.grownBy w' none)) (by kernel_rfl) (Lib.hid (grown_drew (grown_refl _ _))) (fun hHeld => ?_)
        refine wpAnyH_take (i := 0) (oi := { dst := some 77, op := Op.load 28 (Operand.tmp 8), type := 28, pos := "law.go:35", after := #[], guard := none }) (v := ?_) rfl (by kernel_rfl) (by kernel_rfl) (by kernel_rfl) (fun _ _ _ h => h) (Or.inl ⟨by rfl, ?_⟩) hHeld ?_
        rotate_left 1
        · intro u hSu
          obtain ⟨q0, q1⟩ := row_cells (kept_row HLm.out.gb hSu.out (by simp))
          have q2 := HPP.out.2 u (grown_trans HGm.out hSu.out)
          have q3 := HZZ.out.2 u (grown_trans HGm.out hSu.out)
          go_simp
          first | done | with_reducible rfl
        (try simp only [Act.put, List.setIfInBounds_toArray, List.set_cons_zero, List.set_cons_succ])
        refine wpAnyH_take (i := 1) (oi := { dst := some 78, op := Op.move (Operand.tmp 9), type := 22, pos := "law.go:35", after := #[], guard := none }) (v := ?_) rfl (by kernel_rfl) (by kernel_rfl) (by kernel_rfl) (fun _ _ _ h => h) (Or.inl ⟨by rfl, ?_⟩) hHeld ?_
        rotate_left 1
        · intro u hSu
          obtain ⟨q0, q1⟩ := row_cells (kept_row HLm.out.gb hSu.out (by simp))
          have q2 := HPP.out.2 u (grown_trans HGm.out hSu.out)
          have q3 := HZZ.out.2 u (grown_trans HGm.out hSu.out)
          go_simp
          first | done | with_reducible rfl
        (try simp only [Act.put, List.setIfInBounds_toArray, List.set_cons_zero, List.set_cons_succ])
        refine wpAnyH_take (i := 2) (oi := { dst := some 79, op := Op.move (Operand.tmp 10), type := 3, pos := "law.go:35", after := #[], guard := none }) (v := ?_) rfl (by kernel_rfl) (by kernel_rfl) (by kernel_rfl) (fun _ _ _ h => h) (Or.inl ⟨by rfl, ?_⟩) hHeld ?_
        rotate_left 1
        · intro u hSu
          obtain ⟨q0, q1⟩ := row_cells (kept_row HLm.out.gb hSu.out (by simp))
          have q2 := HPP.out.2 u (grown_trans HGm.out hSu.out)
          have q3 := HZZ.out.2 u (grown_trans HGm.out hSu.out)
          go_simp
          first | done | with_reducible rfl
        (try simp only [Act.put, List.setIfInBounds_toArray, List.set_cons_zero, List.set_cons_succ])
        refine wpAnyH_take (i := 3) (oi := { dst := some 80, op := Op.indexAddr 22 (Operand.tmp 78) (Operand.tmp 79), type := 0, pos := "law.go:35", after := #[{ on := 1, ground := Ground.data }, { on := 2, ground := Ground.data }], guard := none }) (v := ?_) rfl (by kernel_rfl) (by kernel_rfl) (by kernel_rfl) (fun _ _ _ h => h) (Or.inl ⟨by rfl, ?_⟩) hHeld ?_
        rotate_left 1
        · intro u hSu
          obtain ⟨q0, q1⟩ := row_cells (kept_row HLm.out.gb hSu.out (by simp))
          have q2 := HPP.out.2 u (grown_trans HGm.out hSu.out)
          have q3 := HZZ.out.2 u (grown_trans HGm.out hSu.out)
          go_simp
          first | done | with_reducible rfl
        (try simp only [Act.put, List.setIfInBounds_toArray, List.set_cons_zero, List.set_cons_succ])
        refine wpAnyH_take (i := 4) (oi := { dst := some 81, op := Op.load 3 (Operand.tmp 80), type := 3, pos := "law.go:35", after := #[{ on := 3, ground := Ground.data }], guard := none }) (v := ?_) rfl (by kernel_rfl) (by kernel_rfl) (by kernel_rfl) (fun _ _ _ h => h) (Or.inl ⟨by rfl, ?_⟩) hHeld ?_
        rotate_left 1
        · intro u hSu
          obtain ⟨q0, q1⟩ := row_cells (kept_row HLm.out.gb hSu.out (by simp))
          have q2 := HPP.out.2 u (grown_trans HGm.out hSu.out)
          have q3 := HZZ.out.2 u (grown_trans HGm.out hSu.out)
          go_simp
          first | done | with_reducible rfl
        (try simp only [Act.put, List.setIfInBounds_toArray, List.set_cons_zero, List.set_cons_succ])
        refine wpAnyH_take (i := 5) (oi := { dst := some 82, op := Op.move (Operand.tmp 9), type := 22, pos := "law.go:35", after := #[], guard := none }) (v := ?_) rfl (by kernel_rfl) (by kernel_rfl) (by kernel_rfl) (fun _ _ _ h => h) (Or.inl ⟨by rfl, ?_⟩) hHeld ?_
        rotate_left 1
        · intro u hSu
          obtain ⟨q0, q1⟩ := row_cells (kept_row HLm.out.gb hSu.out (by simp))
          have q2 := HPP.out.2 u (grown_trans HGm.out hSu.out)
          have q3 := HZZ.out.2 u (grown_trans HGm.out hSu.out)
          go_simp
          first | done | with_reducible rfl
        (try simp only [Act.put, List.setIfInBounds_toArray, List.set_cons_zero, List.set_cons_succ])
        refine wpAnyH_take (i := 6) (oi := { dst := some 83, op := Op.move (Operand.tmp 14), type := 3, pos := "law.go:35", after := #[], guard := none }) (v := ?_) rfl (by kernel_rfl) (by kernel_rfl) (by kernel_rfl) (fun _ _ _ h => h) (Or.inl ⟨by rfl, ?_⟩) hHeld ?_
        rotate_left 1
        · intro u hSu
          obtain ⟨q0, q1⟩ := row_cells (kept_row HLm.out.gb hSu.out (by simp))
          have q2 := HPP.out.2 u (grown_trans HGm.out hSu.out)
          have q3 := HZZ.out.2 u (grown_trans HGm.out hSu.out)
          go_simp
          first | done | with_reducible rfl
        (try simp only [Act.put, List.setIfInBounds_toArray, List.set_cons_zero, List.set_cons_succ])
        refine wpAnyH_take (i := 7) (oi := { dst := some 84, op := Op.indexAddr 22 (Operand.tmp 82) (Operand.tmp 83), type := 0, pos := "law.go:35", after := #[{ on := 5, ground := Ground.data }, { on := 6, ground := Ground.data }], guard := none }) (v := ?_) rfl (by kernel_rfl) (by kernel_rfl) (by kernel_rfl) (fun _ _ _ h => h) (Or.inl ⟨by rfl, ?_⟩) hHeld ?_
        rotate_left 1
        · intro u hSu
          obtain ⟨q0, q1⟩ := row_cells (kept_row HLm.out.gb hSu.out (by simp))
          have q2 := HPP.out.2 u (grown_trans HGm.out hSu.out)
          have q3 := HZZ.out.2 u (grown_trans HGm.out hSu.out)
          go_simp
          first | done | with_reducible rfl
        (try simp only [Act.put, List.setIfInBounds_toArray, List.set_cons_zero, List.set_cons_succ])
        refine wpAnyH_take (i := 8) (oi := { dst := some 85, op := Op.load 3 (Operand.tmp 84), type := 3, pos := "law.go:35", after := #[{ on := 7, ground := Ground.data }], guard := none }) (v := ?_) rfl (by kernel_rfl) (by kernel_rfl) (by kernel_rfl) (fun _ _ _ h => h) (Or.inl ⟨by rfl, ?_⟩) hHeld ?_
        rotate_left 1
        · intro u hSu
          obtain ⟨q0, q1⟩ := row_cells (kept_row HLm.out.gb hSu.out (by simp))
          have q2 := HPP.out.2 u (grown_trans HGm.out hSu.out)
          have q3 := HZZ.out.2 u (grown_trans HGm.out hSu.out)
          go_simp
          first | done | with_reducible rfl
        (try simp only [Act.put, List.setIfInBounds_toArray, List.set_cons_zero, List.set_cons_succ])
        refine wpAnyH_ready (rs := [9]) (by kernel_rfl) (by simp) ?_
        refine AllReadyH.cons (o := { dst := some 86, op := Op.call { callee := Callee.value (Operand.func 9), args := #[Operand.tmp 77, Operand.tmp 81, Operand.tmp 85], argTypes := #[28, 3, 3] }, type := 35, pos := "law.go:35", after := #[{ on := 0, ground := Ground.data }, { on := 4, ground := Ground.data }, { on := 8, ground := Ground.data }], guard := none }) rfl (fun Kz hK => ?_) AllReadyH.nil
        go_simp
        go_at_call 9
        refine (tcs_any ⟨R, L, pR, cR, pL, cL⟩ p z _ _ ((HLm.out.keep hHeld.out).t) hR hL HZZ.out.1).mono ?_
        rintro e wc1 ⟨rfl, hgc⟩
        simp only
        rw [HDO.out.1, HDO.out.2]
        refine hK.out _ _ (Lib.hid (grown_trans hHeld.out hgc)) (fun hH2 => ?_)
        clear hK Kz hHeld
        have hHeld := hH2
        clear hH2
        (try simp only [Act.put, List.setIfInBounds_toArray, List.set_cons_zero, List.set_cons_succ])
        refine wpAnyH_take (i := 10) (oi := { dst := some 76, op := Op.move (Operand.tmp 86), type := 35, pos := "law.go:35", after := #[{ on := 9, ground := Ground.data }], guard := none }) (v := ?_) rfl (by kernel_rfl) (by kernel_rfl) (by kernel_rfl) (fun _ _ _ h => h) (Or.inl ⟨by rfl, ?_⟩) hHeld ?_
        rotate_left 1
        · intro u hSu
          obtain ⟨q0, q1⟩ := row_cells (kept_row HLm.out.gb hSu.out (by simp))
          have q2 := HPP.out.2 u (grown_trans HGm.out hSu.out)
          have q3 := HZZ.out.2 u (grown_trans HGm.out hSu.out)
          go_simp
          first | done | with_reducible rfl
        (try simp only [Act.put, List.setIfInBounds_toArray, List.set_cons_zero, List.set_cons_succ])
        refine wpAnyH_take (i := 11) (oi := { dst := some 87, op := Op.extract (Operand.tmp 76) 0, type := 3, pos := "law.go:35", after := #[{ on := 10, ground := Ground.data }], guard := none }) (v := ?_) rfl (by kernel_rfl) (by kernel_rfl) (by kernel_rfl) (fun _ _ _ h => h) (Or.inl ⟨by rfl, ?_⟩) hHeld ?_
        rotate_left 1
        · intro u hSu
          obtain ⟨q0, q1⟩ := row_cells (kept_row HLm.out.gb hSu.out (by simp))
          have q2 := HPP.out.2 u (grown_trans HGm.out hSu.out)
          have q3 := HZZ.out.2 u (grown_trans HGm.out hSu.out)
          go_simp
          first | done | with_reducible rfl
        (try simp only [Act.put, List.setIfInBounds_toArray, List.set_cons_zero, List.set_cons_succ])
        refine wpAnyH_take (i := 12) (oi := { dst := some 88, op := Op.extract (Operand.tmp 76) 1, type := 4, pos := "law.go:35", after := #[{ on := 10, ground := Ground.data }, { on := 13, ground := Ground.gcOnly Departure.lateStores }], guard := none }) (v := ?_) rfl (by kernel_rfl) (by kernel_rfl) (by kernel_rfl) (fun _ _ _ h => h) (Or.inl ⟨by rfl, ?_⟩) hHeld ?_
        rotate_left 1
        · intro u hSu
          obtain ⟨q0, q1⟩ := row_cells (kept_row HLm.out.gb hSu.out (by simp))
          have q2 := HPP.out.2 u (grown_trans HGm.out hSu.out)
          have q3 := HZZ.out.2 u (grown_trans HGm.out hSu.out)
          go_simp
          first | done | with_reducible rfl
        (try simp only [Act.put, List.setIfInBounds_toArray, List.set_cons_zero, List.set_cons_succ])
        refine wpAnyH_take (i := 13) (oi := { dst := some 15, op := Op.assign (Operand.tmp 87), type := 3, pos := "law.go:35", after := #[{ on := 11, ground := Ground.data }, { on := 9, ground := Ground.chain }, { on := 0, ground := Ground.phase }, { on := 1, ground := Ground.phase }, { on := 2, ground := Ground.phase }, { on := 3, ground := Ground.phase }, { on := 4, ground := Ground.phase }, { on := 5, ground := Ground.phase }, { on := 6, ground := Ground.phase }, { on := 7, ground := Ground.phase }, { on := 8, ground := Ground.phase }, { on := 9, ground := Ground.phase }, { on := 10, ground := Ground.phase }, { on := 11, ground := Ground.phase }, { on := 12, ground := Ground.textOnly Departure.lateStores }], guard := none }) (v := ?_) rfl (by kernel_rfl) (by kernel_rfl) (by kernel_rfl) (fun _ _ _ h => h) (Or.inl ⟨by rfl, ?_⟩) hHeld ?_
        rotate_left 1
        · intro u hSu
          obtain ⟨q0, q1⟩ := row_cells (kept_row HLm.out.gb hSu.out (by simp))
          have q2 := HPP.out.2 u (grown_trans HGm.out hSu.out)
          have q3 := HZZ.out.2 u (grown_trans HGm.out hSu.out)
          go_simp
          first | done | with_reducible rfl
        (try simp only [Act.put, List.setIfInBounds_toArray, List.set_cons_zero, List.set_cons_succ])
        refine wpAnyH_take (i := 14) (oi := { dst := some 16, op := Op.assign (Operand.tmp 88), type := 4, pos := "law.go:35", after := #[{ on := 12, ground := Ground.data }, { on := 13, ground := Ground.chain }, { on := 0, ground := Ground.phase }, { on := 1, ground := Ground.phase }, { on := 2, ground := Ground.phase }, { on := 3, ground := Ground.phase }, { on := 4, ground := Ground.phase }, { on := 5, ground := Ground.phase }, { on := 6, ground := Ground.phase }, { on := 7, ground := Ground.phase }, { on := 8, ground := Ground.phase }, { on := 9, ground := Ground.phase }, { on := 10, ground := Ground.phase }, { on := 11, ground := Ground.phase }, { on := 12, ground := Ground.phase }, { on := 13, ground := Ground.phase }], guard := none }) (v := ?_) rfl (by kernel_rfl) (by kernel_rfl) (by kernel_rfl) (fun _ _ _ h => h) (Or.inl ⟨by rfl, ?_⟩) hHeld ?_
        rotate_left 1
        · intro u hSu
          obtain ⟨q0, q1⟩ := row_cells (kept_row HLm.out.gb hSu.out (by simp))
          have q2 := HPP.out.2 u (grown_trans HGm.out hSu.out)
          have q3 := HZZ.out.2 u (grown_trans HGm.out hSu.out)
          go_simp
          first | done | with_reducible rfl
        (try simp only [Act.put, List.setIfInBounds_toArray, List.set_cons_zero, List.set_cons_succ])
        refine wpAnyH_done (by kernel_rfl) ?_ _
        have HLn := Lib.hid (HLm.out.keep hHeld.out)
        have HGn := Lib.hid (grown_trans HGm.out hHeld.out)
        obtain ⟨w11, hw11⟩ : ∃ w11, w11 = wc1 := ⟨_, rfl⟩
        rw [← hw11] at HLn HGn ⊢
        clear hHeld hw11 HLm HGm
        go_upto_region 19 with fail
        refine wp_region_held_drew (S := fun w' => Hid (w11.grownBy w' none)) (by kernel_rfl) (Lib.hid (grown_drew (grown_refl _ _))) (fun hHeld => ?_)
        refine wpAnyH_take (i := 0) (oi := { dst := some 90, op := Op.load 28 (Operand.tmp 8), type := 28, pos := "law.go:36", after := #[], guard := none }) (v := ?_) rfl (by kernel_rfl) (by kernel_rfl) (by kernel_rfl) (fun _ _ _ h => h) (Or.inl ⟨by rfl, ?_⟩) hHeld ?_
        rotate_left 1
        · intro u hSu
          obtain ⟨q0, q1⟩ := row_cells (kept_row HLn.out.gb hSu.out (by simp))
          have q2 := HPP.out.2 u (grown_trans HGn.out hSu.out)
          have q3 := HZZ.out.2 u (grown_trans HGn.out hSu.out)
          go_simp
          first | done | with_reducible rfl
        (try simp only [Act.put, List.setIfInBounds_toArray, List.set_cons_zero, List.set_cons_succ])
        refine wpAnyH_take (i := 1) (oi := { dst := some 91, op := Op.move (Operand.tmp 9), type := 22, pos := "law.go:36", after := #[], guard := none }) (v := ?_) rfl (by kernel_rfl) (by kernel_rfl) (by kernel_rfl) (fun _ _ _ h => h) (Or.inl ⟨by rfl, ?_⟩) hHeld ?_
        rotate_left 1
        · intro u hSu
          obtain ⟨q0, q1⟩ := row_cells (kept_row HLn.out.gb hSu.out (by simp))
          have q2 := HPP.out.2 u (grown_trans HGn.out hSu.out)
          have q3 := HZZ.out.2 u (grown_trans HGn.out hSu.out)
          go_simp
          first | done | with_reducible rfl
        (try simp only [Act.put, List.setIfInBounds_toArray, List.set_cons_zero, List.set_cons_succ])
        refine wpAnyH_take (i := 2) (oi := { dst := some 92, op := Op.move (Operand.tmp 10), type := 3, pos := "law.go:36", after := #[], guard := none }) (v := ?_) rfl (by kernel_rfl) (by kernel_rfl) (by kernel_rfl) (fun _ _ _ h => h) (Or.inl ⟨by rfl, ?_⟩) hHeld ?_
        rotate_left 1
        · intro u hSu
          obtain ⟨q0, q1⟩ := row_cells (kept_row HLn.out.gb hSu.out (by simp))
          have q2 := HPP.out.2 u (grown_trans HGn.out hSu.out)
          have q3 := HZZ.out.2 u (grown_trans HGn.out hSu.out)
          go_simp
          first | done | with_reducible rfl
        (try simp only [Act.put, List.setIfInBounds_toArray, List.set_cons_zero, List.set_cons_succ])
        refine wpAnyH_take (i := 3) (oi := { dst := some 93, op := Op.indexAddr 22 (Operand.tmp 91) (Operand.tmp 92), type := 0, pos := "law.go:36", after := #[{ on := 1, ground := Ground.data }, { on := 2, ground := Ground.data }], guard := none }) (v := ?_) rfl (by kernel_rfl) (by kernel_rfl) (by kernel_rfl) (fun _ _ _ h => h) (Or.inl ⟨by rfl, ?_⟩) hHeld ?_
        rotate_left 1
        · intro u hSu
          obtain ⟨q0, q1⟩ := row_cells (kept_row HLn.out.gb hSu.out (by simp))
          have q2 := HPP.out.2 u (grown_trans HGn.out hSu.out)
          have q3 := HZZ.out.2 u (grown_trans HGn.out hSu.out)
          go_simp
          first | done | with_reducible rfl
        (try simp only [Act.put, List.setIfInBounds_toArray, List.set_cons_zero, List.set_cons_succ])
        refine wpAnyH_take (i := 4) (oi := { dst := some 94, op := Op.load 3 (Operand.tmp 93), type := 3, pos := "law.go:36", after := #[{ on := 3, ground := Ground.data }], guard := none }) (v := ?_) rfl (by kernel_rfl) (by kernel_rfl) (by kernel_rfl) (fun _ _ _ h => h) (Or.inl ⟨by rfl, ?_⟩) hHeld ?_
        rotate_left 1
        · intro u hSu
          obtain ⟨q0, q1⟩ := row_cells (kept_row HLn.out.gb hSu.out (by simp))
          have q2 := HPP.out.2 u (grown_trans HGn.out hSu.out)
          have q3 := HZZ.out.2 u (grown_trans HGn.out hSu.out)
          go_simp
          first | done | with_reducible rfl
        (try simp only [Act.put, List.setIfInBounds_toArray, List.set_cons_zero, List.set_cons_succ])
        refine wpAnyH_take (i := 5) (oi := { dst := some 95, op := Op.move (Operand.tmp 9), type := 22, pos := "law.go:36", after := #[], guard := none }) (v := ?_) rfl (by kernel_rfl) (by kernel_rfl) (by kernel_rfl) (fun _ _ _ h => h) (Or.inl ⟨by rfl, ?_⟩) hHeld ?_
        rotate_left 1
        · intro u hSu
          obtain ⟨q0, q1⟩ := row_cells (kept_row HLn.out.gb hSu.out (by simp))
          have q2 := HPP.out.2 u (grown_trans HGn.out hSu.out)
          have q3 := HZZ.out.2 u (grown_trans HGn.out hSu.out)
          go_simp
          first | done | with_reducible rfl
        (try simp only [Act.put, List.setIfInBounds_toArray, List.set_cons_zero, List.set_cons_succ])
        refine wpAnyH_take (i := 6) (oi := { dst := some 96, op := Op.move (Operand.tmp 14), type := 3, pos := "law.go:36", after := #[], guard := none }) (v := ?_) rfl (by kernel_rfl) (by kernel_rfl) (by kernel_rfl) (fun _ _ _ h => h) (Or.inl ⟨by rfl, ?_⟩) hHeld ?_
        rotate_left 1
        · intro u hSu
          obtain ⟨q0, q1⟩ := row_cells (kept_row HLn.out.gb hSu.out (by simp))
          have q2 := HPP.out.2 u (grown_trans HGn.out hSu.out)
          have q3 := HZZ.out.2 u (grown_trans HGn.out hSu.out)
          go_simp
          first | done | with_reducible rfl
        (try simp only [Act.put, List.setIfInBounds_toArray, List.set_cons_zero, List.set_cons_succ])
        refine wpAnyH_take (i := 7) (oi := { dst := some 97, op := Op.indexAddr 22 (Operand.tmp 95) (Operand.tmp 96), type := 0, pos := "law.go:36", after := #[{ on := 5, ground := Ground.data }, { on := 6, ground := Ground.data }], guard := none }) (v := ?_) rfl (by kernel_rfl) (by kernel_rfl) (by kernel_rfl) (fun _ _ _ h => h) (Or.inl ⟨by rfl, ?_⟩) hHeld ?_
        rotate_left 1
        · intro u hSu
          obtain ⟨q0, q1⟩ := row_cells (kept_row HLn.out.gb hSu.out (by simp))
          have q2 := HPP.out.2 u (grown_trans HGn.out hSu.out)
          have q3 := HZZ.out.2 u (grown_trans HGn.out hSu.out)
          go_simp
          first | done | with_reducible rfl
        (try simp only [Act.put, List.setIfInBounds_toArray, List.set_cons_zero, List.set_cons_succ])
        refine wpAnyH_take (i := 8) (oi := { dst := some 98, op := Op.load 3 (Operand.tmp 97), type := 3, pos := "law.go:36", after := #[{ on := 7, ground := Ground.data }], guard := none }) (v := ?_) rfl (by kernel_rfl) (by kernel_rfl) (by kernel_rfl) (fun _ _ _ h => h) (Or.inl ⟨by rfl, ?_⟩) hHeld ?_
        rotate_left 1
        · intro u hSu
          obtain ⟨q0, q1⟩ := row_cells (kept_row HLn.out.gb hSu.out (by simp))
          have q2 := HPP.out.2 u (grown_trans HGn.out hSu.out)
          have q3 := HZZ.out.2 u (grown_trans HGn.out hSu.out)
          go_simp
          first | done | with_reducible rfl
        (try simp only [Act.put, List.setIfInBounds_toArray, List.set_cons_zero, List.set_cons_succ])
        refine wpAnyH_ready (rs := [9]) (by kernel_rfl) (by simp) ?_
        refine AllReadyH.cons (o := { dst := some 99, op := Op.call { callee := Callee.value (Operand.func 10), args := #[Operand.tmp 90, Operand.tmp 94, Operand.tmp 98], argTypes := #[28, 3, 3] }, type := 35, pos := "law.go:36", after := #[{ on := 0, ground := Ground.data }, { on := 4, ground := Ground.data }, { on := 8, ground := Ground.data }], guard := none }) rfl (fun Kz hK => ?_) AllReadyH.nil
        go_simp
        go_at_call 10
        refine (rcst_any ⟨R, L, pR, cR, pL, cL⟩ p z _ _ ((HLn.out.keep hHeld.out).t)).mono ?_
        rintro e wc2 ⟨rfl, hgc⟩
        simp only
        rw [HDO.out.1, HDO.out.2]
        refine hK.out _ _ (Lib.hid (grown_trans hHeld.out hgc)) (fun hH2 => ?_)
        clear hK Kz hHeld
        have hHeld := hH2
        clear hH2
        (try simp only [Act.put, List.setIfInBounds_toArray, List.set_cons_zero, List.set_cons_succ])
        refine wpAnyH_take (i := 10) (oi := { dst := some 89, op := Op.move (Operand.tmp 99), type := 35, pos := "law.go:36", after := #[{ on := 9, ground := Ground.data }], guard := none }) (v := ?_) rfl (by kernel_rfl) (by kernel_rfl) (by kernel_rfl) (fun _ _ _ h => h) (Or.inl ⟨by rfl, ?_⟩) hHeld ?_
        rotate_left 1
        · intro u hSu
          obtain ⟨q0, q1⟩ := row_cells (kept_row HLn.out.gb hSu.out (by simp))
          have q2 := HPP.out.2 u (grown_trans HGn.out hSu.out)
          have q3 := HZZ.out.2 u (grown_trans HGn.out hSu.out)
          go_simp
          first | done | with_reducible rfl
        (try simp only [Act.put, List.setIfInBounds_toArray, List.set_cons_zero, List.set_cons_succ])
        refine wpAnyH_take (i := 11) (oi := { dst := some 100, op := Op.extract (Operand.tmp 89) 0, type := 3, pos := "law.go:36", after := #[{ on := 10, ground := Ground.data }], guard := none }) (v := ?_) rfl (by kernel_rfl) (by kernel_rfl) (by kernel_rfl) (fun _ _ _ h => h) (Or.inl ⟨by rfl, ?_⟩) hHeld ?_
        rotate_left 1
        · intro u hSu
          obtain ⟨q0, q1⟩ := row_cells (kept_row HLn.out.gb hSu.out (by simp))
          have q2 := HPP.out.2 u (grown_trans HGn.out hSu.out)
          have q3 := HZZ.out.2 u (grown_trans HGn.out hSu.out)
          go_simp
          first | done | with_reducible rfl
        (try simp only [Act.put, List.setIfInBounds_toArray, List.set_cons_zero, List.set_cons_succ])
        refine wpAnyH_take (i := 12) (oi := { dst := some 101, op := Op.extract (Operand.tmp 89) 1, type := 4, pos := "law.go:36", after := #[{ on := 10, ground := Ground.data }, { on := 13, ground := Ground.gcOnly Departure.lateStores }], guard := none }) (v := ?_) rfl (by kernel_rfl) (by kernel_rfl) (by kernel_rfl) (fun _ _ _ h => h) (Or.inl ⟨by rfl, ?_⟩) hHeld ?_
        rotate_left 1
        · intro u hSu
          obtain ⟨q0, q1⟩ := row_cells (kept_row HLn.out.gb hSu.out (by simp))
          have q2 := HPP.out.2 u (grown_trans HGn.out hSu.out)
          have q3 := HZZ.out.2 u (grown_trans HGn.out hSu.out)
          go_simp
          first | done | with_reducible rfl
        (try simp only [Act.put, List.setIfInBounds_toArray, List.set_cons_zero, List.set_cons_succ])
        refine wpAnyH_take (i := 13) (oi := { dst := some 17, op := Op.assign (Operand.tmp 100), type := 3, pos := "law.go:36", after := #[{ on := 11, ground := Ground.data }, { on := 9, ground := Ground.chain }, { on := 0, ground := Ground.phase }, { on := 1, ground := Ground.phase }, { on := 2, ground := Ground.phase }, { on := 3, ground := Ground.phase }, { on := 4, ground := Ground.phase }, { on := 5, ground := Ground.phase }, { on := 6, ground := Ground.phase }, { on := 7, ground := Ground.phase }, { on := 8, ground := Ground.phase }, { on := 9, ground := Ground.phase }, { on := 10, ground := Ground.phase }, { on := 11, ground := Ground.phase }, { on := 12, ground := Ground.textOnly Departure.lateStores }], guard := none }) (v := ?_) rfl (by kernel_rfl) (by kernel_rfl) (by kernel_rfl) (fun _ _ _ h => h) (Or.inl ⟨by rfl, ?_⟩) hHeld ?_
        rotate_left 1
        · intro u hSu
          obtain ⟨q0, q1⟩ := row_cells (kept_row HLn.out.gb hSu.out (by simp))
          have q2 := HPP.out.2 u (grown_trans HGn.out hSu.out)
          have q3 := HZZ.out.2 u (grown_trans HGn.out hSu.out)
          go_simp
          first | done | with_reducible rfl
        (try simp only [Act.put, List.setIfInBounds_toArray, List.set_cons_zero, List.set_cons_succ])
        refine wpAnyH_take (i := 14) (oi := { dst := some 18, op := Op.assign (Operand.tmp 101), type := 4, pos := "law.go:36", after := #[{ on := 12, ground := Ground.data }, { on := 13, ground := Ground.chain }, { on := 0, ground := Ground.phase }, { on := 1, ground := Ground.phase }, { on := 2, ground := Ground.phase }, { on := 3, ground := Ground.phase }, { on := 4, ground := Ground.phase }, { on := 5, ground := Ground.phase }, { on := 6, ground := Ground.phase }, { on := 7, ground := Ground.phase }, { on := 8, ground := Ground.phase }, { on := 9, ground := Ground.phase }, { on := 10, ground := Ground.phase }, { on := 11, ground := Ground.phase }, { on := 12, ground := Ground.phase }, { on := 13, ground := Ground.phase }], guard := none }) (v := ?_) rfl (by kernel_rfl) (by kernel_rfl) (by kernel_rfl) (fun _ _ _ h => h) (Or.inl ⟨by rfl, ?_⟩) hHeld ?_
        rotate_left 1
        · intro u hSu
          obtain ⟨q0, q1⟩ := row_cells (kept_row HLn.out.gb hSu.out (by simp))
          have q2 := HPP.out.2 u (grown_trans HGn.out hSu.out)
          have q3 := HZZ.out.2 u (grown_trans HGn.out hSu.out)
          go_simp
          first | done | with_reducible rfl
        (try simp only [Act.put, List.setIfInBounds_toArray, List.set_cons_zero, List.set_cons_succ])
        refine wpAnyH_done (by kernel_rfl) ?_ _
        have HLo := Lib.hid (HLn.out.keep hHeld.out)
        have HGo := Lib.hid (grown_trans HGn.out hHeld.out)
        have e1 : (D != D) = false := by simp
        have e2 : (o != o) = false := by simp
        clear hHeld HLn HGn
        go_wp2_with fail
        exact ⟨⟨m + 1, by omega, congrArg _ (by omega), HLo, HGo⟩, by simp only [RowKit.intOf]; omega⟩
      · obtain rfl : m = 4 := by omega
        go_wp2_with fail
        exact ⟨⟨k + 1, by omega, congrArg _ (by omega), HLm, HGm⟩, by simp only [RowKit.intOf]; omega⟩
  · obtain rfl : k = 4 := by omega
    go_wp2_with fail
    refine (sawake_any _).mono ?_
    rintro e w9 ⟨rfl, hg9⟩
    have HE := Lib.hid (grown_trans HLk.out.gr hg9)
    clear hg9
    go_wp2_with fail
    go_ret
    exact ⟨rfl, HE.out⟩
end Go.Proofs.YtlefjdglcdopeaaGreat
