/- Parts of the proof, packed: ShAvLaw. -/
import Derived.Test.YtlefjdglcdopeaaAv15
import Derived.Test.YtlefjdglcdopeaaAv19
import Derived.Test.YtlefjdglcdopeaaAv20
import Derived.Test.YtlefjdglcdopeaaAv12
/- The law ShortestAvoids. -/
namespace Go.Proofs.Ytlefjdglcdopeaa
open Go.RowKit Go.Maps Bs
set_option maxRecDepth 100000 in
set_option maxHeartbeats 12800000 in
theorem savoids_walk (v : Value) (w : World) (hv : IntsIn w v) :
    Calls Try.prog 10 #[v] w fun e w' => e = .returned (.bool true) ∧ w.grownBy w' none := by
  go_enter Try.func10, Try.ntmps10
  go_wp2_with fail
  refine (new_any v w hv).mono ?_
  rintro e w2 ⟨rfl, hg1, hT1⟩
  have H2 := Lib.hid (And.intro hg1 hT1)
  obtain ⟨a, ha⟩ : ∃ a, a = w.heap.size := ⟨_, rfl⟩
  rw [← ha] at H2
  have HA := Lib.hid ha
  clear hg1 hT1 hv
  rw [← HA.out]
  clear ha
  go_wp2_with fail
  refine (stopo_any a 7 0 (by decide) (by decide) (by unfold I64; omega) w2 H2.out.2).mono ?_
  rintro e w3 ⟨T, rfl, hT, hO, hpT, hs3⟩
  obtain ⟨R, L, pR, cR, pL, cL⟩ := T
  have HVT : Hid (VT 7 ⟨R, L, pR, cR, pL, cL⟩) := Lib.hid (VT.of hO hpT)
  simp only at hO hpT ⊢
  have gal := World.grownBy_alloc w3 (.cells #[.slice pR R.length cR, .slice pL L.length cL] 28) none
  have ha2 : a < w2.heap.size := H2.out.2.lt
  have HW4 : Hid (w.grownBy (w3.alloc (.cells #[.slice pR R.length cR, .slice pL L.length cL] 28)) none) := Lib.hid (grown_trans (grown_tape H2.out.1 (by rw [← HA.out]; exact hs3.1)) gal)
  have HG : Hid ((w3.alloc (.cells #[.slice pR R.length cR, .slice pL L.length cL] 28)).heap[w3.heap.size]? = some (.cells #[.slice pR R.length cR, .slice pL L.length cL] 28 (0, 0)) ∧ TgOk (w3.alloc (.cells #[.slice pR R.length cR, .slice pL L.length cL] 28)) (fun b => w2.heap.size ≤ b ∧ b < w3.heap.size) ⟨R, L, pR, cR, pL, cL⟩ ∧ Tp (w3.alloc (.cells #[.slice pR R.length cR, .slice pL L.length cL] 28)) a) :=
    Lib.hid ⟨heap_alloc_new w3 _, hT.keep gal, hs3.2.keep gal⟩
  have ha3 : a < w3.heap.size := Nat.lt_of_lt_of_le ha2 hs3.1.size
  clear hT hs3 gal hO hpT
  go_upto_region 3 with fail
  generalize w3.alloc _ = w4 at *
  refine wp_region_held_drew (S := fun w' => Hid (w4.grownBy w' (some a) ∧ Tp w' a)) (by kernel_rfl) (Lib.hid ⟨grown_drew (grown_refl _ _), HG.out.2.2.drew⟩) (fun hHeld => ?_)
  refine wpAnyH_take (i := 0) (oi := { dst := some 18, op := Op.move (Operand.tmp 3), type := 23, pos := "law.go:182", after := #[], guard := none }) (v := ?_) rfl (by kernel_rfl) (by kernel_rfl) (by kernel_rfl) (fun _ _ _ h => h) (Or.inl ⟨by rfl, ?_⟩) hHeld ?_
  rotate_left 1
  · intro u hSu
    obtain ⟨q0, q1⟩ := row_cells (kept_row HG.out.1 hSu.out.1 (fun e => by have := Option.some.inj e; omega))
    go_simp
    first | done | with_reducible rfl
  (try simp only [Act.put, List.setIfInBounds_toArray, List.set_cons_zero, List.set_cons_succ])
  refine wpAnyH_take (i := 1) (oi := { dst := some 19, op := Op.load 28 (Operand.tmp 4), type := 28, pos := "law.go:182", after := #[], guard := none }) (v := ?_) rfl (by kernel_rfl) (by kernel_rfl) (by kernel_rfl) (fun _ _ _ h => h) (Or.inl ⟨by rfl, ?_⟩) hHeld ?_
  rotate_left 1
  · intro u hSu
    obtain ⟨q0, q1⟩ := row_cells (kept_row HG.out.1 hSu.out.1 (fun e => by have := Option.some.inj e; omega))
    go_simp
    first | done | with_reducible rfl
  (try simp only [Act.put, List.setIfInBounds_toArray, List.set_cons_zero, List.set_cons_succ])
  refine wpAnyH_take (i := 3) (oi := { dst := some 21, op := Op.move (Operand.tmp 3), type := 23, pos := "law.go:182", after := #[], guard := none }) (v := ?_) rfl (by kernel_rfl) (by kernel_rfl) (by kernel_rfl) (fun _ _ _ h => h) (Or.inl ⟨by rfl, ?_⟩) hHeld ?_
  rotate_left 1
  · intro u hSu
    obtain ⟨q0, q1⟩ := row_cells (kept_row HG.out.1 hSu.out.1 (fun e => by have := Option.some.inj e; omega))
    go_simp
    first | done | with_reducible rfl
  (try simp only [Act.put, List.setIfInBounds_toArray, List.set_cons_zero, List.set_cons_succ])
  refine wpAnyH_take (i := 4) (oi := { dst := some 22, op := Op.load 28 (Operand.tmp 4), type := 28, pos := "law.go:182", after := #[], guard := none }) (v := ?_) rfl (by kernel_rfl) (by kernel_rfl) (by kernel_rfl) (fun _ _ _ h => h) (Or.inl ⟨by rfl, ?_⟩) hHeld ?_
  rotate_left 1
  · intro u hSu
    obtain ⟨q0, q1⟩ := row_cells (kept_row HG.out.1 hSu.out.1 (fun e => by have := Option.some.inj e; omega))
    go_simp
    first | done | with_reducible rfl
  (try simp only [Act.put, List.setIfInBounds_toArray, List.set_cons_zero, List.set_cons_succ])
  refine wpAnyH_take (i := 6) (oi := { dst := some 24, op := Op.move (Operand.tmp 3), type := 23, pos := "law.go:182", after := #[], guard := none }) (v := ?_) rfl (by kernel_rfl) (by kernel_rfl) (by kernel_rfl) (fun _ _ _ h => h) (Or.inl ⟨by rfl, ?_⟩) hHeld ?_
  rotate_left 1
  · intro u hSu
    obtain ⟨q0, q1⟩ := row_cells (kept_row HG.out.1 hSu.out.1 (fun e => by have := Option.some.inj e; omega))
    go_simp
    first | done | with_reducible rfl
  (try simp only [Act.put, List.setIfInBounds_toArray, List.set_cons_zero, List.set_cons_succ])
  refine wpAnyH_take (i := 7) (oi := { dst := some 25, op := Op.load 28 (Operand.tmp 4), type := 28, pos := "law.go:182", after := #[], guard := none }) (v := ?_) rfl (by kernel_rfl) (by kernel_rfl) (by kernel_rfl) (fun _ _ _ h => h) (Or.inl ⟨by rfl, ?_⟩) hHeld ?_
  rotate_left 1
  · intro u hSu
    obtain ⟨q0, q1⟩ := row_cells (kept_row HG.out.1 hSu.out.1 (fun e => by have := Option.some.inj e; omega))
    go_simp
    first | done | with_reducible rfl
  (try simp only [Act.put, List.setIfInBounds_toArray, List.set_cons_zero, List.set_cons_succ])
  refine wpAnyH_ready (rs := [2]) (by kernel_rfl) (by simp) ?_
  refine AllReadyH.cons (o := { dst := some 20, op := Op.call { callee := Callee.value (Operand.func 13), args := #[Operand.tmp 18, Operand.tmp 19, Operand.const (Value.int IntKind.i64 0)], argTypes := #[23, 28, 3] }, type := 3, pos := "law.go:182", after := #[{ on := 0, ground := Ground.data }, { on := 1, ground := Ground.data }], guard := none }) rfl (fun Kz hK => ?_) AllReadyH.nil
  go_simp
  go_at_call 13
  refine (srtr_any a ⟨R, L, pR, cR, pL, cL⟩ 0 (by unfold I64; omega) (fun b => w2.heap.size ≤ b ∧ b < w3.heap.size) _ (HG.out.2.1.grown hHeld.out.1 (fun b hb e => by have := Option.some.inj e; omega)) (fun b hb => by omega) hHeld.out.2).mono ?_
  rintro e w5 ⟨x, hx, rfl, hs⟩
  have Hx : Hid (hasV R L x = true ∧ 1 ≤ x ∧ x ≤ 99) := Lib.hid (HVT.out.rt hx)
  have hs1 := hs.1
  have hs2 := hs.2
  clear hx hs
  refine hK.out _ _ (Lib.hid ⟨grown_trans hHeld.out.1 hs1, hs2⟩) (fun hH2 => ?_)
  clear hK Kz hHeld
  have hHeld := hH2
  clear hH2
  (try simp only [Act.put, List.setIfInBounds_toArray, List.set_cons_zero, List.set_cons_succ])
  refine wpAnyH_ready (rs := [5]) (by kernel_rfl) (by simp) ?_
  refine AllReadyH.cons (o := { dst := some 23, op := Op.call { callee := Callee.value (Operand.func 13), args := #[Operand.tmp 21, Operand.tmp 22, Operand.const (Value.int IntKind.i64 0)], argTypes := #[23, 28, 3] }, type := 3, pos := "law.go:182", after := #[{ on := 3, ground := Ground.data }, { on := 4, ground := Ground.data }, { on := 2, ground := Ground.chain }], guard := none }) rfl (fun Kz hK => ?_) AllReadyH.nil
  go_simp
  go_at_call 13
  refine (srtr_any a ⟨R, L, pR, cR, pL, cL⟩ 0 (by unfold I64; omega) (fun b => w2.heap.size ≤ b ∧ b < w3.heap.size) _ (HG.out.2.1.grown hHeld.out.1 (fun b hb e => by have := Option.some.inj e; omega)) (fun b hb => by omega) hHeld.out.2).mono ?_
  rintro e w5 ⟨y, hy, rfl, hs⟩
  have Hy : Hid (hasV R L y = true ∧ 1 ≤ y ∧ y ≤ 99) := Lib.hid (HVT.out.rt hy)
  have hs1 := hs.1
  have hs2 := hs.2
  clear hy hs
  refine hK.out _ _ (Lib.hid ⟨grown_trans hHeld.out.1 hs1, hs2⟩) (fun hH2 => ?_)
  clear hK Kz hHeld
  have hHeld := hH2
  clear hH2
  (try simp only [Act.put, List.setIfInBounds_toArray, List.set_cons_zero, List.set_cons_succ])
  refine wpAnyH_ready (rs := [8]) (by kernel_rfl) (by simp) ?_
  refine AllReadyH.cons (o := { dst := some 26, op := Op.call { callee := Callee.value (Operand.func 13), args := #[Operand.tmp 24, Operand.tmp 25, Operand.const (Value.int IntKind.i64 0)], argTypes := #[23, 28, 3] }, type := 3, pos := "law.go:182", after := #[{ on := 6, ground := Ground.data }, { on := 7, ground := Ground.data }, { on := 5, ground := Ground.chain }], guard := none }) rfl (fun Kz hK => ?_) AllReadyH.nil
  go_simp
  go_at_call 13
  refine (srtr_any a ⟨R, L, pR, cR, pL, cL⟩ 0 (by unfold I64; omega) (fun b => w2.heap.size ≤ b ∧ b < w3.heap.size) _ (HG.out.2.1.grown hHeld.out.1 (fun b hb e => by have := Option.some.inj e; omega)) (fun b hb => by omega) hHeld.out.2).mono ?_
  rintro e w5 ⟨z, hz, rfl, hs⟩
  have Hz : Hid (hasV R L z = true ∧ 1 ≤ z ∧ z ≤ 99) := Lib.hid (HVT.out.rt hz)
  have hs1 := hs.1
  have hs2 := hs.2
  clear hz hs
  refine hK.out _ _ (Lib.hid ⟨grown_trans hHeld.out.1 hs1, hs2⟩) (fun hH2 => ?_)
  clear hK Kz hHeld
  have hHeld := hH2
  clear hH2
  (try simp only [Act.put, List.setIfInBounds_toArray, List.set_cons_zero, List.set_cons_succ])
  refine wpAnyH_take (i := 9) (oi := { dst := some 5, op := Op.assign (Operand.tmp 20), type := 3, pos := "law.go:182", after := #[{ on := 2, ground := Ground.data }, { on := 8, ground := Ground.chain }, { on := 0, ground := Ground.phase }, { on := 1, ground := Ground.phase }, { on := 2, ground := Ground.phase }, { on := 3, ground := Ground.textOnly Departure.lateStores }, { on := 4, ground := Ground.textOnly Departure.lateStores }, { on := 5, ground := Ground.textOnly Departure.lateStoresUnsure }, { on := 6, ground := Ground.textOnly Departure.lateStores }, { on := 7, ground := Ground.textOnly Departure.lateStores }, { on := 8, ground := Ground.textOnly Departure.lateStoresUnsure }], guard := none }) (v := ?_) rfl (by kernel_rfl) (by kernel_rfl) (by kernel_rfl) (fun _ _ _ h => h) (Or.inl ⟨by rfl, ?_⟩) hHeld ?_
  rotate_left 1
  · intro u hSu
    obtain ⟨q0, q1⟩ := row_cells (kept_row HG.out.1 hSu.out.1 (fun e => by have := Option.some.inj e; omega))
    go_simp
    first | done | with_reducible rfl
  (try simp only [Act.put, List.setIfInBounds_toArray, List.set_cons_zero, List.set_cons_succ])
  refine wpAnyH_take (i := 10) (oi := { dst := some 6, op := Op.assign (Operand.tmp 23), type := 3, pos := "law.go:182", after := #[{ on := 5, ground := Ground.data }, { on := 9, ground := Ground.chain }, { on := 0, ground := Ground.phase }, { on := 1, ground := Ground.phase }, { on := 2, ground := Ground.phase }, { on := 3, ground := Ground.phase }, { on := 4, ground := Ground.phase }, { on := 5, ground := Ground.phase }, { on := 6, ground := Ground.textOnly Departure.lateStores }, { on := 7, ground := Ground.textOnly Departure.lateStores }, { on := 8, ground := Ground.textOnly Departure.lateStoresUnsure }, { on := 9, ground := Ground.phase }], guard := none }) (v := ?_) rfl (by kernel_rfl) (by kernel_rfl) (by kernel_rfl) (fun _ _ _ h => h) (Or.inl ⟨by rfl, ?_⟩) hHeld ?_
  rotate_left 1
  · intro u hSu
    obtain ⟨q0, q1⟩ := row_cells (kept_row HG.out.1 hSu.out.1 (fun e => by have := Option.some.inj e; omega))
    go_simp
    first | done | with_reducible rfl
  (try simp only [Act.put, List.setIfInBounds_toArray, List.set_cons_zero, List.set_cons_succ])
  refine wpAnyH_take (i := 11) (oi := { dst := some 7, op := Op.assign (Operand.tmp 26), type := 3, pos := "law.go:182", after := #[{ on := 8, ground := Ground.data }, { on := 10, ground := Ground.chain }, { on := 0, ground := Ground.phase }, { on := 1, ground := Ground.phase }, { on := 2, ground := Ground.phase }, { on := 3, ground := Ground.phase }, { on := 4, ground := Ground.phase }, { on := 5, ground := Ground.phase }, { on := 6, ground := Ground.phase }, { on := 7, ground := Ground.phase }, { on := 8, ground := Ground.phase }, { on := 9, ground := Ground.phase }, { on := 10, ground := Ground.phase }], guard := none }) (v := ?_) rfl (by kernel_rfl) (by kernel_rfl) (by kernel_rfl) (fun _ _ _ h => h) (Or.inl ⟨by rfl, ?_⟩) hHeld ?_
  rotate_left 1
  · intro u hSu
    obtain ⟨q0, q1⟩ := row_cells (kept_row HG.out.1 hSu.out.1 (fun e => by have := Option.some.inj e; omega))
    go_simp
    first | done | with_reducible rfl
  (try simp only [Act.put, List.setIfInBounds_toArray, List.set_cons_zero, List.set_cons_succ])
  refine wpAnyH_done (by kernel_rfl) ?_ _
  have HL : Hid (LW w w3.heap.size ⟨R, L, pR, cR, pL, cL⟩ _) := Lib.hid ⟨kept_row HG.out.1 hHeld.out.1 (fun e => by have := Option.some.inj e; omega), (HG.out.2.1.grown hHeld.out.1 (fun b hb e => by have := Option.some.inj e; omega)).mono (fun b hb => hb.2), grown_new HW4.out hHeld.out.1 (by rw [HA.out]; exact Nat.le_refl _)⟩
  clear hHeld HG HW4 H2
  obtain ⟨G, hG⟩ : ∃ G, G = w3.heap.size := ⟨_, rfl⟩
  rw [← hG] at HL
  rw [← hG]
  clear hG ha2 ha3 HA
  have hR : R.length ≤ 1000 := Nat.le_trans HVT.out.len.1 (by decide)
  have hL : L.length ≤ 1000 := Nat.le_trans HVT.out.l60 (by decide)
  have hxi : I64 x := by have := Hx.out.2; unfold I64; omega
  have hyi : I64 y := by have := Hy.out.2; unfold I64; omega
  have hzi : I64 z := by have := Hz.out.2; unfold I64; omega
  obtain ⟨c0, c1⟩ := row_cells HL.out.gb
  by_cases e1 : x = z
  · have HAV : Hid (avV R L x y z = false) := Lib.hid (av_end Hx.out.1 Hy.out.1 (.inl e1))
    have e1' : (x == z) = true := by simpa using e1
    clear e1
    go_wp2_with fail
    refine (tav_any ⟨R, L, pR, cR, pL, cL⟩ x y z _ _ HL.out.t hR hL hyi hzi).mono ?_
    rintro e w6 ⟨rfl, g6⟩
    (try simp only)
    rw [HAV.out]
    have HG := Lib.hid (grown_trans HL.out.gr g6)
    clear g6 c0 c1
    go_wp2_with fail
    refine (sawake_any _).mono ?_
    rintro e w7 ⟨rfl, g7⟩
    have HE := Lib.hid (grown_trans HG.out g7)
    clear g7
    go_wp2_with fail
    go_ret
    exact ⟨rfl, HE.out⟩
  · have HE1 := Lib.hid e1
    have e1' : (x == z) = false := by simpa using e1
    clear e1
    by_cases e2 : y = z
    · have HAV : Hid (avV R L x y z = false) := Lib.hid (av_end Hx.out.1 Hy.out.1 (.inr e2))
      have e2' : (y == z) = true := by simpa using e2
      clear e2
      go_wp2_with fail
      refine (tav_any ⟨R, L, pR, cR, pL, cL⟩ x y z _ _ HL.out.t hR hL hyi hzi).mono ?_
      rintro e w6 ⟨rfl, g6⟩
      (try simp only)
      rw [HAV.out]
      have HG := Lib.hid (grown_trans HL.out.gr g6)
      clear g6 c0 c1
      go_wp2_with fail
      refine (sawake_any _).mono ?_
      rintro e w7 ⟨rfl, g7⟩
      have HE := Lib.hid (grown_trans HG.out g7)
      clear g7
      go_wp2_with fail
      go_ret
      exact ⟨rfl, HE.out⟩
    · have HE2 := Lib.hid e2
      have e2' : (y == z) = false := by simpa using e2
      clear e2
      have HFL := Lib.hid (fl_oneX w5 z)
      have HG6 := Lib.hid (World.grownBy_alloc w5 (.cells #[.int .i64 z] 3) none)
      go_wp2_with fail
      have HL6 := Lib.hid (HL.out.keep HG6.out)
      obtain ⟨gx, hgx⟩ : ∃ gx, w5.heap.size = gx := ⟨_, rfl⟩
      generalize w5.alloc _ = w6 at *
      (try rw [hgx] at HFL)
      (try rw [hgx])
      clear hgx HG6 c0 c1 HL
      have hokv := HVT.out.ok
      simp only at hokv
      have hW := rwithoutS_any ⟨R, L, pR, cR, pL, cL⟩ ⟨[], [z], none, 0, some ⟨gx, 0, none⟩, 1⟩ _ _ w6 HL6.out.t HFL.out
      simp only [hokv, if_true] at hW
      refine hW.mono ?_
      rintro e w7 ⟨pu, cu, pv, cv, rfl, hTU, hpU, g7⟩
      have HAVH : Hid (AvH R L ⟨[], [z], none, 0, some ⟨gx, 0, none⟩, 1⟩ z y) := Lib.hid ⟨hokv, Nat.le_trans HVT.out.len.1 (by decide), ⟨rfl, rfl⟩, (hasV_iff.1 Hy.out.1).2, HE2.out⟩
      have HSM := Lib.hid (HAVH.out.avoid (a := x))
      have hR2 : (woR ⟨[], [z], none, 0, some ⟨gx, 0, none⟩, 1⟩ R).length ≤ 1000 := Nat.le_trans (List.length_filter_le _ _) hR
      have hL2 : (woL ⟨[], [z], none, 0, some ⟨gx, 0, none⟩, 1⟩ L).length ≤ 1000 := Nat.le_trans (List.length_filter_le _ _) hL
      obtain ⟨R2, hR2e⟩ : ∃ R2, woR ⟨[], [z], none, 0, some ⟨gx, 0, none⟩, 1⟩ R = R2 := ⟨_, rfl⟩
      obtain ⟨L2, hL2e⟩ : ∃ L2, woL ⟨[], [z], none, 0, some ⟨gx, 0, none⟩, 1⟩ L = L2 := ⟨_, rfl⟩
      (try simp only at hTU)
      rw [hR2e] at hTU HSM hR2 ⊢
      rw [hL2e] at hTU HSM hL2 ⊢
      have HPU := Lib.hid hpU
      have HL7 := Lib.hid (HL6.out.keep g7)
      have HTU := Lib.hid hTU.old
      have hbU := World.grownBy_alloc w7 (.cells #[.slice pu R2.length cu, .slice pv L2.length cv] 28) none
      have hbn := heap_alloc_new w7 (.cells #[.slice pu R2.length cu, .slice pv L2.length cv] 28)
      have HBU := Lib.hid (And.intro hbU hbn)
      clear hW hokv hTU hpU g7 hR2e hL2e hbU hbn HL6 HFL HAVH
      go_upto_region 7 with fail
      generalize w7.alloc _ = w8 at *
      obtain ⟨gu, hgu⟩ : ∃ gu, w7.heap.size = gu := ⟨_, rfl⟩
      (try rw [hgu] at HBU)
      (try rw [hgu])
      clear hgu
      have HL8 := Lib.hid (HL7.out.keep HBU.out.1)
      have HU8 := Lib.hid (And.intro HBU.out.2 (HTU.out.keep HBU.out.1))
      clear HBU HTU HL7
      obtain ⟨c0, c1⟩ := row_cells HL8.out.gb
      obtain ⟨d0, d1⟩ := row_cells HU8.out.1
      obtain ⟨X, hX⟩ : ∃ X, (dst R L x y).getD 0 = X := ⟨_, rfl⟩
      obtain ⟨ok, hok⟩ : ∃ ok, (dst R L x y).isSome = ok := ⟨_, rfl⟩
      obtain ⟨Y, hY⟩ : ∃ Y, (dst R2 L2 x y).getD 0 = Y := ⟨_, rfl⟩
      obtain ⟨is, his⟩ : ∃ is, (dst R2 L2 x y).isSome = is := ⟨_, rfl⟩
      obtain ⟨P, hP⟩ : ∃ P, pV R L x y = P := ⟨_, rfl⟩
      obtain ⟨Q, hQ⟩ : ∃ Q, pV R2 L2 x y = Q := ⟨_, rfl⟩
      obtain ⟨AV, hAV⟩ : ∃ AV, avV R L x y z = AV := ⟨_, rfl⟩
      have HV1 := Lib.hid (And.intro hX hok)
      have HV2 := Lib.hid (And.intro hY his)
      have HV3 := Lib.hid (And.intro hP (And.intro hQ hAV))
      have HS : Hid (AV = (ok && (is && (decide (X = Y) && decide (P = Q))))) := Lib.hid (by rw [← hAV, HSM.out, hX, hok, hY, his, hP, hQ])
      clear hX hok hY his hP hQ hAV HSM
      go_wp2_with fail
      refine (tcs_any ⟨R, L, pR, cR, pL, cL⟩ x y _ _ HL8.out.t hR hL hyi).mono ?_
      rintro e w9 ⟨rfl, g9⟩
      simp only
      rw [HV1.out.1, HV1.out.2]
      have HL9 := Lib.hid (HL8.out.keep g9)
      have HU9 := Lib.hid (And.intro (kept_row HU8.out.1 g9 (by simp)) (HU8.out.2.keep g9))
      clear g9 c0 c1 d0 d1 HL8 HU8
      obtain ⟨c0, c1⟩ := row_cells HL9.out.gb
      obtain ⟨d0, d1⟩ := row_cells HU9.out.1
      go_wp2_with fail
      refine (tcs_any ⟨R2, L2, pu, cu, pv, cv⟩ x y _ _ HU9.out.2 hR2 hL2 hyi).mono ?_
      rintro e wA ⟨rfl, gA⟩
      simp only
      rw [HV2.out.1, HV2.out.2]
      have HLA := Lib.hid (HL9.out.keep gA)
      have HUA := Lib.hid (And.intro (kept_row HU9.out.1 gA (by simp)) (HU9.out.2.keep gA))
      clear gA c0 c1 d0 d1 HL9 HU9
      go_upto_region 9 with fail
      go_cut [13] from 63 to 82 (fun s wx => s = .bool AV ∧ Hid (LW w G ⟨R, L, pR, cR, pL, cL⟩ wx))
      case first =>
        cases ok with
        | false =>
          refine wp_region_held_drew (S := fun w' => Hid (wA.grownBy w' none)) (by kernel_rfl) (Lib.hid (grown_drew (grown_refl _ _))) (fun hHeld => ?_)
          refine wpAnyH_take (i := 0) (oi := { dst := some 63, op := Op.move (Operand.tmp 10), type := 4, pos := "law.go:189", after := #[], guard := none }) (v := ?_) rfl (by kernel_rfl) (by kernel_rfl) (by kernel_rfl) (fun _ _ _ h => h) (Or.inl ⟨by rfl, ?_⟩) hHeld ?_
          rotate_left 1
          · intro u hSu
            obtain ⟨q0, q1⟩ := row_cells (kept_row HLA.out.gb hSu.out (by simp))
            obtain ⟨q2, q3⟩ := row_cells (kept_row HUA.out.1 hSu.out (by simp))
            go_simp
            first | done | with_reducible rfl
          (try simp only [Act.put, List.setIfInBounds_toArray, List.set_cons_zero, List.set_cons_succ])
          refine wpAnyH_take (i := 1) (oi := { dst := some 64, op := Op.move (Operand.tmp 63), type := 4, pos := "law.go:189", after := #[{ on := 0, ground := Ground.data }], guard := none }) (v := ?_) rfl (by kernel_rfl) (by kernel_rfl) (by kernel_rfl) (fun _ _ _ h => h) (Or.inl ⟨by rfl, ?_⟩) hHeld ?_
          rotate_left 1
          · intro u hSu
            obtain ⟨q0, q1⟩ := row_cells (kept_row HLA.out.gb hSu.out (by simp))
            obtain ⟨q2, q3⟩ := row_cells (kept_row HUA.out.1 hSu.out (by simp))
            go_simp
            first | done | with_reducible rfl
          (try simp only [Act.put, List.setIfInBounds_toArray, List.set_cons_zero, List.set_cons_succ])
          refine wpAnyH_take (i := 2) (oi := { dst := some 65, op := Op.move (Operand.tmp 12), type := 4, pos := "law.go:189", after := #[{ on := 1, ground := Ground.guard }], guard := some (1, true) }) (v := undef) rfl (by kernel_rfl) (by kernel_rfl) (by kernel_rfl) (fun _ _ _ h => h) (Or.inr ⟨by rfl, rfl⟩) hHeld ?_
          (try simp only [Act.put, List.setIfInBounds_toArray, List.set_cons_zero, List.set_cons_succ])
          refine wpAnyH_take (i := 3) (oi := { dst := some 66, op := Op.pick (Operand.tmp 64) (Operand.tmp 65) (Operand.const (Value.bool false)), type := 4, pos := "law.go:189", after := #[{ on := 1, ground := Ground.data }, { on := 2, ground := Ground.data }], guard := none }) (v := ?_) rfl (by kernel_rfl) (by kernel_rfl) (by kernel_rfl) (fun _ _ _ h => h) (Or.inl ⟨by rfl, ?_⟩) hHeld ?_
          rotate_left 1
          · intro u hSu
            obtain ⟨q0, q1⟩ := row_cells (kept_row HLA.out.gb hSu.out (by simp))
            obtain ⟨q2, q3⟩ := row_cells (kept_row HUA.out.1 hSu.out (by simp))
            go_simp
            first | done | with_reducible rfl
          (try simp only [Act.put, List.setIfInBounds_toArray, List.set_cons_zero, List.set_cons_succ])
          refine wpAnyH_take (i := 4) (oi := { dst := some 67, op := Op.move (Operand.tmp 66), type := 4, pos := "law.go:189", after := #[{ on := 3, ground := Ground.data }, { on := 1, ground := Ground.chain }], guard := none }) (v := ?_) rfl (by kernel_rfl) (by kernel_rfl) (by kernel_rfl) (fun _ _ _ h => h) (Or.inl ⟨by rfl, ?_⟩) hHeld ?_
          rotate_left 1
          · intro u hSu
            obtain ⟨q0, q1⟩ := row_cells (kept_row HLA.out.gb hSu.out (by simp))
            obtain ⟨q2, q3⟩ := row_cells (kept_row HUA.out.1 hSu.out (by simp))
            go_simp
            first | done | with_reducible rfl
          (try simp only [Act.put, List.setIfInBounds_toArray, List.set_cons_zero, List.set_cons_succ])
          refine wpAnyH_take (i := 5) (oi := { dst := some 68, op := Op.move (Operand.tmp 9), type := 3, pos := "law.go:189", after := #[{ on := 4, ground := Ground.guard }], guard := some (4, true) }) (v := undef) rfl (by kernel_rfl) (by kernel_rfl) (by kernel_rfl) (fun _ _ _ h => h) (Or.inr ⟨by rfl, rfl⟩) hHeld ?_
          (try simp only [Act.put, List.setIfInBounds_toArray, List.set_cons_zero, List.set_cons_succ])
          refine wpAnyH_take (i := 6) (oi := { dst := some 69, op := Op.move (Operand.tmp 11), type := 3, pos := "law.go:189", after := #[{ on := 4, ground := Ground.guard }], guard := some (4, true) }) (v := undef) rfl (by kernel_rfl) (by kernel_rfl) (by kernel_rfl) (fun _ _ _ h => h) (Or.inr ⟨by rfl, rfl⟩) hHeld ?_
          (try simp only [Act.put, List.setIfInBounds_toArray, List.set_cons_zero, List.set_cons_succ])
          refine wpAnyH_take (i := 7) (oi := { dst := some 70, op := Op.binOp BinOp.eql 3 (Operand.tmp 68) (Operand.tmp 69) 3, type := 4, pos := "law.go:189", after := #[{ on := 5, ground := Ground.data }, { on := 6, ground := Ground.data }, { on := 4, ground := Ground.guard }], guard := some (4, true) }) (v := undef) rfl (by kernel_rfl) (by kernel_rfl) (by kernel_rfl) (fun _ _ _ h => h) (Or.inr ⟨by rfl, rfl⟩) hHeld ?_
          (try simp only [Act.put, List.setIfInBounds_toArray, List.set_cons_zero, List.set_cons_succ])
          refine wpAnyH_take (i := 8) (oi := { dst := some 71, op := Op.pick (Operand.tmp 67) (Operand.tmp 70) (Operand.const (Value.bool false)), type := 4, pos := "law.go:189", after := #[{ on := 4, ground := Ground.data }, { on := 7, ground := Ground.data }], guard := none }) (v := ?_) rfl (by kernel_rfl) (by kernel_rfl) (by kernel_rfl) (fun _ _ _ h => h) (Or.inl ⟨by rfl, ?_⟩) hHeld ?_
          rotate_left 1
          · intro u hSu
            obtain ⟨q0, q1⟩ := row_cells (kept_row HLA.out.gb hSu.out (by simp))
            obtain ⟨q2, q3⟩ := row_cells (kept_row HUA.out.1 hSu.out (by simp))
            go_simp
            first | done | with_reducible rfl
          (try simp only [Act.put, List.setIfInBounds_toArray, List.set_cons_zero, List.set_cons_succ])
          refine wpAnyH_take (i := 9) (oi := { dst := some 72, op := Op.move (Operand.tmp 71), type := 4, pos := "law.go:189", after := #[{ on := 8, ground := Ground.data }, { on := 4, ground := Ground.chain }], guard := none }) (v := ?_) rfl (by kernel_rfl) (by kernel_rfl) (by kernel_rfl) (fun _ _ _ h => h) (Or.inl ⟨by rfl, ?_⟩) hHeld ?_
          rotate_left 1
          · intro u hSu
            obtain ⟨q0, q1⟩ := row_cells (kept_row HLA.out.gb hSu.out (by simp))
            obtain ⟨q2, q3⟩ := row_cells (kept_row HUA.out.1 hSu.out (by simp))
            go_simp
            first | done | with_reducible rfl
          (try simp only [Act.put, List.setIfInBounds_toArray, List.set_cons_zero, List.set_cons_succ])
          refine wpAnyH_take (i := 10) (oi := { dst := some 73, op := Op.load 28 (Operand.tmp 4), type := 28, pos := "law.go:189", after := #[{ on := 9, ground := Ground.guard }], guard := some (9, true) }) (v := undef) rfl (by kernel_rfl) (by kernel_rfl) (by kernel_rfl) (fun _ _ _ h => h) (Or.inr ⟨by rfl, rfl⟩) hHeld ?_
          (try simp only [Act.put, List.setIfInBounds_toArray, List.set_cons_zero, List.set_cons_succ])
          refine wpAnyH_take (i := 11) (oi := { dst := some 74, op := Op.move (Operand.tmp 5), type := 3, pos := "law.go:189", after := #[{ on := 9, ground := Ground.guard }], guard := some (9, true) }) (v := undef) rfl (by kernel_rfl) (by kernel_rfl) (by kernel_rfl) (fun _ _ _ h => h) (Or.inr ⟨by rfl, rfl⟩) hHeld ?_
          (try simp only [Act.put, List.setIfInBounds_toArray, List.set_cons_zero, List.set_cons_succ])
          refine wpAnyH_take (i := 12) (oi := { dst := some 75, op := Op.move (Operand.tmp 6), type := 3, pos := "law.go:189", after := #[{ on := 9, ground := Ground.guard }], guard := some (9, true) }) (v := undef) rfl (by kernel_rfl) (by kernel_rfl) (by kernel_rfl) (fun _ _ _ h => h) (Or.inr ⟨by rfl, rfl⟩) hHeld ?_
          (try simp only [Act.put, List.setIfInBounds_toArray, List.set_cons_zero, List.set_cons_succ])
          refine wpAnyH_take (i := 13) (oi := { dst := some 76, op := Op.call { callee := Callee.value (Operand.func 19), args := #[Operand.tmp 73, Operand.tmp 74, Operand.tmp 75], argTypes := #[28, 3, 3] }, type := 3, pos := "law.go:189", after := #[{ on := 10, ground := Ground.data }, { on := 11, ground := Ground.data }, { on := 12, ground := Ground.data }, { on := 9, ground := Ground.chain }, { on := 9, ground := Ground.guard }], guard := some (9, true) }) (v := undef) rfl (by kernel_rfl) (by kernel_rfl) (by kernel_rfl) (fun _ _ _ h => h) (Or.inr ⟨by rfl, rfl⟩) hHeld ?_
          (try simp only [Act.put, List.setIfInBounds_toArray, List.set_cons_zero, List.set_cons_succ])
          refine wpAnyH_take (i := 14) (oi := { dst := some 77, op := Op.load 28 (Operand.tmp 8), type := 28, pos := "law.go:189", after := #[{ on := 9, ground := Ground.guard }], guard := some (9, true) }) (v := undef) rfl (by kernel_rfl) (by kernel_rfl) (by kernel_rfl) (fun _ _ _ h => h) (Or.inr ⟨by rfl, rfl⟩) hHeld ?_
          (try simp only [Act.put, List.setIfInBounds_toArray, List.set_cons_zero, List.set_cons_succ])
          refine wpAnyH_take (i := 15) (oi := { dst := some 78, op := Op.move (Operand.tmp 5), type := 3, pos := "law.go:189", after := #[{ on := 9, ground := Ground.guard }], guard := some (9, true) }) (v := undef) rfl (by kernel_rfl) (by kernel_rfl) (by kernel_rfl) (fun _ _ _ h => h) (Or.inr ⟨by rfl, rfl⟩) hHeld ?_
          (try simp only [Act.put, List.setIfInBounds_toArray, List.set_cons_zero, List.set_cons_succ])
          refine wpAnyH_take (i := 16) (oi := { dst := some 79, op := Op.move (Operand.tmp 6), type := 3, pos := "law.go:189", after := #[{ on := 9, ground := Ground.guard }], guard := some (9, true) }) (v := undef) rfl (by kernel_rfl) (by kernel_rfl) (by kernel_rfl) (fun _ _ _ h => h) (Or.inr ⟨by rfl, rfl⟩) hHeld ?_
          (try simp only [Act.put, List.setIfInBounds_toArray, List.set_cons_zero, List.set_cons_succ])
          refine wpAnyH_take (i := 17) (oi := { dst := some 80, op := Op.call { callee := Callee.value (Operand.func 19), args := #[Operand.tmp 77, Operand.tmp 78, Operand.tmp 79], argTypes := #[28, 3, 3] }, type := 3, pos := "law.go:189", after := #[{ on := 14, ground := Ground.data }, { on := 15, ground := Ground.data }, { on := 16, ground := Ground.data }, { on := 13, ground := Ground.chain }, { on := 9, ground := Ground.guard }], guard := some (9, true) }) (v := undef) rfl (by kernel_rfl) (by kernel_rfl) (by kernel_rfl) (fun _ _ _ h => h) (Or.inr ⟨by rfl, rfl⟩) hHeld ?_
          (try simp only [Act.put, List.setIfInBounds_toArray, List.set_cons_zero, List.set_cons_succ])
          refine wpAnyH_take (i := 18) (oi := { dst := some 81, op := Op.binOp BinOp.eql 3 (Operand.tmp 76) (Operand.tmp 80) 3, type := 4, pos := "law.go:189", after := #[{ on := 13, ground := Ground.data }, { on := 17, ground := Ground.data }, { on := 9, ground := Ground.guard }], guard := some (9, true) }) (v := undef) rfl (by kernel_rfl) (by kernel_rfl) (by kernel_rfl) (fun _ _ _ h => h) (Or.inr ⟨by rfl, rfl⟩) hHeld ?_
          (try simp only [Act.put, List.setIfInBounds_toArray, List.set_cons_zero, List.set_cons_succ])
          refine wpAnyH_take (i := 19) (oi := { dst := some 82, op := Op.pick (Operand.tmp 72) (Operand.tmp 81) (Operand.const (Value.bool false)), type := 4, pos := "law.go:189", after := #[{ on := 9, ground := Ground.data }, { on := 18, ground := Ground.data }], guard := none }) (v := ?_) rfl (by kernel_rfl) (by kernel_rfl) (by kernel_rfl) (fun _ _ _ h => h) (Or.inl ⟨by rfl, ?_⟩) hHeld ?_
          rotate_left 1
          · intro u hSu
            obtain ⟨q0, q1⟩ := row_cells (kept_row HLA.out.gb hSu.out (by simp))
            obtain ⟨q2, q3⟩ := row_cells (kept_row HUA.out.1 hSu.out (by simp))
            go_simp
            first | done | with_reducible rfl
          (try simp only [Act.put, List.setIfInBounds_toArray, List.set_cons_zero, List.set_cons_succ])
          refine wpAnyH_take (i := 20) (oi := { dst := some 13, op := Op.assign (Operand.tmp 82), type := 4, pos := "law.go:189", after := #[{ on := 19, ground := Ground.data }, { on := 17, ground := Ground.chain }, { on := 0, ground := Ground.phase }, { on := 1, ground := Ground.phase }, { on := 2, ground := Ground.phase }, { on := 3, ground := Ground.phase }, { on := 4, ground := Ground.phase }, { on := 5, ground := Ground.phase }, { on := 6, ground := Ground.phase }, { on := 7, ground := Ground.phase }, { on := 8, ground := Ground.phase }, { on := 9, ground := Ground.phase }, { on := 10, ground := Ground.phase }, { on := 11, ground := Ground.phase }, { on := 12, ground := Ground.phase }, { on := 13, ground := Ground.phase }, { on := 14, ground := Ground.phase }, { on := 15, ground := Ground.phase }, { on := 16, ground := Ground.phase }, { on := 17, ground := Ground.phase }, { on := 18, ground := Ground.phase }, { on := 19, ground := Ground.phase }], guard := none }) (v := ?_) rfl (by kernel_rfl) (by kernel_rfl) (by kernel_rfl) (fun _ _ _ h => h) (Or.inl ⟨by rfl, ?_⟩) hHeld ?_
          rotate_left 1
          · intro u hSu
            obtain ⟨q0, q1⟩ := row_cells (kept_row HLA.out.gb hSu.out (by simp))
            obtain ⟨q2, q3⟩ := row_cells (kept_row HUA.out.1 hSu.out (by simp))
            go_simp
            first | done | with_reducible rfl
          (try simp only [Act.put, List.setIfInBounds_toArray, List.set_cons_zero, List.set_cons_succ])
          refine wpAnyH_done (by kernel_rfl) ?_ _
          have HLn := Lib.hid (HLA.out.keep hHeld.out)
          have HAVV : Hid (AV = false) := Lib.hid (by rw [HS.out]; rfl)
          clear hHeld
          go_wp2_with fail
          go_meet
          exact ⟨by rw [HAVV.out], HLn⟩
        | true =>
          cases is with
          | false =>
            refine wp_region_held_drew (S := fun w' => Hid (wA.grownBy w' none)) (by kernel_rfl) (Lib.hid (grown_drew (grown_refl _ _))) (fun hHeld => ?_)
            refine wpAnyH_take (i := 0) (oi := { dst := some 63, op := Op.move (Operand.tmp 10), type := 4, pos := "law.go:189", after := #[], guard := none }) (v := ?_) rfl (by kernel_rfl) (by kernel_rfl) (by kernel_rfl) (fun _ _ _ h => h) (Or.inl ⟨by rfl, ?_⟩) hHeld ?_
            rotate_left 1
            · intro u hSu
              obtain ⟨q0, q1⟩ := row_cells (kept_row HLA.out.gb hSu.out (by simp))
              obtain ⟨q2, q3⟩ := row_cells (kept_row HUA.out.1 hSu.out (by simp))
              go_simp
              first | done | with_reducible rfl
            (try simp only [Act.put, List.setIfInBounds_toArray, List.set_cons_zero, List.set_cons_succ])
            refine wpAnyH_take (i := 1) (oi := { dst := some 64, op := Op.move (Operand.tmp 63), type := 4, pos := "law.go:189", after := #[{ on := 0, ground := Ground.data }], guard := none }) (v := ?_) rfl (by kernel_rfl) (by kernel_rfl) (by kernel_rfl) (fun _ _ _ h => h) (Or.inl ⟨by rfl, ?_⟩) hHeld ?_
            rotate_left 1
            · intro u hSu
              obtain ⟨q0, q1⟩ := row_cells (kept_row HLA.out.gb hSu.out (by simp))
              obtain ⟨q2, q3⟩ := row_cells (kept_row HUA.out.1 hSu.out (by simp))
              go_simp
              first | done | with_reducible rfl
            (try simp only [Act.put, List.setIfInBounds_toArray, List.set_cons_zero, List.set_cons_succ])
            refine wpAnyH_take (i := 2) (oi := { dst := some 65, op := Op.move (Operand.tmp 12), type := 4, pos := "law.go:189", after := #[{ on := 1, ground := Ground.guard }], guard := some (1, true) }) (v := ?_) rfl (by kernel_rfl) (by kernel_rfl) (by kernel_rfl) (fun _ _ _ h => h) (Or.inl ⟨by rfl, ?_⟩) hHeld ?_
            rotate_left 1
            · intro u hSu
              obtain ⟨q0, q1⟩ := row_cells (kept_row HLA.out.gb hSu.out (by simp))
              obtain ⟨q2, q3⟩ := row_cells (kept_row HUA.out.1 hSu.out (by simp))
              go_simp
              first | done | with_reducible rfl
            (try simp only [Act.put, List.setIfInBounds_toArray, List.set_cons_zero, List.set_cons_succ])
            refine wpAnyH_take (i := 3) (oi := { dst := some 66, op := Op.pick (Operand.tmp 64) (Operand.tmp 65) (Operand.const (Value.bool false)), type := 4, pos := "law.go:189", after := #[{ on := 1, ground := Ground.data }, { on := 2, ground := Ground.data }], guard := none }) (v := ?_) rfl (by kernel_rfl) (by kernel_rfl) (by kernel_rfl) (fun _ _ _ h => h) (Or.inl ⟨by rfl, ?_⟩) hHeld ?_
            rotate_left 1
            · intro u hSu
              obtain ⟨q0, q1⟩ := row_cells (kept_row HLA.out.gb hSu.out (by simp))
              obtain ⟨q2, q3⟩ := row_cells (kept_row HUA.out.1 hSu.out (by simp))
              go_simp
              first | done | with_reducible rfl
            (try simp only [Act.put, List.setIfInBounds_toArray, List.set_cons_zero, List.set_cons_succ])
            refine wpAnyH_take (i := 4) (oi := { dst := some 67, op := Op.move (Operand.tmp 66), type := 4, pos := "law.go:189", after := #[{ on := 3, ground := Ground.data }, { on := 1, ground := Ground.chain }], guard := none }) (v := ?_) rfl (by kernel_rfl) (by kernel_rfl) (by kernel_rfl) (fun _ _ _ h => h) (Or.inl ⟨by rfl, ?_⟩) hHeld ?_
            rotate_left 1
            · intro u hSu
              obtain ⟨q0, q1⟩ := row_cells (kept_row HLA.out.gb hSu.out (by simp))
              obtain ⟨q2, q3⟩ := row_cells (kept_row HUA.out.1 hSu.out (by simp))
              go_simp
              first | done | with_reducible rfl
            (try simp only [Act.put, List.setIfInBounds_toArray, List.set_cons_zero, List.set_cons_succ])
            refine wpAnyH_take (i := 5) (oi := { dst := some 68, op := Op.move (Operand.tmp 9), type := 3, pos := "law.go:189", after := #[{ on := 4, ground := Ground.guard }], guard := some (4, true) }) (v := undef) rfl (by kernel_rfl) (by kernel_rfl) (by kernel_rfl) (fun _ _ _ h => h) (Or.inr ⟨by rfl, rfl⟩) hHeld ?_
            (try simp only [Act.put, List.setIfInBounds_toArray, List.set_cons_zero, List.set_cons_succ])
            refine wpAnyH_take (i := 6) (oi := { dst := some 69, op := Op.move (Operand.tmp 11), type := 3, pos := "law.go:189", after := #[{ on := 4, ground := Ground.guard }], guard := some (4, true) }) (v := undef) rfl (by kernel_rfl) (by kernel_rfl) (by kernel_rfl) (fun _ _ _ h => h) (Or.inr ⟨by rfl, rfl⟩) hHeld ?_
            (try simp only [Act.put, List.setIfInBounds_toArray, List.set_cons_zero, List.set_cons_succ])
            refine wpAnyH_take (i := 7) (oi := { dst := some 70, op := Op.binOp BinOp.eql 3 (Operand.tmp 68) (Operand.tmp 69) 3, type := 4, pos := "law.go:189", after := #[{ on := 5, ground := Ground.data }, { on := 6, ground := Ground.data }, { on := 4, ground := Ground.guard }], guard := some (4, true) }) (v := undef) rfl (by kernel_rfl) (by kernel_rfl) (by kernel_rfl) (fun _ _ _ h => h) (Or.inr ⟨by rfl, rfl⟩) hHeld ?_
            (try simp only [Act.put, List.setIfInBounds_toArray, List.set_cons_zero, List.set_cons_succ])
            refine wpAnyH_take (i := 8) (oi := { dst := some 71, op := Op.pick (Operand.tmp 67) (Operand.tmp 70) (Operand.const (Value.bool false)), type := 4, pos := "law.go:189", after := #[{ on := 4, ground := Ground.data }, { on := 7, ground := Ground.data }], guard := none }) (v := ?_) rfl (by kernel_rfl) (by kernel_rfl) (by kernel_rfl) (fun _ _ _ h => h) (Or.inl ⟨by rfl, ?_⟩) hHeld ?_
            rotate_left 1
            · intro u hSu
              obtain ⟨q0, q1⟩ := row_cells (kept_row HLA.out.gb hSu.out (by simp))
              obtain ⟨q2, q3⟩ := row_cells (kept_row HUA.out.1 hSu.out (by simp))
              go_simp
              first | done | with_reducible rfl
            (try simp only [Act.put, List.setIfInBounds_toArray, List.set_cons_zero, List.set_cons_succ])
            refine wpAnyH_take (i := 9) (oi := { dst := some 72, op := Op.move (Operand.tmp 71), type := 4, pos := "law.go:189", after := #[{ on := 8, ground := Ground.data }, { on := 4, ground := Ground.chain }], guard := none }) (v := ?_) rfl (by kernel_rfl) (by kernel_rfl) (by kernel_rfl) (fun _ _ _ h => h) (Or.inl ⟨by rfl, ?_⟩) hHeld ?_
            rotate_left 1
            · intro u hSu
              obtain ⟨q0, q1⟩ := row_cells (kept_row HLA.out.gb hSu.out (by simp))
              obtain ⟨q2, q3⟩ := row_cells (kept_row HUA.out.1 hSu.out (by simp))
              go_simp
              first | done | with_reducible rfl
            (try simp only [Act.put, List.setIfInBounds_toArray, List.set_cons_zero, List.set_cons_succ])
            refine wpAnyH_take (i := 10) (oi := { dst := some 73, op := Op.load 28 (Operand.tmp 4), type := 28, pos := "law.go:189", after := #[{ on := 9, ground := Ground.guard }], guard := some (9, true) }) (v := undef) rfl (by kernel_rfl) (by kernel_rfl) (by kernel_rfl) (fun _ _ _ h => h) (Or.inr ⟨by rfl, rfl⟩) hHeld ?_
            (try simp only [Act.put, List.setIfInBounds_toArray, List.set_cons_zero, List.set_cons_succ])
            refine wpAnyH_take (i := 11) (oi := { dst := some 74, op := Op.move (Operand.tmp 5), type := 3, pos := "law.go:189", after := #[{ on := 9, ground := Ground.guard }], guard := some (9, true) }) (v := undef) rfl (by kernel_rfl) (by kernel_rfl) (by kernel_rfl) (fun _ _ _ h => h) (Or.inr ⟨by rfl, rfl⟩) hHeld ?_
            (try simp only [Act.put, List.setIfInBounds_toArray, List.set_cons_zero, List.set_cons_succ])
            refine wpAnyH_take (i := 12) (oi := { dst := some 75, op := Op.move (Operand.tmp 6), type := 3, pos := "law.go:189", after := #[{ on := 9, ground := Ground.guard }], guard := some (9, true) }) (v := undef) rfl (by kernel_rfl) (by kernel_rfl) (by kernel_rfl) (fun _ _ _ h => h) (Or.inr ⟨by rfl, rfl⟩) hHeld ?_
            (try simp only [Act.put, List.setIfInBounds_toArray, List.set_cons_zero, List.set_cons_succ])
            refine wpAnyH_take (i := 13) (oi := { dst := some 76, op := Op.call { callee := Callee.value (Operand.func 19), args := #[Operand.tmp 73, Operand.tmp 74, Operand.tmp 75], argTypes := #[28, 3, 3] }, type := 3, pos := "law.go:189", after := #[{ on := 10, ground := Ground.data }, { on := 11, ground := Ground.data }, { on := 12, ground := Ground.data }, { on := 9, ground := Ground.chain }, { on := 9, ground := Ground.guard }], guard := some (9, true) }) (v := undef) rfl (by kernel_rfl) (by kernel_rfl) (by kernel_rfl) (fun _ _ _ h => h) (Or.inr ⟨by rfl, rfl⟩) hHeld ?_
            (try simp only [Act.put, List.setIfInBounds_toArray, List.set_cons_zero, List.set_cons_succ])
            refine wpAnyH_take (i := 14) (oi := { dst := some 77, op := Op.load 28 (Operand.tmp 8), type := 28, pos := "law.go:189", after := #[{ on := 9, ground := Ground.guard }], guard := some (9, true) }) (v := undef) rfl (by kernel_rfl) (by kernel_rfl) (by kernel_rfl) (fun _ _ _ h => h) (Or.inr ⟨by rfl, rfl⟩) hHeld ?_
            (try simp only [Act.put, List.setIfInBounds_toArray, List.set_cons_zero, List.set_cons_succ])
            refine wpAnyH_take (i := 15) (oi := { dst := some 78, op := Op.move (Operand.tmp 5), type := 3, pos := "law.go:189", after := #[{ on := 9, ground := Ground.guard }], guard := some (9, true) }) (v := undef) rfl (by kernel_rfl) (by kernel_rfl) (by kernel_rfl) (fun _ _ _ h => h) (Or.inr ⟨by rfl, rfl⟩) hHeld ?_
            (try simp only [Act.put, List.setIfInBounds_toArray, List.set_cons_zero, List.set_cons_succ])
            refine wpAnyH_take (i := 16) (oi := { dst := some 79, op := Op.move (Operand.tmp 6), type := 3, pos := "law.go:189", after := #[{ on := 9, ground := Ground.guard }], guard := some (9, true) }) (v := undef) rfl (by kernel_rfl) (by kernel_rfl) (by kernel_rfl) (fun _ _ _ h => h) (Or.inr ⟨by rfl, rfl⟩) hHeld ?_
            (try simp only [Act.put, List.setIfInBounds_toArray, List.set_cons_zero, List.set_cons_succ])
            refine wpAnyH_take (i := 17) (oi := { dst := some 80, op := Op.call { callee := Callee.value (Operand.func 19), args := #[Operand.tmp 77, Operand.tmp 78, Operand.tmp 79], argTypes := #[28, 3, 3] }, type := 3, pos := "law.go:189", after := #[{ on := 14, ground := Ground.data }, { on := 15, ground := Ground.data }, { on := 16, ground := Ground.data }, { on := 13, ground := Ground.chain }, { on := 9, ground := Ground.guard }], guard := some (9, true) }) (v := undef) rfl (by kernel_rfl) (by kernel_rfl) (by kernel_rfl) (fun _ _ _ h => h) (Or.inr ⟨by rfl, rfl⟩) hHeld ?_
            (try simp only [Act.put, List.setIfInBounds_toArray, List.set_cons_zero, List.set_cons_succ])
            refine wpAnyH_take (i := 18) (oi := { dst := some 81, op := Op.binOp BinOp.eql 3 (Operand.tmp 76) (Operand.tmp 80) 3, type := 4, pos := "law.go:189", after := #[{ on := 13, ground := Ground.data }, { on := 17, ground := Ground.data }, { on := 9, ground := Ground.guard }], guard := some (9, true) }) (v := undef) rfl (by kernel_rfl) (by kernel_rfl) (by kernel_rfl) (fun _ _ _ h => h) (Or.inr ⟨by rfl, rfl⟩) hHeld ?_
            (try simp only [Act.put, List.setIfInBounds_toArray, List.set_cons_zero, List.set_cons_succ])
            refine wpAnyH_take (i := 19) (oi := { dst := some 82, op := Op.pick (Operand.tmp 72) (Operand.tmp 81) (Operand.const (Value.bool false)), type := 4, pos := "law.go:189", after := #[{ on := 9, ground := Ground.data }, { on := 18, ground := Ground.data }], guard := none }) (v := ?_) rfl (by kernel_rfl) (by kernel_rfl) (by kernel_rfl) (fun _ _ _ h => h) (Or.inl ⟨by rfl, ?_⟩) hHeld ?_
            rotate_left 1
            · intro u hSu
              obtain ⟨q0, q1⟩ := row_cells (kept_row HLA.out.gb hSu.out (by simp))
              obtain ⟨q2, q3⟩ := row_cells (kept_row HUA.out.1 hSu.out (by simp))
              go_simp
              first | done | with_reducible rfl
            (try simp only [Act.put, List.setIfInBounds_toArray, List.set_cons_zero, List.set_cons_succ])
            refine wpAnyH_take (i := 20) (oi := { dst := some 13, op := Op.assign (Operand.tmp 82), type := 4, pos := "law.go:189", after := #[{ on := 19, ground := Ground.data }, { on := 17, ground := Ground.chain }, { on := 0, ground := Ground.phase }, { on := 1, ground := Ground.phase }, { on := 2, ground := Ground.phase }, { on := 3, ground := Ground.phase }, { on := 4, ground := Ground.phase }, { on := 5, ground := Ground.phase }, { on := 6, ground := Ground.phase }, { on := 7, ground := Ground.phase }, { on := 8, ground := Ground.phase }, { on := 9, ground := Ground.phase }, { on := 10, ground := Ground.phase }, { on := 11, ground := Ground.phase }, { on := 12, ground := Ground.phase }, { on := 13, ground := Ground.phase }, { on := 14, ground := Ground.phase }, { on := 15, ground := Ground.phase }, { on := 16, ground := Ground.phase }, { on := 17, ground := Ground.phase }, { on := 18, ground := Ground.phase }, { on := 19, ground := Ground.phase }], guard := none }) (v := ?_) rfl (by kernel_rfl) (by kernel_rfl) (by kernel_rfl) (fun _ _ _ h => h) (Or.inl ⟨by rfl, ?_⟩) hHeld ?_
            rotate_left 1
            · intro u hSu
              obtain ⟨q0, q1⟩ := row_cells (kept_row HLA.out.gb hSu.out (by simp))
              obtain ⟨q2, q3⟩ := row_cells (kept_row HUA.out.1 hSu.out (by simp))
              go_simp
              first | done | with_reducible rfl
            (try simp only [Act.put, List.setIfInBounds_toArray, List.set_cons_zero, List.set_cons_succ])
            refine wpAnyH_done (by kernel_rfl) ?_ _
            have HLn := Lib.hid (HLA.out.keep hHeld.out)
            have HAVV : Hid (AV = false) := Lib.hid (by rw [HS.out]; rfl)
            clear hHeld
            go_wp2_with fail
            go_meet
            exact ⟨by rw [HAVV.out], HLn⟩
          | true =>
            by_cases hXY : X = Y
            · have HXY := Lib.hid hXY
              have hXY' : (X == Y) = true := by simpa using hXY
              clear hXY
              by_cases hPQ : P = Q
              · have HPQ := Lib.hid hPQ
                have hPQ' : (P == Q) = true := by simpa using hPQ
                clear hPQ
                refine wp_region_held_drew (S := fun w' => Hid (wA.grownBy w' none)) (by kernel_rfl) (Lib.hid (grown_drew (grown_refl _ _))) (fun hHeld => ?_)
                refine wpAnyH_take (i := 0) (oi := { dst := some 63, op := Op.move (Operand.tmp 10), type := 4, pos := "law.go:189", after := #[], guard := none }) (v := ?_) rfl (by kernel_rfl) (by kernel_rfl) (by kernel_rfl) (fun _ _ _ h => h) (Or.inl ⟨by rfl, ?_⟩) hHeld ?_
                rotate_left 1
                · intro u hSu
                  obtain ⟨q0, q1⟩ := row_cells (kept_row HLA.out.gb hSu.out (by simp))
                  obtain ⟨q2, q3⟩ := row_cells (kept_row HUA.out.1 hSu.out (by simp))
                  go_simp
                  first | done | with_reducible rfl
                (try simp only [Act.put, List.setIfInBounds_toArray, List.set_cons_zero, List.set_cons_succ])
                refine wpAnyH_take (i := 1) (oi := { dst := some 64, op := Op.move (Operand.tmp 63), type := 4, pos := "law.go:189", after := #[{ on := 0, ground := Ground.data }], guard := none }) (v := ?_) rfl (by kernel_rfl) (by kernel_rfl) (by kernel_rfl) (fun _ _ _ h => h) (Or.inl ⟨by rfl, ?_⟩) hHeld ?_
                rotate_left 1
                · intro u hSu
                  obtain ⟨q0, q1⟩ := row_cells (kept_row HLA.out.gb hSu.out (by simp))
                  obtain ⟨q2, q3⟩ := row_cells (kept_row HUA.out.1 hSu.out (by simp))
                  go_simp
                  first | done | with_reducible rfl
                (try simp only [Act.put, List.setIfInBounds_toArray, List.set_cons_zero, List.set_cons_succ])
                refine wpAnyH_take (i := 2) (oi := { dst := some 65, op := Op.move (Operand.tmp 12), type := 4, pos := "law.go:189", after := #[{ on := 1, ground := Ground.guard }], guard := some (1, true) }) (v := ?_) rfl (by kernel_rfl) (by kernel_rfl) (by kernel_rfl) (fun _ _ _ h => h) (Or.inl ⟨by rfl, ?_⟩) hHeld ?_
                rotate_left 1
                · intro u hSu
                  obtain ⟨q0, q1⟩ := row_cells (kept_row HLA.out.gb hSu.out (by simp))
                  obtain ⟨q2, q3⟩ := row_cells (kept_row HUA.out.1 hSu.out (by simp))
                  go_simp
                  first | done | with_reducible rfl
                (try simp only [Act.put, List.setIfInBounds_toArray, List.set_cons_zero, List.set_cons_succ])
                refine wpAnyH_take (i := 3) (oi := { dst := some 66, op := Op.pick (Operand.tmp 64) (Operand.tmp 65) (Operand.const (Value.bool false)), type := 4, pos := "law.go:189", after := #[{ on := 1, ground := Ground.data }, { on := 2, ground := Ground.data }], guard := none }) (v := ?_) rfl (by kernel_rfl) (by kernel_rfl) (by kernel_rfl) (fun _ _ _ h => h) (Or.inl ⟨by rfl, ?_⟩) hHeld ?_
                rotate_left 1
                · intro u hSu
                  obtain ⟨q0, q1⟩ := row_cells (kept_row HLA.out.gb hSu.out (by simp))
                  obtain ⟨q2, q3⟩ := row_cells (kept_row HUA.out.1 hSu.out (by simp))
                  go_simp
                  first | done | with_reducible rfl
                (try simp only [Act.put, List.setIfInBounds_toArray, List.set_cons_zero, List.set_cons_succ])
                refine wpAnyH_take (i := 4) (oi := { dst := some 67, op := Op.move (Operand.tmp 66), type := 4, pos := "law.go:189", after := #[{ on := 3, ground := Ground.data }, { on := 1, ground := Ground.chain }], guard := none }) (v := ?_) rfl (by kernel_rfl) (by kernel_rfl) (by kernel_rfl) (fun _ _ _ h => h) (Or.inl ⟨by rfl, ?_⟩) hHeld ?_
                rotate_left 1
                · intro u hSu
                  obtain ⟨q0, q1⟩ := row_cells (kept_row HLA.out.gb hSu.out (by simp))
                  obtain ⟨q2, q3⟩ := row_cells (kept_row HUA.out.1 hSu.out (by simp))
                  go_simp
                  first | done | with_reducible rfl
                (try simp only [Act.put, List.setIfInBounds_toArray, List.set_cons_zero, List.set_cons_succ])
                refine wpAnyH_take (i := 5) (oi := { dst := some 68, op := Op.move (Operand.tmp 9), type := 3, pos := "law.go:189", after := #[{ on := 4, ground := Ground.guard }], guard := some (4, true) }) (v := ?_) rfl (by kernel_rfl) (by kernel_rfl) (by kernel_rfl) (fun _ _ _ h => h) (Or.inl ⟨by rfl, ?_⟩) hHeld ?_
                rotate_left 1
                · intro u hSu
                  obtain ⟨q0, q1⟩ := row_cells (kept_row HLA.out.gb hSu.out (by simp))
                  obtain ⟨q2, q3⟩ := row_cells (kept_row HUA.out.1 hSu.out (by simp))
                  go_simp
                  first | done | with_reducible rfl
                (try simp only [Act.put, List.setIfInBounds_toArray, List.set_cons_zero, List.set_cons_succ])
                refine wpAnyH_take (i := 6) (oi := { dst := some 69, op := Op.move (Operand.tmp 11), type := 3, pos := "law.go:189", after := #[{ on := 4, ground := Ground.guard }], guard := some (4, true) }) (v := ?_) rfl (by kernel_rfl) (by kernel_rfl) (by kernel_rfl) (fun _ _ _ h => h) (Or.inl ⟨by rfl, ?_⟩) hHeld ?_
                rotate_left 1
                · intro u hSu
                  obtain ⟨q0, q1⟩ := row_cells (kept_row HLA.out.gb hSu.out (by simp))
                  obtain ⟨q2, q3⟩ := row_cells (kept_row HUA.out.1 hSu.out (by simp))
                  go_simp
                  first | done | with_reducible rfl
                (try simp only [Act.put, List.setIfInBounds_toArray, List.set_cons_zero, List.set_cons_succ])
                refine wpAnyH_take (i := 7) (oi := { dst := some 70, op := Op.binOp BinOp.eql 3 (Operand.tmp 68) (Operand.tmp 69) 3, type := 4, pos := "law.go:189", after := #[{ on := 5, ground := Ground.data }, { on := 6, ground := Ground.data }, { on := 4, ground := Ground.guard }], guard := some (4, true) }) (v := (.bool true)) rfl (by kernel_rfl) (by kernel_rfl) (by kernel_rfl) (fun _ _ _ h => h) (Or.inl ⟨by rfl, ?_⟩) hHeld ?_
                · intro u hSu
                  obtain ⟨q0, q1⟩ := row_cells (kept_row HLA.out.gb hSu.out (by simp))
                  obtain ⟨q2, q3⟩ := row_cells (kept_row HUA.out.1 hSu.out (by simp))
                  go_simp
                  first | done | simp | (simp; omega) | omega
                (try simp only [Act.put, List.setIfInBounds_toArray, List.set_cons_zero, List.set_cons_succ])
                refine wpAnyH_take (i := 8) (oi := { dst := some 71, op := Op.pick (Operand.tmp 67) (Operand.tmp 70) (Operand.const (Value.bool false)), type := 4, pos := "law.go:189", after := #[{ on := 4, ground := Ground.data }, { on := 7, ground := Ground.data }], guard := none }) (v := ?_) rfl (by kernel_rfl) (by kernel_rfl) (by kernel_rfl) (fun _ _ _ h => h) (Or.inl ⟨by rfl, ?_⟩) hHeld ?_
                rotate_left 1
                · intro u hSu
                  obtain ⟨q0, q1⟩ := row_cells (kept_row HLA.out.gb hSu.out (by simp))
                  obtain ⟨q2, q3⟩ := row_cells (kept_row HUA.out.1 hSu.out (by simp))
                  go_simp
                  first | done | with_reducible rfl
                (try simp only [Act.put, List.setIfInBounds_toArray, List.set_cons_zero, List.set_cons_succ])
                refine wpAnyH_take (i := 9) (oi := { dst := some 72, op := Op.move (Operand.tmp 71), type := 4, pos := "law.go:189", after := #[{ on := 8, ground := Ground.data }, { on := 4, ground := Ground.chain }], guard := none }) (v := ?_) rfl (by kernel_rfl) (by kernel_rfl) (by kernel_rfl) (fun _ _ _ h => h) (Or.inl ⟨by rfl, ?_⟩) hHeld ?_
                rotate_left 1
                · intro u hSu
                  obtain ⟨q0, q1⟩ := row_cells (kept_row HLA.out.gb hSu.out (by simp))
                  obtain ⟨q2, q3⟩ := row_cells (kept_row HUA.out.1 hSu.out (by simp))
                  go_simp
                  first | done | with_reducible rfl
                (try simp only [Act.put, List.setIfInBounds_toArray, List.set_cons_zero, List.set_cons_succ])
                refine wpAnyH_take (i := 10) (oi := { dst := some 73, op := Op.load 28 (Operand.tmp 4), type := 28, pos := "law.go:189", after := #[{ on := 9, ground := Ground.guard }], guard := some (9, true) }) (v := ?_) rfl (by kernel_rfl) (by kernel_rfl) (by kernel_rfl) (fun _ _ _ h => h) (Or.inl ⟨by rfl, ?_⟩) hHeld ?_
                rotate_left 1
                · intro u hSu
                  obtain ⟨q0, q1⟩ := row_cells (kept_row HLA.out.gb hSu.out (by simp))
                  obtain ⟨q2, q3⟩ := row_cells (kept_row HUA.out.1 hSu.out (by simp))
                  go_simp
                  first | done | with_reducible rfl
                (try simp only [Act.put, List.setIfInBounds_toArray, List.set_cons_zero, List.set_cons_succ])
                refine wpAnyH_take (i := 11) (oi := { dst := some 74, op := Op.move (Operand.tmp 5), type := 3, pos := "law.go:189", after := #[{ on := 9, ground := Ground.guard }], guard := some (9, true) }) (v := ?_) rfl (by kernel_rfl) (by kernel_rfl) (by kernel_rfl) (fun _ _ _ h => h) (Or.inl ⟨by rfl, ?_⟩) hHeld ?_
                rotate_left 1
                · intro u hSu
                  obtain ⟨q0, q1⟩ := row_cells (kept_row HLA.out.gb hSu.out (by simp))
                  obtain ⟨q2, q3⟩ := row_cells (kept_row HUA.out.1 hSu.out (by simp))
                  go_simp
                  first | done | with_reducible rfl
                (try simp only [Act.put, List.setIfInBounds_toArray, List.set_cons_zero, List.set_cons_succ])
                refine wpAnyH_take (i := 12) (oi := { dst := some 75, op := Op.move (Operand.tmp 6), type := 3, pos := "law.go:189", after := #[{ on := 9, ground := Ground.guard }], guard := some (9, true) }) (v := ?_) rfl (by kernel_rfl) (by kernel_rfl) (by kernel_rfl) (fun _ _ _ h => h) (Or.inl ⟨by rfl, ?_⟩) hHeld ?_
                rotate_left 1
                · intro u hSu
                  obtain ⟨q0, q1⟩ := row_cells (kept_row HLA.out.gb hSu.out (by simp))
                  obtain ⟨q2, q3⟩ := row_cells (kept_row HUA.out.1 hSu.out (by simp))
                  go_simp
                  first | done | with_reducible rfl
                (try simp only [Act.put, List.setIfInBounds_toArray, List.set_cons_zero, List.set_cons_succ])
                refine wpAnyH_take (i := 14) (oi := { dst := some 77, op := Op.load 28 (Operand.tmp 8), type := 28, pos := "law.go:189", after := #[{ on := 9, ground := Ground.guard }], guard := some (9, true) }) (v := ?_) rfl (by kernel_rfl) (by kernel_rfl) (by kernel_rfl) (fun _ _ _ h => h) (Or.inl ⟨by rfl, ?_⟩) hHeld ?_
                rotate_left 1
                · intro u hSu
                  obtain ⟨q0, q1⟩ := row_cells (kept_row HLA.out.gb hSu.out (by simp))
                  obtain ⟨q2, q3⟩ := row_cells (kept_row HUA.out.1 hSu.out (by simp))
                  go_simp
                  first | done | with_reducible rfl
                (try simp only [Act.put, List.setIfInBounds_toArray, List.set_cons_zero, List.set_cons_succ])
                refine wpAnyH_take (i := 15) (oi := { dst := some 78, op := Op.move (Operand.tmp 5), type := 3, pos := "law.go:189", after := #[{ on := 9, ground := Ground.guard }], guard := some (9, true) }) (v := ?_) rfl (by kernel_rfl) (by kernel_rfl) (by kernel_rfl) (fun _ _ _ h => h) (Or.inl ⟨by rfl, ?_⟩) hHeld ?_
                rotate_left 1
                · intro u hSu
                  obtain ⟨q0, q1⟩ := row_cells (kept_row HLA.out.gb hSu.out (by simp))
                  obtain ⟨q2, q3⟩ := row_cells (kept_row HUA.out.1 hSu.out (by simp))
                  go_simp
                  first | done | with_reducible rfl
                (try simp only [Act.put, List.setIfInBounds_toArray, List.set_cons_zero, List.set_cons_succ])
                refine wpAnyH_take (i := 16) (oi := { dst := some 79, op := Op.move (Operand.tmp 6), type := 3, pos := "law.go:189", after := #[{ on := 9, ground := Ground.guard }], guard := some (9, true) }) (v := ?_) rfl (by kernel_rfl) (by kernel_rfl) (by kernel_rfl) (fun _ _ _ h => h) (Or.inl ⟨by rfl, ?_⟩) hHeld ?_
                rotate_left 1
                · intro u hSu
                  obtain ⟨q0, q1⟩ := row_cells (kept_row HLA.out.gb hSu.out (by simp))
                  obtain ⟨q2, q3⟩ := row_cells (kept_row HUA.out.1 hSu.out (by simp))
                  go_simp
                  first | done | with_reducible rfl
                (try simp only [Act.put, List.setIfInBounds_toArray, List.set_cons_zero, List.set_cons_succ])
                refine wpAnyH_ready (rs := [13]) (by kernel_rfl) (by simp) ?_
                refine AllReadyH.cons (o := { dst := some 76, op := Op.call { callee := Callee.value (Operand.func 19), args := #[Operand.tmp 73, Operand.tmp 74, Operand.tmp 75], argTypes := #[28, 3, 3] }, type := 3, pos := "law.go:189", after := #[{ on := 10, ground := Ground.data }, { on := 11, ground := Ground.data }, { on := 12, ground := Ground.data }, { on := 9, ground := Ground.chain }, { on := 9, ground := Ground.guard }], guard := some (9, true) }) rfl (fun Kz hK => ?_) AllReadyH.nil
                go_simp
                go_at_call 19
                refine (tpaths_any ⟨R, L, pR, cR, pL, cL⟩ x y _ _ ((HLA.out.keep hHeld.out).t) hR hL HVT.out.pl hxi).mono ?_
                rintro e wp1 ⟨rfl, hgp⟩
                (try simp only)
                rw [HV3.out.1]
                refine hK.out _ _ (Lib.hid (grown_trans hHeld.out hgp)) (fun hH2 => ?_)
                clear hK Kz hHeld
                have hHeld := hH2
                clear hH2
                (try simp only [Act.put, List.setIfInBounds_toArray, List.set_cons_zero, List.set_cons_succ])
                refine wpAnyH_ready (rs := [17]) (by kernel_rfl) (by simp) ?_
                refine AllReadyH.cons (o := { dst := some 80, op := Op.call { callee := Callee.value (Operand.func 19), args := #[Operand.tmp 77, Operand.tmp 78, Operand.tmp 79], argTypes := #[28, 3, 3] }, type := 3, pos := "law.go:189", after := #[{ on := 14, ground := Ground.data }, { on := 15, ground := Ground.data }, { on := 16, ground := Ground.data }, { on := 13, ground := Ground.chain }, { on := 9, ground := Ground.guard }], guard := some (9, true) }) rfl (fun Kz hK => ?_) AllReadyH.nil
                go_simp
                go_at_call 19
                refine (tpaths_any ⟨R2, L2, pu, cu, pv, cv⟩ x y _ _ (HUA.out.2.keep hHeld.out) hR2 hL2 HPU.out hxi).mono ?_
                rintro e wp2 ⟨rfl, hgp⟩
                (try simp only)
                rw [HV3.out.2.1]
                refine hK.out _ _ (Lib.hid (grown_trans hHeld.out hgp)) (fun hH2 => ?_)
                clear hK Kz hHeld
                have hHeld := hH2
                clear hH2
                (try simp only [Act.put, List.setIfInBounds_toArray, List.set_cons_zero, List.set_cons_succ])
                refine wpAnyH_take (i := 18) (oi := { dst := some 81, op := Op.binOp BinOp.eql 3 (Operand.tmp 76) (Operand.tmp 80) 3, type := 4, pos := "law.go:189", after := #[{ on := 13, ground := Ground.data }, { on := 17, ground := Ground.data }, { on := 9, ground := Ground.guard }], guard := some (9, true) }) (v := (.bool true)) rfl (by kernel_rfl) (by kernel_rfl) (by kernel_rfl) (fun _ _ _ h => h) (Or.inl ⟨by rfl, ?_⟩) hHeld ?_
                · intro u hSu
                  obtain ⟨q0, q1⟩ := row_cells (kept_row HLA.out.gb hSu.out (by simp))
                  obtain ⟨q2, q3⟩ := row_cells (kept_row HUA.out.1 hSu.out (by simp))
                  go_simp
                  first | done | simp | (simp; omega) | omega
                (try simp only [Act.put, List.setIfInBounds_toArray, List.set_cons_zero, List.set_cons_succ])
                refine wpAnyH_take (i := 19) (oi := { dst := some 82, op := Op.pick (Operand.tmp 72) (Operand.tmp 81) (Operand.const (Value.bool false)), type := 4, pos := "law.go:189", after := #[{ on := 9, ground := Ground.data }, { on := 18, ground := Ground.data }], guard := none }) (v := ?_) rfl (by kernel_rfl) (by kernel_rfl) (by kernel_rfl) (fun _ _ _ h => h) (Or.inl ⟨by rfl, ?_⟩) hHeld ?_
                rotate_left 1
                · intro u hSu
                  obtain ⟨q0, q1⟩ := row_cells (kept_row HLA.out.gb hSu.out (by simp))
                  obtain ⟨q2, q3⟩ := row_cells (kept_row HUA.out.1 hSu.out (by simp))
                  go_simp
                  first | done | with_reducible rfl
                (try simp only [Act.put, List.setIfInBounds_toArray, List.set_cons_zero, List.set_cons_succ])
                refine wpAnyH_take (i := 20) (oi := { dst := some 13, op := Op.assign (Operand.tmp 82), type := 4, pos := "law.go:189", after := #[{ on := 19, ground := Ground.data }, { on := 17, ground := Ground.chain }, { on := 0, ground := Ground.phase }, { on := 1, ground := Ground.phase }, { on := 2, ground := Ground.phase }, { on := 3, ground := Ground.phase }, { on := 4, ground := Ground.phase }, { on := 5, ground := Ground.phase }, { on := 6, ground := Ground.phase }, { on := 7, ground := Ground.phase }, { on := 8, ground := Ground.phase }, { on := 9, ground := Ground.phase }, { on := 10, ground := Ground.phase }, { on := 11, ground := Ground.phase }, { on := 12, ground := Ground.phase }, { on := 13, ground := Ground.phase }, { on := 14, ground := Ground.phase }, { on := 15, ground := Ground.phase }, { on := 16, ground := Ground.phase }, { on := 17, ground := Ground.phase }, { on := 18, ground := Ground.phase }, { on := 19, ground := Ground.phase }], guard := none }) (v := ?_) rfl (by kernel_rfl) (by kernel_rfl) (by kernel_rfl) (fun _ _ _ h => h) (Or.inl ⟨by rfl, ?_⟩) hHeld ?_
                rotate_left 1
                · intro u hSu
                  obtain ⟨q0, q1⟩ := row_cells (kept_row HLA.out.gb hSu.out (by simp))
                  obtain ⟨q2, q3⟩ := row_cells (kept_row HUA.out.1 hSu.out (by simp))
                  go_simp
                  first | done | with_reducible rfl
                (try simp only [Act.put, List.setIfInBounds_toArray, List.set_cons_zero, List.set_cons_succ])
                refine wpAnyH_done (by kernel_rfl) ?_ _
                have HLn := Lib.hid (HLA.out.keep hHeld.out)
                have HAVV : Hid (AV = true) := Lib.hid (by rw [HS.out, decide_eq_true HXY.out, decide_eq_true HPQ.out]; rfl)
                clear hHeld
                go_wp2_with fail
                go_meet
                exact ⟨by rw [HAVV.out], HLn⟩
              · have HPQ := Lib.hid hPQ
                have hPQ' : (P == Q) = false := by simpa using hPQ
                clear hPQ
                refine wp_region_held_drew (S := fun w' => Hid (wA.grownBy w' none)) (by kernel_rfl) (Lib.hid (grown_drew (grown_refl _ _))) (fun hHeld => ?_)
                refine wpAnyH_take (i := 0) (oi := { dst := some 63, op := Op.move (Operand.tmp 10), type := 4, pos := "law.go:189", after := #[], guard := none }) (v := ?_) rfl (by kernel_rfl) (by kernel_rfl) (by kernel_rfl) (fun _ _ _ h => h) (Or.inl ⟨by rfl, ?_⟩) hHeld ?_
                rotate_left 1
                · intro u hSu
                  obtain ⟨q0, q1⟩ := row_cells (kept_row HLA.out.gb hSu.out (by simp))
                  obtain ⟨q2, q3⟩ := row_cells (kept_row HUA.out.1 hSu.out (by simp))
                  go_simp
                  first | done | with_reducible rfl
                (try simp only [Act.put, List.setIfInBounds_toArray, List.set_cons_zero, List.set_cons_succ])
                refine wpAnyH_take (i := 1) (oi := { dst := some 64, op := Op.move (Operand.tmp 63), type := 4, pos := "law.go:189", after := #[{ on := 0, ground := Ground.data }], guard := none }) (v := ?_) rfl (by kernel_rfl) (by kernel_rfl) (by kernel_rfl) (fun _ _ _ h => h) (Or.inl ⟨by rfl, ?_⟩) hHeld ?_
                rotate_left 1
                · intro u hSu
                  obtain ⟨q0, q1⟩ := row_cells (kept_row HLA.out.gb hSu.out (by simp))
                  obtain ⟨q2, q3⟩ := row_cells (kept_row HUA.out.1 hSu.out (by simp))
                  go_simp
                  first | done | with_reducible rfl
                (try simp only [Act.put, List.setIfInBounds_toArray, List.set_cons_zero, List.set_cons_succ])
                refine wpAnyH_take (i := 2) (oi := { dst := some 65, op := Op.move (Operand.tmp 12), type := 4, pos := "law.go:189", after := #[{ on := 1, ground := Ground.guard }], guard := some (1, true) }) (v := ?_) rfl (by kernel_rfl) (by kernel_rfl) (by kernel_rfl) (fun _ _ _ h => h) (Or.inl ⟨by rfl, ?_⟩) hHeld ?_
                rotate_left 1
                · intro u hSu
                  obtain ⟨q0, q1⟩ := row_cells (kept_row HLA.out.gb hSu.out (by simp))
                  obtain ⟨q2, q3⟩ := row_cells (kept_row HUA.out.1 hSu.out (by simp))
                  go_simp
                  first | done | with_reducible rfl
                (try simp only [Act.put, List.setIfInBounds_toArray, List.set_cons_zero, List.set_cons_succ])
                refine wpAnyH_take (i := 3) (oi := { dst := some 66, op := Op.pick (Operand.tmp 64) (Operand.tmp 65) (Operand.const (Value.bool false)), type := 4, pos := "law.go:189", after := #[{ on := 1, ground := Ground.data }, { on := 2, ground := Ground.data }], guard := none }) (v := ?_) rfl (by kernel_rfl) (by kernel_rfl) (by kernel_rfl) (fun _ _ _ h => h) (Or.inl ⟨by rfl, ?_⟩) hHeld ?_
                rotate_left 1
                · intro u hSu
                  obtain ⟨q0, q1⟩ := row_cells (kept_row HLA.out.gb hSu.out (by simp))
                  obtain ⟨q2, q3⟩ := row_cells (kept_row HUA.out.1 hSu.out (by simp))
                  go_simp
                  first | done | with_reducible rfl
                (try simp only [Act.put, List.setIfInBounds_toArray, List.set_cons_zero, List.set_cons_succ])
                refine wpAnyH_take (i := 4) (oi := { dst := some 67, op := Op.move (Operand.tmp 66), type := 4, pos := "law.go:189", after := #[{ on := 3, ground := Ground.data }, { on := 1, ground := Ground.chain }], guard := none }) (v := ?_) rfl (by kernel_rfl) (by kernel_rfl) (by kernel_rfl) (fun _ _ _ h => h) (Or.inl ⟨by rfl, ?_⟩) hHeld ?_
                rotate_left 1
                · intro u hSu
                  obtain ⟨q0, q1⟩ := row_cells (kept_row HLA.out.gb hSu.out (by simp))
                  obtain ⟨q2, q3⟩ := row_cells (kept_row HUA.out.1 hSu.out (by simp))
                  go_simp
                  first | done | with_reducible rfl
                (try simp only [Act.put, List.setIfInBounds_toArray, List.set_cons_zero, List.set_cons_succ])
                refine wpAnyH_take (i := 5) (oi := { dst := some 68, op := Op.move (Operand.tmp 9), type := 3, pos := "law.go:189", after := #[{ on := 4, ground := Ground.guard }], guard := some (4, true) }) (v := ?_) rfl (by kernel_rfl) (by kernel_rfl) (by kernel_rfl) (fun _ _ _ h => h) (Or.inl ⟨by rfl, ?_⟩) hHeld ?_
                rotate_left 1
                · intro u hSu
                  obtain ⟨q0, q1⟩ := row_cells (kept_row HLA.out.gb hSu.out (by simp))
                  obtain ⟨q2, q3⟩ := row_cells (kept_row HUA.out.1 hSu.out (by simp))
                  go_simp
                  first | done | with_reducible rfl
                (try simp only [Act.put, List.setIfInBounds_toArray, List.set_cons_zero, List.set_cons_succ])
                refine wpAnyH_take (i := 6) (oi := { dst := some 69, op := Op.move (Operand.tmp 11), type := 3, pos := "law.go:189", after := #[{ on := 4, ground := Ground.guard }], guard := some (4, true) }) (v := ?_) rfl (by kernel_rfl) (by kernel_rfl) (by kernel_rfl) (fun _ _ _ h => h) (Or.inl ⟨by rfl, ?_⟩) hHeld ?_
                rotate_left 1
                · intro u hSu
                  obtain ⟨q0, q1⟩ := row_cells (kept_row HLA.out.gb hSu.out (by simp))
                  obtain ⟨q2, q3⟩ := row_cells (kept_row HUA.out.1 hSu.out (by simp))
                  go_simp
                  first | done | with_reducible rfl
                (try simp only [Act.put, List.setIfInBounds_toArray, List.set_cons_zero, List.set_cons_succ])
                refine wpAnyH_take (i := 7) (oi := { dst := some 70, op := Op.binOp BinOp.eql 3 (Operand.tmp 68) (Operand.tmp 69) 3, type := 4, pos := "law.go:189", after := #[{ on := 5, ground := Ground.data }, { on := 6, ground := Ground.data }, { on := 4, ground := Ground.guard }], guard := some (4, true) }) (v := (.bool true)) rfl (by kernel_rfl) (by kernel_rfl) (by kernel_rfl) (fun _ _ _ h => h) (Or.inl ⟨by rfl, ?_⟩) hHeld ?_
                · intro u hSu
                  obtain ⟨q0, q1⟩ := row_cells (kept_row HLA.out.gb hSu.out (by simp))
                  obtain ⟨q2, q3⟩ := row_cells (kept_row HUA.out.1 hSu.out (by simp))
                  go_simp
                  first | done | simp | (simp; omega) | omega
                (try simp only [Act.put, List.setIfInBounds_toArray, List.set_cons_zero, List.set_cons_succ])
                refine wpAnyH_take (i := 8) (oi := { dst := some 71, op := Op.pick (Operand.tmp 67) (Operand.tmp 70) (Operand.const (Value.bool false)), type := 4, pos := "law.go:189", after := #[{ on := 4, ground := Ground.data }, { on := 7, ground := Ground.data }], guard := none }) (v := ?_) rfl (by kernel_rfl) (by kernel_rfl) (by kernel_rfl) (fun _ _ _ h => h) (Or.inl ⟨by rfl, ?_⟩) hHeld ?_
                rotate_left 1
                · intro u hSu
                  obtain ⟨q0, q1⟩ := row_cells (kept_row HLA.out.gb hSu.out (by simp))
                  obtain ⟨q2, q3⟩ := row_cells (kept_row HUA.out.1 hSu.out (by simp))
                  go_simp
                  first | done | with_reducible rfl
                (try simp only [Act.put, List.setIfInBounds_toArray, List.set_cons_zero, List.set_cons_succ])
                refine wpAnyH_take (i := 9) (oi := { dst := some 72, op := Op.move (Operand.tmp 71), type := 4, pos := "law.go:189", after := #[{ on := 8, ground := Ground.data }, { on := 4, ground := Ground.chain }], guard := none }) (v := ?_) rfl (by kernel_rfl) (by kernel_rfl) (by kernel_rfl) (fun _ _ _ h => h) (Or.inl ⟨by rfl, ?_⟩) hHeld ?_
                rotate_left 1
                · intro u hSu
                  obtain ⟨q0, q1⟩ := row_cells (kept_row HLA.out.gb hSu.out (by simp))
                  obtain ⟨q2, q3⟩ := row_cells (kept_row HUA.out.1 hSu.out (by simp))
                  go_simp
                  first | done | with_reducible rfl
                (try simp only [Act.put, List.setIfInBounds_toArray, List.set_cons_zero, List.set_cons_succ])
                refine wpAnyH_take (i := 10) (oi := { dst := some 73, op := Op.load 28 (Operand.tmp 4), type := 28, pos := "law.go:189", after := #[{ on := 9, ground := Ground.guard }], guard := some (9, true) }) (v := ?_) rfl (by kernel_rfl) (by kernel_rfl) (by kernel_rfl) (fun _ _ _ h => h) (Or.inl ⟨by rfl, ?_⟩) hHeld ?_
                rotate_left 1
                · intro u hSu
                  obtain ⟨q0, q1⟩ := row_cells (kept_row HLA.out.gb hSu.out (by simp))
                  obtain ⟨q2, q3⟩ := row_cells (kept_row HUA.out.1 hSu.out (by simp))
                  go_simp
                  first | done | with_reducible rfl
                (try simp only [Act.put, List.setIfInBounds_toArray, List.set_cons_zero, List.set_cons_succ])
                refine wpAnyH_take (i := 11) (oi := { dst := some 74, op := Op.move (Operand.tmp 5), type := 3, pos := "law.go:189", after := #[{ on := 9, ground := Ground.guard }], guard := some (9, true) }) (v := ?_) rfl (by kernel_rfl) (by kernel_rfl) (by kernel_rfl) (fun _ _ _ h => h) (Or.inl ⟨by rfl, ?_⟩) hHeld ?_
                rotate_left 1
                · intro u hSu
                  obtain ⟨q0, q1⟩ := row_cells (kept_row HLA.out.gb hSu.out (by simp))
                  obtain ⟨q2, q3⟩ := row_cells (kept_row HUA.out.1 hSu.out (by simp))
                  go_simp
                  first | done | with_reducible rfl
                (try simp only [Act.put, List.setIfInBounds_toArray, List.set_cons_zero, List.set_cons_succ])
                refine wpAnyH_take (i := 12) (oi := { dst := some 75, op := Op.move (Operand.tmp 6), type := 3, pos := "law.go:189", after := #[{ on := 9, ground := Ground.guard }], guard := some (9, true) }) (v := ?_) rfl (by kernel_rfl) (by kernel_rfl) (by kernel_rfl) (fun _ _ _ h => h) (Or.inl ⟨by rfl, ?_⟩) hHeld ?_
                rotate_left 1
                · intro u hSu
                  obtain ⟨q0, q1⟩ := row_cells (kept_row HLA.out.gb hSu.out (by simp))
                  obtain ⟨q2, q3⟩ := row_cells (kept_row HUA.out.1 hSu.out (by simp))
                  go_simp
                  first | done | with_reducible rfl
                (try simp only [Act.put, List.setIfInBounds_toArray, List.set_cons_zero, List.set_cons_succ])
                refine wpAnyH_take (i := 14) (oi := { dst := some 77, op := Op.load 28 (Operand.tmp 8), type := 28, pos := "law.go:189", after := #[{ on := 9, ground := Ground.guard }], guard := some (9, true) }) (v := ?_) rfl (by kernel_rfl) (by kernel_rfl) (by kernel_rfl) (fun _ _ _ h => h) (Or.inl ⟨by rfl, ?_⟩) hHeld ?_
                rotate_left 1
                · intro u hSu
                  obtain ⟨q0, q1⟩ := row_cells (kept_row HLA.out.gb hSu.out (by simp))
                  obtain ⟨q2, q3⟩ := row_cells (kept_row HUA.out.1 hSu.out (by simp))
                  go_simp
                  first | done | with_reducible rfl
                (try simp only [Act.put, List.setIfInBounds_toArray, List.set_cons_zero, List.set_cons_succ])
                refine wpAnyH_take (i := 15) (oi := { dst := some 78, op := Op.move (Operand.tmp 5), type := 3, pos := "law.go:189", after := #[{ on := 9, ground := Ground.guard }], guard := some (9, true) }) (v := ?_) rfl (by kernel_rfl) (by kernel_rfl) (by kernel_rfl) (fun _ _ _ h => h) (Or.inl ⟨by rfl, ?_⟩) hHeld ?_
                rotate_left 1
                · intro u hSu
                  obtain ⟨q0, q1⟩ := row_cells (kept_row HLA.out.gb hSu.out (by simp))
                  obtain ⟨q2, q3⟩ := row_cells (kept_row HUA.out.1 hSu.out (by simp))
                  go_simp
                  first | done | with_reducible rfl
                (try simp only [Act.put, List.setIfInBounds_toArray, List.set_cons_zero, List.set_cons_succ])
                refine wpAnyH_take (i := 16) (oi := { dst := some 79, op := Op.move (Operand.tmp 6), type := 3, pos := "law.go:189", after := #[{ on := 9, ground := Ground.guard }], guard := some (9, true) }) (v := ?_) rfl (by kernel_rfl) (by kernel_rfl) (by kernel_rfl) (fun _ _ _ h => h) (Or.inl ⟨by rfl, ?_⟩) hHeld ?_
                rotate_left 1
                · intro u hSu
                  obtain ⟨q0, q1⟩ := row_cells (kept_row HLA.out.gb hSu.out (by simp))
                  obtain ⟨q2, q3⟩ := row_cells (kept_row HUA.out.1 hSu.out (by simp))
                  go_simp
                  first | done | with_reducible rfl
                (try simp only [Act.put, List.setIfInBounds_toArray, List.set_cons_zero, List.set_cons_succ])
                refine wpAnyH_ready (rs := [13]) (by kernel_rfl) (by simp) ?_
                refine AllReadyH.cons (o := { dst := some 76, op := Op.call { callee := Callee.value (Operand.func 19), args := #[Operand.tmp 73, Operand.tmp 74, Operand.tmp 75], argTypes := #[28, 3, 3] }, type := 3, pos := "law.go:189", after := #[{ on := 10, ground := Ground.data }, { on := 11, ground := Ground.data }, { on := 12, ground := Ground.data }, { on := 9, ground := Ground.chain }, { on := 9, ground := Ground.guard }], guard := some (9, true) }) rfl (fun Kz hK => ?_) AllReadyH.nil
                go_simp
                go_at_call 19
                refine (tpaths_any ⟨R, L, pR, cR, pL, cL⟩ x y _ _ ((HLA.out.keep hHeld.out).t) hR hL HVT.out.pl hxi).mono ?_
                rintro e wp1 ⟨rfl, hgp⟩
                (try simp only)
                rw [HV3.out.1]
                refine hK.out _ _ (Lib.hid (grown_trans hHeld.out hgp)) (fun hH2 => ?_)
                clear hK Kz hHeld
                have hHeld := hH2
                clear hH2
                (try simp only [Act.put, List.setIfInBounds_toArray, List.set_cons_zero, List.set_cons_succ])
                refine wpAnyH_ready (rs := [17]) (by kernel_rfl) (by simp) ?_
                refine AllReadyH.cons (o := { dst := some 80, op := Op.call { callee := Callee.value (Operand.func 19), args := #[Operand.tmp 77, Operand.tmp 78, Operand.tmp 79], argTypes := #[28, 3, 3] }, type := 3, pos := "law.go:189", after := #[{ on := 14, ground := Ground.data }, { on := 15, ground := Ground.data }, { on := 16, ground := Ground.data }, { on := 13, ground := Ground.chain }, { on := 9, ground := Ground.guard }], guard := some (9, true) }) rfl (fun Kz hK => ?_) AllReadyH.nil
                go_simp
                go_at_call 19
                refine (tpaths_any ⟨R2, L2, pu, cu, pv, cv⟩ x y _ _ (HUA.out.2.keep hHeld.out) hR2 hL2 HPU.out hxi).mono ?_
                rintro e wp2 ⟨rfl, hgp⟩
                (try simp only)
                rw [HV3.out.2.1]
                refine hK.out _ _ (Lib.hid (grown_trans hHeld.out hgp)) (fun hH2 => ?_)
                clear hK Kz hHeld
                have hHeld := hH2
                clear hH2
                (try simp only [Act.put, List.setIfInBounds_toArray, List.set_cons_zero, List.set_cons_succ])
                refine wpAnyH_take (i := 18) (oi := { dst := some 81, op := Op.binOp BinOp.eql 3 (Operand.tmp 76) (Operand.tmp 80) 3, type := 4, pos := "law.go:189", after := #[{ on := 13, ground := Ground.data }, { on := 17, ground := Ground.data }, { on := 9, ground := Ground.guard }], guard := some (9, true) }) (v := (.bool false)) rfl (by kernel_rfl) (by kernel_rfl) (by kernel_rfl) (fun _ _ _ h => h) (Or.inl ⟨by rfl, ?_⟩) hHeld ?_
                · intro u hSu
                  obtain ⟨q0, q1⟩ := row_cells (kept_row HLA.out.gb hSu.out (by simp))
                  obtain ⟨q2, q3⟩ := row_cells (kept_row HUA.out.1 hSu.out (by simp))
                  go_simp
                  first | done | simp | (simp; omega) | omega
                (try simp only [Act.put, List.setIfInBounds_toArray, List.set_cons_zero, List.set_cons_succ])
                refine wpAnyH_take (i := 19) (oi := { dst := some 82, op := Op.pick (Operand.tmp 72) (Operand.tmp 81) (Operand.const (Value.bool false)), type := 4, pos := "law.go:189", after := #[{ on := 9, ground := Ground.data }, { on := 18, ground := Ground.data }], guard := none }) (v := ?_) rfl (by kernel_rfl) (by kernel_rfl) (by kernel_rfl) (fun _ _ _ h => h) (Or.inl ⟨by rfl, ?_⟩) hHeld ?_
                rotate_left 1
                · intro u hSu
                  obtain ⟨q0, q1⟩ := row_cells (kept_row HLA.out.gb hSu.out (by simp))
                  obtain ⟨q2, q3⟩ := row_cells (kept_row HUA.out.1 hSu.out (by simp))
                  go_simp
                  first | done | with_reducible rfl
                (try simp only [Act.put, List.setIfInBounds_toArray, List.set_cons_zero, List.set_cons_succ])
                refine wpAnyH_take (i := 20) (oi := { dst := some 13, op := Op.assign (Operand.tmp 82), type := 4, pos := "law.go:189", after := #[{ on := 19, ground := Ground.data }, { on := 17, ground := Ground.chain }, { on := 0, ground := Ground.phase }, { on := 1, ground := Ground.phase }, { on := 2, ground := Ground.phase }, { on := 3, ground := Ground.phase }, { on := 4, ground := Ground.phase }, { on := 5, ground := Ground.phase }, { on := 6, ground := Ground.phase }, { on := 7, ground := Ground.phase }, { on := 8, ground := Ground.phase }, { on := 9, ground := Ground.phase }, { on := 10, ground := Ground.phase }, { on := 11, ground := Ground.phase }, { on := 12, ground := Ground.phase }, { on := 13, ground := Ground.phase }, { on := 14, ground := Ground.phase }, { on := 15, ground := Ground.phase }, { on := 16, ground := Ground.phase }, { on := 17, ground := Ground.phase }, { on := 18, ground := Ground.phase }, { on := 19, ground := Ground.phase }], guard := none }) (v := ?_) rfl (by kernel_rfl) (by kernel_rfl) (by kernel_rfl) (fun _ _ _ h => h) (Or.inl ⟨by rfl, ?_⟩) hHeld ?_
                rotate_left 1
                · intro u hSu
                  obtain ⟨q0, q1⟩ := row_cells (kept_row HLA.out.gb hSu.out (by simp))
                  obtain ⟨q2, q3⟩ := row_cells (kept_row HUA.out.1 hSu.out (by simp))
                  go_simp
                  first | done | with_reducible rfl
                (try simp only [Act.put, List.setIfInBounds_toArray, List.set_cons_zero, List.set_cons_succ])
                refine wpAnyH_done (by kernel_rfl) ?_ _
                have HLn := Lib.hid (HLA.out.keep hHeld.out)
                have HAVV : Hid (AV = false) := Lib.hid (by rw [HS.out, decide_eq_true HXY.out, decide_eq_false HPQ.out]; rfl)
                clear hHeld
                go_wp2_with fail
                go_meet
                exact ⟨by rw [HAVV.out], HLn⟩
            · have HXY := Lib.hid hXY
              have hXY' : (X == Y) = false := by simpa using hXY
              clear hXY
              refine wp_region_held_drew (S := fun w' => Hid (wA.grownBy w' none)) (by kernel_rfl) (Lib.hid (grown_drew (grown_refl _ _))) (fun hHeld => ?_)
              refine wpAnyH_take (i := 0) (oi := { dst := some 63, op := Op.move (Operand.tmp 10), type := 4, pos := "law.go:189", after := #[], guard := none }) (v := ?_) rfl (by kernel_rfl) (by kernel_rfl) (by kernel_rfl) (fun _ _ _ h => h) (Or.inl ⟨by rfl, ?_⟩) hHeld ?_
              rotate_left 1
              · intro u hSu
                obtain ⟨q0, q1⟩ := row_cells (kept_row HLA.out.gb hSu.out (by simp))
                obtain ⟨q2, q3⟩ := row_cells (kept_row HUA.out.1 hSu.out (by simp))
                go_simp
                first | done | with_reducible rfl
              (try simp only [Act.put, List.setIfInBounds_toArray, List.set_cons_zero, List.set_cons_succ])
              refine wpAnyH_take (i := 1) (oi := { dst := some 64, op := Op.move (Operand.tmp 63), type := 4, pos := "law.go:189", after := #[{ on := 0, ground := Ground.data }], guard := none }) (v := ?_) rfl (by kernel_rfl) (by kernel_rfl) (by kernel_rfl) (fun _ _ _ h => h) (Or.inl ⟨by rfl, ?_⟩) hHeld ?_
              rotate_left 1
              · intro u hSu
                obtain ⟨q0, q1⟩ := row_cells (kept_row HLA.out.gb hSu.out (by simp))
                obtain ⟨q2, q3⟩ := row_cells (kept_row HUA.out.1 hSu.out (by simp))
                go_simp
                first | done | with_reducible rfl
              (try simp only [Act.put, List.setIfInBounds_toArray, List.set_cons_zero, List.set_cons_succ])
              refine wpAnyH_take (i := 2) (oi := { dst := some 65, op := Op.move (Operand.tmp 12), type := 4, pos := "law.go:189", after := #[{ on := 1, ground := Ground.guard }], guard := some (1, true) }) (v := ?_) rfl (by kernel_rfl) (by kernel_rfl) (by kernel_rfl) (fun _ _ _ h => h) (Or.inl ⟨by rfl, ?_⟩) hHeld ?_
              rotate_left 1
              · intro u hSu
                obtain ⟨q0, q1⟩ := row_cells (kept_row HLA.out.gb hSu.out (by simp))
                obtain ⟨q2, q3⟩ := row_cells (kept_row HUA.out.1 hSu.out (by simp))
                go_simp
                first | done | with_reducible rfl
              (try simp only [Act.put, List.setIfInBounds_toArray, List.set_cons_zero, List.set_cons_succ])
              refine wpAnyH_take (i := 3) (oi := { dst := some 66, op := Op.pick (Operand.tmp 64) (Operand.tmp 65) (Operand.const (Value.bool false)), type := 4, pos := "law.go:189", after := #[{ on := 1, ground := Ground.data }, { on := 2, ground := Ground.data }], guard := none }) (v := ?_) rfl (by kernel_rfl) (by kernel_rfl) (by kernel_rfl) (fun _ _ _ h => h) (Or.inl ⟨by rfl, ?_⟩) hHeld ?_
              rotate_left 1
              · intro u hSu
                obtain ⟨q0, q1⟩ := row_cells (kept_row HLA.out.gb hSu.out (by simp))
                obtain ⟨q2, q3⟩ := row_cells (kept_row HUA.out.1 hSu.out (by simp))
                go_simp
                first | done | with_reducible rfl
              (try simp only [Act.put, List.setIfInBounds_toArray, List.set_cons_zero, List.set_cons_succ])
              refine wpAnyH_take (i := 4) (oi := { dst := some 67, op := Op.move (Operand.tmp 66), type := 4, pos := "law.go:189", after := #[{ on := 3, ground := Ground.data }, { on := 1, ground := Ground.chain }], guard := none }) (v := ?_) rfl (by kernel_rfl) (by kernel_rfl) (by kernel_rfl) (fun _ _ _ h => h) (Or.inl ⟨by rfl, ?_⟩) hHeld ?_
              rotate_left 1
              · intro u hSu
                obtain ⟨q0, q1⟩ := row_cells (kept_row HLA.out.gb hSu.out (by simp))
                obtain ⟨q2, q3⟩ := row_cells (kept_row HUA.out.1 hSu.out (by simp))
                go_simp
                first | done | with_reducible rfl
              (try simp only [Act.put, List.setIfInBounds_toArray, List.set_cons_zero, List.set_cons_succ])
              refine wpAnyH_take (i := 5) (oi := { dst := some 68, op := Op.move (Operand.tmp 9), type := 3, pos := "law.go:189", after := #[{ on := 4, ground := Ground.guard }], guard := some (4, true) }) (v := ?_) rfl (by kernel_rfl) (by kernel_rfl) (by kernel_rfl) (fun _ _ _ h => h) (Or.inl ⟨by rfl, ?_⟩) hHeld ?_
              rotate_left 1
              · intro u hSu
                obtain ⟨q0, q1⟩ := row_cells (kept_row HLA.out.gb hSu.out (by simp))
                obtain ⟨q2, q3⟩ := row_cells (kept_row HUA.out.1 hSu.out (by simp))
                go_simp
                first | done | with_reducible rfl
              (try simp only [Act.put, List.setIfInBounds_toArray, List.set_cons_zero, List.set_cons_succ])
              refine wpAnyH_take (i := 6) (oi := { dst := some 69, op := Op.move (Operand.tmp 11), type := 3, pos := "law.go:189", after := #[{ on := 4, ground := Ground.guard }], guard := some (4, true) }) (v := ?_) rfl (by kernel_rfl) (by kernel_rfl) (by kernel_rfl) (fun _ _ _ h => h) (Or.inl ⟨by rfl, ?_⟩) hHeld ?_
              rotate_left 1
              · intro u hSu
                obtain ⟨q0, q1⟩ := row_cells (kept_row HLA.out.gb hSu.out (by simp))
                obtain ⟨q2, q3⟩ := row_cells (kept_row HUA.out.1 hSu.out (by simp))
                go_simp
                first | done | with_reducible rfl
              (try simp only [Act.put, List.setIfInBounds_toArray, List.set_cons_zero, List.set_cons_succ])
              refine wpAnyH_take (i := 7) (oi := { dst := some 70, op := Op.binOp BinOp.eql 3 (Operand.tmp 68) (Operand.tmp 69) 3, type := 4, pos := "law.go:189", after := #[{ on := 5, ground := Ground.data }, { on := 6, ground := Ground.data }, { on := 4, ground := Ground.guard }], guard := some (4, true) }) (v := (.bool false)) rfl (by kernel_rfl) (by kernel_rfl) (by kernel_rfl) (fun _ _ _ h => h) (Or.inl ⟨by rfl, ?_⟩) hHeld ?_
              · intro u hSu
                obtain ⟨q0, q1⟩ := row_cells (kept_row HLA.out.gb hSu.out (by simp))
                obtain ⟨q2, q3⟩ := row_cells (kept_row HUA.out.1 hSu.out (by simp))
                go_simp
                first | done | simp | (simp; omega) | omega
              (try simp only [Act.put, List.setIfInBounds_toArray, List.set_cons_zero, List.set_cons_succ])
              refine wpAnyH_take (i := 8) (oi := { dst := some 71, op := Op.pick (Operand.tmp 67) (Operand.tmp 70) (Operand.const (Value.bool false)), type := 4, pos := "law.go:189", after := #[{ on := 4, ground := Ground.data }, { on := 7, ground := Ground.data }], guard := none }) (v := ?_) rfl (by kernel_rfl) (by kernel_rfl) (by kernel_rfl) (fun _ _ _ h => h) (Or.inl ⟨by rfl, ?_⟩) hHeld ?_
              rotate_left 1
              · intro u hSu
                obtain ⟨q0, q1⟩ := row_cells (kept_row HLA.out.gb hSu.out (by simp))
                obtain ⟨q2, q3⟩ := row_cells (kept_row HUA.out.1 hSu.out (by simp))
                go_simp
                first | done | with_reducible rfl
              (try simp only [Act.put, List.setIfInBounds_toArray, List.set_cons_zero, List.set_cons_succ])
              refine wpAnyH_take (i := 9) (oi := { dst := some 72, op := Op.move (Operand.tmp 71), type := 4, pos := "law.go:189", after := #[{ on := 8, ground := Ground.data }, { on := 4, ground := Ground.chain }], guard := none }) (v := ?_) rfl (by kernel_rfl) (by kernel_rfl) (by kernel_rfl) (fun _ _ _ h => h) (Or.inl ⟨by rfl, ?_⟩) hHeld ?_
              rotate_left 1
              · intro u hSu
                obtain ⟨q0, q1⟩ := row_cells (kept_row HLA.out.gb hSu.out (by simp))
                obtain ⟨q2, q3⟩ := row_cells (kept_row HUA.out.1 hSu.out (by simp))
                go_simp
                first | done | with_reducible rfl
              (try simp only [Act.put, List.setIfInBounds_toArray, List.set_cons_zero, List.set_cons_succ])
              refine wpAnyH_take (i := 10) (oi := { dst := some 73, op := Op.load 28 (Operand.tmp 4), type := 28, pos := "law.go:189", after := #[{ on := 9, ground := Ground.guard }], guard := some (9, true) }) (v := undef) rfl (by kernel_rfl) (by kernel_rfl) (by kernel_rfl) (fun _ _ _ h => h) (Or.inr ⟨by rfl, rfl⟩) hHeld ?_
              (try simp only [Act.put, List.setIfInBounds_toArray, List.set_cons_zero, List.set_cons_succ])
              refine wpAnyH_take (i := 11) (oi := { dst := some 74, op := Op.move (Operand.tmp 5), type := 3, pos := "law.go:189", after := #[{ on := 9, ground := Ground.guard }], guard := some (9, true) }) (v := undef) rfl (by kernel_rfl) (by kernel_rfl) (by kernel_rfl) (fun _ _ _ h => h) (Or.inr ⟨by rfl, rfl⟩) hHeld ?_
              (try simp only [Act.put, List.setIfInBounds_toArray, List.set_cons_zero, List.set_cons_succ])
              refine wpAnyH_take (i := 12) (oi := { dst := some 75, op := Op.move (Operand.tmp 6), type := 3, pos := "law.go:189", after := #[{ on := 9, ground := Ground.guard }], guard := some (9, true) }) (v := undef) rfl (by kernel_rfl) (by kernel_rfl) (by kernel_rfl) (fun _ _ _ h => h) (Or.inr ⟨by rfl, rfl⟩) hHeld ?_
              (try simp only [Act.put, List.setIfInBounds_toArray, List.set_cons_zero, List.set_cons_succ])
              refine wpAnyH_take (i := 13) (oi := { dst := some 76, op := Op.call { callee := Callee.value (Operand.func 19), args := #[Operand.tmp 73, Operand.tmp 74, Operand.tmp 75], argTypes := #[28, 3, 3] }, type := 3, pos := "law.go:189", after := #[{ on := 10, ground := Ground.data }, { on := 11, ground := Ground.data }, { on := 12, ground := Ground.data }, { on := 9, ground := Ground.chain }, { on := 9, ground := Ground.guard }], guard := some (9, true) }) (v := undef) rfl (by kernel_rfl) (by kernel_rfl) (by kernel_rfl) (fun _ _ _ h => h) (Or.inr ⟨by rfl, rfl⟩) hHeld ?_
              (try simp only [Act.put, List.setIfInBounds_toArray, List.set_cons_zero, List.set_cons_succ])
              refine wpAnyH_take (i := 14) (oi := { dst := some 77, op := Op.load 28 (Operand.tmp 8), type := 28, pos := "law.go:189", after := #[{ on := 9, ground := Ground.guard }], guard := some (9, true) }) (v := undef) rfl (by kernel_rfl) (by kernel_rfl) (by kernel_rfl) (fun _ _ _ h => h) (Or.inr ⟨by rfl, rfl⟩) hHeld ?_
              (try simp only [Act.put, List.setIfInBounds_toArray, List.set_cons_zero, List.set_cons_succ])
              refine wpAnyH_take (i := 15) (oi := { dst := some 78, op := Op.move (Operand.tmp 5), type := 3, pos := "law.go:189", after := #[{ on := 9, ground := Ground.guard }], guard := some (9, true) }) (v := undef) rfl (by kernel_rfl) (by kernel_rfl) (by kernel_rfl) (fun _ _ _ h => h) (Or.inr ⟨by rfl, rfl⟩) hHeld ?_
              (try simp only [Act.put, List.setIfInBounds_toArray, List.set_cons_zero, List.set_cons_succ])
              refine wpAnyH_take (i := 16) (oi := { dst := some 79, op := Op.move (Operand.tmp 6), type := 3, pos := "law.go:189", after := #[{ on := 9, ground := Ground.guard }], guard := some (9, true) }) (v := undef) rfl (by kernel_rfl) (by kernel_rfl) (by kernel_rfl) (fun _ _ _ h => h) (Or.inr ⟨by rfl, rfl⟩) hHeld ?_
              (try simp only [Act.put, List.setIfInBounds_toArray, List.set_cons_zero, List.set_cons_succ])
              refine wpAnyH_take (i := 17) (oi := { dst := some 80, op := Op.call { callee := Callee.value (Operand.func 19), args := #[Operand.tmp 77, Operand.tmp 78, Operand.tmp 79], argTypes := #[28, 3, 3] }, type := 3, pos := "law.go:189", after := #[{ on := 14, ground := Ground.data }, { on := 15, ground := Ground.data }, { on := 16, ground := Ground.data }, { on := 13, ground := Ground.chain }, { on := 9, ground := Ground.guard }], guard := some (9, true) }) (v := undef) rfl (by kernel_rfl) (by kernel_rfl) (by kernel_rfl) (fun _ _ _ h => h) (Or.inr ⟨by rfl, rfl⟩) hHeld ?_
              (try simp only [Act.put, List.setIfInBounds_toArray, List.set_cons_zero, List.set_cons_succ])
              refine wpAnyH_take (i := 18) (oi := { dst := some 81, op := Op.binOp BinOp.eql 3 (Operand.tmp 76) (Operand.tmp 80) 3, type := 4, pos := "law.go:189", after := #[{ on := 13, ground := Ground.data }, { on := 17, ground := Ground.data }, { on := 9, ground := Ground.guard }], guard := some (9, true) }) (v := undef) rfl (by kernel_rfl) (by kernel_rfl) (by kernel_rfl) (fun _ _ _ h => h) (Or.inr ⟨by rfl, rfl⟩) hHeld ?_
              (try simp only [Act.put, List.setIfInBounds_toArray, List.set_cons_zero, List.set_cons_succ])
              refine wpAnyH_take (i := 19) (oi := { dst := some 82, op := Op.pick (Operand.tmp 72) (Operand.tmp 81) (Operand.const (Value.bool false)), type := 4, pos := "law.go:189", after := #[{ on := 9, ground := Ground.data }, { on := 18, ground := Ground.data }], guard := none }) (v := ?_) rfl (by kernel_rfl) (by kernel_rfl) (by kernel_rfl) (fun _ _ _ h => h) (Or.inl ⟨by rfl, ?_⟩) hHeld ?_
              rotate_left 1
              · intro u hSu
                obtain ⟨q0, q1⟩ := row_cells (kept_row HLA.out.gb hSu.out (by simp))
                obtain ⟨q2, q3⟩ := row_cells (kept_row HUA.out.1 hSu.out (by simp))
                go_simp
                first | done | with_reducible rfl
              (try simp only [Act.put, List.setIfInBounds_toArray, List.set_cons_zero, List.set_cons_succ])
              refine wpAnyH_take (i := 20) (oi := { dst := some 13, op := Op.assign (Operand.tmp 82), type := 4, pos := "law.go:189", after := #[{ on := 19, ground := Ground.data }, { on := 17, ground := Ground.chain }, { on := 0, ground := Ground.phase }, { on := 1, ground := Ground.phase }, { on := 2, ground := Ground.phase }, { on := 3, ground := Ground.phase }, { on := 4, ground := Ground.phase }, { on := 5, ground := Ground.phase }, { on := 6, ground := Ground.phase }, { on := 7, ground := Ground.phase }, { on := 8, ground := Ground.phase }, { on := 9, ground := Ground.phase }, { on := 10, ground := Ground.phase }, { on := 11, ground := Ground.phase }, { on := 12, ground := Ground.phase }, { on := 13, ground := Ground.phase }, { on := 14, ground := Ground.phase }, { on := 15, ground := Ground.phase }, { on := 16, ground := Ground.phase }, { on := 17, ground := Ground.phase }, { on := 18, ground := Ground.phase }, { on := 19, ground := Ground.phase }], guard := none }) (v := ?_) rfl (by kernel_rfl) (by kernel_rfl) (by kernel_rfl) (fun _ _ _ h => h) (Or.inl ⟨by rfl, ?_⟩) hHeld ?_
              rotate_left 1
              · intro u hSu
                obtain ⟨q0, q1⟩ := row_cells (kept_row HLA.out.gb hSu.out (by simp))
                obtain ⟨q2, q3⟩ := row_cells (kept_row HUA.out.1 hSu.out (by simp))
                go_simp
                first | done | with_reducible rfl
              (try simp only [Act.put, List.setIfInBounds_toArray, List.set_cons_zero, List.set_cons_succ])
              refine wpAnyH_done (by kernel_rfl) ?_ _
              have HLn := Lib.hid (HLA.out.keep hHeld.out)
              have HAVV : Hid (AV = false) := Lib.hid (by rw [HS.out, decide_eq_false HXY.out]; rfl)
              clear hHeld
              go_wp2_with fail
              go_meet
              exact ⟨by rw [HAVV.out], HLn⟩
      case rest =>
        obtain ⟨rfl, HL⟩ := hcut
        obtain ⟨w9, rfl⟩ : ∃ w9, w9 = wc := ⟨_, rfl⟩
        obtain ⟨c0, c1⟩ := row_cells HL.out.gb
        have e3 : (AV == AV) = true := by simp
        go_wp2_with fail
        refine (tav_any ⟨R, L, pR, cR, pL, cL⟩ x y z _ _ HL.out.t hR hL hyi hzi).mono ?_
        rintro e w10 ⟨rfl, g10⟩
        (try simp only)
        rw [HV3.out.2.2]
        have HG := Lib.hid (grown_trans HL.out.gr g10)
        clear g10 c0 c1
        go_wp2_with fail
        refine (sawake_any _).mono ?_
        rintro e w11 ⟨rfl, g11⟩
        have HE := Lib.hid (grown_trans HG.out g11)
        clear g11
        go_wp2_with fail
        go_ret
        exact ⟨rfl, HE.out⟩
end Go.Proofs.Ytlefjdglcdopeaa
