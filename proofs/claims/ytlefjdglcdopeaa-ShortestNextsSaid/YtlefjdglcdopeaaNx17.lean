/- Parts of the proof, packed: ShNxLaw. -/
import Derived.Test.YtlefjdglcdopeaaNx16
import Derived.Test.YtlefjdglcdopeaaNx8
/- The law ShortestNexts. -/
namespace Go.Proofs.Ytlefjdglcdopeaa
open Go.RowKit Go.Maps Bs
set_option maxRecDepth 100000 in
set_option maxHeartbeats 12800000 in
theorem snexts_walk (v : Value) (w : World) (hv : IntsIn w v) :
    Calls Try.prog 8 #[v] w fun e w' => e = .returned (.bool true) ∧ w.grownBy w' none := by
  go_enter Try.func8, Try.ntmps8
  go_wp2_with fail
  refine (new_any v w hv).mono ?_
  rintro e w2 ⟨rfl, hg1, hT1⟩
  have H2 := Lib.hid (And.intro hg1 hT1)
  obtain ⟨a, ha⟩ : ∃ a, a = w.heap.size := ⟨_, rfl⟩
  rw [← ha] at H2
  have HA := Lib.hid ha
  clear hg1 hT1 hv
  rw [← HA.out]
  clear ha
  go_wp2_with fail
  refine (stopo_any a 7 0 (by decide) (by decide) (by unfold I64; omega) w2 H2.out.2).mono ?_
  rintro e w3 ⟨T, rfl, hT, hO, hpT, hs3⟩
  obtain ⟨R, L, pR, cR, pL, cL⟩ := T
  have HVT : Hid (VT 7 ⟨R, L, pR, cR, pL, cL⟩) := Lib.hid (VT.of hO hpT)
  simp only at hO hpT ⊢
  have gal := World.grownBy_alloc w3 (.cells #[.slice pR R.length cR, .slice pL L.length cL] 28) none
  have ha2 : a < w2.heap.size := H2.out.2.lt
  have HW4 : Hid (w.grownBy (w3.alloc (.cells #[.slice pR R.length cR, .slice pL L.length cL] 28)) none) := Lib.hid (grown_trans (grown_tape H2.out.1 (by rw [← HA.out]; exact hs3.1)) gal)
  have HG : Hid ((w3.alloc (.cells #[.slice pR R.length cR, .slice pL L.length cL] 28)).heap[w3.heap.size]? = some (.cells #[.slice pR R.length cR, .slice pL L.length cL] 28 (0, 0)) ∧ TgOk (w3.alloc (.cells #[.slice pR R.length cR, .slice pL L.length cL] 28)) (fun b => w2.heap.size ≤ b ∧ b < w3.heap.size) ⟨R, L, pR, cR, pL, cL⟩ ∧ Tp (w3.alloc (.cells #[.slice pR R.length cR, .slice pL L.length cL] 28)) a) :=
    Lib.hid ⟨heap_alloc_new w3 _, hT.keep gal, hs3.2.keep gal⟩
  have ha3 : a < w3.heap.size := Nat.lt_of_lt_of_le ha2 hs3.1.size
  clear hT hs3 gal hO hpT
  go_upto_region 3 with fail
  generalize w3.alloc _ = w4 at *
  refine wp_region_held_drew (S := fun w' => Hid (w4.grownBy w' (some a) ∧ Tp w' a)) (by kernel_rfl) (Lib.hid ⟨grown_drew (grown_refl _ _), HG.out.2.2.drew⟩) (fun hHeld => ?_)
  refine wpAnyH_take (i := 0) (oi := { dst := some 20, op := Op.move (Operand.tmp 3), type := 23, pos := "law.go:145", after := #[], guard := none }) (v := ?_) rfl (by kernel_rfl) (by kernel_rfl) (by kernel_rfl) (fun _ _ _ h => h) (Or.inl ⟨by rfl, ?_⟩) hHeld ?_
  rotate_left 1
  · intro u hSu
    obtain ⟨q0, q1⟩ := row_cells (kept_row HG.out.1 hSu.out.1 (fun e => by have := Option.some.inj e; omega))
    go_simp
    first | done | with_reducible rfl
  (try simp only [Act.put, List.setIfInBounds_toArray, List.set_cons_zero, List.set_cons_succ])
  refine wpAnyH_take (i := 1) (oi := { dst := some 21, op := Op.load 28 (Operand.tmp 4), type := 28, pos := "law.go:145", after := #[], guard := none }) (v := ?_) rfl (by kernel_rfl) (by kernel_rfl) (by kernel_rfl) (fun _ _ _ h => h) (Or.inl ⟨by rfl, ?_⟩) hHeld ?_
  rotate_left 1
  · intro u hSu
    obtain ⟨q0, q1⟩ := row_cells (kept_row HG.out.1 hSu.out.1 (fun e => by have := Option.some.inj e; omega))
    go_simp
    first | done | with_reducible rfl
  (try simp only [Act.put, List.setIfInBounds_toArray, List.set_cons_zero, List.set_cons_succ])
  refine wpAnyH_take (i := 3) (oi := { dst := some 23, op := Op.move (Operand.tmp 3), type := 23, pos := "law.go:145", after := #[], guard := none }) (v := ?_) rfl (by kernel_rfl) (by kernel_rfl) (by kernel_rfl) (fun _ _ _ h => h) (Or.inl ⟨by rfl, ?_⟩) hHeld ?_
  rotate_left 1
  · intro u hSu
    obtain ⟨q0, q1⟩ := row_cells (kept_row HG.out.1 hSu.out.1 (fun e => by have := Option.some.inj e; omega))
    go_simp
    first | done | with_reducible rfl
  (try simp only [Act.put, List.setIfInBounds_toArray, List.set_cons_zero, List.set_cons_succ])
  refine wpAnyH_take (i := 4) (oi := { dst := some 24, op := Op.load 28 (Operand.tmp 4), type := 28, pos := "law.go:145", after := #[], guard := none }) (v := ?_) rfl (by kernel_rfl) (by kernel_rfl) (by kernel_rfl) (fun _ _ _ h => h) (Or.inl ⟨by rfl, ?_⟩) hHeld ?_
  rotate_left 1
  · intro u hSu
    obtain ⟨q0, q1⟩ := row_cells (kept_row HG.out.1 hSu.out.1 (fun e => by have := Option.some.inj e; omega))
    go_simp
    first | done | with_reducible rfl
  (try simp only [Act.put, List.setIfInBounds_toArray, List.set_cons_zero, List.set_cons_succ])
  refine wpAnyH_ready (rs := [2]) (by kernel_rfl) (by simp) ?_
  refine AllReadyH.cons (o := { dst := some 22, op := Op.call { callee := Callee.value (Operand.func 13), args := #[Operand.tmp 20, Operand.tmp 21, Operand.const (Value.int IntKind.i64 0)], argTypes := #[23, 28, 3] }, type := 3, pos := "law.go:145", after := #[{ on := 0, ground := Ground.data }, { on := 1, ground := Ground.data }], guard := none }) rfl (fun Kz hK => ?_) AllReadyH.nil
  go_simp
  go_at_call 13
  refine (srtr_any a ⟨R, L, pR, cR, pL, cL⟩ 0 (by unfold I64; omega) (fun b => w2.heap.size ≤ b ∧ b < w3.heap.size) _ (HG.out.2.1.grown hHeld.out.1 (fun b hb e => by have := Option.some.inj e; omega)) (fun b hb => by omega) hHeld.out.2).mono ?_
  rintro e w5 ⟨x, hx, rfl, hs⟩
  have Hx : Hid (hasV R L x = true ∧ 1 ≤ x ∧ x ≤ 99) := Lib.hid (HVT.out.rt hx)
  have hs1 := hs.1
  have hs2 := hs.2
  clear hx hs
  refine hK.out _ _ (Lib.hid ⟨grown_trans hHeld.out.1 hs1, hs2⟩) (fun hH2 => ?_)
  clear hK Kz hHeld
  have hHeld := hH2
  clear hH2
  (try simp only [Act.put, List.setIfInBounds_toArray, List.set_cons_zero, List.set_cons_succ])
  refine wpAnyH_ready (rs := [5]) (by kernel_rfl) (by simp) ?_
  refine AllReadyH.cons (o := { dst := some 25, op := Op.call { callee := Callee.value (Operand.func 13), args := #[Operand.tmp 23, Operand.tmp 24, Operand.const (Value.int IntKind.i64 0)], argTypes := #[23, 28, 3] }, type := 3, pos := "law.go:145", after := #[{ on := 3, ground := Ground.data }, { on := 4, ground := Ground.data }, { on := 2, ground := Ground.chain }], guard := none }) rfl (fun Kz hK => ?_) AllReadyH.nil
  go_simp
  go_at_call 13
  refine (srtr_any a ⟨R, L, pR, cR, pL, cL⟩ 0 (by unfold I64; omega) (fun b => w2.heap.size ≤ b ∧ b < w3.heap.size) _ (HG.out.2.1.grown hHeld.out.1 (fun b hb e => by have := Option.some.inj e; omega)) (fun b hb => by omega) hHeld.out.2).mono ?_
  rintro e w5 ⟨y, hy, rfl, hs⟩
  have Hy : Hid (hasV R L y = true ∧ 1 ≤ y ∧ y ≤ 99) := Lib.hid (HVT.out.rt hy)
  have hs1 := hs.1
  have hs2 := hs.2
  clear hy hs
  refine hK.out _ _ (Lib.hid ⟨grown_trans hHeld.out.1 hs1, hs2⟩) (fun hH2 => ?_)
  clear hK Kz hHeld
  have hHeld := hH2
  clear hH2
  (try simp only [Act.put, List.setIfInBounds_toArray, List.set_cons_zero, List.set_cons_succ])
  refine wpAnyH_take (i := 6) (oi := { dst := some 5, op := Op.assign (Operand.tmp 22), type := 3, pos := "law.go:145", after := #[{ on := 2, ground := Ground.data }, { on := 5, ground := Ground.chain }, { on := 0, ground := Ground.phase }, { on := 1, ground := Ground.phase }, { on := 2, ground := Ground.phase }, { on := 3, ground := Ground.textOnly Departure.lateStores }, { on := 4, ground := Ground.textOnly Departure.lateStores }, { on := 5, ground := Ground.textOnly Departure.lateStoresUnsure }], guard := none }) (v := ?_) rfl (by kernel_rfl) (by kernel_rfl) (by kernel_rfl) (fun _ _ _ h => h) (Or.inl ⟨by rfl, ?_⟩) hHeld ?_
  rotate_left 1
  · intro u hSu
    obtain ⟨q0, q1⟩ := row_cells (kept_row HG.out.1 hSu.out.1 (fun e => by have := Option.some.inj e; omega))
    go_simp
    first | done | with_reducible rfl
  (try simp only [Act.put, List.setIfInBounds_toArray, List.set_cons_zero, List.set_cons_succ])
  refine wpAnyH_take (i := 7) (oi := { dst := some 6, op := Op.assign (Operand.tmp 25), type := 3, pos := "law.go:145", after := #[{ on := 5, ground := Ground.data }, { on := 6, ground := Ground.chain }, { on := 0, ground := Ground.phase }, { on := 1, ground := Ground.phase }, { on := 2, ground := Ground.phase }, { on := 3, ground := Ground.phase }, { on := 4, ground := Ground.phase }, { on := 5, ground := Ground.phase }, { on := 6, ground := Ground.phase }], guard := none }) (v := ?_) rfl (by kernel_rfl) (by kernel_rfl) (by kernel_rfl) (fun _ _ _ h => h) (Or.inl ⟨by rfl, ?_⟩) hHeld ?_
  rotate_left 1
  · intro u hSu
    obtain ⟨q0, q1⟩ := row_cells (kept_row HG.out.1 hSu.out.1 (fun e => by have := Option.some.inj e; omega))
    go_simp
    first | done | with_reducible rfl
  (try simp only [Act.put, List.setIfInBounds_toArray, List.set_cons_zero, List.set_cons_succ])
  refine wpAnyH_done (by kernel_rfl) ?_ _
  have HL : Hid (LW w w3.heap.size ⟨R, L, pR, cR, pL, cL⟩ _) := Lib.hid ⟨kept_row HG.out.1 hHeld.out.1 (fun e => by have := Option.some.inj e; omega), (HG.out.2.1.grown hHeld.out.1 (fun b hb e => by have := Option.some.inj e; omega)).mono (fun b hb => hb.2), grown_new HW4.out hHeld.out.1 (by rw [HA.out]; exact Nat.le_refl _)⟩
  clear hHeld HG HW4 H2
  obtain ⟨G, hG⟩ : ∃ G, G = w3.heap.size := ⟨_, rfl⟩
  rw [← hG] at HL
  rw [← hG]
  clear hG ha2 ha3 HA
  have hR : R.length ≤ 1000 := Nat.le_trans HVT.out.len.1 (by decide)
  have hL : L.length ≤ 1000 := Nat.le_trans HVT.out.l60 (by decide)
  have hxi : I64 x := by have := Hx.out.2; unfold I64; omega
  have hyi : I64 y := by have := Hy.out.2; unfold I64; omega
  obtain ⟨c0, c1⟩ := row_cells HL.out.gb
  obtain ⟨D, hD⟩ : ∃ D, (dst R L x y).getD 0 = D := ⟨_, rfl⟩
  obtain ⟨ok, hok⟩ : ∃ ok, (dst R L x y).isSome = ok := ⟨_, rfl⟩
  have HD := Lib.hid (And.intro hD hok)
  have hDb : 0 ≤ D ∧ D ≤ 24000 := by rw [← hD]; exact getD_bd
  clear hD hok
  go_wp2_with fail
  refine (tcs_any ⟨R, L, pR, cR, pL, cL⟩ x y _ _ HL.out.t hR hL hyi).mono ?_
  rintro e w6 ⟨rfl, hg6⟩
  simp only
  rw [HD.out.1, HD.out.2]
  have HL6 := Lib.hid (HL.out.keep hg6)
  clear hg6 c0 c1 HL
  obtain ⟨c0, c1⟩ := row_cells HL6.out.gb
  go_wp2_with fail
  refine (tnext_any ⟨R, L, pR, cR, pL, cL⟩ x y _ _ HL6.out.t hR hL HVT.out.pl hxi).mono ?_
  rintro e w7 ⟨p7, c7, rfl, hr7, hc7, hn7, hg7⟩
  (try simp only at hr7 hc7 ⊢)
  obtain ⟨X, hX⟩ : ∃ X, nxt R L x y = X := ⟨_, rfl⟩
  have hXl := nxt_len R L x y
  rw [hX] at hr7 hc7 hXl ⊢
  have HX := Lib.hid hX
  have HL7 := Lib.hid (HL6.out.keep hg7)
  have HRX := Lib.hid hr7
  have hX120 : X.length ≤ 120 := by have := HVT.out.l60; simp only at this; omega
  clear hX hr7 hn7 hg7 hXl c0 c1 HL6
  obtain ⟨c0, c1⟩ := row_cells HL7.out.gb
  go_wp2_with fail
  refine (rnear_any ⟨R, L, pR, cR, pL, cL⟩ x _ _ HL7.out.t hR).mono ?_
  rintro e w8 ⟨p8, c8, rfl, hr8, hc8, hn8, hg8⟩
  (try simp only at hr8 hc8 ⊢)
  obtain ⟨Y, hY⟩ : ∃ Y, nearR R L x = Y := ⟨_, rfl⟩
  have hXY := nxt_near_len HVT.out.ok x y
  simp only at hXY
  rw [HX.out, hY] at hXY
  rw [hY] at hr8 hc8 ⊢
  have HY := Lib.hid hY
  have HL8 := Lib.hid (HL7.out.keep hg8)
  have HRX8 : Hid (Rd w8 (fun _ => True) (.slice p7 X.length c7) (X.map tv)) := Lib.hid ((HRX.out.grown hg8 (fun _ _ => by simp)).mono (fun _ _ => trivial))
  have HRY : Hid (Rd w8 (fun _ => True) (.slice p8 Y.length c8) (Y.map tv)) := Lib.hid (hr8.mono (fun _ _ => trivial))
  have hY24 : Y.length ≤ 1000 := by
    rw [← hY]
    unfold nearR
    rw [List.length_map]
    exact Nat.le_trans (List.length_filter_le _ _) hR
  have HXY := Lib.hid hXY
  clear hY hr8 hn8 hg8 c0 c1 HL7 HRX hXY
  go_wp2_with fail
  go_loopw [11] (fun i wr => ∃ k : Nat, k ≤ Y.length ∧ i = .int .i64 (k : Int) ∧ Hid (LW w G ⟨R, L, pR, cR, pL, cL⟩ wr) ∧ Hid (w8.grownBy wr none)) (fun i _ => Y.length - (RowKit.intOf i).toNat)
  case atStart => exact ⟨0, Nat.zero_le _, rfl, HL8, Lib.hid (grown_refl _ _)⟩
  case round =>
    obtain ⟨k, hk, rfl, HLk, HGk⟩ := hrel
    clear HL8
    by_cases hlt : k < Y.length
    · obtain ⟨-, b8, o8, rfl, -, -⟩ := rdi_at (HRY.out.grown HGk.out (fun _ _ => by simp)) (by omega)
      obtain ⟨n, hn⟩ : ∃ n, Y[k]? = some n := ⟨_, List.getElem?_eq_getElem hlt⟩
      have HC : Hid (∀ v, w8.grownBy v none → v.cell? ⟨b8, o8 + k, none⟩ = some (.int .i64 n)) := Lib.hid (fun v g => by
        obtain ⟨-, b, o, e, -, hc⟩ := rdi_at (HRY.out.grown g (fun _ _ => by simp)) (by omega)
        injection e with e
        injection e with e1 e2
        subst e1
        subst e2
        exact hc k n hn)
      obtain ⟨c, hpr, hed, hcb, hnb⟩ := near_edg HVT.out.ok (show n ∈ nearR R L x by rw [HY.out]; exact List.mem_of_getElem? hn)
      have HPR := Lib.hid (And.intro hpr hed)
      have hk1 : (k : Int) < (Y.length : Int) := by omega
      have hni : I64 n := by unfold I64; omega
      clear hn hpr hed
      go_upto_region 10 with fail
      refine wp_region_held_drew (S := fun w' => Hid (wr.grownBy w' none)) (by kernel_rfl) (Lib.hid (grown_drew (grown_refl _ _))) (fun hHeld => ?_)
      refine wpAnyH_take (i := 0) (oi := { dst := some 47, op := Op.load 28 (Operand.tmp 4), type := 28, pos := "law.go:150", after := #[], guard := none }) (v := ?_) rfl (by kernel_rfl) (by kernel_rfl) (by kernel_rfl) (fun _ _ _ h => h) (Or.inl ⟨by rfl, ?_⟩) hHeld ?_
      rotate_left 1
      · intro u hSu
        obtain ⟨q0, q1⟩ := row_cells (kept_row HLk.out.gb hSu.out (by simp))
        have q2 := HC.out u (grown_trans HGk.out hSu.out)
        go_simp
        first | done | with_reducible rfl
      (try simp only [Act.put, List.setIfInBounds_toArray, List.set_cons_zero, List.set_cons_succ])
      refine wpAnyH_take (i := 1) (oi := { dst := some 48, op := Op.move (Operand.tmp 5), type := 3, pos := "law.go:150", after := #[], guard := none }) (v := ?_) rfl (by kernel_rfl) (by kernel_rfl) (by kernel_rfl) (fun _ _ _ h => h) (Or.inl ⟨by rfl, ?_⟩) hHeld ?_
      rotate_left 1
      · intro u hSu
        obtain ⟨q0, q1⟩ := row_cells (kept_row HLk.out.gb hSu.out (by simp))
        have q2 := HC.out u (grown_trans HGk.out hSu.out)
        go_simp
        first | done | with_reducible rfl
      (try simp only [Act.put, List.setIfInBounds_toArray, List.set_cons_zero, List.set_cons_succ])
      refine wpAnyH_take (i := 2) (oi := { dst := some 49, op := Op.move (Operand.tmp 10), type := 22, pos := "law.go:150", after := #[], guard := none }) (v := ?_) rfl (by kernel_rfl) (by kernel_rfl) (by kernel_rfl) (fun _ _ _ h => h) (Or.inl ⟨by rfl, ?_⟩) hHeld ?_
      rotate_left 1
      · intro u hSu
        obtain ⟨q0, q1⟩ := row_cells (kept_row HLk.out.gb hSu.out (by simp))
        have q2 := HC.out u (grown_trans HGk.out hSu.out)
        go_simp
        first | done | with_reducible rfl
      (try simp only [Act.put, List.setIfInBounds_toArray, List.set_cons_zero, List.set_cons_succ])
      refine wpAnyH_take (i := 3) (oi := { dst := some 50, op := Op.move (Operand.tmp 11), type := 3, pos := "law.go:150", after := #[], guard := none }) (v := ?_) rfl (by kernel_rfl) (by kernel_rfl) (by kernel_rfl) (fun _ _ _ h => h) (Or.inl ⟨by rfl, ?_⟩) hHeld ?_
      rotate_left 1
      · intro u hSu
        obtain ⟨q0, q1⟩ := row_cells (kept_row HLk.out.gb hSu.out (by simp))
        have q2 := HC.out u (grown_trans HGk.out hSu.out)
        go_simp
        first | done | with_reducible rfl
      (try simp only [Act.put, List.setIfInBounds_toArray, List.set_cons_zero, List.set_cons_succ])
      refine wpAnyH_take (i := 4) (oi := { dst := some 51, op := Op.indexAddr 22 (Operand.tmp 49) (Operand.tmp 50), type := 0, pos := "law.go:150", after := #[{ on := 2, ground := Ground.data }, { on := 3, ground := Ground.data }], guard := none }) (v := ?_) rfl (by kernel_rfl) (by kernel_rfl) (by kernel_rfl) (fun _ _ _ h => h) (Or.inl ⟨by rfl, ?_⟩) hHeld ?_
      rotate_left 1
      · intro u hSu
        obtain ⟨q0, q1⟩ := row_cells (kept_row HLk.out.gb hSu.out (by simp))
        have q2 := HC.out u (grown_trans HGk.out hSu.out)
        go_simp
        first | done | with_reducible rfl
      (try simp only [Act.put, List.setIfInBounds_toArray, List.set_cons_zero, List.set_cons_succ])
      refine wpAnyH_take (i := 5) (oi := { dst := some 52, op := Op.load 3 (Operand.tmp 51), type := 3, pos := "law.go:150", after := #[{ on := 4, ground := Ground.data }], guard := none }) (v := ?_) rfl (by kernel_rfl) (by kernel_rfl) (by kernel_rfl) (fun _ _ _ h => h) (Or.inl ⟨by rfl, ?_⟩) hHeld ?_
      rotate_left 1
      · intro u hSu
        obtain ⟨q0, q1⟩ := row_cells (kept_row HLk.out.gb hSu.out (by simp))
        have q2 := HC.out u (grown_trans HGk.out hSu.out)
        go_simp
        first | done | with_reducible rfl
      (try simp only [Act.put, List.setIfInBounds_toArray, List.set_cons_zero, List.set_cons_succ])
      refine wpAnyH_ready (rs := [6]) (by kernel_rfl) (by simp) ?_
      refine AllReadyH.cons (o := { dst := some 53, op := Op.call { callee := Callee.value (Operand.func 32), args := #[Operand.tmp 47, Operand.tmp 48, Operand.tmp 52], argTypes := #[28, 3, 3] }, type := 49, pos := "law.go:150", after := #[{ on := 0, ground := Ground.data }, { on := 1, ground := Ground.data }, { on := 5, ground := Ground.data }], guard := none }) rfl (fun Kz hK => ?_) AllReadyH.nil
      go_simp
      go_at_call 32
      refine (rprice_any ⟨R, L, pR, cR, pL, cL⟩ x n _ _ ((HLk.out.keep hHeld.out).t)).mono ?_
      rintro e w9 ⟨rfl, hg9⟩
      simp only
      rw [HPR.out.1]
      (try simp only)
      refine hK.out _ _ (Lib.hid (grown_trans hHeld.out hg9)) (fun hH2 => ?_)
      clear hK Kz hHeld
      have hHeld := hH2
      clear hH2
      (try simp only [Act.put, List.setIfInBounds_toArray, List.set_cons_zero, List.set_cons_succ])
      refine wpAnyH_take (i := 7) (oi := { dst := some 46, op := Op.move (Operand.tmp 53), type := 49, pos := "law.go:150", after := #[{ on := 6, ground := Ground.data }], guard := none }) (v := ?_) rfl (by kernel_rfl) (by kernel_rfl) (by kernel_rfl) (fun _ _ _ h => h) (Or.inl ⟨by rfl, ?_⟩) hHeld ?_
      rotate_left 1
      · intro u hSu
        obtain ⟨q0, q1⟩ := row_cells (kept_row HLk.out.gb hSu.out (by simp))
        have q2 := HC.out u (grown_trans HGk.out hSu.out)
        go_simp
        first | done | with_reducible rfl
      (try simp only [Act.put, List.setIfInBounds_toArray, List.set_cons_zero, List.set_cons_succ])
      refine wpAnyH_take (i := 8) (oi := { dst := some 54, op := Op.extract (Operand.tmp 46) 0, type := 3, pos := "law.go:150", after := #[{ on := 7, ground := Ground.data }], guard := none }) (v := ?_) rfl (by kernel_rfl) (by kernel_rfl) (by kernel_rfl) (fun _ _ _ h => h) (Or.inl ⟨by rfl, ?_⟩) hHeld ?_
      rotate_left 1
      · intro u hSu
        obtain ⟨q0, q1⟩ := row_cells (kept_row HLk.out.gb hSu.out (by simp))
        have q2 := HC.out u (grown_trans HGk.out hSu.out)
        go_simp
        first | done | with_reducible rfl
      (try simp only [Act.put, List.setIfInBounds_toArray, List.set_cons_zero, List.set_cons_succ])
      refine wpAnyH_take (i := 9) (oi := { dst := some 55, op := Op.extract (Operand.tmp 46) 1, type := 4, pos := "law.go:150", after := #[{ on := 7, ground := Ground.data }, { on := 10, ground := Ground.gcOnly Departure.lateStores }], guard := none }) (v := ?_) rfl (by kernel_rfl) (by kernel_rfl) (by kernel_rfl) (fun _ _ _ h => h) (Or.inl ⟨by rfl, ?_⟩) hHeld ?_
      rotate_left 1
      · intro u hSu
        obtain ⟨q0, q1⟩ := row_cells (kept_row HLk.out.gb hSu.out (by simp))
        have q2 := HC.out u (grown_trans HGk.out hSu.out)
        go_simp
        first | done | with_reducible rfl
      (try simp only [Act.put, List.setIfInBounds_toArray, List.set_cons_zero, List.set_cons_succ])
      refine wpAnyH_take (i := 10) (oi := { dst := some 12, op := Op.assign (Operand.tmp 54), type := 3, pos := "law.go:150", after := #[{ on := 8, ground := Ground.data }, { on := 6, ground := Ground.chain }, { on := 0, ground := Ground.phase }, { on := 1, ground := Ground.phase }, { on := 2, ground := Ground.phase }, { on := 3, ground := Ground.phase }, { on := 4, ground := Ground.phase }, { on := 5, ground := Ground.phase }, { on := 6, ground := Ground.phase }, { on := 7, ground := Ground.phase }, { on := 8, ground := Ground.phase }, { on := 9, ground := Ground.textOnly Departure.lateStores }], guard := none }) (v := ?_) rfl (by kernel_rfl) (by kernel_rfl) (by kernel_rfl) (fun _ _ _ h => h) (Or.inl ⟨by rfl, ?_⟩) hHeld ?_
      rotate_left 1
      · intro u hSu
        obtain ⟨q0, q1⟩ := row_cells (kept_row HLk.out.gb hSu.out (by simp))
        have q2 := HC.out u (grown_trans HGk.out hSu.out)
        go_simp
        first | done | with_reducible rfl
      (try simp only [Act.put, List.setIfInBounds_toArray, List.set_cons_zero, List.set_cons_succ])
      refine wpAnyH_take (i := 11) (oi := { dst := some 13, op := Op.assign (Operand.tmp 55), type := 4, pos := "law.go:150", after := #[{ on := 9, ground := Ground.data }, { on := 10, ground := Ground.chain }, { on := 0, ground := Ground.phase }, { on := 1, ground := Ground.phase }, { on := 2, ground := Ground.phase }, { on := 3, ground := Ground.phase }, { on := 4, ground := Ground.phase }, { on := 5, ground := Ground.phase }, { on := 6, ground := Ground.phase }, { on := 7, ground := Ground.phase }, { on := 8, ground := Ground.phase }, { on := 9, ground := Ground.phase }, { on := 10, ground := Ground.phase }], guard := none }) (v := ?_) rfl (by kernel_rfl) (by kernel_rfl) (by kernel_rfl) (fun _ _ _ h => h) (Or.inl ⟨by rfl, ?_⟩) hHeld ?_
      rotate_left 1
      · intro u hSu
        obtain ⟨q0, q1⟩ := row_cells (kept_row HLk.out.gb hSu.out (by simp))
        have q2 := HC.out u (grown_trans HGk.out hSu.out)
        go_simp
        first | done | with_reducible rfl
      (try simp only [Act.put, List.setIfInBounds_toArray, List.set_cons_zero, List.set_cons_succ])
      refine wpAnyH_done (by kernel_rfl) ?_ _
      have HLa := Lib.hid (HLk.out.keep hHeld.out)
      have HGa := Lib.hid (grown_trans HGk.out hHeld.out)
      obtain ⟨wa, hwa⟩ : ∃ wa, wa = w9 := ⟨_, rfl⟩
      rw [← hwa] at HLa HGa ⊢
      clear hHeld HLk HGk hwa
      obtain ⟨B, hB⟩ : ∃ B, (dst R L n y).getD 0 = B := ⟨_, rfl⟩
      obtain ⟨oi, hoi⟩ : ∃ oi, (dst R L n y).isSome = oi := ⟨_, rfl⟩
      have HB := Lib.hid (And.intro hB hoi)
      have hBb : 0 ≤ B ∧ B ≤ 24000 := by rw [← hB]; exact getD_bd
      clear hB hoi
      go_upto_region 11 with fail
      refine wp_region_held_drew (S := fun w' => Hid (wa.grownBy w' none)) (by kernel_rfl) (Lib.hid (grown_drew (grown_refl _ _))) (fun hHeld => ?_)
      refine wpAnyH_take (i := 0) (oi := { dst := some 57, op := Op.load 28 (Operand.tmp 4), type := 28, pos := "law.go:151", after := #[], guard := none }) (v := ?_) rfl (by kernel_rfl) (by kernel_rfl) (by kernel_rfl) (fun _ _ _ h => h) (Or.inl ⟨by rfl, ?_⟩) hHeld ?_
      rotate_left 1
      · intro u hSu
        obtain ⟨q0, q1⟩ := row_cells (kept_row HLa.out.gb hSu.out (by simp))
        have q2 := HC.out u (grown_trans HGa.out hSu.out)
        go_simp
        first | done | with_reducible rfl
      (try simp only [Act.put, List.setIfInBounds_toArray, List.set_cons_zero, List.set_cons_succ])
      refine wpAnyH_take (i := 1) (oi := { dst := some 58, op := Op.move (Operand.tmp 10), type := 22, pos := "law.go:151", after := #[], guard := none }) (v := ?_) rfl (by kernel_rfl) (by kernel_rfl) (by kernel_rfl) (fun _ _ _ h => h) (Or.inl ⟨by rfl, ?_⟩) hHeld ?_
      rotate_left 1
      · intro u hSu
        obtain ⟨q0, q1⟩ := row_cells (kept_row HLa.out.gb hSu.out (by simp))
        have q2 := HC.out u (grown_trans HGa.out hSu.out)
        go_simp
        first | done | with_reducible rfl
      (try simp only [Act.put, List.setIfInBounds_toArray, List.set_cons_zero, List.set_cons_succ])
      refine wpAnyH_take (i := 2) (oi := { dst := some 59, op := Op.move (Operand.tmp 11), type := 3, pos := "law.go:151", after := #[], guard := none }) (v := ?_) rfl (by kernel_rfl) (by kernel_rfl) (by kernel_rfl) (fun _ _ _ h => h) (Or.inl ⟨by rfl, ?_⟩) hHeld ?_
      rotate_left 1
      · intro u hSu
        obtain ⟨q0, q1⟩ := row_cells (kept_row HLa.out.gb hSu.out (by simp))
        have q2 := HC.out u (grown_trans HGa.out hSu.out)
        go_simp
        first | done | with_reducible rfl
      (try simp only [Act.put, List.setIfInBounds_toArray, List.set_cons_zero, List.set_cons_succ])
      refine wpAnyH_take (i := 3) (oi := { dst := some 60, op := Op.indexAddr 22 (Operand.tmp 58) (Operand.tmp 59), type := 0, pos := "law.go:151", after := #[{ on := 1, ground := Ground.data }, { on := 2, ground := Ground.data }], guard := none }) (v := ?_) rfl (by kernel_rfl) (by kernel_rfl) (by kernel_rfl) (fun _ _ _ h => h) (Or.inl ⟨by rfl, ?_⟩) hHeld ?_
      rotate_left 1
      · intro u hSu
        obtain ⟨q0, q1⟩ := row_cells (kept_row HLa.out.gb hSu.out (by simp))
        have q2 := HC.out u (grown_trans HGa.out hSu.out)
        go_simp
        first | done | with_reducible rfl
      (try simp only [Act.put, List.setIfInBounds_toArray, List.set_cons_zero, List.set_cons_succ])
      refine wpAnyH_take (i := 4) (oi := { dst := some 61, op := Op.load 3 (Operand.tmp 60), type := 3, pos := "law.go:151", after := #[{ on := 3, ground := Ground.data }], guard := none }) (v := ?_) rfl (by kernel_rfl) (by kernel_rfl) (by kernel_rfl) (fun _ _ _ h => h) (Or.inl ⟨by rfl, ?_⟩) hHeld ?_
      rotate_left 1
      · intro u hSu
        obtain ⟨q0, q1⟩ := row_cells (kept_row HLa.out.gb hSu.out (by simp))
        have q2 := HC.out u (grown_trans HGa.out hSu.out)
        go_simp
        first | done | with_reducible rfl
      (try simp only [Act.put, List.setIfInBounds_toArray, List.set_cons_zero, List.set_cons_succ])
      refine wpAnyH_take (i := 5) (oi := { dst := some 62, op := Op.move (Operand.tmp 6), type := 3, pos := "law.go:151", after := #[], guard := none }) (v := ?_) rfl (by kernel_rfl) (by kernel_rfl) (by kernel_rfl) (fun _ _ _ h => h) (Or.inl ⟨by rfl, ?_⟩) hHeld ?_
      rotate_left 1
      · intro u hSu
        obtain ⟨q0, q1⟩ := row_cells (kept_row HLa.out.gb hSu.out (by simp))
        have q2 := HC.out u (grown_trans HGa.out hSu.out)
        go_simp
        first | done | with_reducible rfl
      (try simp only [Act.put, List.setIfInBounds_toArray, List.set_cons_zero, List.set_cons_succ])
      refine wpAnyH_ready (rs := [6]) (by kernel_rfl) (by simp) ?_
      refine AllReadyH.cons (o := { dst := some 63, op := Op.call { callee := Callee.value (Operand.func 30), args := #[Operand.tmp 57, Operand.tmp 61, Operand.tmp 62], argTypes := #[28, 3, 3] }, type := 49, pos := "law.go:151", after := #[{ on := 0, ground := Ground.data }, { on := 4, ground := Ground.data }, { on := 5, ground := Ground.data }], guard := none }) rfl (fun Kz hK => ?_) AllReadyH.nil
      go_simp
      go_at_call 30
      refine (tcs_any ⟨R, L, pR, cR, pL, cL⟩ n y _ _ ((HLa.out.keep hHeld.out).t) hR hL hyi).mono ?_
      rintro e w10 ⟨rfl, hg10⟩
      simp only
      rw [HB.out.1, HB.out.2]
      refine hK.out _ _ (Lib.hid (grown_trans hHeld.out hg10)) (fun hH2 => ?_)
      clear hK Kz hHeld
      have hHeld := hH2
      clear hH2
      (try simp only [Act.put, List.setIfInBounds_toArray, List.set_cons_zero, List.set_cons_succ])
      refine wpAnyH_take (i := 7) (oi := { dst := some 56, op := Op.move (Operand.tmp 63), type := 49, pos := "law.go:151", after := #[{ on := 6, ground := Ground.data }], guard := none }) (v := ?_) rfl (by kernel_rfl) (by kernel_rfl) (by kernel_rfl) (fun _ _ _ h => h) (Or.inl ⟨by rfl, ?_⟩) hHeld ?_
      rotate_left 1
      · intro u hSu
        obtain ⟨q0, q1⟩ := row_cells (kept_row HLa.out.gb hSu.out (by simp))
        have q2 := HC.out u (grown_trans HGa.out hSu.out)
        go_simp
        first | done | with_reducible rfl
      (try simp only [Act.put, List.setIfInBounds_toArray, List.set_cons_zero, List.set_cons_succ])
      refine wpAnyH_take (i := 8) (oi := { dst := some 64, op := Op.extract (Operand.tmp 56) 0, type := 3, pos := "law.go:151", after := #[{ on := 7, ground := Ground.data }], guard := none }) (v := ?_) rfl (by kernel_rfl) (by kernel_rfl) (by kernel_rfl) (fun _ _ _ h => h) (Or.inl ⟨by rfl, ?_⟩) hHeld ?_
      rotate_left 1
      · intro u hSu
        obtain ⟨q0, q1⟩ := row_cells (kept_row HLa.out.gb hSu.out (by simp))
        have q2 := HC.out u (grown_trans HGa.out hSu.out)
        go_simp
        first | done | with_reducible rfl
      (try simp only [Act.put, List.setIfInBounds_toArray, List.set_cons_zero, List.set_cons_succ])
      refine wpAnyH_take (i := 9) (oi := { dst := some 65, op := Op.extract (Operand.tmp 56) 1, type := 4, pos := "law.go:151", after := #[{ on := 7, ground := Ground.data }, { on := 10, ground := Ground.gcOnly Departure.lateStores }], guard := none }) (v := ?_) rfl (by kernel_rfl) (by kernel_rfl) (by kernel_rfl) (fun _ _ _ h => h) (Or.inl ⟨by rfl, ?_⟩) hHeld ?_
      rotate_left 1
      · intro u hSu
        obtain ⟨q0, q1⟩ := row_cells (kept_row HLa.out.gb hSu.out (by simp))
        have q2 := HC.out u (grown_trans HGa.out hSu.out)
        go_simp
        first | done | with_reducible rfl
      (try simp only [Act.put, List.setIfInBounds_toArray, List.set_cons_zero, List.set_cons_succ])
      refine wpAnyH_take (i := 10) (oi := { dst := some 14, op := Op.assign (Operand.tmp 64), type := 3, pos := "law.go:151", after := #[{ on := 8, ground := Ground.data }, { on := 6, ground := Ground.chain }, { on := 0, ground := Ground.phase }, { on := 1, ground := Ground.phase }, { on := 2, ground := Ground.phase }, { on := 3, ground := Ground.phase }, { on := 4, ground := Ground.phase }, { on := 5, ground := Ground.phase }, { on := 6, ground := Ground.phase }, { on := 7, ground := Ground.phase }, { on := 8, ground := Ground.phase }, { on := 9, ground := Ground.textOnly Departure.lateStores }], guard := none }) (v := ?_) rfl (by kernel_rfl) (by kernel_rfl) (by kernel_rfl) (fun _ _ _ h => h) (Or.inl ⟨by rfl, ?_⟩) hHeld ?_
      rotate_left 1
      · intro u hSu
        obtain ⟨q0, q1⟩ := row_cells (kept_row HLa.out.gb hSu.out (by simp))
        have q2 := HC.out u (grown_trans HGa.out hSu.out)
        go_simp
        first | done | with_reducible rfl
      (try simp only [Act.put, List.setIfInBounds_toArray, List.set_cons_zero, List.set_cons_succ])
      refine wpAnyH_take (i := 11) (oi := { dst := some 15, op := Op.assign (Operand.tmp 65), type := 4, pos := "law.go:151", after := #[{ on := 9, ground := Ground.data }, { on := 10, ground := Ground.chain }, { on := 0, ground := Ground.phase }, { on := 1, ground := Ground.phase }, { on := 2, ground := Ground.phase }, { on := 3, ground := Ground.phase }, { on := 4, ground := Ground.phase }, { on := 5, ground := Ground.phase }, { on := 6, ground := Ground.phase }, { on := 7, ground := Ground.phase }, { on := 8, ground := Ground.phase }, { on := 9, ground := Ground.phase }, { on := 10, ground := Ground.phase }], guard := none }) (v := ?_) rfl (by kernel_rfl) (by kernel_rfl) (by kernel_rfl) (fun _ _ _ h => h) (Or.inl ⟨by rfl, ?_⟩) hHeld ?_
      rotate_left 1
      · intro u hSu
        obtain ⟨q0, q1⟩ := row_cells (kept_row HLa.out.gb hSu.out (by simp))
        have q2 := HC.out u (grown_trans HGa.out hSu.out)
        go_simp
        first | done | with_reducible rfl
      (try simp only [Act.put, List.setIfInBounds_toArray, List.set_cons_zero, List.set_cons_succ])
      refine wpAnyH_done (by kernel_rfl) ?_ _
      have HLb := Lib.hid (HLa.out.keep hHeld.out)
      have HGb := Lib.hid (grown_trans HGa.out hHeld.out)
      obtain ⟨wb, hwb⟩ : ∃ wb, wb = w10 := ⟨_, rfl⟩
      rw [← hwb] at HLb HGb ⊢
      clear hHeld HLa HGa hwb
      have d0 := HC.out wb HGb.out
      obtain ⟨c0, c1⟩ := row_cells HLb.out.gb
      obtain ⟨z, hz⟩ : ∃ z, hasI X n = z := ⟨_, rfl⟩
      have HZ : Hid (hasI X n = z ∧ (z = true ↔ ∃ d x', dst R L x y = some d ∧ dst R L n y = some x' ∧ x ≠ y ∧ c + x' = d)) := Lib.hid ⟨hz, by rw [← hz, ← HX.out]; exact has_nxt HVT.out.ok HPR.out.2⟩
      clear hz
      have HT : Hid (z = (ok && oi && !(x == y) && (c + B == D))) := Lib.hid (by
        rw [Bool.eq_iff_iff, HZ.out.2, ← HD.out.1, ← HD.out.2, ← HB.out.1, ← HB.out.2]
        cases h1 : dst R L x y with
        | none => simp
        | some d =>
          cases h2 : dst R L n y with
          | none => simp
          | some x' => simp)
      go_upto_region 12 with fail
      go_cut [88] from 66 to 88 (fun t wx => t = .bool false ∧ Hid (LW w G ⟨R, L, pR, cR, pL, cL⟩ wx) ∧ Hid (w8.grownBy wx none))
      case first =>
        have WAY : ∀ b1 b2 b3 b4 : Bool, True := fun _ _ _ _ => trivial
        clear WAY
        cases ok with
        | false =>
          obtain rfl : z = false := by rw [HT.out]; rfl
          go_wp2_with fail
          refine (rhas4_any X n p7 c7 _ wb (HRX8.out.grown HGb.out (fun _ _ => by simp)) (by omega)).mono ?_
          rintro e wz ⟨rfl, rfl⟩
          simp only
          rw [HZ.out.1]
          go_wp2_with fail
          go_meet
          exact ⟨(by first | rfl | (simp [hxy]; done)), HLb, HGb⟩
        | true =>
          cases oi with
          | false =>
            obtain rfl : z = false := by rw [HT.out]; rfl
            go_wp2_with fail
            refine (rhas4_any X n p7 c7 _ wb (HRX8.out.grown HGb.out (fun _ _ => by simp)) (by omega)).mono ?_
            rintro e wz ⟨rfl, rfl⟩
            simp only
            rw [HZ.out.1]
            go_wp2_with fail
            go_meet
            exact ⟨(by first | rfl | (simp [hxy]; done)), HLb, HGb⟩
          | true =>
            by_cases hxy : x = y
            · have hxy' : (x == y) = true := by simpa using hxy
              obtain rfl : z = false := by rw [HT.out, hxy']; rfl
              clear hxy'
              subst hxy
              go_wp2_with fail
              refine (rhas4_any X n p7 c7 _ wb (HRX8.out.grown HGb.out (fun _ _ => by simp)) (by omega)).mono ?_
              rintro e wz ⟨rfl, rfl⟩
              simp only
              rw [HZ.out.1]
              go_wp2_with fail
              go_meet
              exact ⟨(by first | rfl | (simp [hxy]; done)), HLb, HGb⟩
            · have hxy' : (x == y) = false := by simpa using hxy
              by_cases hcd : c + B = D
              · have hcd' : (c + B == D) = true := by simpa using hcd
                obtain rfl : z = true := by rw [HT.out, hxy', hcd']; rfl
                clear hcd hxy'
                go_wp2_with fail
                refine (rhas4_any X n p7 c7 _ wb (HRX8.out.grown HGb.out (fun _ _ => by simp)) (by omega)).mono ?_
                rintro e wz ⟨rfl, rfl⟩
                simp only
                rw [HZ.out.1]
                go_wp2_with fail
                go_meet
                exact ⟨(by first | rfl | (simp [hxy]; done)), HLb, HGb⟩
              · have hcd' : (c + B == D) = false := by simpa using hcd
                obtain rfl : z = false := by rw [HT.out, hxy', hcd']; rfl
                clear hcd hxy'
                go_wp2_with fail
                refine (rhas4_any X n p7 c7 _ wb (HRX8.out.grown HGb.out (fun _ _ => by simp)) (by omega)).mono ?_
                rintro e wz ⟨rfl, rfl⟩
                simp only
                rw [HZ.out.1]
                go_wp2_with fail
                go_meet
                exact ⟨(by first | rfl | (simp [hxy]; done)), HLb, HGb⟩
      case rest =>
        obtain ⟨rfl, HLc, HGc⟩ := hcut
        have HXc : Hid (Rd wc (fun _ => True) (.slice p7 X.length c7) (X.map tv)) := Lib.hid (HRX8.out.grown HGc.out (fun _ _ => by simp))
        clear d0 c0 c1 HLb HGb HT
        cases z with
        | false =>
          go_upto_region 14 with fail
          refine wp_region_held_drew (S := fun w' => Hid (wc.grownBy w' none)) (by kernel_rfl) (Lib.hid (grown_drew (grown_refl _ _))) (fun hHeld => ?_)
          refine wpAnyH_take (i := 0) (oi := { dst := some 89, op := Op.move (Operand.tmp 9), type := 22, pos := "law.go:155", after := #[], guard := none }) (v := ?_) rfl (by kernel_rfl) (by kernel_rfl) (by kernel_rfl) (fun _ _ _ h => h) (Or.inl ⟨by rfl, ?_⟩) hHeld ?_
          rotate_left 1
          · intro u hSu
            obtain ⟨q0, q1⟩ := row_cells (kept_row HLc.out.gb hSu.out (by simp))
            have q2 := HC.out u (grown_trans HGc.out hSu.out)
            go_simp
            first | done | with_reducible rfl
          (try simp only [Act.put, List.setIfInBounds_toArray, List.set_cons_zero, List.set_cons_succ])
          refine wpAnyH_take (i := 1) (oi := { dst := some 90, op := Op.move (Operand.tmp 10), type := 22, pos := "law.go:155", after := #[], guard := none }) (v := ?_) rfl (by kernel_rfl) (by kernel_rfl) (by kernel_rfl) (fun _ _ _ h => h) (Or.inl ⟨by rfl, ?_⟩) hHeld ?_
          rotate_left 1
          · intro u hSu
            obtain ⟨q0, q1⟩ := row_cells (kept_row HLc.out.gb hSu.out (by simp))
            have q2 := HC.out u (grown_trans HGc.out hSu.out)
            go_simp
            first | done | with_reducible rfl
          (try simp only [Act.put, List.setIfInBounds_toArray, List.set_cons_zero, List.set_cons_succ])
          refine wpAnyH_take (i := 2) (oi := { dst := some 91, op := Op.move (Operand.tmp 11), type := 3, pos := "law.go:155", after := #[], guard := none }) (v := ?_) rfl (by kernel_rfl) (by kernel_rfl) (by kernel_rfl) (fun _ _ _ h => h) (Or.inl ⟨by rfl, ?_⟩) hHeld ?_
          rotate_left 1
          · intro u hSu
            obtain ⟨q0, q1⟩ := row_cells (kept_row HLc.out.gb hSu.out (by simp))
            have q2 := HC.out u (grown_trans HGc.out hSu.out)
            go_simp
            first | done | with_reducible rfl
          (try simp only [Act.put, List.setIfInBounds_toArray, List.set_cons_zero, List.set_cons_succ])
          refine wpAnyH_take (i := 3) (oi := { dst := some 92, op := Op.indexAddr 22 (Operand.tmp 90) (Operand.tmp 91), type := 0, pos := "law.go:155", after := #[{ on := 1, ground := Ground.data }, { on := 2, ground := Ground.data }], guard := none }) (v := ?_) rfl (by kernel_rfl) (by kernel_rfl) (by kernel_rfl) (fun _ _ _ h => h) (Or.inl ⟨by rfl, ?_⟩) hHeld ?_
          rotate_left 1
          · intro u hSu
            obtain ⟨q0, q1⟩ := row_cells (kept_row HLc.out.gb hSu.out (by simp))
            have q2 := HC.out u (grown_trans HGc.out hSu.out)
            go_simp
            first | done | with_reducible rfl
          (try simp only [Act.put, List.setIfInBounds_toArray, List.set_cons_zero, List.set_cons_succ])
          refine wpAnyH_take (i := 4) (oi := { dst := some 93, op := Op.load 3 (Operand.tmp 92), type := 3, pos := "law.go:155", after := #[{ on := 3, ground := Ground.data }], guard := none }) (v := ?_) rfl (by kernel_rfl) (by kernel_rfl) (by kernel_rfl) (fun _ _ _ h => h) (Or.inl ⟨by rfl, ?_⟩) hHeld ?_
          rotate_left 1
          · intro u hSu
            obtain ⟨q0, q1⟩ := row_cells (kept_row HLc.out.gb hSu.out (by simp))
            have q2 := HC.out u (grown_trans HGc.out hSu.out)
            go_simp
            first | done | with_reducible rfl
          (try simp only [Act.put, List.setIfInBounds_toArray, List.set_cons_zero, List.set_cons_succ])
          refine wpAnyH_ready (rs := [5]) (by kernel_rfl) (by simp) ?_
          refine AllReadyH.cons (o := { dst := some 94, op := Op.call { callee := Callee.value (Operand.func 35), args := #[Operand.tmp 89, Operand.tmp 93], argTypes := #[22, 3] }, type := 4, pos := "law.go:155", after := #[{ on := 0, ground := Ground.data }, { on := 4, ground := Ground.data }], guard := none }) rfl (fun Kz hK => ?_) AllReadyH.nil
          go_simp
          go_at_call 35
          refine (rhas4_any X n p7 c7 _ _ (HXc.out.grown hHeld.out (fun _ _ => by simp)) (by omega)).mono ?_
          rintro e wz ⟨rfl, rfl⟩
          simp only
          rw [HZ.out.1]
          refine hK.out _ _ (hHeld) (fun hH2 => ?_)
          clear hK Kz hHeld
          have hHeld := hH2
          clear hH2
          (try simp only [Act.put, List.setIfInBounds_toArray, List.set_cons_zero, List.set_cons_succ])
          refine wpAnyH_take (i := 6) (oi := { dst := some 95, op := Op.move (Operand.tmp 94), type := 4, pos := "law.go:155", after := #[{ on := 5, ground := Ground.data }, { on := 5, ground := Ground.chain }], guard := none }) (v := ?_) rfl (by kernel_rfl) (by kernel_rfl) (by kernel_rfl) (fun _ _ _ h => h) (Or.inl ⟨by rfl, ?_⟩) hHeld ?_
          rotate_left 1
          · intro u hSu
            obtain ⟨q0, q1⟩ := row_cells (kept_row HLc.out.gb hSu.out (by simp))
            have q2 := HC.out u (grown_trans HGc.out hSu.out)
            go_simp
            first | done | with_reducible rfl
          (try simp only [Act.put, List.setIfInBounds_toArray, List.set_cons_zero, List.set_cons_succ])
          refine wpAnyH_take (i := 7) (oi := { dst := some 96, op := Op.load 28 (Operand.tmp 4), type := 28, pos := "law.go:155", after := #[{ on := 6, ground := Ground.guard }], guard := some (6, true) }) (v := undef) rfl (by kernel_rfl) (by kernel_rfl) (by kernel_rfl) (fun _ _ _ h => h) (Or.inr ⟨by rfl, rfl⟩) hHeld ?_
          (try simp only [Act.put, List.setIfInBounds_toArray, List.set_cons_zero, List.set_cons_succ])
          refine wpAnyH_take (i := 8) (oi := { dst := some 97, op := Op.move (Operand.tmp 10), type := 22, pos := "law.go:155", after := #[{ on := 6, ground := Ground.guard }], guard := some (6, true) }) (v := undef) rfl (by kernel_rfl) (by kernel_rfl) (by kernel_rfl) (fun _ _ _ h => h) (Or.inr ⟨by rfl, rfl⟩) hHeld ?_
          (try simp only [Act.put, List.setIfInBounds_toArray, List.set_cons_zero, List.set_cons_succ])
          refine wpAnyH_take (i := 9) (oi := { dst := some 98, op := Op.move (Operand.tmp 11), type := 3, pos := "law.go:155", after := #[{ on := 6, ground := Ground.guard }], guard := some (6, true) }) (v := undef) rfl (by kernel_rfl) (by kernel_rfl) (by kernel_rfl) (fun _ _ _ h => h) (Or.inr ⟨by rfl, rfl⟩) hHeld ?_
          (try simp only [Act.put, List.setIfInBounds_toArray, List.set_cons_zero, List.set_cons_succ])
          refine wpAnyH_take (i := 10) (oi := { dst := some 99, op := Op.indexAddr 22 (Operand.tmp 97) (Operand.tmp 98), type := 0, pos := "law.go:155", after := #[{ on := 8, ground := Ground.data }, { on := 9, ground := Ground.data }, { on := 6, ground := Ground.guard }], guard := some (6, true) }) (v := undef) rfl (by kernel_rfl) (by kernel_rfl) (by kernel_rfl) (fun _ _ _ h => h) (Or.inr ⟨by rfl, rfl⟩) hHeld ?_
          (try simp only [Act.put, List.setIfInBounds_toArray, List.set_cons_zero, List.set_cons_succ])
          refine wpAnyH_take (i := 11) (oi := { dst := some 100, op := Op.load 3 (Operand.tmp 99), type := 3, pos := "law.go:155", after := #[{ on := 10, ground := Ground.data }, { on := 6, ground := Ground.guard }], guard := some (6, true) }) (v := undef) rfl (by kernel_rfl) (by kernel_rfl) (by kernel_rfl) (fun _ _ _ h => h) (Or.inr ⟨by rfl, rfl⟩) hHeld ?_
          (try simp only [Act.put, List.setIfInBounds_toArray, List.set_cons_zero, List.set_cons_succ])
          refine wpAnyH_take (i := 12) (oi := { dst := some 101, op := Op.move (Operand.tmp 6), type := 3, pos := "law.go:155", after := #[{ on := 6, ground := Ground.guard }], guard := some (6, true) }) (v := undef) rfl (by kernel_rfl) (by kernel_rfl) (by kernel_rfl) (fun _ _ _ h => h) (Or.inr ⟨by rfl, rfl⟩) hHeld ?_
          (try simp only [Act.put, List.setIfInBounds_toArray, List.set_cons_zero, List.set_cons_succ])
          refine wpAnyH_take (i := 13) (oi := { dst := some 102, op := Op.move (Operand.tmp 5), type := 3, pos := "law.go:155", after := #[{ on := 6, ground := Ground.guard }], guard := some (6, true) }) (v := undef) rfl (by kernel_rfl) (by kernel_rfl) (by kernel_rfl) (fun _ _ _ h => h) (Or.inr ⟨by rfl, rfl⟩) hHeld ?_
          (try simp only [Act.put, List.setIfInBounds_toArray, List.set_cons_zero, List.set_cons_succ])
          refine wpAnyH_take (i := 14) (oi := { dst := some 103, op := Op.call { callee := Callee.value (Operand.func 27), args := #[Operand.tmp 96, Operand.tmp 100, Operand.tmp 101, Operand.tmp 102], argTypes := #[28, 3, 3, 3] }, type := 4, pos := "law.go:155", after := #[{ on := 7, ground := Ground.data }, { on := 11, ground := Ground.data }, { on := 12, ground := Ground.data }, { on := 13, ground := Ground.data }, { on := 6, ground := Ground.chain }, { on := 6, ground := Ground.guard }], guard := some (6, true) }) (v := undef) rfl (by kernel_rfl) (by kernel_rfl) (by kernel_rfl) (fun _ _ _ h => h) (Or.inr ⟨by rfl, rfl⟩) hHeld ?_
          (try simp only [Act.put, List.setIfInBounds_toArray, List.set_cons_zero, List.set_cons_succ])
          refine wpAnyH_take (i := 15) (oi := { dst := some 104, op := Op.unOp UnOp.not 4 (Operand.tmp 103), type := 4, pos := "law.go:155", after := #[{ on := 14, ground := Ground.data }, { on := 6, ground := Ground.guard }], guard := some (6, true) }) (v := undef) rfl (by kernel_rfl) (by kernel_rfl) (by kernel_rfl) (fun _ _ _ h => h) (Or.inr ⟨by rfl, rfl⟩) hHeld ?_
          (try simp only [Act.put, List.setIfInBounds_toArray, List.set_cons_zero, List.set_cons_succ])
          refine wpAnyH_take (i := 16) (oi := { dst := some 105, op := Op.pick (Operand.tmp 95) (Operand.tmp 104) (Operand.const (Value.bool false)), type := 4, pos := "law.go:155", after := #[{ on := 6, ground := Ground.data }, { on := 15, ground := Ground.data }], guard := none }) (v := ?_) rfl (by kernel_rfl) (by kernel_rfl) (by kernel_rfl) (fun _ _ _ h => h) (Or.inl ⟨by rfl, ?_⟩) hHeld ?_
          rotate_left 1
          · intro u hSu
            obtain ⟨q0, q1⟩ := row_cells (kept_row HLc.out.gb hSu.out (by simp))
            have q2 := HC.out u (grown_trans HGc.out hSu.out)
            go_simp
            first | done | with_reducible rfl
          (try simp only [Act.put, List.setIfInBounds_toArray, List.set_cons_zero, List.set_cons_succ])
          refine wpAnyH_done (by kernel_rfl) ?_ _
          have HLd := Lib.hid (HLc.out.keep hHeld.out)
          have HGd := Lib.hid (grown_trans HGc.out hHeld.out)
          clear hHeld HLc HGc HXc HC
          go_wp2_with fail
          exact ⟨⟨k + 1, by omega, congrArg _ (by omega), HLd, HGd⟩, by simp only [RowKit.intOf]; omega⟩
        | true =>
          have HAV : Hid (avV R L n y x = true) := Lib.hid (nxt_avoid (by rw [← hasI_mq, HX.out, HZ.out.1]))
          go_upto_region 14 with fail
          refine wp_region_held_drew (S := fun w' => Hid (wc.grownBy w' none)) (by kernel_rfl) (Lib.hid (grown_drew (grown_refl _ _))) (fun hHeld => ?_)
          refine wpAnyH_take (i := 0) (oi := { dst := some 89, op := Op.move (Operand.tmp 9), type := 22, pos := "law.go:155", after := #[], guard := none }) (v := ?_) rfl (by kernel_rfl) (by kernel_rfl) (by kernel_rfl) (fun _ _ _ h => h) (Or.inl ⟨by rfl, ?_⟩) hHeld ?_
          rotate_left 1
          · intro u hSu
            obtain ⟨q0, q1⟩ := row_cells (kept_row HLc.out.gb hSu.out (by simp))
            have q2 := HC.out u (grown_trans HGc.out hSu.out)
            go_simp
            first | done | with_reducible rfl
          (try simp only [Act.put, List.setIfInBounds_toArray, List.set_cons_zero, List.set_cons_succ])
          refine wpAnyH_take (i := 1) (oi := { dst := some 90, op := Op.move (Operand.tmp 10), type := 22, pos := "law.go:155", after := #[], guard := none }) (v := ?_) rfl (by kernel_rfl) (by kernel_rfl) (by kernel_rfl) (fun _ _ _ h => h) (Or.inl ⟨by rfl, ?_⟩) hHeld ?_
          rotate_left 1
          · intro u hSu
            obtain ⟨q0, q1⟩ := row_cells (kept_row HLc.out.gb hSu.out (by simp))
            have q2 := HC.out u (grown_trans HGc.out hSu.out)
            go_simp
            first | done | with_reducible rfl
          (try simp only [Act.put, List.setIfInBounds_toArray, List.set_cons_zero, List.set_cons_succ])
          refine wpAnyH_take (i := 2) (oi := { dst := some 91, op := Op.move (Operand.tmp 11), type := 3, pos := "law.go:155", after := #[], guard := none }) (v := ?_) rfl (by kernel_rfl) (by kernel_rfl) (by kernel_rfl) (fun _ _ _ h => h) (Or.inl ⟨by rfl, ?_⟩) hHeld ?_
          rotate_left 1
          · intro u hSu
            obtain ⟨q0, q1⟩ := row_cells (kept_row HLc.out.gb hSu.out (by simp))
            have q2 := HC.out u (grown_trans HGc.out hSu.out)
            go_simp
            first | done | with_reducible rfl
          (try simp only [Act.put, List.setIfInBounds_toArray, List.set_cons_zero, List.set_cons_succ])
          refine wpAnyH_take (i := 3) (oi := { dst := some 92, op := Op.indexAddr 22 (Operand.tmp 90) (Operand.tmp 91), type := 0, pos := "law.go:155", after := #[{ on := 1, ground := Ground.data }, { on := 2, ground := Ground.data }], guard := none }) (v := ?_) rfl (by kernel_rfl) (by kernel_rfl) (by kernel_rfl) (fun _ _ _ h => h) (Or.inl ⟨by rfl, ?_⟩) hHeld ?_
          rotate_left 1
          · intro u hSu
            obtain ⟨q0, q1⟩ := row_cells (kept_row HLc.out.gb hSu.out (by simp))
            have q2 := HC.out u (grown_trans HGc.out hSu.out)
            go_simp
            first | done | with_reducible rfl
          (try simp only [Act.put, List.setIfInBounds_toArray, List.set_cons_zero, List.set_cons_succ])
          refine wpAnyH_take (i := 4) (oi := { dst := some 93, op := Op.load 3 (Operand.tmp 92), type := 3, pos := "law.go:155", after := #[{ on := 3, ground := Ground.data }], guard := none }) (v := ?_) rfl (by kernel_rfl) (by kernel_rfl) (by kernel_rfl) (fun _ _ _ h => h) (Or.inl ⟨by rfl, ?_⟩) hHeld ?_
          rotate_left 1
          · intro u hSu
            obtain ⟨q0, q1⟩ := row_cells (kept_row HLc.out.gb hSu.out (by simp))
            have q2 := HC.out u (grown_trans HGc.out hSu.out)
            go_simp
            first | done | with_reducible rfl
          (try simp only [Act.put, List.setIfInBounds_toArray, List.set_cons_zero, List.set_cons_succ])
          refine wpAnyH_ready (rs := [5]) (by kernel_rfl) (by simp) ?_
          refine AllReadyH.cons (o := { dst := some 94, op := Op.call { callee := Callee.value (Operand.func 35), args := #[Operand.tmp 89, Operand.tmp 93], argTypes := #[22, 3] }, type := 4, pos := "law.go:155", after := #[{ on := 0, ground := Ground.data }, { on := 4, ground := Ground.data }], guard := none }) rfl (fun Kz hK => ?_) AllReadyH.nil
          go_simp
          go_at_call 35
          refine (rhas4_any X n p7 c7 _ _ (HXc.out.grown hHeld.out (fun _ _ => by simp)) (by omega)).mono ?_
          rintro e wz ⟨rfl, rfl⟩
          simp only
          rw [HZ.out.1]
          refine hK.out _ _ (hHeld) (fun hH2 => ?_)
          clear hK Kz hHeld
          have hHeld := hH2
          clear hH2
          (try simp only [Act.put, List.setIfInBounds_toArray, List.set_cons_zero, List.set_cons_succ])
          refine wpAnyH_take (i := 6) (oi := { dst := some 95, op := Op.move (Operand.tmp 94), type := 4, pos := "law.go:155", after := #[{ on := 5, ground := Ground.data }, { on := 5, ground := Ground.chain }], guard := none }) (v := ?_) rfl (by kernel_rfl) (by kernel_rfl) (by kernel_rfl) (fun _ _ _ h => h) (Or.inl ⟨by rfl, ?_⟩) hHeld ?_
          rotate_left 1
          · intro u hSu
            obtain ⟨q0, q1⟩ := row_cells (kept_row HLc.out.gb hSu.out (by simp))
            have q2 := HC.out u (grown_trans HGc.out hSu.out)
            go_simp
            first | done | with_reducible rfl
          (try simp only [Act.put, List.setIfInBounds_toArray, List.set_cons_zero, List.set_cons_succ])
          refine wpAnyH_take (i := 7) (oi := { dst := some 96, op := Op.load 28 (Operand.tmp 4), type := 28, pos := "law.go:155", after := #[{ on := 6, ground := Ground.guard }], guard := some (6, true) }) (v := ?_) rfl (by kernel_rfl) (by kernel_rfl) (by kernel_rfl) (fun _ _ _ h => h) (Or.inl ⟨by rfl, ?_⟩) hHeld ?_
          rotate_left 1
          · intro u hSu
            obtain ⟨q0, q1⟩ := row_cells (kept_row HLc.out.gb hSu.out (by simp))
            have q2 := HC.out u (grown_trans HGc.out hSu.out)
            go_simp
            first | done | with_reducible rfl
          (try simp only [Act.put, List.setIfInBounds_toArray, List.set_cons_zero, List.set_cons_succ])
          refine wpAnyH_take (i := 8) (oi := { dst := some 97, op := Op.move (Operand.tmp 10), type := 22, pos := "law.go:155", after := #[{ on := 6, ground := Ground.guard }], guard := some (6, true) }) (v := ?_) rfl (by kernel_rfl) (by kernel_rfl) (by kernel_rfl) (fun _ _ _ h => h) (Or.inl ⟨by rfl, ?_⟩) hHeld ?_
          rotate_left 1
          · intro u hSu
            obtain ⟨q0, q1⟩ := row_cells (kept_row HLc.out.gb hSu.out (by simp))
            have q2 := HC.out u (grown_trans HGc.out hSu.out)
            go_simp
            first | done | with_reducible rfl
          (try simp only [Act.put, List.setIfInBounds_toArray, List.set_cons_zero, List.set_cons_succ])
          refine wpAnyH_take (i := 9) (oi := { dst := some 98, op := Op.move (Operand.tmp 11), type := 3, pos := "law.go:155", after := #[{ on := 6, ground := Ground.guard }], guard := some (6, true) }) (v := ?_) rfl (by kernel_rfl) (by kernel_rfl) (by kernel_rfl) (fun _ _ _ h => h) (Or.inl ⟨by rfl, ?_⟩) hHeld ?_
          rotate_left 1
          · intro u hSu
            obtain ⟨q0, q1⟩ := row_cells (kept_row HLc.out.gb hSu.out (by simp))
            have q2 := HC.out u (grown_trans HGc.out hSu.out)
            go_simp
            first | done | with_reducible rfl
          (try simp only [Act.put, List.setIfInBounds_toArray, List.set_cons_zero, List.set_cons_succ])
          refine wpAnyH_take (i := 10) (oi := { dst := some 99, op := Op.indexAddr 22 (Operand.tmp 97) (Operand.tmp 98), type := 0, pos := "law.go:155", after := #[{ on := 8, ground := Ground.data }, { on := 9, ground := Ground.data }, { on := 6, ground := Ground.guard }], guard := some (6, true) }) (v := ?_) rfl (by kernel_rfl) (by kernel_rfl) (by kernel_rfl) (fun _ _ _ h => h) (Or.inl ⟨by rfl, ?_⟩) hHeld ?_
          rotate_left 1
          · intro u hSu
            obtain ⟨q0, q1⟩ := row_cells (kept_row HLc.out.gb hSu.out (by simp))
            have q2 := HC.out u (grown_trans HGc.out hSu.out)
            go_simp
            first | done | with_reducible rfl
          (try simp only [Act.put, List.setIfInBounds_toArray, List.set_cons_zero, List.set_cons_succ])
          refine wpAnyH_take (i := 11) (oi := { dst := some 100, op := Op.load 3 (Operand.tmp 99), type := 3, pos := "law.go:155", after := #[{ on := 10, ground := Ground.data }, { on := 6, ground := Ground.guard }], guard := some (6, true) }) (v := ?_) rfl (by kernel_rfl) (by kernel_rfl) (by kernel_rfl) (fun _ _ _ h => h) (Or.inl ⟨by rfl, ?_⟩) hHeld ?_
          rotate_left 1
          · intro u hSu
            obtain ⟨q0, q1⟩ := row_cells (kept_row HLc.out.gb hSu.out (by simp))
            have q2 := HC.out u (grown_trans HGc.out hSu.out)
            go_simp
            first | done | with_reducible rfl
          (try simp only [Act.put, List.setIfInBounds_toArray, List.set_cons_zero, List.set_cons_succ])
          refine wpAnyH_take (i := 12) (oi := { dst := some 101, op := Op.move (Operand.tmp 6), type := 3, pos := "law.go:155", after := #[{ on := 6, ground := Ground.guard }], guard := some (6, true) }) (v := ?_) rfl (by kernel_rfl) (by kernel_rfl) (by kernel_rfl) (fun _ _ _ h => h) (Or.inl ⟨by rfl, ?_⟩) hHeld ?_
          rotate_left 1
          · intro u hSu
            obtain ⟨q0, q1⟩ := row_cells (kept_row HLc.out.gb hSu.out (by simp))
            have q2 := HC.out u (grown_trans HGc.out hSu.out)
            go_simp
            first | done | with_reducible rfl
          (try simp only [Act.put, List.setIfInBounds_toArray, List.set_cons_zero, List.set_cons_succ])
          refine wpAnyH_take (i := 13) (oi := { dst := some 102, op := Op.move (Operand.tmp 5), type := 3, pos := "law.go:155", after := #[{ on := 6, ground := Ground.guard }], guard := some (6, true) }) (v := ?_) rfl (by kernel_rfl) (by kernel_rfl) (by kernel_rfl) (fun _ _ _ h => h) (Or.inl ⟨by rfl, ?_⟩) hHeld ?_
          rotate_left 1
          · intro u hSu
            obtain ⟨q0, q1⟩ := row_cells (kept_row HLc.out.gb hSu.out (by simp))
            have q2 := HC.out u (grown_trans HGc.out hSu.out)
            go_simp
            first | done | with_reducible rfl
          (try simp only [Act.put, List.setIfInBounds_toArray, List.set_cons_zero, List.set_cons_succ])
          refine wpAnyH_ready (rs := [14]) (by kernel_rfl) (by simp) ?_
          refine AllReadyH.cons (o := { dst := some 103, op := Op.call { callee := Callee.value (Operand.func 27), args := #[Operand.tmp 96, Operand.tmp 100, Operand.tmp 101, Operand.tmp 102], argTypes := #[28, 3, 3, 3] }, type := 4, pos := "law.go:155", after := #[{ on := 7, ground := Ground.data }, { on := 11, ground := Ground.data }, { on := 12, ground := Ground.data }, { on := 13, ground := Ground.data }, { on := 6, ground := Ground.chain }, { on := 6, ground := Ground.guard }], guard := some (6, true) }) rfl (fun Kz hK => ?_) AllReadyH.nil
          go_simp
          go_at_call 27
          refine (tav_any ⟨R, L, pR, cR, pL, cL⟩ n y x _ _ ((HLc.out.keep hHeld.out).t) hR hL hyi hxi).mono ?_
          rintro e we ⟨rfl, hge⟩
          simp only
          rw [HAV.out]
          refine hK.out _ _ (Lib.hid (grown_trans hHeld.out hge)) (fun hH2 => ?_)
          clear hK Kz hHeld
          have hHeld := hH2
          clear hH2
          (try simp only [Act.put, List.setIfInBounds_toArray, List.set_cons_zero, List.set_cons_succ])
          refine wpAnyH_take (i := 15) (oi := { dst := some 104, op := Op.unOp UnOp.not 4 (Operand.tmp 103), type := 4, pos := "law.go:155", after := #[{ on := 14, ground := Ground.data }, { on := 6, ground := Ground.guard }], guard := some (6, true) }) (v := ?_) rfl (by kernel_rfl) (by kernel_rfl) (by kernel_rfl) (fun _ _ _ h => h) (Or.inl ⟨by rfl, ?_⟩) hHeld ?_
          rotate_left 1
          · intro u hSu
            obtain ⟨q0, q1⟩ := row_cells (kept_row HLc.out.gb hSu.out (by simp))
            have q2 := HC.out u (grown_trans HGc.out hSu.out)
            go_simp
            first | done | with_reducible rfl
          (try simp only [Act.put, List.setIfInBounds_toArray, List.set_cons_zero, List.set_cons_succ])
          refine wpAnyH_take (i := 16) (oi := { dst := some 105, op := Op.pick (Operand.tmp 95) (Operand.tmp 104) (Operand.const (Value.bool false)), type := 4, pos := "law.go:155", after := #[{ on := 6, ground := Ground.data }, { on := 15, ground := Ground.data }], guard := none }) (v := ?_) rfl (by kernel_rfl) (by kernel_rfl) (by kernel_rfl) (fun _ _ _ h => h) (Or.inl ⟨by rfl, ?_⟩) hHeld ?_
          rotate_left 1
          · intro u hSu
            obtain ⟨q0, q1⟩ := row_cells (kept_row HLc.out.gb hSu.out (by simp))
            have q2 := HC.out u (grown_trans HGc.out hSu.out)
            go_simp
            first | done | with_reducible rfl
          (try simp only [Act.put, List.setIfInBounds_toArray, List.set_cons_zero, List.set_cons_succ])
          refine wpAnyH_done (by kernel_rfl) ?_ _
          have HLd := Lib.hid (HLc.out.keep hHeld.out)
          have HGd := Lib.hid (grown_trans HGc.out hHeld.out)
          clear hHeld HLc HGc HXc HC
          go_wp2_with fail
          exact ⟨⟨k + 1, by omega, congrArg _ (by omega), HLd, HGd⟩, by simp only [RowKit.intOf]; omega⟩
    · obtain rfl : k = Y.length := by omega
      have hXY : (X.length : Int) ≤ (Y.length : Int) := by have := HXY.out; omega
      go_wp2_with fail
      refine (sawake_any _).mono ?_
      rintro e w9 ⟨rfl, hg9⟩
      have HE := Lib.hid (grown_trans HLk.out.gr hg9)
      clear hg9
      go_wp2_with fail
      go_ret
      exact ⟨rfl, HE.out⟩
end Go.Proofs.Ytlefjdglcdopeaa
