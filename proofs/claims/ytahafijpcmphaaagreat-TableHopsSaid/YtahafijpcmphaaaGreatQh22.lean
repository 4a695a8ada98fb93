/- Parts of the proof, packed: TaHoLaw. -/
import Derived.Test.YtahafijpcmphaaaGreatQh20
import Derived.Test.YtahafijpcmphaaaGreatQh21
import Derived.Test.YtahafijpcmphaaaGreatQh12
/- tables: the law of Hops. -/
namespace Go.Proofs.YtahafijpcmphaaaGreat
open Go.RowKit Bs
set_option maxRecDepth 100000 in
set_option maxHeartbeats 12800000 in
theorem thopsl_walk (v : Value) (x y : Int) (hx : I64 x) (hy : I64 y) (w : World) (hv : IntsIn w v) :
    Calls Tryz.prog 5 #[v, .int .i64 x, .int .i64 y] w fun e w' => e = .returned (.bool true) ∧ w.grownBy w' none := by
  have HV := Lib.hid hv
  clear hv
  have HXY := Lib.hid (And.intro hx hy)
  clear hx hy
  go_enter Tryz.func5, Tryz.ntmps5
  go_wp2_with fail
  refine (new_any v w HV.out).mono ?_
  rintro e w1 ⟨rfl, hg1, hT1⟩
  have H1 := Lib.hid (And.intro hg1 hT1)
  clear hg1 hT1 HV
  obtain ⟨a, ha⟩ : ∃ a, w.heap.size = a := ⟨_, rfl⟩
  have HA := Lib.hid ha
  rw [ha] at H1 ⊢
  clear ha
  go_wp2_with fail
  refine (mixed_any a 7 (by omega) (by omega) w1 H1.out.2).mono ?_
  rintro e w3 ⟨R0, R, L0, vR, vL, rfl, hR, hL, hO, hid, hs⟩
  obtain ⟨pR, cR, pL, cL, rfl, rfl, hTg⟩ := tg_of_ownT hR hL
  have HGT := Lib.hid (GT.mix (T := ⟨R, L0, pR, cR, pL, cL⟩) hO (by omega) hid (pl_own hL))
  have H3 := Lib.hid (gx_start (T := ⟨R, L0, pR, cR, pL, cL⟩) HA.out H1.out.1 H1.out.2 hTg hs)
  clear hR hL hO hid hs hTg H1
  go_upto_region 3 with fail
  generalize w3.alloc _ = w4 at *
  generalize w3.heap.size = B at *
  go_wp2_with fail
  refine (one_any a 6 (by unfold I64; omega) w4 H3.out.tp).mono ?_
  rintro e w5 ⟨z, rfl, hs⟩
  have H5 := Lib.hid (H3.out.tape hs)
  have HGT2 := Lib.hid HGT.out.1
  clear hs H3 HGT
  go_upto_if 16 with fail
  go_cut [] from 17 to 18 (fun wx => ∃ T : Tg, Hid (GT T) ∧ Hid (GX w a B T wx))
  case first =>
    cases z
    case false =>
      go_wp2_with fail
      go_meet
      exact ⟨_, HGT2, H5⟩
    go_wp2_with fail
    refine (stopo_any a 6 2 (by omega) (by omega) (by unfold I64; omega) w5 H5.out.tp).mono ?_
    rintro e w6 ⟨T2, rfl, hT, hO, hp, hs⟩
    have HGT3 := Lib.hid (GT.topo hO (by omega) hp)
    have H6 := Lib.hid (H5.out.put hT hs)
    have hB6 := kept_row H5.out.bT hs.1 (fun e => by have := Option.some.inj e; have := H5.out.lo; omega)
    obtain ⟨t0, t1⟩ := row_cells hB6
    have f0 := frozen_of_row _ _ 0 _ _ hB6
    have f1 := frozen_of_row _ _ 1 _ _ hB6
    obtain ⟨R2, L2, pR2, cR2, pL2, cL2⟩ := T2
    (try simp only at H6 HGT3)
    clear hT hO hp hs H5 hB6 HGT2
    go_wp2_with fail
    go_meet
    exact ⟨_, HGT3, H6⟩
  case rest =>
  clear H5 HGT2
  obtain ⟨T, HGT, H6⟩ := hcut
  obtain ⟨R, L0, pR, cR, pL, cL⟩ := T
  (try simp only at HGT H6)
  go_upto_region 5 with fail
  refine wp_region_held_drew (S := fun w' => Hid (GX w a B ⟨R, L0, pR, cR, pL, cL⟩ w')) (by kernel_rfl) (Lib.hid (H6.out.keep (grown_drew (grown_refl _ none)))) (fun hHeld => ?_)
  refine wpAnyH_take (i := 0) (oi := { dst := some 19, op := Op.move (Operand.tmp 7), type := 26, pos := "law.go:97", after := #[], guard := none }) (v := ?_) rfl (by kernel_rfl) (by kernel_rfl) (by kernel_rfl) (fun _ _ _ h => h) (Or.inl ⟨by rfl, ?_⟩) hHeld ?_
  rotate_left 1
  · intro u hSu
    obtain ⟨t0u, t1u⟩ := row_cells hSu.out.bT
    go_simp
    first | done | with_reducible rfl
  (try simp only [Act.put, List.setIfInBounds_toArray, List.set_cons_zero, List.set_cons_succ])
  refine wpAnyH_take (i := 1) (oi := { dst := some 20, op := Op.load 45 (Operand.tmp 8), type := 45, pos := "law.go:97", after := #[], guard := none }) (v := ?_) rfl (by kernel_rfl) (by kernel_rfl) (by kernel_rfl) (fun _ _ _ h => h) (Or.inl ⟨by rfl, ?_⟩) hHeld ?_
  rotate_left 1
  · intro u hSu
    obtain ⟨t0u, t1u⟩ := row_cells hSu.out.bT
    go_simp
    first | done | with_reducible rfl
  (try simp only [Act.put, List.setIfInBounds_toArray, List.set_cons_zero, List.set_cons_succ])
  refine wpAnyH_take (i := 3) (oi := { dst := some 22, op := Op.move (Operand.tmp 7), type := 26, pos := "law.go:97", after := #[], guard := none }) (v := ?_) rfl (by kernel_rfl) (by kernel_rfl) (by kernel_rfl) (fun _ _ _ h => h) (Or.inl ⟨by rfl, ?_⟩) hHeld ?_
  rotate_left 1
  · intro u hSu
    obtain ⟨t0u, t1u⟩ := row_cells hSu.out.bT
    go_simp
    first | done | with_reducible rfl
  (try simp only [Act.put, List.setIfInBounds_toArray, List.set_cons_zero, List.set_cons_succ])
  refine wpAnyH_take (i := 4) (oi := { dst := some 23, op := Op.load 45 (Operand.tmp 8), type := 45, pos := "law.go:97", after := #[], guard := none }) (v := ?_) rfl (by kernel_rfl) (by kernel_rfl) (by kernel_rfl) (fun _ _ _ h => h) (Or.inl ⟨by rfl, ?_⟩) hHeld ?_
  rotate_left 1
  · intro u hSu
    obtain ⟨t0u, t1u⟩ := row_cells hSu.out.bT
    go_simp
    first | done | with_reducible rfl
  (try simp only [Act.put, List.setIfInBounds_toArray, List.set_cons_zero, List.set_cons_succ])
  refine wpAnyH_ready (rs := [2]) (by kernel_rfl) (by simp) ?_
  refine AllReadyH.cons (o := { dst := some 21, op := Op.call { callee := Callee.value (Operand.func 30), args := #[Operand.tmp 19, Operand.tmp 20, Operand.const (Value.int IntKind.i64 6)], argTypes := #[26, 45, 3] }, type := 3, pos := "law.go:97", after := #[{ on := 0, ground := Ground.data }, { on := 1, ground := Ground.data }], guard := none }) rfl (fun Kz hK => ?_) AllReadyH.nil
  go_simp
  go_at_call 30
  refine (srtr_any a ⟨R, L0, pR, cR, pL, cL⟩ 6 (by unfold I64; omega) _ _ hHeld.out.t (fun b hb => by omega) hHeld.out.tp).mono ?_
  rintro e wr ⟨p, hp, rfl, hs⟩
  have Hp := Lib.hid (GT.rt hp)
  have HN := Lib.hid (hHeld.out.tape hs)
  clear hp hs
  simp only
  refine hK.out _ _ (HN) (fun hH2 => ?_)
  clear hK Kz hHeld
  have hHeld := hH2
  clear hH2
  (try simp only [Act.put, List.setIfInBounds_toArray, List.set_cons_zero, List.set_cons_succ])
  refine wpAnyH_ready (rs := [5]) (by kernel_rfl) (by simp) ?_
  refine AllReadyH.cons (o := { dst := some 24, op := Op.call { callee := Callee.value (Operand.func 30), args := #[Operand.tmp 22, Operand.tmp 23, Operand.const (Value.int IntKind.i64 6)], argTypes := #[26, 45, 3] }, type := 3, pos := "law.go:97", after := #[{ on := 3, ground := Ground.data }, { on := 4, ground := Ground.data }, { on := 2, ground := Ground.chain }], guard := none }) rfl (fun Kz hK => ?_) AllReadyH.nil
  go_simp
  go_at_call 30
  refine (srtr_any a ⟨R, L0, pR, cR, pL, cL⟩ 6 (by unfold I64; omega) _ _ hHeld.out.t (fun b hb => by omega) hHeld.out.tp).mono ?_
  rintro e wr ⟨q, hq, rfl, hs⟩
  have Hq := Lib.hid (GT.rt hq)
  have HN := Lib.hid (hHeld.out.tape hs)
  clear hq hs
  simp only
  refine hK.out _ _ (HN) (fun hH2 => ?_)
  clear hK Kz hHeld
  have hHeld := hH2
  clear hH2
  (try simp only [Act.put, List.setIfInBounds_toArray, List.set_cons_zero, List.set_cons_succ])
  refine wpAnyH_take (i := 6) (oi := { dst := some 9, op := Op.assign (Operand.tmp 21), type := 3, pos := "law.go:97", after := #[{ on := 2, ground := Ground.data }, { on := 5, ground := Ground.chain }, { on := 0, ground := Ground.phase }, { on := 1, ground := Ground.phase }, { on := 2, ground := Ground.phase }, { on := 3, ground := Ground.textOnly Departure.lateStores }, { on := 4, ground := Ground.textOnly Departure.lateStores }, { on := 5, ground := Ground.textOnly Departure.lateStoresUnsure }], guard := none }) (v := ?_) rfl (by kernel_rfl) (by kernel_rfl) (by kernel_rfl) (fun _ _ _ h => h) (Or.inl ⟨by rfl, ?_⟩) hHeld ?_
  rotate_left 1
  · intro u hSu
    obtain ⟨t0u, t1u⟩ := row_cells hSu.out.bT
    go_simp
    first | done | with_reducible rfl
  (try simp only [Act.put, List.setIfInBounds_toArray, List.set_cons_zero, List.set_cons_succ])
  refine wpAnyH_take (i := 7) (oi := { dst := some 10, op := Op.assign (Operand.tmp 24), type := 3, pos := "law.go:97", after := #[{ on := 5, ground := Ground.data }, { on := 6, ground := Ground.chain }, { on := 0, ground := Ground.phase }, { on := 1, ground := Ground.phase }, { on := 2, ground := Ground.phase }, { on := 3, ground := Ground.phase }, { on := 4, ground := Ground.phase }, { on := 5, ground := Ground.phase }, { on := 6, ground := Ground.phase }], guard := none }) (v := ?_) rfl (by kernel_rfl) (by kernel_rfl) (by kernel_rfl) (fun _ _ _ h => h) (Or.inl ⟨by rfl, ?_⟩) hHeld ?_
  rotate_left 1
  · intro u hSu
    obtain ⟨t0u, t1u⟩ := row_cells hSu.out.bT
    go_simp
    first | done | with_reducible rfl
  (try simp only [Act.put, List.setIfInBounds_toArray, List.set_cons_zero, List.set_cons_succ])
  refine wpAnyH_done (by kernel_rfl) ?_ _
  have H7 := hHeld
  clear hHeld H6
  go_upto_region 6 with fail
  refine wp_region_held_drew (S := fun w' => Hid (GX w a B ⟨R, L0, pR, cR, pL, cL⟩ w')) (by kernel_rfl) (Lib.hid (H7.out.keep (grown_drew (grown_refl _ none)))) (fun hHeld => ?_)
  refine wpAnyH_take (i := 0) (oi := { dst := some 25, op := Op.load 45 (Operand.tmp 8), type := 45, pos := "law.go:98", after := #[], guard := none }) (v := ?_) rfl (by kernel_rfl) (by kernel_rfl) (by kernel_rfl) (fun _ _ _ h => h) (Or.inl ⟨by rfl, ?_⟩) hHeld ?_
  rotate_left 1
  · intro u hSu
    obtain ⟨t0u, t1u⟩ := row_cells hSu.out.bT
    go_simp
    first | done | with_reducible rfl
  (try simp only [Act.put, List.setIfInBounds_toArray, List.set_cons_zero, List.set_cons_succ])
  refine wpAnyH_take (i := 1) (oi := { dst := some 26, op := Op.move (Operand.tmp 9), type := 3, pos := "law.go:98", after := #[], guard := none }) (v := ?_) rfl (by kernel_rfl) (by kernel_rfl) (by kernel_rfl) (fun _ _ _ h => h) (Or.inl ⟨by rfl, ?_⟩) hHeld ?_
  rotate_left 1
  · intro u hSu
    obtain ⟨t0u, t1u⟩ := row_cells hSu.out.bT
    go_simp
    first | done | with_reducible rfl
  (try simp only [Act.put, List.setIfInBounds_toArray, List.set_cons_zero, List.set_cons_succ])
  refine wpAnyH_take (i := 2) (oi := { dst := some 27, op := Op.move (Operand.tmp 10), type := 3, pos := "law.go:98", after := #[], guard := none }) (v := ?_) rfl (by kernel_rfl) (by kernel_rfl) (by kernel_rfl) (fun _ _ _ h => h) (Or.inl ⟨by rfl, ?_⟩) hHeld ?_
  rotate_left 1
  · intro u hSu
    obtain ⟨t0u, t1u⟩ := row_cells hSu.out.bT
    go_simp
    first | done | with_reducible rfl
  (try simp only [Act.put, List.setIfInBounds_toArray, List.set_cons_zero, List.set_cons_succ])
  refine wpAnyH_take (i := 4) (oi := { dst := some 29, op := Op.load 45 (Operand.tmp 8), type := 45, pos := "law.go:98", after := #[], guard := none }) (v := ?_) rfl (by kernel_rfl) (by kernel_rfl) (by kernel_rfl) (fun _ _ _ h => h) (Or.inl ⟨by rfl, ?_⟩) hHeld ?_
  rotate_left 1
  · intro u hSu
    obtain ⟨t0u, t1u⟩ := row_cells hSu.out.bT
    go_simp
    first | done | with_reducible rfl
  (try simp only [Act.put, List.setIfInBounds_toArray, List.set_cons_zero, List.set_cons_succ])
  refine wpAnyH_take (i := 5) (oi := { dst := some 30, op := Op.move (Operand.tmp 9), type := 3, pos := "law.go:98", after := #[], guard := none }) (v := ?_) rfl (by kernel_rfl) (by kernel_rfl) (by kernel_rfl) (fun _ _ _ h => h) (Or.inl ⟨by rfl, ?_⟩) hHeld ?_
  rotate_left 1
  · intro u hSu
    obtain ⟨t0u, t1u⟩ := row_cells hSu.out.bT
    go_simp
    first | done | with_reducible rfl
  (try simp only [Act.put, List.setIfInBounds_toArray, List.set_cons_zero, List.set_cons_succ])
  refine wpAnyH_take (i := 6) (oi := { dst := some 31, op := Op.move (Operand.tmp 10), type := 3, pos := "law.go:98", after := #[], guard := none }) (v := ?_) rfl (by kernel_rfl) (by kernel_rfl) (by kernel_rfl) (fun _ _ _ h => h) (Or.inl ⟨by rfl, ?_⟩) hHeld ?_
  rotate_left 1
  · intro u hSu
    obtain ⟨t0u, t1u⟩ := row_cells hSu.out.bT
    go_simp
    first | done | with_reducible rfl
  (try simp only [Act.put, List.setIfInBounds_toArray, List.set_cons_zero, List.set_cons_succ])
  refine wpAnyH_ready (rs := [3]) (by kernel_rfl) (by simp) ?_
  refine AllReadyH.cons (o := { dst := some 28, op := Op.call { callee := Callee.value (Operand.func 31), args := #[Operand.tmp 25, Operand.tmp 26, Operand.tmp 27], argTypes := #[45, 3, 3] }, type := 22, pos := "law.go:98", after := #[{ on := 0, ground := Ground.data }, { on := 1, ground := Ground.data }, { on := 2, ground := Ground.data }], guard := none }) rfl (fun Kz hK => ?_) AllReadyH.nil
  go_simp
  go_at_call 31
  refine (thops0_any ⟨R, L0, pR, cR, pL, cL⟩ p q _ _ hHeld.out.t HGT.out.pl (Nat.le_trans HGT.out.len.2 (by decide)) HGT.out.ok (Nat.le_trans HGT.out.l60 (by decide)) Hp.out (fun r y hy => nxt_rngT R L0 _ r y hy)).mono ?_
  rintro e w10 ⟨M10, p10, c10, rfl, hr, hn, hc, hA, hU, hg⟩
  have HR10 := Lib.hid (And.intro (hr.mono (q' := fun _ => True) (fun _ _ => trivial)) (And.intro hc (And.intro hA (hopU_hops hU))))
  have HN := Lib.hid (hHeld.out.keep hg)
  clear hr hn hc hA hU hg
  simp only
  refine hK.out _ _ (HN) (fun hH2 => ?_)
  clear hK Kz hHeld
  have hHeld := hH2
  clear hH2
  (try simp only [Act.put, List.setIfInBounds_toArray, List.set_cons_zero, List.set_cons_succ])
  refine wpAnyH_ready (rs := [7]) (by kernel_rfl) (by simp) ?_
  refine AllReadyH.cons (o := { dst := some 32, op := Op.call { callee := Callee.value (Operand.func 32), args := #[Operand.tmp 29, Operand.tmp 30, Operand.tmp 31], argTypes := #[45, 3, 3] }, type := 22, pos := "law.go:98", after := #[{ on := 4, ground := Ground.data }, { on := 5, ground := Ground.data }, { on := 6, ground := Ground.data }, { on := 3, ground := Ground.chain }], guard := none }) rfl (fun Kz hK => ?_) AllReadyH.nil
  go_simp
  go_at_call 32
  refine (rhops_any ⟨R, L0, pR, cR, pL, cL⟩ p q _ _ hHeld.out.t).mono ?_
  rintro e w11 ⟨M11, p11, c11, rfl, hr, hn, hc, hA, hI, hIs, hg⟩
  have hE : M10 = M11 := hops_uniq HR10.out.2.2.1 hA HR10.out.2.2.2 hIs
  subst hE
  have HR11 := Lib.hid (And.intro (hr.mono (q' := fun _ => True) (fun _ _ => trivial)) (And.intro hc (HR10.out.1.keep hg)))
  have HN := Lib.hid (hHeld.out.keep hg)
  clear hr hn hc hA hI hIs hg
  simp only
  refine hK.out _ _ (HN) (fun hH2 => ?_)
  clear hK Kz hHeld
  have hHeld := hH2
  clear hH2
  (try simp only [Act.put, List.setIfInBounds_toArray, List.set_cons_zero, List.set_cons_succ])
  refine wpAnyH_ready (rs := [8]) (by kernel_rfl) (by simp) ?_
  refine AllReadyH.cons (o := { dst := some 33, op := Op.call { callee := Callee.value (Operand.func 20), args := #[Operand.tmp 28, Operand.tmp 32], argTypes := #[22, 22] }, type := 4, pos := "law.go:98", after := #[{ on := 3, ground := Ground.data }, { on := 7, ground := Ground.data }, { on := 7, ground := Ground.chain }], guard := none }) rfl (fun Kz hK => ?_) AllReadyH.nil
  go_simp
  go_at_call 20
  refine (rintsG_any M10 M10 p10 p11 c10 c11 _ _ _ HR11.out.2.2 HR11.out.1 (by have := HR11.out.2.1; omega) (by have := HR11.out.2.1; omega)).mono ?_
  rintro e w12 ⟨rfl, hg⟩
  rw [decide_eq_true (rfl : M10 = M10)]
  have HN := Lib.hid (hHeld.out.keep hg)
  clear hg
  simp only
  refine hK.out _ _ (HN) (fun hH2 => ?_)
  clear hK Kz hHeld
  have hHeld := hH2
  clear hH2
  (try simp only [Act.put, List.setIfInBounds_toArray, List.set_cons_zero, List.set_cons_succ])
  refine wpAnyH_take (i := 9) (oi := { dst := some 34, op := Op.move (Operand.tmp 33), type := 4, pos := "law.go:98", after := #[{ on := 8, ground := Ground.data }, { on := 8, ground := Ground.chain }], guard := none }) (v := ?_) rfl (by kernel_rfl) (by kernel_rfl) (by kernel_rfl) (fun _ _ _ h => h) (Or.inl ⟨by rfl, ?_⟩) hHeld ?_
  rotate_left 1
  · intro u hSu
    obtain ⟨t0u, t1u⟩ := row_cells hSu.out.bT
    go_simp
    first | done | with_reducible rfl
  (try simp only [Act.put, List.setIfInBounds_toArray, List.set_cons_zero, List.set_cons_succ])
  refine wpAnyH_take (i := 10) (oi := { dst := some 35, op := Op.load 45 (Operand.tmp 8), type := 45, pos := "law.go:98", after := #[{ on := 9, ground := Ground.guard }], guard := some (9, true) }) (v := ?_) rfl (by kernel_rfl) (by kernel_rfl) (by kernel_rfl) (fun _ _ _ h => h) (Or.inl ⟨by rfl, ?_⟩) hHeld ?_
  rotate_left 1
  · intro u hSu
    obtain ⟨t0u, t1u⟩ := row_cells hSu.out.bT
    go_simp
    first | done | with_reducible rfl
  (try simp only [Act.put, List.setIfInBounds_toArray, List.set_cons_zero, List.set_cons_succ])
  refine wpAnyH_take (i := 11) (oi := { dst := some 36, op := Op.move (Operand.tmp 1), type := 3, pos := "law.go:98", after := #[{ on := 9, ground := Ground.guard }], guard := some (9, true) }) (v := ?_) rfl (by kernel_rfl) (by kernel_rfl) (by kernel_rfl) (fun _ _ _ h => h) (Or.inl ⟨by rfl, ?_⟩) hHeld ?_
  rotate_left 1
  · intro u hSu
    obtain ⟨t0u, t1u⟩ := row_cells hSu.out.bT
    go_simp
    first | done | with_reducible rfl
  (try simp only [Act.put, List.setIfInBounds_toArray, List.set_cons_zero, List.set_cons_succ])
  refine wpAnyH_take (i := 12) (oi := { dst := some 37, op := Op.move (Operand.tmp 2), type := 3, pos := "law.go:98", after := #[{ on := 9, ground := Ground.guard }], guard := some (9, true) }) (v := ?_) rfl (by kernel_rfl) (by kernel_rfl) (by kernel_rfl) (fun _ _ _ h => h) (Or.inl ⟨by rfl, ?_⟩) hHeld ?_
  rotate_left 1
  · intro u hSu
    obtain ⟨t0u, t1u⟩ := row_cells hSu.out.bT
    go_simp
    first | done | with_reducible rfl
  (try simp only [Act.put, List.setIfInBounds_toArray, List.set_cons_zero, List.set_cons_succ])
  refine wpAnyH_take (i := 14) (oi := { dst := some 39, op := Op.load 45 (Operand.tmp 8), type := 45, pos := "law.go:98", after := #[{ on := 9, ground := Ground.guard }], guard := some (9, true) }) (v := ?_) rfl (by kernel_rfl) (by kernel_rfl) (by kernel_rfl) (fun _ _ _ h => h) (Or.inl ⟨by rfl, ?_⟩) hHeld ?_
  rotate_left 1
  · intro u hSu
    obtain ⟨t0u, t1u⟩ := row_cells hSu.out.bT
    go_simp
    first | done | with_reducible rfl
  (try simp only [Act.put, List.setIfInBounds_toArray, List.set_cons_zero, List.set_cons_succ])
  refine wpAnyH_take (i := 15) (oi := { dst := some 40, op := Op.move (Operand.tmp 1), type := 3, pos := "law.go:98", after := #[{ on := 9, ground := Ground.guard }], guard := some (9, true) }) (v := ?_) rfl (by kernel_rfl) (by kernel_rfl) (by kernel_rfl) (fun _ _ _ h => h) (Or.inl ⟨by rfl, ?_⟩) hHeld ?_
  rotate_left 1
  · intro u hSu
    obtain ⟨t0u, t1u⟩ := row_cells hSu.out.bT
    go_simp
    first | done | with_reducible rfl
  (try simp only [Act.put, List.setIfInBounds_toArray, List.set_cons_zero, List.set_cons_succ])
  refine wpAnyH_take (i := 16) (oi := { dst := some 41, op := Op.move (Operand.tmp 2), type := 3, pos := "law.go:98", after := #[{ on := 9, ground := Ground.guard }], guard := some (9, true) }) (v := ?_) rfl (by kernel_rfl) (by kernel_rfl) (by kernel_rfl) (fun _ _ _ h => h) (Or.inl ⟨by rfl, ?_⟩) hHeld ?_
  rotate_left 1
  · intro u hSu
    obtain ⟨t0u, t1u⟩ := row_cells hSu.out.bT
    go_simp
    first | done | with_reducible rfl
  (try simp only [Act.put, List.setIfInBounds_toArray, List.set_cons_zero, List.set_cons_succ])
  refine wpAnyH_ready (rs := [13]) (by kernel_rfl) (by simp) ?_
  refine AllReadyH.cons (o := { dst := some 38, op := Op.call { callee := Callee.value (Operand.func 31), args := #[Operand.tmp 35, Operand.tmp 36, Operand.tmp 37], argTypes := #[45, 3, 3] }, type := 22, pos := "law.go:98", after := #[{ on := 10, ground := Ground.data }, { on := 11, ground := Ground.data }, { on := 12, ground := Ground.data }, { on := 9, ground := Ground.chain }, { on := 9, ground := Ground.guard }], guard := some (9, true) }) rfl (fun Kz hK => ?_) AllReadyH.nil
  go_simp
  go_at_call 31
  refine (thops0_any ⟨R, L0, pR, cR, pL, cL⟩ x y _ _ hHeld.out.t HGT.out.pl (Nat.le_trans HGT.out.len.2 (by decide)) HGT.out.ok (Nat.le_trans HGT.out.l60 (by decide)) (fun _ => HXY.out.1) (fun r y hy => nxt_rngT R L0 _ r y hy)).mono ?_
  rintro e w20 ⟨M20, p20, c20, rfl, hr, hn, hc, hA, hU, hg⟩
  have HR20 := Lib.hid (And.intro (hr.mono (q' := fun _ => True) (fun _ _ => trivial)) (And.intro hc (And.intro hA (hopU_hops hU))))
  have HN := Lib.hid (hHeld.out.keep hg)
  clear hr hn hc hA hU hg
  simp only
  refine hK.out _ _ (HN) (fun hH2 => ?_)
  clear hK Kz hHeld
  have hHeld := hH2
  clear hH2
  (try simp only [Act.put, List.setIfInBounds_toArray, List.set_cons_zero, List.set_cons_succ])
  refine wpAnyH_ready (rs := [17]) (by kernel_rfl) (by simp) ?_
  refine AllReadyH.cons (o := { dst := some 42, op := Op.call { callee := Callee.value (Operand.func 32), args := #[Operand.tmp 39, Operand.tmp 40, Operand.tmp 41], argTypes := #[45, 3, 3] }, type := 22, pos := "law.go:98", after := #[{ on := 14, ground := Ground.data }, { on := 15, ground := Ground.data }, { on := 16, ground := Ground.data }, { on := 13, ground := Ground.chain }, { on := 9, ground := Ground.guard }], guard := some (9, true) }) rfl (fun Kz hK => ?_) AllReadyH.nil
  go_simp
  go_at_call 32
  refine (rhops_any ⟨R, L0, pR, cR, pL, cL⟩ x y _ _ hHeld.out.t).mono ?_
  rintro e w21 ⟨M21, p21, c21, rfl, hr, hn, hc, hA, hI, hIs, hg⟩
  have hE : M20 = M21 := hops_uniq HR20.out.2.2.1 hA HR20.out.2.2.2 hIs
  subst hE
  have HR21 := Lib.hid (And.intro (hr.mono (q' := fun _ => True) (fun _ _ => trivial)) (And.intro hc (HR20.out.1.keep hg)))
  have HN := Lib.hid (hHeld.out.keep hg)
  clear hr hn hc hA hI hIs hg
  simp only
  refine hK.out _ _ (HN) (fun hH2 => ?_)
  clear hK Kz hHeld
  have hHeld := hH2
  clear hH2
  (try simp only [Act.put, List.setIfInBounds_toArray, List.set_cons_zero, List.set_cons_succ])
  refine wpAnyH_ready (rs := [18]) (by kernel_rfl) (by simp) ?_
  refine AllReadyH.cons (o := { dst := some 43, op := Op.call { callee := Callee.value (Operand.func 20), args := #[Operand.tmp 38, Operand.tmp 42], argTypes := #[22, 22] }, type := 4, pos := "law.go:98", after := #[{ on := 13, ground := Ground.data }, { on := 17, ground := Ground.data }, { on := 17, ground := Ground.chain }, { on := 9, ground := Ground.guard }], guard := some (9, true) }) rfl (fun Kz hK => ?_) AllReadyH.nil
  go_simp
  go_at_call 20
  refine (rintsG_any M20 M20 p20 p21 c20 c21 _ _ _ HR21.out.2.2 HR21.out.1 (by have := HR21.out.2.1; omega) (by have := HR21.out.2.1; omega)).mono ?_
  rintro e w22 ⟨rfl, hg⟩
  rw [decide_eq_true (rfl : M20 = M20)]
  have HN := Lib.hid (hHeld.out.keep hg)
  clear hg
  simp only
  refine hK.out _ _ (HN) (fun hH2 => ?_)
  clear hK Kz hHeld
  have hHeld := hH2
  clear hH2
  (try simp only [Act.put, List.setIfInBounds_toArray, List.set_cons_zero, List.set_cons_succ])
  refine wpAnyH_take (i := 19) (oi := { dst := some 44, op := Op.pick (Operand.tmp 34) (Operand.tmp 43) (Operand.const (Value.bool false)), type := 4, pos := "law.go:98", after := #[{ on := 9, ground := Ground.data }, { on := 18, ground := Ground.data }], guard := none }) (v := ?_) rfl (by kernel_rfl) (by kernel_rfl) (by kernel_rfl) (fun _ _ _ h => h) (Or.inl ⟨by rfl, ?_⟩) hHeld ?_
  rotate_left 1
  · intro u hSu
    obtain ⟨t0u, t1u⟩ := row_cells hSu.out.bT
    go_simp
    first | done | with_reducible rfl
  (try simp only [Act.put, List.setIfInBounds_toArray, List.set_cons_zero, List.set_cons_succ])
  refine wpAnyH_take (i := 20) (oi := { dst := some 45, op := Op.move (Operand.tmp 44), type := 4, pos := "law.go:98", after := #[{ on := 19, ground := Ground.data }, { on := 18, ground := Ground.chain }], guard := none }) (v := ?_) rfl (by kernel_rfl) (by kernel_rfl) (by kernel_rfl) (fun _ _ _ h => h) (Or.inl ⟨by rfl, ?_⟩) hHeld ?_
  rotate_left 1
  · intro u hSu
    obtain ⟨t0u, t1u⟩ := row_cells hSu.out.bT
    go_simp
    first | done | with_reducible rfl
  (try simp only [Act.put, List.setIfInBounds_toArray, List.set_cons_zero, List.set_cons_succ])
  refine wpAnyH_ready (rs := [21]) (by kernel_rfl) (by simp) ?_
  refine AllReadyH.cons (o := { dst := some 46, op := Op.call { callee := Callee.value (Operand.func 21), args := #[], argTypes := #[] }, type := 4, pos := "law.go:98", after := #[{ on := 20, ground := Ground.chain }, { on := 20, ground := Ground.guard }], guard := some (20, true) }) rfl (fun Kz hK => ?_) AllReadyH.nil
  go_simp
  go_at_call 21
  refine (awk11_any _).mono ?_
  rintro e w30 ⟨rfl, hg⟩
  have HN := Lib.hid (hHeld.out.keep hg)
  clear hg
  simp only
  refine hK.out _ _ (HN) (fun hH2 => ?_)
  clear hK Kz hHeld
  have hHeld := hH2
  clear hH2
  (try simp only [Act.put, List.setIfInBounds_toArray, List.set_cons_zero, List.set_cons_succ])
  refine wpAnyH_take (i := 22) (oi := { dst := some 47, op := Op.pick (Operand.tmp 45) (Operand.tmp 46) (Operand.const (Value.bool false)), type := 4, pos := "law.go:98", after := #[{ on := 20, ground := Ground.data }, { on := 21, ground := Ground.data }], guard := none }) (v := ?_) rfl (by kernel_rfl) (by kernel_rfl) (by kernel_rfl) (fun _ _ _ h => h) (Or.inl ⟨by rfl, ?_⟩) hHeld ?_
  rotate_left 1
  · intro u hSu
    obtain ⟨t0u, t1u⟩ := row_cells hSu.out.bT
    go_simp
    first | done | with_reducible rfl
  (try simp only [Act.put, List.setIfInBounds_toArray, List.set_cons_zero, List.set_cons_succ])
  refine wpAnyH_take (i := 23) (oi := { dst := some 6, op := Op.assign (Operand.tmp 47), type := 4, pos := "law.go:98", after := #[{ on := 22, ground := Ground.data }, { on := 21, ground := Ground.chain }, { on := 0, ground := Ground.phase }, { on := 1, ground := Ground.phase }, { on := 2, ground := Ground.phase }, { on := 3, ground := Ground.phase }, { on := 4, ground := Ground.phase }, { on := 5, ground := Ground.phase }, { on := 6, ground := Ground.phase }, { on := 7, ground := Ground.phase }, { on := 8, ground := Ground.phase }, { on := 9, ground := Ground.phase }, { on := 10, ground := Ground.phase }, { on := 11, ground := Ground.phase }, { on := 12, ground := Ground.phase }, { on := 13, ground := Ground.phase }, { on := 14, ground := Ground.phase }, { on := 15, ground := Ground.phase }, { on := 16, ground := Ground.phase }, { on := 17, ground := Ground.phase }, { on := 18, ground := Ground.phase }, { on := 19, ground := Ground.phase }, { on := 20, ground := Ground.phase }, { on := 21, ground := Ground.phase }, { on := 22, ground := Ground.phase }], guard := none }) (v := ?_) rfl (by kernel_rfl) (by kernel_rfl) (by kernel_rfl) (fun _ _ _ h => h) (Or.inl ⟨by rfl, ?_⟩) hHeld ?_
  rotate_left 1
  · intro u hSu
    obtain ⟨t0u, t1u⟩ := row_cells hSu.out.bT
    go_simp
    first | done | with_reducible rfl
  (try simp only [Act.put, List.setIfInBounds_toArray, List.set_cons_zero, List.set_cons_succ])
  refine wpAnyH_done (by kernel_rfl) ?_ _
  have G := Lib.hid hHeld.out.gr
  clear hHeld
  go_wp2_with fail
  go_ret
  exact ⟨rfl, G.out⟩
end Go.Proofs.YtahafijpcmphaaaGreat
