/- Parts of the proof, packed: TaBlLaw. -/
import Derived.Test.YtahafijpcmphaaaGreatQb28
import Derived.Test.YtahafijpcmphaaaGreatQb13
/- tables: the law of Build. -/
namespace Go.Proofs.YtahafijpcmphaaaGreat
open Go.RowKit Bs
set_option maxRecDepth 100000 in
set_option maxHeartbeats 12800000 in
theorem tbuildsl_walk (v : Value) (r : Int) (hr : I64 r) (w : World) (hv : IntsIn w v) :
    Calls Tryz.prog 6 #[v, .int .i64 r] w fun e w' => e = .returned (.bool true) ∧ w.grownBy w' none := by
  have HV := Lib.hid hv
  clear hv
  have HR0 := Lib.hid hr
  clear hr
  go_enter Tryz.func6, Tryz.ntmps6
  go_wp2_with fail
  refine (new_any v w HV.out).mono ?_
  rintro e w1 ⟨rfl, hg1, hT1⟩
  have H1 := Lib.hid (And.intro hg1 hT1)
  clear hg1 hT1 HV
  obtain ⟨a, ha⟩ : ∃ a, w.heap.size = a := ⟨_, rfl⟩
  have HA := Lib.hid ha
  rw [ha] at H1 ⊢
  clear ha
  go_wp2_with fail
  refine (mixed_any a 7 (by omega) (by omega) w1 H1.out.2).mono ?_
  rintro e w3 ⟨R0, R, L0, vR, vL, rfl, hR, hL, hO, hid, hs⟩
  obtain ⟨pR, cR, pL, cL, rfl, rfl, hTg⟩ := tg_of_ownT hR hL
  have HGT := Lib.hid (GT.mix (T := ⟨R, L0, pR, cR, pL, cL⟩) hO (by omega) hid (pl_own hL))
  have H3 := Lib.hid (gx_start (T := ⟨R, L0, pR, cR, pL, cL⟩) HA.out H1.out.1 H1.out.2 hTg hs)
  clear hR hL hO hid hs hTg H1
  go_upto_region 3 with fail
  generalize w3.alloc _ = w4 at *
  generalize w3.heap.size = B at *
  go_wp2_with fail
  refine (one_any a 6 (by unfold I64; omega) w4 H3.out.tp).mono ?_
  rintro e w5 ⟨z, rfl, hs⟩
  have H5 := Lib.hid (H3.out.tape hs)
  have HGT2 := Lib.hid HGT.out.1
  clear hs H3 HGT
  go_upto_if 19 with fail
  go_cut [] from 20 to 21 (fun wx => ∃ T : Tg, Hid (GT T) ∧ Hid (GX w a B T wx))
  case first =>
    cases z
    case false =>
      go_wp2_with fail
      go_meet
      exact ⟨_, HGT2, H5⟩
    go_wp2_with fail
    refine (stopo_any a 6 2 (by omega) (by omega) (by unfold I64; omega) w5 H5.out.tp).mono ?_
    rintro e w6 ⟨T2, rfl, hT, hO, hp, hs⟩
    have HGT3 := Lib.hid (GT.topo hO (by omega) hp)
    have H6 := Lib.hid (H5.out.put hT hs)
    have hB6 := kept_row H5.out.bT hs.1 (fun e => by have := Option.some.inj e; have := H5.out.lo; omega)
    obtain ⟨t0, t1⟩ := row_cells hB6
    have f0 := frozen_of_row _ _ 0 _ _ hB6
    have f1 := frozen_of_row _ _ 1 _ _ hB6
    obtain ⟨R2, L2, pR2, cR2, pL2, cL2⟩ := T2
    (try simp only at H6 HGT3)
    clear hT hO hp hs H5 hB6 HGT2
    go_wp2_with fail
    go_meet
    exact ⟨_, HGT3, H6⟩
  case rest =>
  clear H5 HGT2
  obtain ⟨T, HGT, H6⟩ := hcut
  obtain ⟨R, L0, pR, cR, pL, cL⟩ := T
  (try simp only at HGT H6)
  obtain ⟨t0, t1⟩ := row_cells H6.out.bT
  go_wp2_with fail
  refine (tplan_any a 6 (by unfold I64; omega) R pR pL cR L0.length cL HGT.out.len.2 wc H6.out.tp (H6.out.t.r.mono (fun b hb => ⟨by omega, hb.2.2⟩))).mono ?_
  rintro e w7 ⟨sub, len, E, pE, cE, rfl, hE, hEl, -, hs⟩
  have H7 := Lib.hid (gp_start sub len H6.out hs hE)
  have HEL : Hid (E.length ≤ 41) := Lib.hid (by have := HGT.out.len.2; simp only at this; omega)
  clear hE hEl hs H6 t0 t1
  go_upto_region 6 with fail
  generalize w7.alloc _ = w8 at *
  generalize w7.heap.size = C at *
  refine wp_region_held_drew (S := fun w' => Hid (GP w a B C ⟨R, L0, pR, cR, pL, cL⟩ sub len E pE cE w')) (by kernel_rfl) (Lib.hid (H7.out.keep (grown_drew (grown_refl _ none)))) (fun hHeld => ?_)
  refine wpAnyH_take (i := 0) (oi := { dst := some 25, op := Op.move (Operand.tmp 1), type := 3, pos := "law.go:109", after := #[], guard := none }) (v := ?_) rfl (by kernel_rfl) (by kernel_rfl) (by kernel_rfl) (fun _ _ _ h => h) (Or.inl ⟨by rfl, ?_⟩) hHeld ?_
  rotate_left 1
  · intro u hSu
    obtain ⟨t0u, t1u⟩ := row_cells hSu.out.gx.bT
    go_simp
    first | done | with_reducible rfl
  (try simp only [Act.put, List.setIfInBounds_toArray, List.set_cons_zero, List.set_cons_succ])
  refine wpAnyH_take (i := 1) (oi := { dst := some 26, op := Op.move (Operand.tmp 5), type := 26, pos := "law.go:109", after := #[], guard := none }) (v := ?_) rfl (by kernel_rfl) (by kernel_rfl) (by kernel_rfl) (fun _ _ _ h => h) (Or.inl ⟨by rfl, ?_⟩) hHeld ?_
  rotate_left 1
  · intro u hSu
    obtain ⟨t0u, t1u⟩ := row_cells hSu.out.gx.bT
    go_simp
    first | done | with_reducible rfl
  (try simp only [Act.put, List.setIfInBounds_toArray, List.set_cons_zero, List.set_cons_succ])
  refine wpAnyH_take (i := 2) (oi := { dst := some 27, op := Op.load 45 (Operand.tmp 6), type := 45, pos := "law.go:109", after := #[], guard := none }) (v := ?_) rfl (by kernel_rfl) (by kernel_rfl) (by kernel_rfl) (fun _ _ _ h => h) (Or.inl ⟨by rfl, ?_⟩) hHeld ?_
  rotate_left 1
  · intro u hSu
    obtain ⟨t0u, t1u⟩ := row_cells hSu.out.gx.bT
    go_simp
    first | done | with_reducible rfl
  (try simp only [Act.put, List.setIfInBounds_toArray, List.set_cons_zero, List.set_cons_succ])
  refine wpAnyH_take (i := 4) (oi := { dst := some 29, op := Op.move (Operand.tmp 5), type := 26, pos := "law.go:109", after := #[], guard := none }) (v := ?_) rfl (by kernel_rfl) (by kernel_rfl) (by kernel_rfl) (fun _ _ _ h => h) (Or.inl ⟨by rfl, ?_⟩) hHeld ?_
  rotate_left 1
  · intro u hSu
    obtain ⟨t0u, t1u⟩ := row_cells hSu.out.gx.bT
    go_simp
    first | done | with_reducible rfl
  (try simp only [Act.put, List.setIfInBounds_toArray, List.set_cons_zero, List.set_cons_succ])
  refine wpAnyH_take (i := 5) (oi := { dst := some 30, op := Op.load 45 (Operand.tmp 6), type := 45, pos := "law.go:109", after := #[], guard := none }) (v := ?_) rfl (by kernel_rfl) (by kernel_rfl) (by kernel_rfl) (fun _ _ _ h => h) (Or.inl ⟨by rfl, ?_⟩) hHeld ?_
  rotate_left 1
  · intro u hSu
    obtain ⟨t0u, t1u⟩ := row_cells hSu.out.gx.bT
    go_simp
    first | done | with_reducible rfl
  (try simp only [Act.put, List.setIfInBounds_toArray, List.set_cons_zero, List.set_cons_succ])
  refine wpAnyH_ready (rs := [3]) (by kernel_rfl) (by simp) ?_
  refine AllReadyH.cons (o := { dst := some 28, op := Op.call { callee := Callee.value (Operand.func 30), args := #[Operand.tmp 26, Operand.tmp 27, Operand.const (Value.int IntKind.i64 6)], argTypes := #[26, 45, 3] }, type := 3, pos := "law.go:109", after := #[{ on := 1, ground := Ground.data }, { on := 2, ground := Ground.data }], guard := none }) rfl (fun Kz hK => ?_) AllReadyH.nil
  go_simp
  go_at_call 30
  refine (srtr_any a ⟨R, L0, pR, cR, pL, cL⟩ 6 (by unfold I64; omega) _ _ hHeld.out.gx.t (fun b hb => by omega) hHeld.out.gx.tp).mono ?_
  rintro e wr ⟨y, hy, rfl, hs⟩
  have Hy := Lib.hid (GT.rt hy)
  have HN := Lib.hid (hHeld.out.tape hs)
  clear hy hs
  simp only
  refine hK.out _ _ (HN) (fun hH2 => ?_)
  clear hK Kz hHeld
  have hHeld := hH2
  clear hH2
  (try simp only [Act.put, List.setIfInBounds_toArray, List.set_cons_zero, List.set_cons_succ])
  refine wpAnyH_ready (rs := [6]) (by kernel_rfl) (by simp) ?_
  refine AllReadyH.cons (o := { dst := some 31, op := Op.call { callee := Callee.value (Operand.func 30), args := #[Operand.tmp 29, Operand.tmp 30, Operand.const (Value.int IntKind.i64 0)], argTypes := #[26, 45, 3] }, type := 3, pos := "law.go:109", after := #[{ on := 4, ground := Ground.data }, { on := 5, ground := Ground.data }, { on := 3, ground := Ground.chain }], guard := none }) rfl (fun Kz hK => ?_) AllReadyH.nil
  go_simp
  go_at_call 30
  refine (srtr_any a ⟨R, L0, pR, cR, pL, cL⟩ 0 (by unfold I64; omega) _ _ hHeld.out.gx.t (fun b hb => by omega) hHeld.out.gx.tp).mono ?_
  rintro e wr ⟨z, hz, rfl, hs⟩
  have Hz := Lib.hid (GT.rt hz)
  have HN := Lib.hid (hHeld.out.tape hs)
  clear hz hs
  simp only
  refine hK.out _ _ (HN) (fun hH2 => ?_)
  clear hK Kz hHeld
  have hHeld := hH2
  clear hH2
  (try simp only [Act.put, List.setIfInBounds_toArray, List.set_cons_zero, List.set_cons_succ])
  refine wpAnyH_ready (rs := [7]) (by kernel_rfl) (by simp) ?_
  refine AllReadyH.cons (o := { dst := some 32, op := Op.buildSlice 22 3 #[(0, Operand.tmp 25), (1, Operand.tmp 28), (2, Operand.tmp 31)], type := 22, pos := "law.go:109", after := #[{ on := 0, ground := Ground.data }, { on := 3, ground := Ground.data }, { on := 6, ground := Ground.data }], guard := none }) rfl (fun Kz hK => ?_) AllReadyH.nil
  go_simp
  have HLB := Lib.hid (hHeld.out.lb r y z)
  refine hK.out _ _ (Lib.hid (hHeld.out.keep (World.grownBy_alloc _ _ none))) (fun hH2 => ?_)
  clear hK Kz hHeld
  have hHeld := hH2
  clear hH2
  (try simp only [Act.put, List.setIfInBounds_toArray, List.set_cons_zero, List.set_cons_succ])
  refine wpAnyH_take (i := 8) (oi := { dst := some 8, op := Op.assign (Operand.tmp 32), type := 22, pos := "law.go:109", after := #[{ on := 7, ground := Ground.data }, { on := 6, ground := Ground.chain }, { on := 0, ground := Ground.phase }, { on := 1, ground := Ground.phase }, { on := 2, ground := Ground.phase }, { on := 3, ground := Ground.phase }, { on := 4, ground := Ground.phase }, { on := 5, ground := Ground.phase }, { on := 6, ground := Ground.phase }, { on := 7, ground := Ground.phase }], guard := none }) (v := ?_) rfl (by kernel_rfl) (by kernel_rfl) (by kernel_rfl) (fun _ _ _ h => h) (Or.inl ⟨by rfl, ?_⟩) hHeld ?_
  rotate_left 1
  · intro u hSu
    obtain ⟨t0u, t1u⟩ := row_cells hSu.out.gx.bT
    go_simp
    first | done | with_reducible rfl
  (try simp only [Act.put, List.setIfInBounds_toArray, List.set_cons_zero, List.set_cons_succ])
  refine wpAnyH_done (by kernel_rfl) ?_ _
  clear hHeld H7
  generalize World.alloc _ _ = w9 at *
  obtain ⟨D, hD⟩ : ∃ D, wr.heap.size = D := ⟨_, rfl⟩
  rw [hD] at HLB ⊢
  clear hD
  generalize D + 1 = Z at *
  have HI : Hid (okT R L0 = true → ∀ k, k < 3 → I64 (if k = 0 then r else if k = 1 then y else z)) := Lib.hid (fun hok k hk => by
    rcases k with _ | _ | _ | k
    · exact HR0.out
    · exact Hy.out hok
    · exact Hz.out hok
    · omega)
  clear Hy Hz
  go_wp2_with fail
  go_loopw [9] (fun v wr => ∃ k : Nat, k ≤ 3 ∧ v = .int .i64 (k : Int) ∧ Hid (LB w ⟨R, L0, pR, cR, pL, cL⟩ sub len E pE cE B C D Z r y z wr)) (fun v _ => 3 - (RowKit.intOf v).toNat)
  case atStart => exact ⟨0, by omega, rfl, HLB⟩
  case round =>
  clear HLB
  obtain ⟨k, hk, rfl, K⟩ := hrel
  obtain ⟨w5, hw5⟩ : ∃ w5, w5 = wr := ⟨_, rfl⟩
  rw [← hw5] at K ⊢
  clear hw5
  by_cases hlt : k < 3
  case neg =>
    obtain rfl : k = 3 := by omega
    go_wp2_with fail
    refine (awk11_any w5).mono ?_
    rintro e w6 ⟨rfl, hg⟩
    have G := Lib.hid (grown_trans K.out.gr hg)
    clear hg K
    simp only
    go_wp2_with fail
    go_ret
    exact ⟨rfl, G.out⟩
  have hlt' : (k : Int) < 3 := by omega
  have hk0 : (0 : Int) ≤ (k : Int) := by omega
  obtain ⟨ro, hro⟩ : ∃ ro, (if k = 0 then r else if k = 1 then y else z) = ro := ⟨_, rfl⟩
  have HC : Hid (∀ u, LB w ⟨R, L0, pR, cR, pL, cL⟩ sub len E pE cE B C D Z r y z u → u.cell? ⟨D, k, none⟩ = some (.int .i64 ro)) := Lib.hid (fun u h => by rw [h.cell k hlt, hro])
  have HRO : Hid (okT R L0 = true → I64 ro) := Lib.hid (fun hok => by rw [← hro]; exact HI.out hok k hlt)
  clear hro
  go_upto_region 10 with fail
  go_cut [10, 11] from 39 to 48 (fun u v wx => ∃ (g Z1 : Nat) (r1 s1 n1 : Int) (L : List Rw) (p : Option Addr) (c : Nat) (er : Int), u = .pointer (some ⟨g, 0, none⟩) ∧ v = .int .i64 er ∧ Hid (er = buE R L0 sub len E ro ∧ ResB R L0 ro sub len E er r1 s1 n1 L) ∧ Hid (LB w ⟨R, L0, pR, cR, pL, cL⟩ sub len E pE cE B C D Z r y z wx ∧ BG g Z1 r1 s1 n1 p c L wx))
  case first =>
    refine region_until2 (S := fun w' => Hid (LB w ⟨R, L0, pR, cR, pL, cL⟩ sub len E pE cE B C D Z r y z w')) (fun j => j == 11 || j == 12) (by kernel_rfl) (Lib.hid (K.out.keep (grown_drew (grown_refl _ none)))) (fun hHeld => ?_)
    refine anyV_take (i := 0) (oi := { dst := some 40, op := Op.load 45 (Operand.tmp 6), type := 45, pos := "law.go:111", after := #[], guard := none }) (v := ?_) rfl (by kernel_rfl) (by kernel_rfl) (by kernel_rfl) (by kernel_rfl) (by kernel_rfl) (fun _ _ _ h => h) (Or.inl ⟨by rfl, ?_⟩) hHeld ?_
    rotate_left 1
    · intro u hSu
      obtain ⟨t0u, t1u⟩ := row_cells hSu.out.bT
      obtain ⟨q0u, q1u, q2u⟩ := row3B hSu.out.bP
      have a0u := HC.out u hSu.out
      go_simp
      first | done | with_reducible rfl
    (try simp only [Act.put, List.setIfInBounds_toArray, List.set_cons_zero, List.set_cons_succ])
    refine anyV_take (i := 1) (oi := { dst := some 41, op := Op.load 48 (Operand.tmp 7), type := 48, pos := "law.go:111", after := #[], guard := none }) (v := ?_) rfl (by kernel_rfl) (by kernel_rfl) (by kernel_rfl) (by kernel_rfl) (by kernel_rfl) (fun _ _ _ h => h) (Or.inl ⟨by rfl, ?_⟩) hHeld ?_
    rotate_left 1
    · intro u hSu
      obtain ⟨t0u, t1u⟩ := row_cells hSu.out.bT
      obtain ⟨q0u, q1u, q2u⟩ := row3B hSu.out.bP
      have a0u := HC.out u hSu.out
      go_simp
      first | done | with_reducible rfl
    (try simp only [Act.put, List.setIfInBounds_toArray, List.set_cons_zero, List.set_cons_succ])
    refine anyV_take (i := 2) (oi := { dst := some 42, op := Op.move (Operand.tmp 8), type := 22, pos := "law.go:111", after := #[], guard := none }) (v := ?_) rfl (by kernel_rfl) (by kernel_rfl) (by kernel_rfl) (by kernel_rfl) (by kernel_rfl) (fun _ _ _ h => h) (Or.inl ⟨by rfl, ?_⟩) hHeld ?_
    rotate_left 1
    · intro u hSu
      obtain ⟨t0u, t1u⟩ := row_cells hSu.out.bT
      obtain ⟨q0u, q1u, q2u⟩ := row3B hSu.out.bP
      have a0u := HC.out u hSu.out
      go_simp
      first | done | with_reducible rfl
    (try simp only [Act.put, List.setIfInBounds_toArray, List.set_cons_zero, List.set_cons_succ])
    refine anyV_take (i := 3) (oi := { dst := some 43, op := Op.move (Operand.tmp 9), type := 3, pos := "law.go:111", after := #[], guard := none }) (v := ?_) rfl (by kernel_rfl) (by kernel_rfl) (by kernel_rfl) (by kernel_rfl) (by kernel_rfl) (fun _ _ _ h => h) (Or.inl ⟨by rfl, ?_⟩) hHeld ?_
    rotate_left 1
    · intro u hSu
      obtain ⟨t0u, t1u⟩ := row_cells hSu.out.bT
      obtain ⟨q0u, q1u, q2u⟩ := row3B hSu.out.bP
      have a0u := HC.out u hSu.out
      go_simp
      first | done | with_reducible rfl
    (try simp only [Act.put, List.setIfInBounds_toArray, List.set_cons_zero, List.set_cons_succ])
    refine anyV_take (i := 4) (oi := { dst := some 44, op := Op.indexAddr 22 (Operand.tmp 42) (Operand.tmp 43), type := 0, pos := "law.go:111", after := #[{ on := 2, ground := Ground.data }, { on := 3, ground := Ground.data }], guard := none }) (v := ?_) rfl (by kernel_rfl) (by kernel_rfl) (by kernel_rfl) (by kernel_rfl) (by kernel_rfl) (fun _ _ _ h => h) (Or.inl ⟨by rfl, ?_⟩) hHeld ?_
    rotate_left 1
    · intro u hSu
      obtain ⟨t0u, t1u⟩ := row_cells hSu.out.bT
      obtain ⟨q0u, q1u, q2u⟩ := row3B hSu.out.bP
      have a0u := HC.out u hSu.out
      go_simp
      first | done | with_reducible rfl
    (try simp only [Act.put, List.setIfInBounds_toArray, List.set_cons_zero, List.set_cons_succ])
    refine anyV_take (i := 5) (oi := { dst := some 45, op := Op.load 3 (Operand.tmp 44), type := 3, pos := "law.go:111", after := #[{ on := 4, ground := Ground.data }], guard := none }) (v := ?_) rfl (by kernel_rfl) (by kernel_rfl) (by kernel_rfl) (by kernel_rfl) (by kernel_rfl) (fun _ _ _ h => h) (Or.inl ⟨by rfl, ?_⟩) hHeld ?_
    rotate_left 1
    · intro u hSu
      obtain ⟨t0u, t1u⟩ := row_cells hSu.out.bT
      obtain ⟨q0u, q1u, q2u⟩ := row3B hSu.out.bP
      have a0u := HC.out u hSu.out
      go_simp
      first | done | with_reducible rfl
    (try simp only [Act.put, List.setIfInBounds_toArray, List.set_cons_zero, List.set_cons_succ])
    refine anyV_ready (rs := [6, 10]) (by kernel_rfl) (by simp) ?_
    refine EachV.cons (o := { dst := some 46, op := Op.call { callee := Callee.value (Operand.func 34), args := #[Operand.tmp 40, Operand.tmp 41, Operand.tmp 45], argTypes := #[45, 48, 3] }, type := 63, pos := "law.go:111", after := #[{ on := 0, ground := Ground.data }, { on := 1, ground := Ground.data }, { on := 5, ground := Ground.data }], guard := none }) rfl (fun Kz hK => ?_) (EachV.cons (o := { dst := some 10, op := Op.alloc 25, type := 0, pos := "law.go:111", after := #[], guard := none }) rfl (fun Kz hK => ?_) EachV.nil)
    · go_simp
      go_at_call 34
      refine (tBuild_any ⟨R, L0, pR, cR, pL, cL⟩ sub len ro E pE cE _ _ _ hHeld.out.t hHeld.out.e (by have := HEL.out; omega) HGT.out.pl (Nat.le_trans HGT.out.len.2 (by decide)) HGT.out.ok (Nat.le_trans HGT.out.l60 (by decide)) HRO.out).mono ?_
      rintro e wb ⟨rr, ss, nn, L, p, c, er, rfl, her, hown, hrows, hres, hg⟩
      have HG6 := Lib.hid hg
      have HRB := Lib.hid (rdw_bld hown hrows)
      have HRS : Hid (er = buE R L0 sub len E ro ∧ ResB R L0 ro sub len E er rr ss nn L) := Lib.hid ⟨her, hres⟩
      have HN := Lib.hid (hHeld.out.keep hg)
      clear her hown hrows hres hg
      simp only
      refine hK.out _ _ (fun _ _ => HN) (fun hH2 => ?_)
      have hHeld2 := hH2 rfl hHeld
      clear hK Kz hHeld hH2
      have hHeld := hHeld2
      clear hHeld2
      (try simp only [Act.put, List.setIfInBounds_toArray, List.set_cons_zero, List.set_cons_succ])
      refine anyV_take (i := 7) (oi := { dst := some 39, op := Op.move (Operand.tmp 46), type := 63, pos := "law.go:111", after := #[{ on := 6, ground := Ground.data }], guard := none }) (v := ?_) rfl (by kernel_rfl) (by kernel_rfl) (by kernel_rfl) (by kernel_rfl) (by kernel_rfl) (fun _ _ _ h => h) (Or.inl ⟨by rfl, ?_⟩) hHeld ?_
      rotate_left 1
      · intro u hSu
        obtain ⟨t0u, t1u⟩ := row_cells hSu.out.bT
        obtain ⟨q0u, q1u, q2u⟩ := row3B hSu.out.bP
        have a0u := HC.out u hSu.out
        go_simp
        first | done | with_reducible rfl
      (try simp only [Act.put, List.setIfInBounds_toArray, List.set_cons_zero, List.set_cons_succ])
      refine anyV_take (i := 8) (oi := { dst := some 47, op := Op.extract (Operand.tmp 39) 0, type := 25, pos := "law.go:111", after := #[{ on := 7, ground := Ground.data }], guard := none }) (v := ?_) rfl (by kernel_rfl) (by kernel_rfl) (by kernel_rfl) (by kernel_rfl) (by kernel_rfl) (fun _ _ _ h => h) (Or.inl ⟨by rfl, ?_⟩) hHeld ?_
      rotate_left 1
      · intro u hSu
        obtain ⟨t0u, t1u⟩ := row_cells hSu.out.bT
        obtain ⟨q0u, q1u, q2u⟩ := row3B hSu.out.bP
        have a0u := HC.out u hSu.out
        go_simp
        first | done | with_reducible rfl
      (try simp only [Act.put, List.setIfInBounds_toArray, List.set_cons_zero, List.set_cons_succ])
      refine anyV_ready (rs := [9, 10]) (by kernel_rfl) (by simp) ?_
      refine EachV.cons (o := { dst := some 48, op := Op.extract (Operand.tmp 39) 1, type := 31, pos := "law.go:111", after := #[{ on := 7, ground := Ground.data }, { on := 11, ground := Ground.gcOnly Departure.lateStores }], guard := none }) rfl (fun Kz hK => ?_) (EachV.cons (o := { dst := some 10, op := Op.alloc 25, type := 0, pos := "law.go:111", after := #[], guard := none }) rfl (fun Kz hK => ?_) EachV.nil)
      · go_simp
        refine hK.out _ _ (fun _ h => h) (fun _ => ?_)
        clear hK Kz
        (try simp only [Act.put, List.setIfInBounds_toArray, List.set_cons_zero, List.set_cons_succ])
        refine anyV_ready (rs := [10]) (by kernel_rfl) (by simp) ?_
        refine EachV.cons (o := { dst := some 10, op := Op.alloc 25, type := 0, pos := "law.go:111", after := #[], guard := none }) rfl (fun Kz hK => ?_) EachV.nil
        go_simp
        have HLO := Lib.hid hHeld.out.lo0
        have HS0 := Lib.hid hHeld.out
        refine hK.out _ _ (fun _ _ => Lib.hid (hHeld.out.keep (World.grownBy_alloc _ _ none))) (fun hH2 => ?_)
        have hHeld2 := hH2 rfl hHeld
        clear hK Kz hHeld hH2
        have hHeld := hHeld2
        clear hHeld2
        (try simp only [Act.put, List.setIfInBounds_toArray, List.set_cons_zero, List.set_cons_succ])
        refine anyV_ready (rs := [11]) (by kernel_rfl) (by simp) ?_
        refine EachV.cons (o := { dst := none, op := Op.store 25 (Operand.tmp 10) (Operand.tmp 47), type := 0, pos := "law.go:111", after := #[{ on := 10, ground := Ground.data }, { on := 8, ground := Ground.data }, { on := 6, ground := Ground.chain }, { on := 0, ground := Ground.phase }, { on := 1, ground := Ground.phase }, { on := 2, ground := Ground.phase }, { on := 3, ground := Ground.phase }, { on := 4, ground := Ground.phase }, { on := 5, ground := Ground.phase }, { on := 6, ground := Ground.phase }, { on := 7, ground := Ground.phase }, { on := 8, ground := Ground.phase }, { on := 9, ground := Ground.textOnly Departure.lateStores }, { on := 10, ground := Ground.phase }], guard := none }) rfl (fun Kz hK => ?_) EachV.nil
        first | (have HNB := Lib.hid (nb_a HRB.out.1 HRB.out.2 HLO.out)) | (have HNB := Lib.hid (nb_b HG6.out HRB.out.1 HRB.out.2 HLO.out))
        obtain ⟨z0, z1, z2, z3⟩ := row4T HNB.out.bx
        have f0 := frozen_of_row _ _ 0 _ _ HNB.out.bx
        have f1 := frozen_of_row _ _ 1 _ _ HNB.out.bx
        have f2 := frozen_of_row _ _ 2 _ _ HNB.out.bx
        have f3 := frozen_of_row _ _ 3 _ _ HNB.out.bx
        go_simp
        have HT := Lib.hid (store4B (.int .i64 rr) (.int .i64 ss) (.int .i64 nn) (.slice p L.length c) HNB.out.bx)
        have HZL := Lib.hid hHeld.out
        refine hK.out _ _ (fun h => by cases h) (fun _ => ?_)
        clear hK Kz
        (try simp only [Act.put, List.setIfInBounds_toArray, List.set_cons_zero, List.set_cons_succ])
        refine anyV_ready (rs := [12]) (by kernel_rfl) (by simp) ?_
        refine EachV.cons (o := { dst := some 11, op := Op.assign (Operand.tmp 48), type := 31, pos := "law.go:111", after := #[{ on := 9, ground := Ground.data }, { on := 11, ground := Ground.chain }, { on := 0, ground := Ground.phase }, { on := 1, ground := Ground.phase }, { on := 2, ground := Ground.phase }, { on := 3, ground := Ground.phase }, { on := 4, ground := Ground.phase }, { on := 5, ground := Ground.phase }, { on := 6, ground := Ground.phase }, { on := 7, ground := Ground.phase }, { on := 8, ground := Ground.phase }, { on := 9, ground := Ground.phase }, { on := 10, ground := Ground.phase }, { on := 11, ground := Ground.phase }], guard := none }) rfl (fun Kz hK => ?_) EachV.nil
        go_simp
        refine hK.out _ _ (fun h => by cases h) (fun _ => ?_)
        clear hK Kz
        (try simp only [Act.put, List.setIfInBounds_toArray, List.set_cons_zero, List.set_cons_succ])
        refine anyV_done (by kernel_rfl) ?_ _
        clear z0 z1 z2 z3 f0 f1 f2 f3 hHeld
        go_wp2_with fail
        go_meet
        first
        | exact ⟨_, _, rr, ss, nn, L, p, c, er, rfl, rfl, HRS, Lib.hid (And.intro (HZL.out.put HT.out.2 (fun b hb e => by have := Option.some.inj e; have := HNB.out.lo; omega)) (HNB.out.bg HT.out.1 HT.out.2))⟩
        | exact ⟨_, _, rr, ss, nn, L, p, c, er, rfl, rfl, HRS, Lib.hid (And.intro (HS0.out.keep (World.grownBy_alloc _ _ none)) (nbg_a rr ss nn HRB.out.1 HRB.out.2))⟩
      · go_simp
        have HLO := Lib.hid hHeld.out.lo0
        have HS0 := Lib.hid hHeld.out
        refine hK.out _ _ (fun _ _ => Lib.hid (hHeld.out.keep (World.grownBy_alloc _ _ none))) (fun hH2 => ?_)
        have hHeld2 := hH2 rfl hHeld
        clear hK Kz hHeld hH2
        have hHeld := hHeld2
        clear hHeld2
        (try simp only [Act.put, List.setIfInBounds_toArray, List.set_cons_zero, List.set_cons_succ])
        refine anyV_ready (rs := [9, 11]) (by kernel_rfl) (by simp) ?_
        refine EachV.cons (o := { dst := some 48, op := Op.extract (Operand.tmp 39) 1, type := 31, pos := "law.go:111", after := #[{ on := 7, ground := Ground.data }, { on := 11, ground := Ground.gcOnly Departure.lateStores }], guard := none }) rfl (fun Kz hK => ?_) (EachV.cons (o := { dst := none, op := Op.store 25 (Operand.tmp 10) (Operand.tmp 47), type := 0, pos := "law.go:111", after := #[{ on := 10, ground := Ground.data }, { on := 8, ground := Ground.data }, { on := 6, ground := Ground.chain }, { on := 0, ground := Ground.phase }, { on := 1, ground := Ground.phase }, { on := 2, ground := Ground.phase }, { on := 3, ground := Ground.phase }, { on := 4, ground := Ground.phase }, { on := 5, ground := Ground.phase }, { on := 6, ground := Ground.phase }, { on := 7, ground := Ground.phase }, { on := 8, ground := Ground.phase }, { on := 9, ground := Ground.textOnly Departure.lateStores }, { on := 10, ground := Ground.phase }], guard := none }) rfl (fun Kz hK => ?_) EachV.nil)
        · go_simp
          refine hK.out _ _ (fun _ h => h) (fun _ => ?_)
          clear hK Kz
          (try simp only [Act.put, List.setIfInBounds_toArray, List.set_cons_zero, List.set_cons_succ])
          refine anyV_ready (rs := [11]) (by kernel_rfl) (by simp) ?_
          refine EachV.cons (o := { dst := none, op := Op.store 25 (Operand.tmp 10) (Operand.tmp 47), type := 0, pos := "law.go:111", after := #[{ on := 10, ground := Ground.data }, { on := 8, ground := Ground.data }, { on := 6, ground := Ground.chain }, { on := 0, ground := Ground.phase }, { on := 1, ground := Ground.phase }, { on := 2, ground := Ground.phase }, { on := 3, ground := Ground.phase }, { on := 4, ground := Ground.phase }, { on := 5, ground := Ground.phase }, { on := 6, ground := Ground.phase }, { on := 7, ground := Ground.phase }, { on := 8, ground := Ground.phase }, { on := 9, ground := Ground.textOnly Departure.lateStores }, { on := 10, ground := Ground.phase }], guard := none }) rfl (fun Kz hK => ?_) EachV.nil
          first | (have HNB := Lib.hid (nb_a HRB.out.1 HRB.out.2 HLO.out)) | (have HNB := Lib.hid (nb_b HG6.out HRB.out.1 HRB.out.2 HLO.out))
          obtain ⟨z0, z1, z2, z3⟩ := row4T HNB.out.bx
          have f0 := frozen_of_row _ _ 0 _ _ HNB.out.bx
          have f1 := frozen_of_row _ _ 1 _ _ HNB.out.bx
          have f2 := frozen_of_row _ _ 2 _ _ HNB.out.bx
          have f3 := frozen_of_row _ _ 3 _ _ HNB.out.bx
          go_simp
          have HT := Lib.hid (store4B (.int .i64 rr) (.int .i64 ss) (.int .i64 nn) (.slice p L.length c) HNB.out.bx)
          have HZL := Lib.hid hHeld.out
          refine hK.out _ _ (fun h => by cases h) (fun _ => ?_)
          clear hK Kz
          (try simp only [Act.put, List.setIfInBounds_toArray, List.set_cons_zero, List.set_cons_succ])
          refine anyV_ready (rs := [12]) (by kernel_rfl) (by simp) ?_
          refine EachV.cons (o := { dst := some 11, op := Op.assign (Operand.tmp 48), type := 31, pos := "law.go:111", after := #[{ on := 9, ground := Ground.data }, { on := 11, ground := Ground.chain }, { on := 0, ground := Ground.phase }, { on := 1, ground := Ground.phase }, { on := 2, ground := Ground.phase }, { on := 3, ground := Ground.phase }, { on := 4, ground := Ground.phase }, { on := 5, ground := Ground.phase }, { on := 6, ground := Ground.phase }, { on := 7, ground := Ground.phase }, { on := 8, ground := Ground.phase }, { on := 9, ground := Ground.phase }, { on := 10, ground := Ground.phase }, { on := 11, ground := Ground.phase }], guard := none }) rfl (fun Kz hK => ?_) EachV.nil
          go_simp
          refine hK.out _ _ (fun h => by cases h) (fun _ => ?_)
          clear hK Kz
          (try simp only [Act.put, List.setIfInBounds_toArray, List.set_cons_zero, List.set_cons_succ])
          refine anyV_done (by kernel_rfl) ?_ _
          clear z0 z1 z2 z3 f0 f1 f2 f3 hHeld
          go_wp2_with fail
          go_meet
          first
          | exact ⟨_, _, rr, ss, nn, L, p, c, er, rfl, rfl, HRS, Lib.hid (And.intro (HZL.out.put HT.out.2 (fun b hb e => by have := Option.some.inj e; have := HNB.out.lo; omega)) (HNB.out.bg HT.out.1 HT.out.2))⟩
          | exact ⟨_, _, rr, ss, nn, L, p, c, er, rfl, rfl, HRS, Lib.hid (And.intro (HS0.out.keep (World.grownBy_alloc _ _ none)) (nbg_a rr ss nn HRB.out.1 HRB.out.2))⟩
        · first | (have HNB := Lib.hid (nb_a HRB.out.1 HRB.out.2 HLO.out)) | (have HNB := Lib.hid (nb_b HG6.out HRB.out.1 HRB.out.2 HLO.out))
          obtain ⟨z0, z1, z2, z3⟩ := row4T HNB.out.bx
          have f0 := frozen_of_row _ _ 0 _ _ HNB.out.bx
          have f1 := frozen_of_row _ _ 1 _ _ HNB.out.bx
          have f2 := frozen_of_row _ _ 2 _ _ HNB.out.bx
          have f3 := frozen_of_row _ _ 3 _ _ HNB.out.bx
          go_simp
          have HT := Lib.hid (store4B (.int .i64 rr) (.int .i64 ss) (.int .i64 nn) (.slice p L.length c) HNB.out.bx)
          have HZL := Lib.hid hHeld.out
          refine hK.out _ _ (fun h => by cases h) (fun _ => ?_)
          clear hK Kz
          (try simp only [Act.put, List.setIfInBounds_toArray, List.set_cons_zero, List.set_cons_succ])
          refine anyV_ready (rs := [9]) (by kernel_rfl) (by simp) ?_
          refine EachV.cons (o := { dst := some 48, op := Op.extract (Operand.tmp 39) 1, type := 31, pos := "law.go:111", after := #[{ on := 7, ground := Ground.data }, { on := 11, ground := Ground.gcOnly Departure.lateStores }], guard := none }) rfl (fun Kz hK => ?_) EachV.nil
          go_simp
          refine hK.out _ _ (fun _ h => h) (fun _ => ?_)
          clear hK Kz
          (try simp only [Act.put, List.setIfInBounds_toArray, List.set_cons_zero, List.set_cons_succ])
          refine anyV_ready (rs := [12]) (by kernel_rfl) (by simp) ?_
          refine EachV.cons (o := { dst := some 11, op := Op.assign (Operand.tmp 48), type := 31, pos := "law.go:111", after := #[{ on := 9, ground := Ground.data }, { on := 11, ground := Ground.chain }, { on := 0, ground := Ground.phase }, { on := 1, ground := Ground.phase }, { on := 2, ground := Ground.phase }, { on := 3, ground := Ground.phase }, { on := 4, ground := Ground.phase }, { on := 5, ground := Ground.phase }, { on := 6, ground := Ground.phase }, { on := 7, ground := Ground.phase }, { on := 8, ground := Ground.phase }, { on := 9, ground := Ground.phase }, { on := 10, ground := Ground.phase }, { on := 11, ground := Ground.phase }], guard := none }) rfl (fun Kz hK => ?_) EachV.nil
          go_simp
          refine hK.out _ _ (fun h => by cases h) (fun _ => ?_)
          clear hK Kz
          (try simp only [Act.put, List.setIfInBounds_toArray, List.set_cons_zero, List.set_cons_succ])
          refine anyV_done (by kernel_rfl) ?_ _
          clear z0 z1 z2 z3 f0 f1 f2 f3 hHeld
          go_wp2_with fail
          go_meet
          first
          | exact ⟨_, _, rr, ss, nn, L, p, c, er, rfl, rfl, HRS, Lib.hid (And.intro (HZL.out.put HT.out.2 (fun b hb e => by have := Option.some.inj e; have := HNB.out.lo; omega)) (HNB.out.bg HT.out.1 HT.out.2))⟩
          | exact ⟨_, _, rr, ss, nn, L, p, c, er, rfl, rfl, HRS, Lib.hid (And.intro (HS0.out.keep (World.grownBy_alloc _ _ none)) (nbg_a rr ss nn HRB.out.1 HRB.out.2))⟩
    · go_simp
      have HLO := Lib.hid hHeld.out.lo0
      have HS0 := Lib.hid hHeld.out
      refine hK.out _ _ (fun _ _ => Lib.hid (hHeld.out.keep (World.grownBy_alloc _ _ none))) (fun hH2 => ?_)
      have hHeld2 := hH2 rfl hHeld
      clear hK Kz hHeld hH2
      have hHeld := hHeld2
      clear hHeld2
      (try simp only [Act.put, List.setIfInBounds_toArray, List.set_cons_zero, List.set_cons_succ])
      refine anyV_ready (rs := [6]) (by kernel_rfl) (by simp) ?_
      refine EachV.cons (o := { dst := some 46, op := Op.call { callee := Callee.value (Operand.func 34), args := #[Operand.tmp 40, Operand.tmp 41, Operand.tmp 45], argTypes := #[45, 48, 3] }, type := 63, pos := "law.go:111", after := #[{ on := 0, ground := Ground.data }, { on := 1, ground := Ground.data }, { on := 5, ground := Ground.data }], guard := none }) rfl (fun Kz hK => ?_) EachV.nil
      go_simp
      go_at_call 34
      refine (tBuild_any ⟨R, L0, pR, cR, pL, cL⟩ sub len ro E pE cE _ _ _ hHeld.out.t hHeld.out.e (by have := HEL.out; omega) HGT.out.pl (Nat.le_trans HGT.out.len.2 (by decide)) HGT.out.ok (Nat.le_trans HGT.out.l60 (by decide)) HRO.out).mono ?_
      rintro e wb ⟨rr, ss, nn, L, p, c, er, rfl, her, hown, hrows, hres, hg⟩
      have HG6 := Lib.hid hg
      have HRB := Lib.hid (rdw_bld hown hrows)
      have HRS : Hid (er = buE R L0 sub len E ro ∧ ResB R L0 ro sub len E er rr ss nn L) := Lib.hid ⟨her, hres⟩
      have HN := Lib.hid (hHeld.out.keep hg)
      clear her hown hrows hres hg
      simp only
      refine hK.out _ _ (fun _ _ => HN) (fun hH2 => ?_)
      have hHeld2 := hH2 rfl hHeld
      clear hK Kz hHeld hH2
      have hHeld := hHeld2
      clear hHeld2
      (try simp only [Act.put, List.setIfInBounds_toArray, List.set_cons_zero, List.set_cons_succ])
      refine anyV_take (i := 7) (oi := { dst := some 39, op := Op.move (Operand.tmp 46), type := 63, pos := "law.go:111", after := #[{ on := 6, ground := Ground.data }], guard := none }) (v := ?_) rfl (by kernel_rfl) (by kernel_rfl) (by kernel_rfl) (by kernel_rfl) (by kernel_rfl) (fun _ _ _ h => h) (Or.inl ⟨by rfl, ?_⟩) hHeld ?_
      rotate_left 1
      · intro u hSu
        obtain ⟨t0u, t1u⟩ := row_cells hSu.out.bT
        obtain ⟨q0u, q1u, q2u⟩ := row3B hSu.out.bP
        have a0u := HC.out u hSu.out
        go_simp
        first | done | with_reducible rfl
      (try simp only [Act.put, List.setIfInBounds_toArray, List.set_cons_zero, List.set_cons_succ])
      refine anyV_take (i := 8) (oi := { dst := some 47, op := Op.extract (Operand.tmp 39) 0, type := 25, pos := "law.go:111", after := #[{ on := 7, ground := Ground.data }], guard := none }) (v := ?_) rfl (by kernel_rfl) (by kernel_rfl) (by kernel_rfl) (by kernel_rfl) (by kernel_rfl) (fun _ _ _ h => h) (Or.inl ⟨by rfl, ?_⟩) hHeld ?_
      rotate_left 1
      · intro u hSu
        obtain ⟨t0u, t1u⟩ := row_cells hSu.out.bT
        obtain ⟨q0u, q1u, q2u⟩ := row3B hSu.out.bP
        have a0u := HC.out u hSu.out
        go_simp
        first | done | with_reducible rfl
      (try simp only [Act.put, List.setIfInBounds_toArray, List.set_cons_zero, List.set_cons_succ])
      refine anyV_ready (rs := [9, 11]) (by kernel_rfl) (by simp) ?_
      refine EachV.cons (o := { dst := some 48, op := Op.extract (Operand.tmp 39) 1, type := 31, pos := "law.go:111", after := #[{ on := 7, ground := Ground.data }, { on := 11, ground := Ground.gcOnly Departure.lateStores }], guard := none }) rfl (fun Kz hK => ?_) (EachV.cons (o := { dst := none, op := Op.store 25 (Operand.tmp 10) (Operand.tmp 47), type := 0, pos := "law.go:111", after := #[{ on := 10, ground := Ground.data }, { on := 8, ground := Ground.data }, { on := 6, ground := Ground.chain }, { on := 0, ground := Ground.phase }, { on := 1, ground := Ground.phase }, { on := 2, ground := Ground.phase }, { on := 3, ground := Ground.phase }, { on := 4, ground := Ground.phase }, { on := 5, ground := Ground.phase }, { on := 6, ground := Ground.phase }, { on := 7, ground := Ground.phase }, { on := 8, ground := Ground.phase }, { on := 9, ground := Ground.textOnly Departure.lateStores }, { on := 10, ground := Ground.phase }], guard := none }) rfl (fun Kz hK => ?_) EachV.nil)
      · go_simp
        refine hK.out _ _ (fun _ h => h) (fun _ => ?_)
        clear hK Kz
        (try simp only [Act.put, List.setIfInBounds_toArray, List.set_cons_zero, List.set_cons_succ])
        refine anyV_ready (rs := [11]) (by kernel_rfl) (by simp) ?_
        refine EachV.cons (o := { dst := none, op := Op.store 25 (Operand.tmp 10) (Operand.tmp 47), type := 0, pos := "law.go:111", after := #[{ on := 10, ground := Ground.data }, { on := 8, ground := Ground.data }, { on := 6, ground := Ground.chain }, { on := 0, ground := Ground.phase }, { on := 1, ground := Ground.phase }, { on := 2, ground := Ground.phase }, { on := 3, ground := Ground.phase }, { on := 4, ground := Ground.phase }, { on := 5, ground := Ground.phase }, { on := 6, ground := Ground.phase }, { on := 7, ground := Ground.phase }, { on := 8, ground := Ground.phase }, { on := 9, ground := Ground.textOnly Departure.lateStores }, { on := 10, ground := Ground.phase }], guard := none }) rfl (fun Kz hK => ?_) EachV.nil
        first | (have HNB := Lib.hid (nb_a HRB.out.1 HRB.out.2 HLO.out)) | (have HNB := Lib.hid (nb_b HG6.out HRB.out.1 HRB.out.2 HLO.out))
        obtain ⟨z0, z1, z2, z3⟩ := row4T HNB.out.bx
        have f0 := frozen_of_row _ _ 0 _ _ HNB.out.bx
        have f1 := frozen_of_row _ _ 1 _ _ HNB.out.bx
        have f2 := frozen_of_row _ _ 2 _ _ HNB.out.bx
        have f3 := frozen_of_row _ _ 3 _ _ HNB.out.bx
        go_simp
        have HT := Lib.hid (store4B (.int .i64 rr) (.int .i64 ss) (.int .i64 nn) (.slice p L.length c) HNB.out.bx)
        have HZL := Lib.hid hHeld.out
        refine hK.out _ _ (fun h => by cases h) (fun _ => ?_)
        clear hK Kz
        (try simp only [Act.put, List.setIfInBounds_toArray, List.set_cons_zero, List.set_cons_succ])
        refine anyV_ready (rs := [12]) (by kernel_rfl) (by simp) ?_
        refine EachV.cons (o := { dst := some 11, op := Op.assign (Operand.tmp 48), type := 31, pos := "law.go:111", after := #[{ on := 9, ground := Ground.data }, { on := 11, ground := Ground.chain }, { on := 0, ground := Ground.phase }, { on := 1, ground := Ground.phase }, { on := 2, ground := Ground.phase }, { on := 3, ground := Ground.phase }, { on := 4, ground := Ground.phase }, { on := 5, ground := Ground.phase }, { on := 6, ground := Ground.phase }, { on := 7, ground := Ground.phase }, { on := 8, ground := Ground.phase }, { on := 9, ground := Ground.phase }, { on := 10, ground := Ground.phase }, { on := 11, ground := Ground.phase }], guard := none }) rfl (fun Kz hK => ?_) EachV.nil
        go_simp
        refine hK.out _ _ (fun h => by cases h) (fun _ => ?_)
        clear hK Kz
        (try simp only [Act.put, List.setIfInBounds_toArray, List.set_cons_zero, List.set_cons_succ])
        refine anyV_done (by kernel_rfl) ?_ _
        clear z0 z1 z2 z3 f0 f1 f2 f3 hHeld
        go_wp2_with fail
        go_meet
        first
        | exact ⟨_, _, rr, ss, nn, L, p, c, er, rfl, rfl, HRS, Lib.hid (And.intro (HZL.out.put HT.out.2 (fun b hb e => by have := Option.some.inj e; have := HNB.out.lo; omega)) (HNB.out.bg HT.out.1 HT.out.2))⟩
        | exact ⟨_, _, rr, ss, nn, L, p, c, er, rfl, rfl, HRS, Lib.hid (And.intro (HS0.out.keep (World.grownBy_alloc _ _ none)) (nbg_a rr ss nn HRB.out.1 HRB.out.2))⟩
      · first | (have HNB := Lib.hid (nb_a HRB.out.1 HRB.out.2 HLO.out)) | (have HNB := Lib.hid (nb_b HG6.out HRB.out.1 HRB.out.2 HLO.out))
        obtain ⟨z0, z1, z2, z3⟩ := row4T HNB.out.bx
        have f0 := frozen_of_row _ _ 0 _ _ HNB.out.bx
        have f1 := frozen_of_row _ _ 1 _ _ HNB.out.bx
        have f2 := frozen_of_row _ _ 2 _ _ HNB.out.bx
        have f3 := frozen_of_row _ _ 3 _ _ HNB.out.bx
        go_simp
        have HT := Lib.hid (store4B (.int .i64 rr) (.int .i64 ss) (.int .i64 nn) (.slice p L.length c) HNB.out.bx)
        have HZL := Lib.hid hHeld.out
        refine hK.out _ _ (fun h => by cases h) (fun _ => ?_)
        clear hK Kz
        (try simp only [Act.put, List.setIfInBounds_toArray, List.set_cons_zero, List.set_cons_succ])
        refine anyV_ready (rs := [9]) (by kernel_rfl) (by simp) ?_
        refine EachV.cons (o := { dst := some 48, op := Op.extract (Operand.tmp 39) 1, type := 31, pos := "law.go:111", after := #[{ on := 7, ground := Ground.data }, { on := 11, ground := Ground.gcOnly Departure.lateStores }], guard := none }) rfl (fun Kz hK => ?_) EachV.nil
        go_simp
        refine hK.out _ _ (fun _ h => h) (fun _ => ?_)
        clear hK Kz
        (try simp only [Act.put, List.setIfInBounds_toArray, List.set_cons_zero, List.set_cons_succ])
        refine anyV_ready (rs := [12]) (by kernel_rfl) (by simp) ?_
        refine EachV.cons (o := { dst := some 11, op := Op.assign (Operand.tmp 48), type := 31, pos := "law.go:111", after := #[{ on := 9, ground := Ground.data }, { on := 11, ground := Ground.chain }, { on := 0, ground := Ground.phase }, { on := 1, ground := Ground.phase }, { on := 2, ground := Ground.phase }, { on := 3, ground := Ground.phase }, { on := 4, ground := Ground.phase }, { on := 5, ground := Ground.phase }, { on := 6, ground := Ground.phase }, { on := 7, ground := Ground.phase }, { on := 8, ground := Ground.phase }, { on := 9, ground := Ground.phase }, { on := 10, ground := Ground.phase }, { on := 11, ground := Ground.phase }], guard := none }) rfl (fun Kz hK => ?_) EachV.nil
        go_simp
        refine hK.out _ _ (fun h => by cases h) (fun _ => ?_)
        clear hK Kz
        (try simp only [Act.put, List.setIfInBounds_toArray, List.set_cons_zero, List.set_cons_succ])
        refine anyV_done (by kernel_rfl) ?_ _
        clear z0 z1 z2 z3 f0 f1 f2 f3 hHeld
        go_wp2_with fail
        go_meet
        first
        | exact ⟨_, _, rr, ss, nn, L, p, c, er, rfl, rfl, HRS, Lib.hid (And.intro (HZL.out.put HT.out.2 (fun b hb e => by have := Option.some.inj e; have := HNB.out.lo; omega)) (HNB.out.bg HT.out.1 HT.out.2))⟩
        | exact ⟨_, _, rr, ss, nn, L, p, c, er, rfl, rfl, HRS, Lib.hid (And.intro (HS0.out.keep (World.grownBy_alloc _ _ none)) (nbg_a rr ss nn HRB.out.1 HRB.out.2))⟩
  case rest =>
  clear K
  obtain ⟨g1, Z1, r1, s1, n1, L1, p1, c1, er1, rfl, rfl, HE1, K⟩ := hcut
  obtain ⟨w6, hw6⟩ : ∃ w6, w6 = wc := ⟨_, rfl⟩
  rw [← hw6] at K ⊢
  clear hw6
  go_upto_region 11 with fail
  go_cut [12, 13] from 49 to 58 (fun u v wx => ∃ (g Z2 : Nat) (r2 s2 n2 : Int) (L : List Rw) (p : Option Addr) (c : Nat) (er : Int), u = .pointer (some ⟨g, 0, none⟩) ∧ v = .int .i64 er ∧ Hid (er = buE R L0 sub len E ro ∧ ResB R L0 ro sub len E er r2 s2 n2 L) ∧ Hid (LB w ⟨R, L0, pR, cR, pL, cL⟩ sub len E pE cE B C D Z r y z wx ∧ BG g1 Z1 r1 s1 n1 p1 c1 L1 wx ∧ BG g Z2 r2 s2 n2 p c L wx))
  case first =>
    refine region_until2 (S := fun w' => Hid (LB w ⟨R, L0, pR, cR, pL, cL⟩ sub len E pE cE B C D Z r y z w' ∧ BG g1 Z1 r1 s1 n1 p1 c1 L1 w')) (fun j => j == 11 || j == 12) (by kernel_rfl) (Lib.hid (And.intro (K.out.1.keep (grown_drew (grown_refl _ none))) (K.out.2.keep (grown_drew (grown_refl _ none))))) (fun hHeld => ?_)
    refine anyV_take (i := 0) (oi := { dst := some 50, op := Op.load 45 (Operand.tmp 6), type := 45, pos := "law.go:112", after := #[], guard := none }) (v := ?_) rfl (by kernel_rfl) (by kernel_rfl) (by kernel_rfl) (by kernel_rfl) (by kernel_rfl) (fun _ _ _ h => h) (Or.inl ⟨by rfl, ?_⟩) hHeld ?_
    rotate_left 1
    · intro u hSu
      obtain ⟨t0u, t1u⟩ := row_cells hSu.out.1.bT
      obtain ⟨q0u, q1u, q2u⟩ := row3B hSu.out.1.bP
      have a0u := HC.out u hSu.out.1
      go_simp
      first | done | with_reducible rfl
    (try simp only [Act.put, List.setIfInBounds_toArray, List.set_cons_zero, List.set_cons_succ])
    refine anyV_take (i := 1) (oi := { dst := some 51, op := Op.load 48 (Operand.tmp 7), type := 48, pos := "law.go:112", after := #[], guard := none }) (v := ?_) rfl (by kernel_rfl) (by kernel_rfl) (by kernel_rfl) (by kernel_rfl) (by kernel_rfl) (fun _ _ _ h => h) (Or.inl ⟨by rfl, ?_⟩) hHeld ?_
    rotate_left 1
    · intro u hSu
      obtain ⟨t0u, t1u⟩ := row_cells hSu.out.1.bT
      obtain ⟨q0u, q1u, q2u⟩ := row3B hSu.out.1.bP
      have a0u := HC.out u hSu.out.1
      go_simp
      first | done | with_reducible rfl
    (try simp only [Act.put, List.setIfInBounds_toArray, List.set_cons_zero, List.set_cons_succ])
    refine anyV_take (i := 2) (oi := { dst := some 52, op := Op.move (Operand.tmp 8), type := 22, pos := "law.go:112", after := #[], guard := none }) (v := ?_) rfl (by kernel_rfl) (by kernel_rfl) (by kernel_rfl) (by kernel_rfl) (by kernel_rfl) (fun _ _ _ h => h) (Or.inl ⟨by rfl, ?_⟩) hHeld ?_
    rotate_left 1
    · intro u hSu
      obtain ⟨t0u, t1u⟩ := row_cells hSu.out.1.bT
      obtain ⟨q0u, q1u, q2u⟩ := row3B hSu.out.1.bP
      have a0u := HC.out u hSu.out.1
      go_simp
      first | done | with_reducible rfl
    (try simp only [Act.put, List.setIfInBounds_toArray, List.set_cons_zero, List.set_cons_succ])
    refine anyV_take (i := 3) (oi := { dst := some 53, op := Op.move (Operand.tmp 9), type := 3, pos := "law.go:112", after := #[], guard := none }) (v := ?_) rfl (by kernel_rfl) (by kernel_rfl) (by kernel_rfl) (by kernel_rfl) (by kernel_rfl) (fun _ _ _ h => h) (Or.inl ⟨by rfl, ?_⟩) hHeld ?_
    rotate_left 1
    · intro u hSu
      obtain ⟨t0u, t1u⟩ := row_cells hSu.out.1.bT
      obtain ⟨q0u, q1u, q2u⟩ := row3B hSu.out.1.bP
      have a0u := HC.out u hSu.out.1
      go_simp
      first | done | with_reducible rfl
    (try simp only [Act.put, List.setIfInBounds_toArray, List.set_cons_zero, List.set_cons_succ])
    refine anyV_take (i := 4) (oi := { dst := some 54, op := Op.indexAddr 22 (Operand.tmp 52) (Operand.tmp 53), type := 0, pos := "law.go:112", after := #[{ on := 2, ground := Ground.data }, { on := 3, ground := Ground.data }], guard := none }) (v := ?_) rfl (by kernel_rfl) (by kernel_rfl) (by kernel_rfl) (by kernel_rfl) (by kernel_rfl) (fun _ _ _ h => h) (Or.inl ⟨by rfl, ?_⟩) hHeld ?_
    rotate_left 1
    · intro u hSu
      obtain ⟨t0u, t1u⟩ := row_cells hSu.out.1.bT
      obtain ⟨q0u, q1u, q2u⟩ := row3B hSu.out.1.bP
      have a0u := HC.out u hSu.out.1
      go_simp
      first | done | with_reducible rfl
    (try simp only [Act.put, List.setIfInBounds_toArray, List.set_cons_zero, List.set_cons_succ])
    refine anyV_take (i := 5) (oi := { dst := some 55, op := Op.load 3 (Operand.tmp 54), type := 3, pos := "law.go:112", after := #[{ on := 4, ground := Ground.data }], guard := none }) (v := ?_) rfl (by kernel_rfl) (by kernel_rfl) (by kernel_rfl) (by kernel_rfl) (by kernel_rfl) (fun _ _ _ h => h) (Or.inl ⟨by rfl, ?_⟩) hHeld ?_
    rotate_left 1
    · intro u hSu
      obtain ⟨t0u, t1u⟩ := row_cells hSu.out.1.bT
      obtain ⟨q0u, q1u, q2u⟩ := row3B hSu.out.1.bP
      have a0u := HC.out u hSu.out.1
      go_simp
      first | done | with_reducible rfl
    (try simp only [Act.put, List.setIfInBounds_toArray, List.set_cons_zero, List.set_cons_succ])
    refine anyV_ready (rs := [6, 10]) (by kernel_rfl) (by simp) ?_
    refine EachV.cons (o := { dst := some 56, op := Op.call { callee := Callee.value (Operand.func 35), args := #[Operand.tmp 50, Operand.tmp 51, Operand.tmp 55], argTypes := #[45, 48, 3] }, type := 63, pos := "law.go:112", after := #[{ on := 0, ground := Ground.data }, { on := 1, ground := Ground.data }, { on := 5, ground := Ground.data }], guard := none }) rfl (fun Kz hK => ?_) (EachV.cons (o := { dst := some 12, op := Op.alloc 25, type := 0, pos := "law.go:112", after := #[], guard := none }) rfl (fun Kz hK => ?_) EachV.nil)
    · go_simp
      go_at_call 35
      refine (rBuild11_any ⟨R, L0, pR, cR, pL, cL⟩ sub len ro E pE cE _ _ _ hHeld.out.1.t hHeld.out.1.e (by have := HEL.out; omega)).mono ?_
      rintro e wb ⟨rr, ss, nn, L, p, c, er, rfl, her, hown, hrows, hres, hg⟩
      have HG6 := Lib.hid hg
      have HRB := Lib.hid (rdw_bld hown hrows)
      have HRS : Hid (er = buE R L0 sub len E ro ∧ ResB R L0 ro sub len E er rr ss nn L) := Lib.hid ⟨her, hres⟩
      have HN := Lib.hid (And.intro (hHeld.out.1.keep hg) (hHeld.out.2.keep hg))
      clear her hown hrows hres hg
      simp only
      refine hK.out _ _ (fun _ _ => HN) (fun hH2 => ?_)
      have hHeld2 := hH2 rfl hHeld
      clear hK Kz hHeld hH2
      have hHeld := hHeld2
      clear hHeld2
      (try simp only [Act.put, List.setIfInBounds_toArray, List.set_cons_zero, List.set_cons_succ])
      refine anyV_take (i := 7) (oi := { dst := some 49, op := Op.move (Operand.tmp 56), type := 63, pos := "law.go:112", after := #[{ on := 6, ground := Ground.data }], guard := none }) (v := ?_) rfl (by kernel_rfl) (by kernel_rfl) (by kernel_rfl) (by kernel_rfl) (by kernel_rfl) (fun _ _ _ h => h) (Or.inl ⟨by rfl, ?_⟩) hHeld ?_
      rotate_left 1
      · intro u hSu
        obtain ⟨t0u, t1u⟩ := row_cells hSu.out.1.bT
        obtain ⟨q0u, q1u, q2u⟩ := row3B hSu.out.1.bP
        have a0u := HC.out u hSu.out.1
        go_simp
        first | done | with_reducible rfl
      (try simp only [Act.put, List.setIfInBounds_toArray, List.set_cons_zero, List.set_cons_succ])
      refine anyV_take (i := 8) (oi := { dst := some 57, op := Op.extract (Operand.tmp 49) 0, type := 25, pos := "law.go:112", after := #[{ on := 7, ground := Ground.data }], guard := none }) (v := ?_) rfl (by kernel_rfl) (by kernel_rfl) (by kernel_rfl) (by kernel_rfl) (by kernel_rfl) (fun _ _ _ h => h) (Or.inl ⟨by rfl, ?_⟩) hHeld ?_
      rotate_left 1
      · intro u hSu
        obtain ⟨t0u, t1u⟩ := row_cells hSu.out.1.bT
        obtain ⟨q0u, q1u, q2u⟩ := row3B hSu.out.1.bP
        have a0u := HC.out u hSu.out.1
        go_simp
        first | done | with_reducible rfl
      (try simp only [Act.put, List.setIfInBounds_toArray, List.set_cons_zero, List.set_cons_succ])
      refine anyV_ready (rs := [9, 10]) (by kernel_rfl) (by simp) ?_
      refine EachV.cons (o := { dst := some 58, op := Op.extract (Operand.tmp 49) 1, type := 31, pos := "law.go:112", after := #[{ on := 7, ground := Ground.data }, { on := 11, ground := Ground.gcOnly Departure.lateStores }], guard := none }) rfl (fun Kz hK => ?_) (EachV.cons (o := { dst := some 12, op := Op.alloc 25, type := 0, pos := "law.go:112", after := #[], guard := none }) rfl (fun Kz hK => ?_) EachV.nil)
      · go_simp
        refine hK.out _ _ (fun _ h => h) (fun _ => ?_)
        clear hK Kz
        (try simp only [Act.put, List.setIfInBounds_toArray, List.set_cons_zero, List.set_cons_succ])
        refine anyV_ready (rs := [10]) (by kernel_rfl) (by simp) ?_
        refine EachV.cons (o := { dst := some 12, op := Op.alloc 25, type := 0, pos := "law.go:112", after := #[], guard := none }) rfl (fun Kz hK => ?_) EachV.nil
        go_simp
        have HLO := Lib.hid (And.intro hHeld.out.1.lo.2.2.2.2 hHeld.out.2.lo.2)
        have HS0 := Lib.hid hHeld.out
        refine hK.out _ _ (fun _ _ => Lib.hid (And.intro (hHeld.out.1.keep (World.grownBy_alloc _ _ none)) (hHeld.out.2.keep (World.grownBy_alloc _ _ none)))) (fun hH2 => ?_)
        have hHeld2 := hH2 rfl hHeld
        clear hK Kz hHeld hH2
        have hHeld := hHeld2
        clear hHeld2
        (try simp only [Act.put, List.setIfInBounds_toArray, List.set_cons_zero, List.set_cons_succ])
        refine anyV_ready (rs := [11]) (by kernel_rfl) (by simp) ?_
        refine EachV.cons (o := { dst := none, op := Op.store 25 (Operand.tmp 12) (Operand.tmp 57), type := 0, pos := "law.go:112", after := #[{ on := 10, ground := Ground.data }, { on := 8, ground := Ground.data }, { on := 6, ground := Ground.chain }, { on := 0, ground := Ground.phase }, { on := 1, ground := Ground.phase }, { on := 2, ground := Ground.phase }, { on := 3, ground := Ground.phase }, { on := 4, ground := Ground.phase }, { on := 5, ground := Ground.phase }, { on := 6, ground := Ground.phase }, { on := 7, ground := Ground.phase }, { on := 8, ground := Ground.phase }, { on := 9, ground := Ground.textOnly Departure.lateStores }, { on := 10, ground := Ground.phase }], guard := none }) rfl (fun Kz hK => ?_) EachV.nil
        first | (have HNB := Lib.hid (nb_a HRB.out.1 HRB.out.2 HLO.out)) | (have HNB := Lib.hid (nb_b HG6.out HRB.out.1 HRB.out.2 HLO.out))
        obtain ⟨z0, z1, z2, z3⟩ := row4T HNB.out.bx
        have f0 := frozen_of_row _ _ 0 _ _ HNB.out.bx
        have f1 := frozen_of_row _ _ 1 _ _ HNB.out.bx
        have f2 := frozen_of_row _ _ 2 _ _ HNB.out.bx
        have f3 := frozen_of_row _ _ 3 _ _ HNB.out.bx
        go_simp
        have HT := Lib.hid (store4B (.int .i64 rr) (.int .i64 ss) (.int .i64 nn) (.slice p L.length c) HNB.out.bx)
        have HZL := Lib.hid hHeld.out
        refine hK.out _ _ (fun h => by cases h) (fun _ => ?_)
        clear hK Kz
        (try simp only [Act.put, List.setIfInBounds_toArray, List.set_cons_zero, List.set_cons_succ])
        refine anyV_ready (rs := [12]) (by kernel_rfl) (by simp) ?_
        refine EachV.cons (o := { dst := some 13, op := Op.assign (Operand.tmp 58), type := 31, pos := "law.go:112", after := #[{ on := 9, ground := Ground.data }, { on := 11, ground := Ground.chain }, { on := 0, ground := Ground.phase }, { on := 1, ground := Ground.phase }, { on := 2, ground := Ground.phase }, { on := 3, ground := Ground.phase }, { on := 4, ground := Ground.phase }, { on := 5, ground := Ground.phase }, { on := 6, ground := Ground.phase }, { on := 7, ground := Ground.phase }, { on := 8, ground := Ground.phase }, { on := 9, ground := Ground.phase }, { on := 10, ground := Ground.phase }, { on := 11, ground := Ground.phase }], guard := none }) rfl (fun Kz hK => ?_) EachV.nil
        go_simp
        refine hK.out _ _ (fun h => by cases h) (fun _ => ?_)
        clear hK Kz
        (try simp only [Act.put, List.setIfInBounds_toArray, List.set_cons_zero, List.set_cons_succ])
        refine anyV_done (by kernel_rfl) ?_ _
        clear z0 z1 z2 z3 f0 f1 f2 f3 hHeld
        go_wp2_with fail
        go_meet
        first
        | exact ⟨_, _, rr, ss, nn, L, p, c, er, rfl, rfl, HRS, Lib.hid (And.intro (HZL.out.1.put HT.out.2 (fun b hb e => by have := Option.some.inj e; have := HNB.out.lo; omega)) (And.intro (HZL.out.2.put HT.out.2 (fun b hb e => by have := Option.some.inj e; have := HNB.out.lo; omega)) (HNB.out.bg HT.out.1 HT.out.2)))⟩
        | exact ⟨_, _, rr, ss, nn, L, p, c, er, rfl, rfl, HRS, Lib.hid (And.intro (HS0.out.1.keep (World.grownBy_alloc _ _ none)) (And.intro (HS0.out.2.keep (World.grownBy_alloc _ _ none)) (nbg_a rr ss nn HRB.out.1 HRB.out.2)))⟩
      · go_simp
        have HLO := Lib.hid (And.intro hHeld.out.1.lo.2.2.2.2 hHeld.out.2.lo.2)
        have HS0 := Lib.hid hHeld.out
        refine hK.out _ _ (fun _ _ => Lib.hid (And.intro (hHeld.out.1.keep (World.grownBy_alloc _ _ none)) (hHeld.out.2.keep (World.grownBy_alloc _ _ none)))) (fun hH2 => ?_)
        have hHeld2 := hH2 rfl hHeld
        clear hK Kz hHeld hH2
        have hHeld := hHeld2
        clear hHeld2
        (try simp only [Act.put, List.setIfInBounds_toArray, List.set_cons_zero, List.set_cons_succ])
        refine anyV_ready (rs := [9, 11]) (by kernel_rfl) (by simp) ?_
        refine EachV.cons (o := { dst := some 58, op := Op.extract (Operand.tmp 49) 1, type := 31, pos := "law.go:112", after := #[{ on := 7, ground := Ground.data }, { on := 11, ground := Ground.gcOnly Departure.lateStores }], guard := none }) rfl (fun Kz hK => ?_) (EachV.cons (o := { dst := none, op := Op.store 25 (Operand.tmp 12) (Operand.tmp 57), type := 0, pos := "law.go:112", after := #[{ on := 10, ground := Ground.data }, { on := 8, ground := Ground.data }, { on := 6, ground := Ground.chain }, { on := 0, ground := Ground.phase }, { on := 1, ground := Ground.phase }, { on := 2, ground := Ground.phase }, { on := 3, ground := Ground.phase }, { on := 4, ground := Ground.phase }, { on := 5, ground := Ground.phase }, { on := 6, ground := Ground.phase }, { on := 7, ground := Ground.phase }, { on := 8, ground := Ground.phase }, { on := 9, ground := Ground.textOnly Departure.lateStores }, { on := 10, ground := Ground.phase }], guard := none }) rfl (fun Kz hK => ?_) EachV.nil)
        · go_simp
          refine hK.out _ _ (fun _ h => h) (fun _ => ?_)
          clear hK Kz
          (try simp only [Act.put, List.setIfInBounds_toArray, List.set_cons_zero, List.set_cons_succ])
          refine anyV_ready (rs := [11]) (by kernel_rfl) (by simp) ?_
          refine EachV.cons (o := { dst := none, op := Op.store 25 (Operand.tmp 12) (Operand.tmp 57), type := 0, pos := "law.go:112", after := #[{ on := 10, ground := Ground.data }, { on := 8, ground := Ground.data }, { on := 6, ground := Ground.chain }, { on := 0, ground := Ground.phase }, { on := 1, ground := Ground.phase }, { on := 2, ground := Ground.phase }, { on := 3, ground := Ground.phase }, { on := 4, ground := Ground.phase }, { on := 5, ground := Ground.phase }, { on := 6, ground := Ground.phase }, { on := 7, ground := Ground.phase }, { on := 8, ground := Ground.phase }, { on := 9, ground := Ground.textOnly Departure.lateStores }, { on := 10, ground := Ground.phase }], guard := none }) rfl (fun Kz hK => ?_) EachV.nil
          first | (have HNB := Lib.hid (nb_a HRB.out.1 HRB.out.2 HLO.out)) | (have HNB := Lib.hid (nb_b HG6.out HRB.out.1 HRB.out.2 HLO.out))
          obtain ⟨z0, z1, z2, z3⟩ := row4T HNB.out.bx
          have f0 := frozen_of_row _ _ 0 _ _ HNB.out.bx
          have f1 := frozen_of_row _ _ 1 _ _ HNB.out.bx
          have f2 := frozen_of_row _ _ 2 _ _ HNB.out.bx
          have f3 := frozen_of_row _ _ 3 _ _ HNB.out.bx
          go_simp
          have HT := Lib.hid (store4B (.int .i64 rr) (.int .i64 ss) (.int .i64 nn) (.slice p L.length c) HNB.out.bx)
          have HZL := Lib.hid hHeld.out
          refine hK.out _ _ (fun h => by cases h) (fun _ => ?_)
          clear hK Kz
          (try simp only [Act.put, List.setIfInBounds_toArray, List.set_cons_zero, List.set_cons_succ])
          refine anyV_ready (rs := [12]) (by kernel_rfl) (by simp) ?_
          refine EachV.cons (o := { dst := some 13, op := Op.assign (Operand.tmp 58), type := 31, pos := "law.go:112", after := #[{ on := 9, ground := Ground.data }, { on := 11, ground := Ground.chain }, { on := 0, ground := Ground.phase }, { on := 1, ground := Ground.phase }, { on := 2, ground := Ground.phase }, { on := 3, ground := Ground.phase }, { on := 4, ground := Ground.phase }, { on := 5, ground := Ground.phase }, { on := 6, ground := Ground.phase }, { on := 7, ground := Ground.phase }, { on := 8, ground := Ground.phase }, { on := 9, ground := Ground.phase }, { on := 10, ground := Ground.phase }, { on := 11, ground := Ground.phase }], guard := none }) rfl (fun Kz hK => ?_) EachV.nil
          go_simp
          refine hK.out _ _ (fun h => by cases h) (fun _ => ?_)
          clear hK Kz
          (try simp only [Act.put, List.setIfInBounds_toArray, List.set_cons_zero, List.set_cons_succ])
          refine anyV_done (by kernel_rfl) ?_ _
          clear z0 z1 z2 z3 f0 f1 f2 f3 hHeld
          go_wp2_with fail
          go_meet
          first
          | exact ⟨_, _, rr, ss, nn, L, p, c, er, rfl, rfl, HRS, Lib.hid (And.intro (HZL.out.1.put HT.out.2 (fun b hb e => by have := Option.some.inj e; have := HNB.out.lo; omega)) (And.intro (HZL.out.2.put HT.out.2 (fun b hb e => by have := Option.some.inj e; have := HNB.out.lo; omega)) (HNB.out.bg HT.out.1 HT.out.2)))⟩
          | exact ⟨_, _, rr, ss, nn, L, p, c, er, rfl, rfl, HRS, Lib.hid (And.intro (HS0.out.1.keep (World.grownBy_alloc _ _ none)) (And.intro (HS0.out.2.keep (World.grownBy_alloc _ _ none)) (nbg_a rr ss nn HRB.out.1 HRB.out.2)))⟩
        · first | (have HNB := Lib.hid (nb_a HRB.out.1 HRB.out.2 HLO.out)) | (have HNB := Lib.hid (nb_b HG6.out HRB.out.1 HRB.out.2 HLO.out))
          obtain ⟨z0, z1, z2, z3⟩ := row4T HNB.out.bx
          have f0 := frozen_of_row _ _ 0 _ _ HNB.out.bx
          have f1 := frozen_of_row _ _ 1 _ _ HNB.out.bx
          have f2 := frozen_of_row _ _ 2 _ _ HNB.out.bx
          have f3 := frozen_of_row _ _ 3 _ _ HNB.out.bx
          go_simp
          have HT := Lib.hid (store4B (.int .i64 rr) (.int .i64 ss) (.int .i64 nn) (.slice p L.length c) HNB.out.bx)
          have HZL := Lib.hid hHeld.out
          refine hK.out _ _ (fun h => by cases h) (fun _ => ?_)
          clear hK Kz
          (try simp only [Act.put, List.setIfInBounds_toArray, List.set_cons_zero, List.set_cons_succ])
          refine anyV_ready (rs := [9]) (by kernel_rfl) (by simp) ?_
          refine EachV.cons (o := { dst := some 58, op := Op.extract (Operand.tmp 49) 1, type := 31, pos := "law.go:112", after := #[{ on := 7, ground := Ground.data }, { on := 11, ground := Ground.gcOnly Departure.lateStores }], guard := none }) rfl (fun Kz hK => ?_) EachV.nil
          go_simp
          refine hK.out _ _ (fun _ h => h) (fun _ => ?_)
          clear hK Kz
          (try simp only [Act.put, List.setIfInBounds_toArray, List.set_cons_zero, List.set_cons_succ])
          refine anyV_ready (rs := [12]) (by kernel_rfl) (by simp) ?_
          refine EachV.cons (o := { dst := some 13, op := Op.assign (Operand.tmp 58), type := 31, pos := "law.go:112", after := #[{ on := 9, ground := Ground.data }, { on := 11, ground := Ground.chain }, { on := 0, ground := Ground.phase }, { on := 1, ground := Ground.phase }, { on := 2, ground := Ground.phase }, { on := 3, ground := Ground.phase }, { on := 4, ground := Ground.phase }, { on := 5, ground := Ground.phase }, { on := 6, ground := Ground.phase }, { on := 7, ground := Ground.phase }, { on := 8, ground := Ground.phase }, { on := 9, ground := Ground.phase }, { on := 10, ground := Ground.phase }, { on := 11, ground := Ground.phase }], guard := none }) rfl (fun Kz hK => ?_) EachV.nil
          go_simp
          refine hK.out _ _ (fun h => by cases h) (fun _ => ?_)
          clear hK Kz
          (try simp only [Act.put, List.setIfInBounds_toArray, List.set_cons_zero, List.set_cons_succ])
          refine anyV_done (by kernel_rfl) ?_ _
          clear z0 z1 z2 z3 f0 f1 f2 f3 hHeld
          go_wp2_with fail
          go_meet
          first
          | exact ⟨_, _, rr, ss, nn, L, p, c, er, rfl, rfl, HRS, Lib.hid (And.intro (HZL.out.1.put HT.out.2 (fun b hb e => by have := Option.some.inj e; have := HNB.out.lo; omega)) (And.intro (HZL.out.2.put HT.out.2 (fun b hb e => by have := Option.some.inj e; have := HNB.out.lo; omega)) (HNB.out.bg HT.out.1 HT.out.2)))⟩
          | exact ⟨_, _, rr, ss, nn, L, p, c, er, rfl, rfl, HRS, Lib.hid (And.intro (HS0.out.1.keep (World.grownBy_alloc _ _ none)) (And.intro (HS0.out.2.keep (World.grownBy_alloc _ _ none)) (nbg_a rr ss nn HRB.out.1 HRB.out.2)))⟩
    · go_simp
      have HLO := Lib.hid (And.intro hHeld.out.1.lo.2.2.2.2 hHeld.out.2.lo.2)
      have HS0 := Lib.hid hHeld.out
      refine hK.out _ _ (fun _ _ => Lib.hid (And.intro (hHeld.out.1.keep (World.grownBy_alloc _ _ none)) (hHeld.out.2.keep (World.grownBy_alloc _ _ none)))) (fun hH2 => ?_)
      have hHeld2 := hH2 rfl hHeld
      clear hK Kz hHeld hH2
      have hHeld := hHeld2
      clear hHeld2
      (try simp only [Act.put, List.setIfInBounds_toArray, List.set_cons_zero, List.set_cons_succ])
      refine anyV_ready (rs := [6]) (by kernel_rfl) (by simp) ?_
      refine EachV.cons (o := { dst := some 56, op := Op.call { callee := Callee.value (Operand.func 35), args := #[Operand.tmp 50, Operand.tmp 51, Operand.tmp 55], argTypes := #[45, 48, 3] }, type := 63, pos := "law.go:112", after := #[{ on := 0, ground := Ground.data }, { on := 1, ground := Ground.data }, { on := 5, ground := Ground.data }], guard := none }) rfl (fun Kz hK => ?_) EachV.nil
      go_simp
      go_at_call 35
      refine (rBuild11_any ⟨R, L0, pR, cR, pL, cL⟩ sub len ro E pE cE _ _ _ hHeld.out.1.t hHeld.out.1.e (by have := HEL.out; omega)).mono ?_
      rintro e wb ⟨rr, ss, nn, L, p, c, er, rfl, her, hown, hrows, hres, hg⟩
      have HG6 := Lib.hid hg
      have HRB := Lib.hid (rdw_bld hown hrows)
      have HRS : Hid (er = buE R L0 sub len E ro ∧ ResB R L0 ro sub len E er rr ss nn L) := Lib.hid ⟨her, hres⟩
      have HN := Lib.hid (And.intro (hHeld.out.1.keep hg) (hHeld.out.2.keep hg))
      clear her hown hrows hres hg
      simp only
      refine hK.out _ _ (fun _ _ => HN) (fun hH2 => ?_)
      have hHeld2 := hH2 rfl hHeld
      clear hK Kz hHeld hH2
      have hHeld := hHeld2
      clear hHeld2
      (try simp only [Act.put, List.setIfInBounds_toArray, List.set_cons_zero, List.set_cons_succ])
      refine anyV_take (i := 7) (oi := { dst := some 49, op := Op.move (Operand.tmp 56), type := 63, pos := "law.go:112", after := #[{ on := 6, ground := Ground.data }], guard := none }) (v := ?_) rfl (by kernel_rfl) (by kernel_rfl) (by kernel_rfl) (by kernel_rfl) (by kernel_rfl) (fun _ _ _ h => h) (Or.inl ⟨by rfl, ?_⟩) hHeld ?_
      rotate_left 1
      · intro u hSu
        obtain ⟨t0u, t1u⟩ := row_cells hSu.out.1.bT
        obtain ⟨q0u, q1u, q2u⟩ := row3B hSu.out.1.bP
        have a0u := HC.out u hSu.out.1
        go_simp
        first | done | with_reducible rfl
      (try simp only [Act.put, List.setIfInBounds_toArray, List.set_cons_zero, List.set_cons_succ])
      refine anyV_take (i := 8) (oi := { dst := some 57, op := Op.extract (Operand.tmp 49) 0, type := 25, pos := "law.go:112", after := #[{ on := 7, ground := Ground.data }], guard := none }) (v := ?_) rfl (by kernel_rfl) (by kernel_rfl) (by kernel_rfl) (by kernel_rfl) (by kernel_rfl) (fun _ _ _ h => h) (Or.inl ⟨by rfl, ?_⟩) hHeld ?_
      rotate_left 1
      · intro u hSu
        obtain ⟨t0u, t1u⟩ := row_cells hSu.out.1.bT
        obtain ⟨q0u, q1u, q2u⟩ := row3B hSu.out.1.bP
        have a0u := HC.out u hSu.out.1
        go_simp
        first | done | with_reducible rfl
      (try simp only [Act.put, List.setIfInBounds_toArray, List.set_cons_zero, List.set_cons_succ])
      refine anyV_ready (rs := [9, 11]) (by kernel_rfl) (by simp) ?_
      refine EachV.cons (o := { dst := some 58, op := Op.extract (Operand.tmp 49) 1, type := 31, pos := "law.go:112", after := #[{ on := 7, ground := Ground.data }, { on := 11, ground := Ground.gcOnly Departure.lateStores }], guard := none }) rfl (fun Kz hK => ?_) (EachV.cons (o := { dst := none, op := Op.store 25 (Operand.tmp 12) (Operand.tmp 57), type := 0, pos := "law.go:112", after := #[{ on := 10, ground := Ground.data }, { on := 8, ground := Ground.data }, { on := 6, ground := Ground.chain }, { on := 0, ground := Ground.phase }, { on := 1, ground := Ground.phase }, { on := 2, ground := Ground.phase }, { on := 3, ground := Ground.phase }, { on := 4, ground := Ground.phase }, { on := 5, ground := Ground.phase }, { on := 6, ground := Ground.phase }, { on := 7, ground := Ground.phase }, { on := 8, ground := Ground.phase }, { on := 9, ground := Ground.textOnly Departure.lateStores }, { on := 10, ground := Ground.phase }], guard := none }) rfl (fun Kz hK => ?_) EachV.nil)
      · go_simp
        refine hK.out _ _ (fun _ h => h) (fun _ => ?_)
        clear hK Kz
        (try simp only [Act.put, List.setIfInBounds_toArray, List.set_cons_zero, List.set_cons_succ])
        refine anyV_ready (rs := [11]) (by kernel_rfl) (by simp) ?_
        refine EachV.cons (o := { dst := none, op := Op.store 25 (Operand.tmp 12) (Operand.tmp 57), type := 0, pos := "law.go:112", after := #[{ on := 10, ground := Ground.data }, { on := 8, ground := Ground.data }, { on := 6, ground := Ground.chain }, { on := 0, ground := Ground.phase }, { on := 1, ground := Ground.phase }, { on := 2, ground := Ground.phase }, { on := 3, ground := Ground.phase }, { on := 4, ground := Ground.phase }, { on := 5, ground := Ground.phase }, { on := 6, ground := Ground.phase }, { on := 7, ground := Ground.phase }, { on := 8, ground := Ground.phase }, { on := 9, ground := Ground.textOnly Departure.lateStores }, { on := 10, ground := Ground.phase }], guard := none }) rfl (fun Kz hK => ?_) EachV.nil
        first | (have HNB := Lib.hid (nb_a HRB.out.1 HRB.out.2 HLO.out)) | (have HNB := Lib.hid (nb_b HG6.out HRB.out.1 HRB.out.2 HLO.out))
        obtain ⟨z0, z1, z2, z3⟩ := row4T HNB.out.bx
        have f0 := frozen_of_row _ _ 0 _ _ HNB.out.bx
        have f1 := frozen_of_row _ _ 1 _ _ HNB.out.bx
        have f2 := frozen_of_row _ _ 2 _ _ HNB.out.bx
        have f3 := frozen_of_row _ _ 3 _ _ HNB.out.bx
        go_simp
        have HT := Lib.hid (store4B (.int .i64 rr) (.int .i64 ss) (.int .i64 nn) (.slice p L.length c) HNB.out.bx)
        have HZL := Lib.hid hHeld.out
        refine hK.out _ _ (fun h => by cases h) (fun _ => ?_)
        clear hK Kz
        (try simp only [Act.put, List.setIfInBounds_toArray, List.set_cons_zero, List.set_cons_succ])
        refine anyV_ready (rs := [12]) (by kernel_rfl) (by simp) ?_
        refine EachV.cons (o := { dst := some 13, op := Op.assign (Operand.tmp 58), type := 31, pos := "law.go:112", after := #[{ on := 9, ground := Ground.data }, { on := 11, ground := Ground.chain }, { on := 0, ground := Ground.phase }, { on := 1, ground := Ground.phase }, { on := 2, ground := Ground.phase }, { on := 3, ground := Ground.phase }, { on := 4, ground := Ground.phase }, { on := 5, ground := Ground.phase }, { on := 6, ground := Ground.phase }, { on := 7, ground := Ground.phase }, { on := 8, ground := Ground.phase }, { on := 9, ground := Ground.phase }, { on := 10, ground := Ground.phase }, { on := 11, ground := Ground.phase }], guard := none }) rfl (fun Kz hK => ?_) EachV.nil
        go_simp
        refine hK.out _ _ (fun h => by cases h) (fun _ => ?_)
        clear hK Kz
        (try simp only [Act.put, List.setIfInBounds_toArray, List.set_cons_zero, List.set_cons_succ])
        refine anyV_done (by kernel_rfl) ?_ _
        clear z0 z1 z2 z3 f0 f1 f2 f3 hHeld
        go_wp2_with fail
        go_meet
        first
        | exact ⟨_, _, rr, ss, nn, L, p, c, er, rfl, rfl, HRS, Lib.hid (And.intro (HZL.out.1.put HT.out.2 (fun b hb e => by have := Option.some.inj e; have := HNB.out.lo; omega)) (And.intro (HZL.out.2.put HT.out.2 (fun b hb e => by have := Option.some.inj e; have := HNB.out.lo; omega)) (HNB.out.bg HT.out.1 HT.out.2)))⟩
        | exact ⟨_, _, rr, ss, nn, L, p, c, er, rfl, rfl, HRS, Lib.hid (And.intro (HS0.out.1.keep (World.grownBy_alloc _ _ none)) (And.intro (HS0.out.2.keep (World.grownBy_alloc _ _ none)) (nbg_a rr ss nn HRB.out.1 HRB.out.2)))⟩
      · first | (have HNB := Lib.hid (nb_a HRB.out.1 HRB.out.2 HLO.out)) | (have HNB := Lib.hid (nb_b HG6.out HRB.out.1 HRB.out.2 HLO.out))
        obtain ⟨z0, z1, z2, z3⟩ := row4T HNB.out.bx
        have f0 := frozen_of_row _ _ 0 _ _ HNB.out.bx
        have f1 := frozen_of_row _ _ 1 _ _ HNB.out.bx
        have f2 := frozen_of_row _ _ 2 _ _ HNB.out.bx
        have f3 := frozen_of_row _ _ 3 _ _ HNB.out.bx
        go_simp
        have HT := Lib.hid (store4B (.int .i64 rr) (.int .i64 ss) (.int .i64 nn) (.slice p L.length c) HNB.out.bx)
        have HZL := Lib.hid hHeld.out
        refine hK.out _ _ (fun h => by cases h) (fun _ => ?_)
        clear hK Kz
        (try simp only [Act.put, List.setIfInBounds_toArray, List.set_cons_zero, List.set_cons_succ])
        refine anyV_ready (rs := [9]) (by kernel_rfl) (by simp) ?_
        refine EachV.cons (o := { dst := some 58, op := Op.extract (Operand.tmp 49) 1, type := 31, pos := "law.go:112", after := #[{ on := 7, ground := Ground.data }, { on := 11, ground := Ground.gcOnly Departure.lateStores }], guard := none }) rfl (fun Kz hK => ?_) EachV.nil
        go_simp
        refine hK.out _ _ (fun _ h => h) (fun _ => ?_)
        clear hK Kz
        (try simp only [Act.put, List.setIfInBounds_toArray, List.set_cons_zero, List.set_cons_succ])
        refine anyV_ready (rs := [12]) (by kernel_rfl) (by simp) ?_
        refine EachV.cons (o := { dst := some 13, op := Op.assign (Operand.tmp 58), type := 31, pos := "law.go:112", after := #[{ on := 9, ground := Ground.data }, { on := 11, ground := Ground.chain }, { on := 0, ground := Ground.phase }, { on := 1, ground := Ground.phase }, { on := 2, ground := Ground.phase }, { on := 3, ground := Ground.phase }, { on := 4, ground := Ground.phase }, { on := 5, ground := Ground.phase }, { on := 6, ground := Ground.phase }, { on := 7, ground := Ground.phase }, { on := 8, ground := Ground.phase }, { on := 9, ground := Ground.phase }, { on := 10, ground := Ground.phase }, { on := 11, ground := Ground.phase }], guard := none }) rfl (fun Kz hK => ?_) EachV.nil
        go_simp
        refine hK.out _ _ (fun h => by cases h) (fun _ => ?_)
        clear hK Kz
        (try simp only [Act.put, List.setIfInBounds_toArray, List.set_cons_zero, List.set_cons_succ])
        refine anyV_done (by kernel_rfl) ?_ _
        clear z0 z1 z2 z3 f0 f1 f2 f3 hHeld
        go_wp2_with fail
        go_meet
        first
        | exact ⟨_, _, rr, ss, nn, L, p, c, er, rfl, rfl, HRS, Lib.hid (And.intro (HZL.out.1.put HT.out.2 (fun b hb e => by have := Option.some.inj e; have := HNB.out.lo; omega)) (And.intro (HZL.out.2.put HT.out.2 (fun b hb e => by have := Option.some.inj e; have := HNB.out.lo; omega)) (HNB.out.bg HT.out.1 HT.out.2)))⟩
        | exact ⟨_, _, rr, ss, nn, L, p, c, er, rfl, rfl, HRS, Lib.hid (And.intro (HS0.out.1.keep (World.grownBy_alloc _ _ none)) (And.intro (HS0.out.2.keep (World.grownBy_alloc _ _ none)) (nbg_a rr ss nn HRB.out.1 HRB.out.2)))⟩
  case rest =>
  clear K
  obtain ⟨g2, Z2, r2, s2, n2, L2, p2, c2, er2, rfl, rfl, HE2, K⟩ := hcut
  obtain ⟨w7, hw7⟩ : ∃ w7, w7 = wc := ⟨_, rfl⟩
  rw [← hw7] at K ⊢
  clear hw7
  have her : er2 = er1 := HE2.out.1.trans HE1.out.1.symm
  subst her
  have HSM := Lib.hid (resB_same HE1.out.2 HE2.out.2)
  obtain ⟨d0, d1, d2, d3⟩ := row4T K.out.2.1.bx
  obtain ⟨m0, m1, m2, m3⟩ := row4T K.out.2.2.bx
  go_wp2_with fail
  refine (rSame_any r1 s1 n1 p1 c1 L1 r2 s2 n2 p2 c2 L2 _ _ w7 K.out.2.1.rd K.out.2.2.rd K.out.2.1.hl K.out.2.2.hl).mono ?_
  rintro e w8 ⟨rfl, hg⟩
  rw [HSM.out]
  have K8 := Lib.hid (K.out.1.keep hg)
  clear hg K d0 d1 d2 d3 m0 m1 m2 m3
  simp only
  have hne : (er2 != er2) = false := by simp
  go_wp2_with fail
  exact ⟨⟨k + 1, by omega, congrArg _ (by omega), K8⟩, by simp only [RowKit.intOf]; omega⟩
end Go.Proofs.YtahafijpcmphaaaGreat
