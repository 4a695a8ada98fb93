/- Parts of the proof, packed: ToWkLaw. -/
import Derived.Test.YtiencdgmnkphjaaWek21
import Derived.Test.YtiencdgmnkphjaaWek22
import Derived.Test.YtiencdgmnkphjaaWek20
import Derived.BigQuiet
/- The law TopologyWeak. -/
namespace Go.Proofs.Ytiencdgmnkphjaa
open Go.RowKit Bs
set_option maxRecDepth 100000 in
set_option maxHeartbeats 3200000 in
/-- Same of two equal lists of hops. -/
theorem msame_any (H : List Hp) (p1 p2 : Option Addr) (c1 c2 : Nat) (q1 q2 : Nat → Prop) (w : World) (h1 : RdH w q1 (.slice p1 H.length c1) H) (h2 : RdH w q2 (.slice p2 H.length c2) H) (hm : H.length ≤ 9223372036854775807) :
    Calls Try.prog 43 #[.slice p1 H.length c1, .slice p2 H.length c2] w fun e w' => e = .returned (.bool true) ∧ w.grownBy w' none := by
  have HR := Lib.hid (And.intro h1 h2)
  clear h1 h2
  go_enter Try.func43, Try.ntmps43
  go_wp2_with fail
  go_loopw [5] (fun i wr => ∃ k : Nat, k ≤ H.length ∧ i = .int .i64 (k : Int) ∧ Hid (w.grownBy wr none)) (fun i _ => H.length - (intOf i).toNat)
  case atStart => exact ⟨0, Nat.zero_le _, rfl, Lib.hid (grown_refl _ _)⟩
  case round =>
    obtain ⟨k, hk, rfl, G⟩ := hrel
    by_cases hlt : k < H.length
    · obtain ⟨-, b1, o1, rfl, -, hc1⟩ := rdh_cells (HR.out.1.keep G.out) (by omega)
      obtain ⟨-, b2, o2, rfl, -, hc2⟩ := rdh_cells (HR.out.2.keep G.out) (by omega)
      obtain ⟨y, hy⟩ : ∃ y, H[k]? = some y := ⟨_, List.getElem?_eq_getElem hlt⟩
      obtain ⟨d0, d1⟩ := hc1 k y hy
      obtain ⟨e0, e1⟩ := hc2 k y hy
      have G5 : ∀ n, Hid (w.grownBy (wr.drewN n) none) := fun n => Lib.hid (grown_trans G.out (grown_drewN _ n _))
      have i0 : (0 : Int) ≤ (k : Int) := by omega
      have i1 : (k : Int) < (H.length : Int) := by omega
      clear hc1 hc2 hy G
      go_upto_region 6 with fail
      go_quiet (fail)
      have G6 := G5 nq
      clear G5 d0 d1 e0 e1
      generalize wr.drewN nq = wq at *
      go_wp2_with fail
      exact ⟨⟨k + 1, by omega, congrArg _ (by omega), G6⟩, by simp only [intOf]; omega⟩
    · obtain rfl : k = H.length := by omega
      go_wp2_with fail
      go_ret
      exact ⟨rfl, G.out⟩
theorem fl_one1 (w : World) (a b : Int) : FlOk (w.alloc (.cells #[.int .i64 a, .int .i64 b] 70)) (fun _ => True) ⟨[⟨a, b⟩], [], some ⟨w.heap.size, 0, none⟩, 1, none, 0⟩ := by
  have h := fl_one w a b
  exact ⟨h.h, h.x, h.ch, h.cx⟩
set_option maxRecDepth 100000 in
set_option maxHeartbeats 6400000 in
theorem tweak_walk (v : Value) (w : World) (hv : IntsIn w v) :
    Calls Try.prog 8 #[v] w fun e w' => e = .returned (.bool true) ∧ w.grownBy w' none := by
  go_enter Try.func8, Try.ntmps8
  go_wp2_with fail
  refine (new_any v w hv).mono ?_
  rintro e w2 ⟨rfl, hg1, hT1⟩
  have H2 := Lib.hid (And.intro hg1 hT1)
  obtain ⟨a, ha⟩ : ∃ a, a = w.heap.size := ⟨_, rfl⟩
  rw [← ha] at H2
  have HA := Lib.hid ha
  clear hg1 hT1 hv
  rw [← HA.out]
  clear ha
  go_wp2_with fail
  refine (topo_tg a 7 12 (by decide) (by decide) (by unfold I64; omega) w2 H2.out.2).mono ?_
  rintro e w3 ⟨T, rfl, hT, hO, hs3⟩
  obtain ⟨R, L, pR, cR, pL, cL⟩ := T
  simp only at hO ⊢
  have gal := World.grownBy_alloc w3 (.cells #[.slice pR R.length cR, .slice pL L.length cL] 26) none
  have ha2 : a < w2.heap.size := H2.out.2.lt
  have ha3 : a < w3.heap.size := Nat.lt_of_lt_of_le ha2 hs3.1.size
  have HP : Hid (PW w a w3.heap.size ⟨R, L, pR, cR, pL, cL⟩ (w3.alloc (.cells #[.slice pR R.length cR, .slice pL L.length cL] 26))) := Lib.hid ⟨heap_alloc_new w3 _, (hT.keep gal).mono (fun b hb => by omega), hs3.2.keep gal, grown_trans (grown_tape H2.out.1 (by rw [← HA.out]; exact hs3.1)) gal, ⟨by have := HA.out; omega, ha3⟩⟩
  have h9 : okT R L = true → R.length ≤ 12 := fun h => by
    obtain ⟨h24, -⟩ := okT_len h
    have := hO.2.1
    omega
  have hm1 := Nat.le_trans hT.cr.1 hT.cr.2
  have hm2 := Nat.le_trans hT.cl.1 hT.cl.2
  simp only at hm1 hm2
  have H9 := Lib.hid h9
  clear hT hs3 gal hO h9 H2 ha2
  go_upto_region 3 with fail
  generalize w3.alloc _ = w4 at *
  obtain ⟨G, hG⟩ : ∃ G, G = w3.heap.size := ⟨_, rfl⟩
  rw [← hG] at HP
  rw [← hG]
  clear hG ha3
  have HPD := Lib.hid HP.out.drew
  refine wp_region_held_drew (S := fun w' => Hid (PW w a G ⟨R, L, pR, cR, pL, cL⟩ w')) (by kernel_rfl) (HPD) (fun hHeld => ?_)
  refine wpAnyH_take (i := 0) (oi := { dst := some 17, op := Op.load 26 (Operand.tmp 4), type := 26, pos := "law.go:108", after := #[], guard := none }) (v := ?_) rfl (by kernel_rfl) (by kernel_rfl) (by kernel_rfl) (fun _ _ _ h => h) (Or.inl ⟨by rfl, ?_⟩) hHeld ?_
  rotate_left 1
  · intro u hSu
    obtain ⟨q0, q1⟩ := row_cells hSu.out.gb
    go_simp
    first | done | with_reducible rfl
  (try simp only [Act.put, List.setIfInBounds_toArray, List.set_cons_zero, List.set_cons_succ])
  refine wpAnyH_take (i := 2) (oi := { dst := some 19, op := Op.load 26 (Operand.tmp 4), type := 26, pos := "law.go:108", after := #[], guard := none }) (v := ?_) rfl (by kernel_rfl) (by kernel_rfl) (by kernel_rfl) (fun _ _ _ h => h) (Or.inl ⟨by rfl, ?_⟩) hHeld ?_
  rotate_left 1
  · intro u hSu
    obtain ⟨q0, q1⟩ := row_cells hSu.out.gb
    go_simp
    first | done | with_reducible rfl
  (try simp only [Act.put, List.setIfInBounds_toArray, List.set_cons_zero, List.set_cons_succ])
  refine wpAnyH_ready (rs := [1]) (by kernel_rfl) (by simp) ?_
  refine AllReadyH.cons (o := { dst := some 18, op := Op.call { callee := Callee.value (Operand.func 41), args := #[Operand.tmp 17], argTypes := #[26] }, type := 45, pos := "law.go:108", after := #[{ on := 0, ground := Ground.data }], guard := none }) rfl (fun Kz hK => ?_) AllReadyH.nil
  go_simp
  go_at_call 41
  refine (tbri_any ⟨R, L, pR, cR, pL, cL⟩ _ _ hHeld.out.t H9.out).mono ?_
  rintro e w8 ⟨p1, c1, rfl, hB1, hc1, hg⟩
  simp only at hB1 hc1 ⊢
  have HBr0 := Lib.hid (And.intro hB1 hc1)
  clear hB1 hc1
  refine hK.out _ _ (Lib.hid (hHeld.out.keep hg)) (fun hH2 => ?_)
  clear hK Kz hHeld
  have hHeld := hH2
  clear hH2
  (try simp only [Act.put, List.setIfInBounds_toArray, List.set_cons_zero, List.set_cons_succ])
  refine wpAnyH_ready (rs := [3]) (by kernel_rfl) (by simp) ?_
  refine AllReadyH.cons (o := { dst := some 20, op := Op.call { callee := Callee.value (Operand.func 42), args := #[Operand.tmp 19], argTypes := #[26] }, type := 22, pos := "law.go:108", after := #[{ on := 2, ground := Ground.data }, { on := 1, ground := Ground.chain }], guard := none }) rfl (fun Kz hK => ?_) AllReadyH.nil
  go_simp
  go_at_call 42
  refine (tcuts_any ⟨R, L, pR, cR, pL, cL⟩ _ _ hHeld.out.t H9.out).mono ?_
  rintro e w9 ⟨p2, c2, rfl, hC1, hc2, -, hg⟩
  simp only at hC1 hc2 ⊢
  have HCu := Lib.hid (And.intro hC1 hc2)
  have HBr := Lib.hid (And.intro (HBr0.out.1.keep hg) HBr0.out.2)
  clear hC1 hc2 HBr0
  refine hK.out _ _ (Lib.hid (hHeld.out.keep hg)) (fun hH2 => ?_)
  clear hK Kz hHeld
  have hHeld := hH2
  clear hH2
  (try simp only [Act.put, List.setIfInBounds_toArray, List.set_cons_zero, List.set_cons_succ])
  refine wpAnyH_take (i := 4) (oi := { dst := some 5, op := Op.assign (Operand.tmp 18), type := 45, pos := "law.go:108", after := #[{ on := 1, ground := Ground.data }, { on := 3, ground := Ground.chain }, { on := 0, ground := Ground.phase }, { on := 1, ground := Ground.phase }, { on := 2, ground := Ground.textOnly Departure.lateStores }, { on := 3, ground := Ground.textOnly Departure.lateStoresUnsure }], guard := none }) (v := ?_) rfl (by kernel_rfl) (by kernel_rfl) (by kernel_rfl) (fun _ _ _ h => h) (Or.inl ⟨by rfl, ?_⟩) hHeld ?_
  rotate_left 1
  · intro u hSu
    obtain ⟨q0, q1⟩ := row_cells hSu.out.gb
    go_simp
    first | done | with_reducible rfl
  (try simp only [Act.put, List.setIfInBounds_toArray, List.set_cons_zero, List.set_cons_succ])
  refine wpAnyH_take (i := 5) (oi := { dst := some 6, op := Op.assign (Operand.tmp 20), type := 22, pos := "law.go:108", after := #[{ on := 3, ground := Ground.data }, { on := 4, ground := Ground.chain }, { on := 0, ground := Ground.phase }, { on := 1, ground := Ground.phase }, { on := 2, ground := Ground.phase }, { on := 3, ground := Ground.phase }, { on := 4, ground := Ground.phase }], guard := none }) (v := ?_) rfl (by kernel_rfl) (by kernel_rfl) (by kernel_rfl) (fun _ _ _ h => h) (Or.inl ⟨by rfl, ?_⟩) hHeld ?_
  rotate_left 1
  · intro u hSu
    obtain ⟨q0, q1⟩ := row_cells hSu.out.gb
    go_simp
    first | done | with_reducible rfl
  (try simp only [Act.put, List.setIfInBounds_toArray, List.set_cons_zero, List.set_cons_succ])
  refine wpAnyH_done (by kernel_rfl) ?_ _
  clear HPD HP
  have HP := hHeld
  clear hHeld
  obtain ⟨c0, c1'⟩ := row_cells HP.out.gb
  obtain ⟨Bs, hBs⟩ : ∃ Bs, bridges R L = Bs := ⟨_, rfl⟩
  obtain ⟨Xs, hXs⟩ : ∃ Xs, cuts R L = Xs := ⟨_, rfl⟩
  rw [hBs] at HBr ⊢
  rw [hXs] at HCu ⊢
  have HBX := Lib.hid (And.intro hBs hXs)
  have hmB := Nat.le_trans HBr.out.2.1 HBr.out.2.2
  have hmX := Nat.le_trans HCu.out.2.1 HCu.out.2.2
  clear hBs hXs
  go_wp2_with fail
  refine (rbri_any ⟨R, L, pR, cR, pL, cL⟩ _ _ HP.out.t).mono ?_
  rintro e w6 ⟨p3, c3, rfl, hB3, hc3, hg⟩
  simp only at hB3 hc3 ⊢
  rw [HBX.out.1] at hB3 hc3 ⊢
  have HP6 := Lib.hid (HP.out.keep hg)
  have HB6 := Lib.hid (And.intro (HBr.out.1.keep hg) (And.intro hB3 (HCu.out.1.grown hg (by simp))))
  clear hB3 hc3 hg HP HBr HCu c0 c1'
  go_wp2_with fail
  refine (msame_any Bs p1 p3 c1 c3 _ _ _ HB6.out.1 HB6.out.2.1 hmB).mono ?_
  rintro e w7 ⟨rfl, hg⟩
  have HP7 := Lib.hid (HP6.out.keep hg)
  have HB7 := Lib.hid (And.intro (HB6.out.1.keep hg) (HB6.out.2.2.grown hg (by simp)))
  clear hg HP6 HB6
  obtain ⟨c0, c1'⟩ := row_cells HP7.out.gb
  go_wp2_with fail
  refine (rcuts_any ⟨R, L, pR, cR, pL, cL⟩ _ _ HP7.out.t).mono ?_
  rintro e w8 ⟨p4, c4, rfl, hC4, hc4, -, hg⟩
  simp only at hC4 hc4 ⊢
  rw [HBX.out.2] at hC4 hc4 ⊢
  have HP8 := Lib.hid (HP7.out.keep hg)
  have HB8 := Lib.hid (And.intro (HB7.out.1.keep hg) (And.intro (HB7.out.2.grown hg (by simp)) hC4))
  clear hC4 hc4 hg HP7 HB7 c0 c1'
  go_wp2_with fail
  refine (rints_any Xs p2 p4 c2 c4 _ _ _ HB8.out.2.1 HB8.out.2.2 hmX).mono ?_
  rintro e w9 ⟨rfl, hg⟩
  have HP9 := Lib.hid (HP8.out.keep hg)
  have HB9 := Lib.hid (And.intro (HB8.out.1.keep hg) (HB8.out.2.1.grown hg (by simp)))
  clear hg HP8 HB8
  obtain ⟨c0, c1'⟩ := row_cells HP9.out.gb
  go_wp2_with fail
  refine (rcheck_any ⟨R, L, pR, cR, pL, cL⟩ _ _ HP9.out.t).mono ?_
  rintro e w10 ⟨rfl, hg⟩
  simp only
  have HP := Lib.hid (HP9.out.keep hg)
  have HB := Lib.hid (And.intro (HB9.out.1.keep hg) (HB9.out.2.grown hg (by simp)))
  clear hg HP9 HB9 c0 c1'
  by_cases hv0 : chk R L = 0
  case neg =>
    have hv' : (chk R L != 0) = true := by simpa using hv0
    clear hv0
    go_wp2_with fail
    refine (tawake_any _).mono ?_
    rintro e w11 ⟨rfl, hg⟩
    have HE := Lib.hid (grown_trans HP.out.gr hg)
    clear hg
    go_wp2_with fail
    go_ret
    exact ⟨rfl, HE.out⟩
  have hv : okT R L = true := by unfold okT; simpa using hv0
  have HV := Lib.hid hv
  obtain ⟨h24, h60⟩ := okT_len hv
  have h12 := H9.out hv
  rw [hv0]
  clear hv hv0
  obtain ⟨c0, c1'⟩ := row_cells HP.out.gb
  go_wp2_with fail
  refine (tcomps_any ⟨R, L, pR, cR, pL, cL⟩ _ _ HP.out.t (fun _ => h12)).mono ?_
  rintro e w11 ⟨p5, c5, vs5, rfl, -, -, -, -, hg⟩
  simp only
  have HPa := Lib.hid (HP.out.keep hg)
  have HBa := Lib.hid (And.intro (HB.out.1.keep hg) (HB.out.2.grown hg (by simp)))
  obtain ⟨N, hN⟩ : ∃ N, (comps R L).length = N := ⟨_, rfl⟩
  rw [hN]
  have HN := Lib.hid hN
  clear hg HP HB c0 c1' hN
  obtain ⟨c0, c1'⟩ := row_cells HPa.out.gb
  go_wp2_with fail
  go_loopw [8] (fun i wr => ∃ k : Nat, k ≤ L.length ∧ i = .int .i64 (k : Int) ∧ Hid (w11.grownBy wr none)) (fun i _ => L.length - (intOf i).toNat)
  case atStart => exact ⟨0, Nat.zero_le _, rfl, Lib.hid (grown_refl _ _)⟩
  case round =>
  obtain ⟨k, hk, rfl, K⟩ := hrel
  clear c0 c1'
  have HPk := Lib.hid (HPa.out.keep K.out)
  obtain ⟨c0, c1'⟩ := row_cells HPk.out.gb
  by_cases hlt : k < L.length
  · obtain ⟨-, b, off, rfl, -, -⟩ := rdl_cells (L := L) HPk.out.t.l (by omega)
    obtain ⟨x, hx⟩ : ∃ x, L[k]? = some x := ⟨_, List.getElem?_eq_getElem hlt⟩
    have HC : Hid (∀ u, Hid (wr.grownBy u none) → u.cell? ⟨b, off + k * 5, none⟩ = some (.int .i64 x.a) ∧ u.cell? ⟨b, off + k * 5 + 1, none⟩ = some (.int .i64 x.b)) := Lib.hid (fun u hu => by
      obtain ⟨-, b', off', e, -, hc⟩ := rdl_cells (L := L) (HPk.out.t.keep hu.out).l (by omega)
      injection e with e
      injection e with e4 e5
      subst e4
      subst e5
      exact ⟨(hc k x hx).1, (hc k x hx).2.1⟩)
    have HX := Lib.hid (List.mem_of_getElem? hx)
    have i0 : (0 : Int) ≤ (k : Int) := by omega
    have i1 : (k : Int) < (L.length : Int) := by omega
    clear hx
    go_upto_region 12 with fail
    clear c0 c1'
    refine region_until (S := fun w' => Hid (wr.grownBy w' none)) (fun j => j == 14) (by kernel_rfl) (Lib.hid (grown_drew (grown_refl _ _))) (fun hHeld => ?_)
    refine anyU_take (i := 0) (oi := { dst := some 47, op := Op.fieldAddr 26 (Operand.tmp 4) 1, type := 0, pos := "law.go:117", after := #[], guard := none }) (v := ?_) rfl (by kernel_rfl) (by kernel_rfl) (by kernel_rfl) (by kernel_rfl) (by kernel_rfl) (fun _ _ _ h => h) (Or.inl ⟨by rfl, ?_⟩) hHeld ?_
    rotate_left 1
    · intro u hSu
      obtain ⟨q0, q1⟩ := row_cells (kept_row HPk.out.gb hSu.out (by simp))
      obtain ⟨q2, q3⟩ := HC.out _ hSu
      go_simp
      first | done | with_reducible rfl
    (try simp only [Act.put, List.setIfInBounds_toArray, List.set_cons_zero, List.set_cons_succ])
    refine anyU_take (i := 1) (oi := { dst := some 48, op := Op.load 24 (Operand.tmp 47), type := 24, pos := "law.go:117", after := #[{ on := 0, ground := Ground.data }], guard := none }) (v := ?_) rfl (by kernel_rfl) (by kernel_rfl) (by kernel_rfl) (by kernel_rfl) (by kernel_rfl) (fun _ _ _ h => h) (Or.inl ⟨by rfl, ?_⟩) hHeld ?_
    rotate_left 1
    · intro u hSu
      obtain ⟨q0, q1⟩ := row_cells (kept_row HPk.out.gb hSu.out (by simp))
      obtain ⟨q2, q3⟩ := HC.out _ hSu
      go_simp
      first | done | with_reducible rfl
    (try simp only [Act.put, List.setIfInBounds_toArray, List.set_cons_zero, List.set_cons_succ])
    refine anyU_take (i := 2) (oi := { dst := some 49, op := Op.move (Operand.tmp 8), type := 3, pos := "law.go:117", after := #[], guard := none }) (v := ?_) rfl (by kernel_rfl) (by kernel_rfl) (by kernel_rfl) (by kernel_rfl) (by kernel_rfl) (fun _ _ _ h => h) (Or.inl ⟨by rfl, ?_⟩) hHeld ?_
    rotate_left 1
    · intro u hSu
      obtain ⟨q0, q1⟩ := row_cells (kept_row HPk.out.gb hSu.out (by simp))
      obtain ⟨q2, q3⟩ := HC.out _ hSu
      go_simp
      first | done | with_reducible rfl
    (try simp only [Act.put, List.setIfInBounds_toArray, List.set_cons_zero, List.set_cons_succ])
    refine anyU_take (i := 3) (oi := { dst := some 50, op := Op.indexAddr 24 (Operand.tmp 48) (Operand.tmp 49), type := 0, pos := "law.go:117", after := #[{ on := 1, ground := Ground.data }, { on := 2, ground := Ground.data }], guard := none }) (v := ?_) rfl (by kernel_rfl) (by kernel_rfl) (by kernel_rfl) (by kernel_rfl) (by kernel_rfl) (fun _ _ _ h => h) (Or.inl ⟨by rfl, ?_⟩) hHeld ?_
    rotate_left 1
    · intro u hSu
      obtain ⟨q0, q1⟩ := row_cells (kept_row HPk.out.gb hSu.out (by simp))
      obtain ⟨q2, q3⟩ := HC.out _ hSu
      go_simp
      first | done | with_reducible rfl
    (try simp only [Act.put, List.setIfInBounds_toArray, List.set_cons_zero, List.set_cons_succ])
    refine anyU_take (i := 4) (oi := { dst := some 51, op := Op.fieldAddr 68 (Operand.tmp 50) 0, type := 0, pos := "law.go:117", after := #[{ on := 3, ground := Ground.data }], guard := none }) (v := ?_) rfl (by kernel_rfl) (by kernel_rfl) (by kernel_rfl) (by kernel_rfl) (by kernel_rfl) (fun _ _ _ h => h) (Or.inl ⟨by rfl, ?_⟩) hHeld ?_
    rotate_left 1
    · intro u hSu
      obtain ⟨q0, q1⟩ := row_cells (kept_row HPk.out.gb hSu.out (by simp))
      obtain ⟨q2, q3⟩ := HC.out _ hSu
      go_simp
      first | done | with_reducible rfl
    (try simp only [Act.put, List.setIfInBounds_toArray, List.set_cons_zero, List.set_cons_succ])
    refine anyU_take (i := 5) (oi := { dst := some 52, op := Op.load 3 (Operand.tmp 51), type := 3, pos := "law.go:117", after := #[{ on := 4, ground := Ground.data }], guard := none }) (v := ?_) rfl (by kernel_rfl) (by kernel_rfl) (by kernel_rfl) (by kernel_rfl) (by kernel_rfl) (fun _ _ _ h => h) (Or.inl ⟨by rfl, ?_⟩) hHeld ?_
    rotate_left 1
    · intro u hSu
      obtain ⟨q0, q1⟩ := row_cells (kept_row HPk.out.gb hSu.out (by simp))
      obtain ⟨q2, q3⟩ := HC.out _ hSu
      go_simp
      first | done | with_reducible rfl
    (try simp only [Act.put, List.setIfInBounds_toArray, List.set_cons_zero, List.set_cons_succ])
    refine anyU_take (i := 6) (oi := { dst := some 53, op := Op.fieldAddr 26 (Operand.tmp 4) 1, type := 0, pos := "law.go:117", after := #[], guard := none }) (v := ?_) rfl (by kernel_rfl) (by kernel_rfl) (by kernel_rfl) (by kernel_rfl) (by kernel_rfl) (fun _ _ _ h => h) (Or.inl ⟨by rfl, ?_⟩) hHeld ?_
    rotate_left 1
    · intro u hSu
      obtain ⟨q0, q1⟩ := row_cells (kept_row HPk.out.gb hSu.out (by simp))
      obtain ⟨q2, q3⟩ := HC.out _ hSu
      go_simp
      first | done | with_reducible rfl
    (try simp only [Act.put, List.setIfInBounds_toArray, List.set_cons_zero, List.set_cons_succ])
    refine anyU_take (i := 7) (oi := { dst := some 54, op := Op.load 24 (Operand.tmp 53), type := 24, pos := "law.go:117", after := #[{ on := 6, ground := Ground.data }], guard := none }) (v := ?_) rfl (by kernel_rfl) (by kernel_rfl) (by kernel_rfl) (by kernel_rfl) (by kernel_rfl) (fun _ _ _ h => h) (Or.inl ⟨by rfl, ?_⟩) hHeld ?_
    rotate_left 1
    · intro u hSu
      obtain ⟨q0, q1⟩ := row_cells (kept_row HPk.out.gb hSu.out (by simp))
      obtain ⟨q2, q3⟩ := HC.out _ hSu
      go_simp
      first | done | with_reducible rfl
    (try simp only [Act.put, List.setIfInBounds_toArray, List.set_cons_zero, List.set_cons_succ])
    refine anyU_take (i := 8) (oi := { dst := some 55, op := Op.move (Operand.tmp 8), type := 3, pos := "law.go:117", after := #[], guard := none }) (v := ?_) rfl (by kernel_rfl) (by kernel_rfl) (by kernel_rfl) (by kernel_rfl) (by kernel_rfl) (fun _ _ _ h => h) (Or.inl ⟨by rfl, ?_⟩) hHeld ?_
    rotate_left 1
    · intro u hSu
      obtain ⟨q0, q1⟩ := row_cells (kept_row HPk.out.gb hSu.out (by simp))
      obtain ⟨q2, q3⟩ := HC.out _ hSu
      go_simp
      first | done | with_reducible rfl
    (try simp only [Act.put, List.setIfInBounds_toArray, List.set_cons_zero, List.set_cons_succ])
    refine anyU_take (i := 9) (oi := { dst := some 56, op := Op.indexAddr 24 (Operand.tmp 54) (Operand.tmp 55), type := 0, pos := "law.go:117", after := #[{ on := 7, ground := Ground.data }, { on := 8, ground := Ground.data }], guard := none }) (v := ?_) rfl (by kernel_rfl) (by kernel_rfl) (by kernel_rfl) (by kernel_rfl) (by kernel_rfl) (fun _ _ _ h => h) (Or.inl ⟨by rfl, ?_⟩) hHeld ?_
    rotate_left 1
    · intro u hSu
      obtain ⟨q0, q1⟩ := row_cells (kept_row HPk.out.gb hSu.out (by simp))
      obtain ⟨q2, q3⟩ := HC.out _ hSu
      go_simp
      first | done | with_reducible rfl
    (try simp only [Act.put, List.setIfInBounds_toArray, List.set_cons_zero, List.set_cons_succ])
    refine anyU_take (i := 10) (oi := { dst := some 57, op := Op.fieldAddr 68 (Operand.tmp 56) 1, type := 0, pos := "law.go:117", after := #[{ on := 9, ground := Ground.data }], guard := none }) (v := ?_) rfl (by kernel_rfl) (by kernel_rfl) (by kernel_rfl) (by kernel_rfl) (by kernel_rfl) (fun _ _ _ h => h) (Or.inl ⟨by rfl, ?_⟩) hHeld ?_
    rotate_left 1
    · intro u hSu
      obtain ⟨q0, q1⟩ := row_cells (kept_row HPk.out.gb hSu.out (by simp))
      obtain ⟨q2, q3⟩ := HC.out _ hSu
      go_simp
      first | done | with_reducible rfl
    (try simp only [Act.put, List.setIfInBounds_toArray, List.set_cons_zero, List.set_cons_succ])
    refine anyU_take (i := 11) (oi := { dst := some 58, op := Op.load 3 (Operand.tmp 57), type := 3, pos := "law.go:117", after := #[{ on := 10, ground := Ground.data }], guard := none }) (v := ?_) rfl (by kernel_rfl) (by kernel_rfl) (by kernel_rfl) (by kernel_rfl) (by kernel_rfl) (fun _ _ _ h => h) (Or.inl ⟨by rfl, ?_⟩) hHeld ?_
    rotate_left 1
    · intro u hSu
      obtain ⟨q0, q1⟩ := row_cells (kept_row HPk.out.gb hSu.out (by simp))
      obtain ⟨q2, q3⟩ := HC.out _ hSu
      go_simp
      first | done | with_reducible rfl
    (try simp only [Act.put, List.setIfInBounds_toArray, List.set_cons_zero, List.set_cons_succ])
    refine anyU_take (i := 12) (oi := { dst := some 59, op := Op.build 70 #[(0, Operand.tmp 52), (1, Operand.tmp 58)], type := 70, pos := "law.go:117", after := #[{ on := 5, ground := Ground.data }, { on := 11, ground := Ground.data }], guard := none }) (v := ?_) rfl (by kernel_rfl) (by kernel_rfl) (by kernel_rfl) (by kernel_rfl) (by kernel_rfl) (fun _ _ _ h => h) (Or.inl ⟨by rfl, ?_⟩) hHeld ?_
    rotate_left 1
    · intro u hSu
      obtain ⟨q0, q1⟩ := row_cells (kept_row HPk.out.gb hSu.out (by simp))
      obtain ⟨q2, q3⟩ := HC.out _ hSu
      go_simp
      first | done | with_reducible rfl
    (try simp only [Act.put, List.setIfInBounds_toArray, List.set_cons_zero, List.set_cons_succ])
    refine anyU_ready (rs := [13]) (by kernel_rfl) (by simp) ?_
    refine EachU.cons (o := { dst := some 9, op := Op.alloc 70, type := 0, pos := "law.go:117", after := #[], guard := none }) rfl (fun Kz hK => ?_) EachU.nil
    go_simp
    refine hK.out _ _ (fun _ => Lib.hid (grown_trans hHeld.out (World.grownBy_alloc _ _ _))) (fun hH2 => ?_)
    clear hK Kz hHeld
    have hHeld := hH2 rfl
    clear hH2
    (try simp only [Act.put, List.setIfInBounds_toArray, List.set_cons_zero, List.set_cons_succ])
    refine anyU_ready (rs := [14]) (by kernel_rfl) (by simp) ?_
    refine EachU.cons (o := { dst := none, op := Op.store 70 (Operand.tmp 9) (Operand.tmp 59), type := 0, pos := "law.go:117", after := #[{ on := 13, ground := Ground.data }, { on := 12, ground := Ground.data }, { on := 0, ground := Ground.phase }, { on := 1, ground := Ground.phase }, { on := 2, ground := Ground.phase }, { on := 3, ground := Ground.phase }, { on := 4, ground := Ground.phase }, { on := 5, ground := Ground.phase }, { on := 6, ground := Ground.phase }, { on := 7, ground := Ground.phase }, { on := 8, ground := Ground.phase }, { on := 9, ground := Ground.phase }, { on := 10, ground := Ground.phase }, { on := 11, ground := Ground.phase }, { on := 12, ground := Ground.phase }, { on := 13, ground := Ground.phase }], guard := none }) rfl (fun Kz hK => ?_) EachU.nil
    go_simp
    refine hK.out _ _ (fun h => by cases h) (fun _ => ?_)
    clear hK Kz
    (try simp only [Act.put, List.setIfInBounds_toArray, List.set_cons_zero, List.set_cons_succ])
    refine anyU_done (by kernel_rfl) ?_ _
    have hbh : (wr.alloc (.cells #[.int .i64 x.a, .int .i64 x.b] 70)).drew.heap[wr.heap.size]? = some (.cells #[.int .i64 x.a, .int .i64 x.b] 70 (0, 0)) := heap_alloc_new wr (.cells #[.int .i64 x.a, .int .i64 x.b] 70)
    have gal := grown_drew (World.grownBy_alloc wr (.cells #[.int .i64 x.a, .int .i64 x.b] 70) none)
    have K2 := Lib.hid (grown_trans K.out gal)
    have HBH := Lib.hid hbh
    have HPz := Lib.hid (HPk.out.keep gal)
    clear hHeld gal HC HPk i0 i1 hbh
    go_upto_region 13 with fail
    obtain ⟨Bh, hBh⟩ : ∃ Bh, Bh = wr.heap.size := ⟨_, rfl⟩
    rw [← hBh] at HBH ⊢
    clear hBh
    try rw [show (wr.alloc (.cells #[.int .i64 x.a, .int .i64 x.b] 70)) = (wr.alloc (.cells #[.int .i64 x.a, .int .i64 x.b] 70)) from rfl]
    generalize (wr.alloc (.cells #[.int .i64 x.a, .int .i64 x.b] 70)).drew = wz at *
    obtain ⟨c0, c1'⟩ := row_cells HPz.out.gb
    obtain ⟨d0, d1⟩ := row_cells HBH.out
    have gaz := World.grownBy_alloc wz (.cells #[.int .i64 x.a, .int .i64 x.b] 70) none
    have HFZ := Lib.hid (And.intro (HPz.out.keep gaz) (And.intro (fl_one1 wz x.a x.b) gaz))
    clear gaz
    go_wp2_with fail
    refine (twb_any HV.out x pR (some ⟨b, off, none⟩) cR cL wz.heap.size _ _ _ HFZ.out.1.t HFZ.out.2.1).mono ?_
    rintro e w12 ⟨pR2, cR2, pL2, cL2, rfl, hT2, hg2⟩
    have K3 := Lib.hid (grown_trans (grown_trans K2.out HFZ.out.2.2) hg2)
    have HBH3 := Lib.hid (kept_row HBH.out (grown_trans HFZ.out.2.2 hg2) (by simp))
    have HT2 := Lib.hid hT2
    clear hT2 hg2 HFZ c0 c1' d0 d1
    go_wp2_with fail
    refine (tcomps_any ⟨woR (brF x) R, woL (brF x) L, pR2, cR2, pL2, cL2⟩ _ _ HT2.out (fun _ => Nat.le_trans (List.length_filter_le _ _) h12)).mono ?_
    rintro e w13 ⟨p6, c6, vs6, rfl, -, -, -, -, hg⟩
    simp only
    obtain ⟨N2, hN2⟩ : ∃ N2, (comps (woR (brF x) R) (woL (brF x) L)).length = N2 := ⟨_, rfl⟩
    rw [hN2]
    have K4 := Lib.hid (grown_trans K3.out hg)
    have HBH4 := Lib.hid (kept_row HBH3.out hg (by simp))
    obtain ⟨zb, hzb⟩ : ∃ zb, isBr R L x = zb := ⟨_, rfl⟩
    have hdec : decide (N < N2) = zb := by rw [← hzb, ← link_more HV.out HX.out, HN.out, hN2]
    have HNM : Hid (nmH Bs x.a x.b = zb) := Lib.hid (by rw [← HBX.out.1, named_br HV.out HX.out, hzb])
    clear hg HBH3 HT2 hN2 hzb K2 HBH K3 HPz
    have HBk := Lib.hid (HBa.out.1.keep K4.out)
    obtain ⟨d0, d1⟩ := row_cells HBH4.out
    have hdecI : decide ((N : Int) < (N2 : Int)) = zb := by rw [← hdec]; congr 1; exact propext (by omega)
    have hzt : zb = true → (N : Int) < (N2 : Int) := fun h => by rw [h] at hdecI; exact of_decide_eq_true hdecI
    have hzf : zb = false → ¬ ((N : Int) < (N2 : Int)) := fun h => by rw [h] at hdecI; exact of_decide_eq_false hdecI
    clear hdec hdecI
    cases zb
    · have hlx := hzf rfl
      clear hzt hzf
      go_wp2_with fail
      refine (rnamed_any Bs x.a x.b p1 c1 _ _ HBk.out hmB).mono ?_
      rw [HNM.out]
      rintro e w14 ⟨rfl, rfl⟩
      go_wp2_with fail
      exact ⟨⟨k + 1, by omega, congrArg _ (by omega), K4⟩, by simp only [intOf]; omega⟩
    · have hlx := hzt rfl
      clear hzt hzf
      go_wp2_with fail
      refine (rnamed_any Bs x.a x.b p1 c1 _ _ HBk.out hmB).mono ?_
      rw [HNM.out]
      rintro e w14 ⟨rfl, rfl⟩
      go_wp2_with fail
      exact ⟨⟨k + 1, by omega, congrArg _ (by omega), K4⟩, by simp only [intOf]; omega⟩
  · obtain rfl : k = L.length := by omega
    go_wp2_with fail
    go_loopw [11] (fun i wr => ∃ k : Nat, k ≤ R.length ∧ i = .int .i64 (k : Int) ∧ Hid (w11.grownBy wr none)) (fun i _ => R.length - (intOf i).toNat)
    case atStart => exact ⟨0, Nat.zero_le _, rfl, K⟩
    case round =>
    obtain ⟨k, hk2, rfl, K⟩ := hrel
    clear c0 c1' HPk
    have HPk := Lib.hid (HPa.out.keep K.out)
    obtain ⟨c0, c1'⟩ := row_cells HPk.out.gb
    by_cases hlt : k < R.length
    · obtain ⟨-, b, off, rfl, -, -⟩ := rdr_cells (R := R) HPk.out.t.r (by omega)
      obtain ⟨x, hx⟩ : ∃ x, R[k]? = some x := ⟨_, List.getElem?_eq_getElem hlt⟩
      have HC : Hid (∀ u, Hid (wr.grownBy u none) → u.cell? ⟨b, off + k * 2, none⟩ = some (.int .i64 x.id) ∧ u.cell? ⟨b, off + k * 2 + 1, none⟩ = some (.bool x.cap)) := Lib.hid (fun u hu => by
        obtain ⟨-, b', off', e, -, hc⟩ := rdr_cells (R := R) (HPk.out.t.keep hu.out).r (by omega)
        injection e with e
        injection e with e4 e5
        subst e4
        subst e5
        exact hc k x hx)
      have HX := Lib.hid (List.mem_of_getElem? hx)
      have i0 : (0 : Int) ≤ (k : Int) := by omega
      have i1 : (k : Int) < (R.length : Int) := by omega
      obtain ⟨zb, hzb⟩ : ∃ zb, isCut R L x = zb := ⟨_, rfl⟩
      have HNM : Hid (hasI Xs x.id = zb) := Lib.hid (by rw [← HBX.out.2, has_cut HV.out HX.out, hzb])
      have HZ := Lib.hid hzb
      clear hx hzb
      go_upto_region 19 with fail
      clear c0 c1'
      refine wp_region_held_drew (S := fun w' => Hid (wr.grownBy w' none)) (by kernel_rfl) (Lib.hid (grown_drew (grown_refl _ _))) (fun hHeld => ?_)
      refine wpAnyH_take (i := 0) (oi := { dst := some 84, op := Op.load 26 (Operand.tmp 4), type := 26, pos := "law.go:124", after := #[], guard := none }) (v := ?_) rfl (by kernel_rfl) (by kernel_rfl) (by kernel_rfl) (fun _ _ _ h => h) (Or.inl ⟨by rfl, ?_⟩) hHeld ?_
      rotate_left 1
      · intro u hSu
        obtain ⟨q0, q1⟩ := row_cells (kept_row HPk.out.gb hSu.out (by simp))
        obtain ⟨q2, q3⟩ := HC.out _ hSu
        go_simp
        first | done | with_reducible rfl
      (try simp only [Act.put, List.setIfInBounds_toArray, List.set_cons_zero, List.set_cons_succ])
      refine wpAnyH_take (i := 1) (oi := { dst := some 85, op := Op.fieldAddr 26 (Operand.tmp 4) 0, type := 0, pos := "law.go:124", after := #[], guard := none }) (v := ?_) rfl (by kernel_rfl) (by kernel_rfl) (by kernel_rfl) (fun _ _ _ h => h) (Or.inl ⟨by rfl, ?_⟩) hHeld ?_
      rotate_left 1
      · intro u hSu
        obtain ⟨q0, q1⟩ := row_cells (kept_row HPk.out.gb hSu.out (by simp))
        obtain ⟨q2, q3⟩ := HC.out _ hSu
        go_simp
        first | done | with_reducible rfl
      (try simp only [Act.put, List.setIfInBounds_toArray, List.set_cons_zero, List.set_cons_succ])
      refine wpAnyH_take (i := 2) (oi := { dst := some 86, op := Op.load 23 (Operand.tmp 85), type := 23, pos := "law.go:124", after := #[{ on := 1, ground := Ground.data }], guard := none }) (v := ?_) rfl (by kernel_rfl) (by kernel_rfl) (by kernel_rfl) (fun _ _ _ h => h) (Or.inl ⟨by rfl, ?_⟩) hHeld ?_
      rotate_left 1
      · intro u hSu
        obtain ⟨q0, q1⟩ := row_cells (kept_row HPk.out.gb hSu.out (by simp))
        obtain ⟨q2, q3⟩ := HC.out _ hSu
        go_simp
        first | done | with_reducible rfl
      (try simp only [Act.put, List.setIfInBounds_toArray, List.set_cons_zero, List.set_cons_succ])
      refine wpAnyH_take (i := 3) (oi := { dst := some 87, op := Op.move (Operand.tmp 11), type := 3, pos := "law.go:124", after := #[], guard := none }) (v := ?_) rfl (by kernel_rfl) (by kernel_rfl) (by kernel_rfl) (fun _ _ _ h => h) (Or.inl ⟨by rfl, ?_⟩) hHeld ?_
      rotate_left 1
      · intro u hSu
        obtain ⟨q0, q1⟩ := row_cells (kept_row HPk.out.gb hSu.out (by simp))
        obtain ⟨q2, q3⟩ := HC.out _ hSu
        go_simp
        first | done | with_reducible rfl
      (try simp only [Act.put, List.setIfInBounds_toArray, List.set_cons_zero, List.set_cons_succ])
      refine wpAnyH_take (i := 4) (oi := { dst := some 88, op := Op.indexAddr 23 (Operand.tmp 86) (Operand.tmp 87), type := 0, pos := "law.go:124", after := #[{ on := 2, ground := Ground.data }, { on := 3, ground := Ground.data }], guard := none }) (v := ?_) rfl (by kernel_rfl) (by kernel_rfl) (by kernel_rfl) (fun _ _ _ h => h) (Or.inl ⟨by rfl, ?_⟩) hHeld ?_
      rotate_left 1
      · intro u hSu
        obtain ⟨q0, q1⟩ := row_cells (kept_row HPk.out.gb hSu.out (by simp))
        obtain ⟨q2, q3⟩ := HC.out _ hSu
        go_simp
        first | done | with_reducible rfl
      (try simp only [Act.put, List.setIfInBounds_toArray, List.set_cons_zero, List.set_cons_succ])
      refine wpAnyH_take (i := 5) (oi := { dst := some 89, op := Op.fieldAddr 73 (Operand.tmp 88) 0, type := 0, pos := "law.go:124", after := #[{ on := 4, ground := Ground.data }], guard := none }) (v := ?_) rfl (by kernel_rfl) (by kernel_rfl) (by kernel_rfl) (fun _ _ _ h => h) (Or.inl ⟨by rfl, ?_⟩) hHeld ?_
      rotate_left 1
      · intro u hSu
        obtain ⟨q0, q1⟩ := row_cells (kept_row HPk.out.gb hSu.out (by simp))
        obtain ⟨q2, q3⟩ := HC.out _ hSu
        go_simp
        first | done | with_reducible rfl
      (try simp only [Act.put, List.setIfInBounds_toArray, List.set_cons_zero, List.set_cons_succ])
      refine wpAnyH_take (i := 6) (oi := { dst := some 90, op := Op.load 3 (Operand.tmp 89), type := 3, pos := "law.go:124", after := #[{ on := 5, ground := Ground.data }], guard := none }) (v := ?_) rfl (by kernel_rfl) (by kernel_rfl) (by kernel_rfl) (fun _ _ _ h => h) (Or.inl ⟨by rfl, ?_⟩) hHeld ?_
      rotate_left 1
      · intro u hSu
        obtain ⟨q0, q1⟩ := row_cells (kept_row HPk.out.gb hSu.out (by simp))
        obtain ⟨q2, q3⟩ := HC.out _ hSu
        go_simp
        first | done | with_reducible rfl
      (try simp only [Act.put, List.setIfInBounds_toArray, List.set_cons_zero, List.set_cons_succ])
      refine wpAnyH_take (i := 12) (oi := { dst := some 96, op := Op.move (Operand.tmp 7), type := 3, pos := "law.go:124", after := #[], guard := none }) (v := ?_) rfl (by kernel_rfl) (by kernel_rfl) (by kernel_rfl) (fun _ _ _ h => h) (Or.inl ⟨by rfl, ?_⟩) hHeld ?_
      rotate_left 1
      · intro u hSu
        obtain ⟨q0, q1⟩ := row_cells (kept_row HPk.out.gb hSu.out (by simp))
        obtain ⟨q2, q3⟩ := HC.out _ hSu
        go_simp
        first | done | with_reducible rfl
      (try simp only [Act.put, List.setIfInBounds_toArray, List.set_cons_zero, List.set_cons_succ])
      refine wpAnyH_ready (rs := [7]) (by kernel_rfl) (by simp) ?_
      refine AllReadyH.cons (o := { dst := some 91, op := Op.buildSlice 22 1 #[(0, Operand.tmp 90)], type := 22, pos := "law.go:124", after := #[{ on := 6, ground := Ground.data }], guard := none }) rfl (fun Kz hK => ?_) AllReadyH.nil
      go_simp
      refine hK.out _ _ (Lib.hid (grown_trans hHeld.out (World.grownBy_alloc _ _ _))) (fun hH2 => ?_)
      clear hK Kz hHeld
      have hHeld := hH2
      clear hH2
      (try simp only [Act.put, List.setIfInBounds_toArray, List.set_cons_zero, List.set_cons_succ])
      refine wpAnyH_take (i := 8) (oi := { dst := some 92, op := Op.build 47 #[(1, Operand.tmp 91)], type := 47, pos := "law.go:124", after := #[{ on := 7, ground := Ground.data }], guard := none }) (v := ?_) rfl (by kernel_rfl) (by kernel_rfl) (by kernel_rfl) (fun _ _ _ h => h) (Or.inl ⟨by rfl, ?_⟩) hHeld ?_
      rotate_left 1
      · intro u hSu
        obtain ⟨q0, q1⟩ := row_cells (kept_row HPk.out.gb hSu.out (by simp))
        obtain ⟨q2, q3⟩ := HC.out _ hSu
        go_simp
        first | done | with_reducible rfl
      (try simp only [Act.put, List.setIfInBounds_toArray, List.set_cons_zero, List.set_cons_succ])
      refine wpAnyH_ready (rs := [9]) (by kernel_rfl) (by simp) ?_
      refine AllReadyH.cons (o := { dst := some 93, op := Op.call { callee := Callee.value (Operand.func 31), args := #[Operand.tmp 84, Operand.tmp 92], argTypes := #[26, 47] }, type := 26, pos := "law.go:124", after := #[{ on := 0, ground := Ground.data }, { on := 8, ground := Ground.data }], guard := none }) rfl (fun Kz hK => ?_) AllReadyH.nil
      go_simp
      go_at_call 31
      refine (twc_any HV.out x (some ⟨b, off, none⟩) pL cR cL _ _ _ _ x.id rfl (HPk.out.t.keep hHeld.out) ((fl_oneX wr x.id).keep (grown_drew (grown_refl _ _)))).mono ?_
      rintro e w12 ⟨pR2, cR2, pL2, cL2, rfl, hT2, hg⟩
      have HT2 := Lib.hid hT2
      clear hT2
      refine hK.out _ _ (Lib.hid (grown_trans hHeld.out hg)) (fun hH2 => ?_)
      clear hK Kz hHeld
      have hHeld := hH2
      clear hH2
      (try simp only [Act.put, List.setIfInBounds_toArray, List.set_cons_zero, List.set_cons_succ])
      refine wpAnyH_ready (rs := [10]) (by kernel_rfl) (by simp) ?_
      refine AllReadyH.cons (o := { dst := some 94, op := Op.call { callee := Callee.value (Operand.func 37), args := #[Operand.tmp 93], argTypes := #[26] }, type := 60, pos := "law.go:124", after := #[{ on := 9, ground := Ground.data }, { on := 9, ground := Ground.chain }], guard := none }) rfl (fun Kz hK => ?_) AllReadyH.nil
      go_simp
      go_at_call 37
      refine (tcomps_any ⟨woR (cutF x) R, woL (cutF x) L, pR2, cR2, pL2, cL2⟩ _ _ HT2.out (fun _ => Nat.le_trans (List.length_filter_le _ _) h12)).mono ?_
      rintro e w13 ⟨p6, c6, vs6, rfl, -, -, -, -, hg⟩
      simp only
      refine hK.out _ _ (Lib.hid (grown_trans hHeld.out hg)) (fun hH2 => ?_)
      clear hK Kz hHeld
      have hHeld := hH2
      clear hH2
      (try simp only [Act.put, List.setIfInBounds_toArray, List.set_cons_zero, List.set_cons_succ])
      refine wpAnyH_take (i := 11) (oi := { dst := some 95, op := Op.call { callee := Callee.builtin Builtin.len, args := #[Operand.tmp 94], argTypes := #[60] }, type := 3, pos := "law.go:124", after := #[{ on := 10, ground := Ground.data }], guard := none }) (v := ?_) rfl (by kernel_rfl) (by kernel_rfl) (by kernel_rfl) (fun _ _ _ h => h) (Or.inl ⟨by rfl, ?_⟩) hHeld ?_
      rotate_left 1
      · intro u hSu
        obtain ⟨q0, q1⟩ := row_cells (kept_row HPk.out.gb hSu.out (by simp))
        obtain ⟨q2, q3⟩ := HC.out _ hSu
        go_simp
        first | done | with_reducible rfl
      (try simp only [Act.put, List.setIfInBounds_toArray, List.set_cons_zero, List.set_cons_succ])
      refine wpAnyH_take (i := 13) (oi := { dst := some 97, op := Op.binOp BinOp.gtr 3 (Operand.tmp 95) (Operand.tmp 96) 3, type := 4, pos := "law.go:124", after := #[{ on := 11, ground := Ground.data }, { on := 12, ground := Ground.data }], guard := none }) (v := (.bool zb)) rfl (by kernel_rfl) (by kernel_rfl) (by kernel_rfl) (fun _ _ _ h => h) (Or.inl ⟨by rfl, ?_⟩) hHeld ?_
      · intro u hSu
        obtain ⟨q0, q1⟩ := row_cells (kept_row HPk.out.gb hSu.out (by simp))
        obtain ⟨q2, q3⟩ := HC.out _ hSu
        go_simp
        first | done | (have := HZ.out; unfold isCut at this; rw [HN.out] at this; simp [← this]; done) | trace_state
      (try simp only [Act.put, List.setIfInBounds_toArray, List.set_cons_zero, List.set_cons_succ])
      refine wpAnyH_take (i := 14) (oi := { dst := some 12, op := Op.assign (Operand.tmp 97), type := 4, pos := "law.go:124", after := #[{ on := 13, ground := Ground.data }, { on := 10, ground := Ground.chain }, { on := 0, ground := Ground.phase }, { on := 1, ground := Ground.phase }, { on := 2, ground := Ground.phase }, { on := 3, ground := Ground.phase }, { on := 4, ground := Ground.phase }, { on := 5, ground := Ground.phase }, { on := 6, ground := Ground.phase }, { on := 7, ground := Ground.phase }, { on := 8, ground := Ground.phase }, { on := 9, ground := Ground.phase }, { on := 10, ground := Ground.phase }, { on := 11, ground := Ground.phase }, { on := 12, ground := Ground.phase }, { on := 13, ground := Ground.phase }], guard := none }) (v := (.bool zb)) rfl (by kernel_rfl) (by kernel_rfl) (by kernel_rfl) (fun _ _ _ h => h) (Or.inl ⟨by rfl, ?_⟩) hHeld ?_
      · intro u hSu
        obtain ⟨q0, q1⟩ := row_cells (kept_row HPk.out.gb hSu.out (by simp))
        obtain ⟨q2, q3⟩ := HC.out _ hSu
        go_simp
        first | done | (have := HZ.out; unfold isCut at this; rw [HN.out] at this; simp [← this]; done) | trace_state
      (try simp only [Act.put, List.setIfInBounds_toArray, List.set_cons_zero, List.set_cons_succ])
      refine wpAnyH_done (by kernel_rfl) ?_ _
      have K4 := Lib.hid (grown_trans K.out hHeld.out)
      have hC2 := HC.out _ hHeld
      have HPz := Lib.hid (HPk.out.keep hHeld.out)
      have HBk := Lib.hid (HBa.out.2.grown K4.out (by simp))
      obtain ⟨c0, c1'⟩ := row_cells HPz.out.gb
      obtain ⟨d0, d1⟩ := hC2
      clear hHeld HC HPk K
      go_wp2_with fail
      refine (rhas4_any Xs x.id p2 c2 _ _ HBk.out hmX).mono ?_
      rw [HNM.out]
      rintro e w14 ⟨rfl, rfl⟩
      have hzz : (zb != zb) = false := by cases zb <;> rfl
      go_wp2_with fail
      exact ⟨⟨k + 1, by omega, congrArg _ (by omega), K4⟩, by simp only [intOf]; omega⟩
    · obtain rfl : k = R.length := by omega
      go_wp2_with fail
      refine (tawake_any _).mono ?_
      rintro e w15 ⟨rfl, hg⟩
      have HE := Lib.hid (grown_trans HPk.out.gr hg)
      clear hg
      go_wp2_with fail
      go_ret
      exact ⟨rfl, HE.out⟩
end Go.Proofs.Ytiencdgmnkphjaa
