/- Parts of the proof, packed: TaSaR, TaLaLaw. -/
import Derived.Test.YtahafijpcmphaaaGreatQa28
import Derived.Test.YtahafijpcmphaaaGreatQa26
import Derived.Test.YtahafijpcmphaaaGreatQa23
import Derived.Test.YtahafijpcmphaaaGreatQa13
import Derived.Test.YtahafijpcmphaaaGreatQa27
import Derived.Test.YtahafijpcmphaaaGreatQa22
/- tables: both All give the same tables, and they are valid together. -/
namespace Go.Proofs.YtahafijpcmphaaaGreat
open Go.RowKit Bs
set_option maxRecDepth 100000 in
theorem allM_same {R : List Rt} {L0 : List Lk} {s n : Int} {E : List Ed} {A B : List Tb} (h1 : AllM R L0 s n E R A) (h2 : AllM R L0 s n E R B) : A.length = B.length ∧ ∀ (i : Nat) (x y : Tb), A[i]? = some x → B[i]? = some y → smT x.r x.s x.n x.L y.r y.s y.n y.L = true := by
  have hm : A.map (·.r) = B.map (·.r) := h1.1.trans h2.1.symm
  refine ⟨by have := congrArg List.length hm; simpa using this, fun i x y hx hy => ?_⟩
  have hr : x.r = y.r := by
    have h3 : (A.map (·.r))[i]? = some x.r := by rw [List.getElem?_map, hx]; rfl
    rw [hm, List.getElem?_map, hy] at h3
    exact (Option.some.inj h3).symm
  obtain ⟨a1, a2, a3⟩ := h1.2 x (List.mem_of_getElem? hx)
  obtain ⟨b1, b2, b3⟩ := h2.2 y (List.mem_of_getElem? hy)
  unfold smT
  rw [decide_eq_true_eq]
  refine ⟨hr, by rw [a1, b1], by rw [a2, b2], ?_⟩
  rw [← hr] at b3
  exact bldM_uniq a3 b3
set_option maxRecDepth 100000 in
theorem allM_valid {R : List Rt} {L0 : List Lk} {s n : Int} {E : List Ed} {A : List Tb} (h : AllM R L0 s n E R A) (hok : okT R L0 = true) (hp : vPl s n E = true) (hl : R.length ≤ 24) : caT A = 0 := by
  have hlen : ¬ 24 < A.length := by have := h.len; omega
  have hca : A.any caW = false := List.any_eq_false.2 fun x hx => by
    obtain ⟨a1, a2, a3, -, a5⟩ := all_valid h hok hp hx
    have := tab_valid a5 hok (s := x.s) (n := x.n) (by rw [a1, a2]; exact hp) a3
    unfold caW
    rw [this]
    decide
  have hasc : ascB ltTb A = true := by
    rw [ascB_iff]
    intro i x y hx hy
    have hpw : (A.map (·.r)).Pairwise (· < ·) := by
      rw [h.1]
      exact (ids_pair hok).sublist (List.Sublist.map _ List.filter_sublist)
    have h1 := (List.getElem?_eq_some_iff.1 hx)
    have h2 := (List.getElem?_eq_some_iff.1 hy)
    obtain ⟨i1, e1⟩ := h1
    obtain ⟨i2, e2⟩ := h2
    have := List.pairwise_iff_getElem.1 hpw i (i + 1) (by simpa using i1) (by simpa using i2) (by omega)
    rw [List.getElem_map, List.getElem_map, e1, e2] at this
    unfold ltTb
    exact decide_eq_true this
  have hcf : A.any (cfTb ((A.head?.map Tb.s).getD 0) ((A.head?.map Tb.n).getD 0)) = false := List.any_eq_false.2 fun x hx => by
    obtain ⟨a1, a2, -⟩ := h.2 x hx
    cases A with
    | nil => cases hx
    | cons y t =>
      obtain ⟨b1, b2, -⟩ := h.2 y (by simp)
      unfold cfTb
      simp [a1, a2, b1, b2]
  unfold caT
  rw [if_neg hlen, if_neg (by rw [hca]; decide), if_neg (by rw [hasc]; decide), if_neg (by rw [hcf]; decide)]
set_option maxRecDepth 100000 in
set_option maxHeartbeats 6400000 in
theorem rSameAll_any (A B : List Tb) (p1 p2 : Option Addr) (c1 c2 : Nat) (q1 q2 : Nat → Prop) (w : World) (h1 : RdT w q1 p1 c1 A) (h2 : RdT w q2 p2 c2 B) (hm : A.length ≤ 9223372036854775807) (hl : A.length = B.length) (hs : ∀ (i : Nat) (x y : Tb), A[i]? = some x → B[i]? = some y → smT x.r x.s x.n x.L y.r y.s y.n y.L = true) :
    Calls Tryz.prog 38 #[.slice p1 A.length c1, .slice p2 B.length c2] w fun e w' => e = .returned (.bool true) ∧ w.grownBy w' none := by
  have H := Lib.hid (And.intro h1 h2)
  have HS := Lib.hid hs
  have HL := Lib.hid hl
  rw [← hl]
  clear h1 h2 hl hs
  go_enter Tryz.func38, Tryz.ntmps38
  have hne : ((A.length : Int) != (A.length : Int)) = false := by simp
  go_wp2_with fail
  clear hne
  go_loopw [5] (fun v wr => ∃ k : Nat, k ≤ A.length ∧ v = .int .i64 (k : Int) ∧ Hid (w.grownBy wr none)) (fun v _ => A.length - (RowKit.intOf v).toNat)
  case atStart => exact ⟨0, Nat.zero_le _, rfl, Lib.hid (grown_refl _ _)⟩
  case round =>
  obtain ⟨k, hk, rfl, G⟩ := hrel
  obtain ⟨w5, hw5⟩ : ∃ w5, w5 = wr := ⟨_, rfl⟩
  rw [← hw5] at G ⊢
  clear hw5
  by_cases hlt : k < A.length
  case neg =>
    obtain rfl : k = A.length := by omega
    have hnl : ¬ (A.length : Int) < (A.length : Int) := by omega
    go_wp2_with fail
    go_ret
    exact ⟨rfl, G.out⟩
  have hlt' : (k : Int) < (A.length : Int) := by omega
  have hk0 : (0 : Int) ≤ (k : Int) := by omega
  obtain ⟨x, hx⟩ : ∃ x, A[k]? = some x := ⟨_, List.getElem?_eq_getElem hlt⟩
  obtain ⟨y, hy⟩ : ∃ y, B[k]? = some y := ⟨_, List.getElem?_eq_getElem (by have := HL.out; omega)⟩
  have K1 := Lib.hid (H.out.1.keep G.out)
  have K2 := Lib.hid (H.out.2.keep G.out)
  obtain ⟨-, b1, o1, rfl, -, hc1⟩ := tb_cells K1.out.rd (by omega)
  obtain ⟨-, b2, o2, rfl, -, hc2⟩ := tb_cells K2.out.rd (by have := HL.out; omega)
  have HA := Lib.hid (And.intro (hc1 k x hx) (hc2 k y hy))
  have HXY := Lib.hid (And.intro (K1.out.ok x (List.mem_of_getElem? hx)) (K2.out.ok y (List.mem_of_getElem? hy)))
  have HSM := Lib.hid (HS.out k x y hx hy)
  clear hc1 hc2 hx hy
  go_upto_region 6 with fail
  refine wp_region_held_drew (S := fun w' => Hid (w5.grownBy w' none)) (by kernel_rfl) (Lib.hid (grown_drew (grown_refl _ none))) (fun hHeld => ?_)
  refine wpAnyH_take (i := 0) (oi := { dst := some 17, op := Op.move (Operand.tmp 0), type := 29, pos := "ref.go:100", after := #[], guard := none }) (v := ?_) rfl (by kernel_rfl) (by kernel_rfl) (by kernel_rfl) (fun _ _ _ h => h) (Or.inl ⟨by rfl, ?_⟩) hHeld ?_
  rotate_left 1
  · intro u hSu
    obtain ⟨x0, x1, x2, x3⟩ := HA.out.1
    obtain ⟨y0, y1, y2, y3⟩ := HA.out.2
    have x0u := hSu.out.cell x0 (by simp)
    have x1u := hSu.out.cell x1 (by simp)
    have x2u := hSu.out.cell x2 (by simp)
    have x3u := hSu.out.cell x3 (by simp)
    have y0u := hSu.out.cell y0 (by simp)
    have y1u := hSu.out.cell y1 (by simp)
    have y2u := hSu.out.cell y2 (by simp)
    have y3u := hSu.out.cell y3 (by simp)
    go_simp
    first | done | with_reducible rfl
  (try simp only [Act.put, List.setIfInBounds_toArray, List.set_cons_zero, List.set_cons_succ])
  refine wpAnyH_take (i := 1) (oi := { dst := some 18, op := Op.move (Operand.tmp 5), type := 3, pos := "ref.go:100", after := #[], guard := none }) (v := ?_) rfl (by kernel_rfl) (by kernel_rfl) (by kernel_rfl) (fun _ _ _ h => h) (Or.inl ⟨by rfl, ?_⟩) hHeld ?_
  rotate_left 1
  · intro u hSu
    obtain ⟨x0, x1, x2, x3⟩ := HA.out.1
    obtain ⟨y0, y1, y2, y3⟩ := HA.out.2
    have x0u := hSu.out.cell x0 (by simp)
    have x1u := hSu.out.cell x1 (by simp)
    have x2u := hSu.out.cell x2 (by simp)
    have x3u := hSu.out.cell x3 (by simp)
    have y0u := hSu.out.cell y0 (by simp)
    have y1u := hSu.out.cell y1 (by simp)
    have y2u := hSu.out.cell y2 (by simp)
    have y3u := hSu.out.cell y3 (by simp)
    go_simp
    first | done | with_reducible rfl
  (try simp only [Act.put, List.setIfInBounds_toArray, List.set_cons_zero, List.set_cons_succ])
  refine wpAnyH_take (i := 2) (oi := { dst := some 19, op := Op.indexAddr 29 (Operand.tmp 17) (Operand.tmp 18), type := 0, pos := "ref.go:100", after := #[{ on := 0, ground := Ground.data }, { on := 1, ground := Ground.data }], guard := none }) (v := ?_) rfl (by kernel_rfl) (by kernel_rfl) (by kernel_rfl) (fun _ _ _ h => h) (Or.inl ⟨by rfl, ?_⟩) hHeld ?_
  rotate_left 1
  · intro u hSu
    obtain ⟨x0, x1, x2, x3⟩ := HA.out.1
    obtain ⟨y0, y1, y2, y3⟩ := HA.out.2
    have x0u := hSu.out.cell x0 (by simp)
    have x1u := hSu.out.cell x1 (by simp)
    have x2u := hSu.out.cell x2 (by simp)
    have x3u := hSu.out.cell x3 (by simp)
    have y0u := hSu.out.cell y0 (by simp)
    have y1u := hSu.out.cell y1 (by simp)
    have y2u := hSu.out.cell y2 (by simp)
    have y3u := hSu.out.cell y3 (by simp)
    go_simp
    first | done | with_reducible rfl
  (try simp only [Act.put, List.setIfInBounds_toArray, List.set_cons_zero, List.set_cons_succ])
  refine wpAnyH_take (i := 3) (oi := { dst := some 20, op := Op.load 25 (Operand.tmp 19), type := 25, pos := "ref.go:100", after := #[{ on := 2, ground := Ground.data }], guard := none }) (v := ?_) rfl (by kernel_rfl) (by kernel_rfl) (by kernel_rfl) (fun _ _ _ h => h) (Or.inl ⟨by rfl, ?_⟩) hHeld ?_
  rotate_left 1
  · intro u hSu
    obtain ⟨x0, x1, x2, x3⟩ := HA.out.1
    obtain ⟨y0, y1, y2, y3⟩ := HA.out.2
    have x0u := hSu.out.cell x0 (by simp)
    have x1u := hSu.out.cell x1 (by simp)
    have x2u := hSu.out.cell x2 (by simp)
    have x3u := hSu.out.cell x3 (by simp)
    have y0u := hSu.out.cell y0 (by simp)
    have y1u := hSu.out.cell y1 (by simp)
    have y2u := hSu.out.cell y2 (by simp)
    have y3u := hSu.out.cell y3 (by simp)
    go_simp
    first | done | with_reducible rfl
  (try simp only [Act.put, List.setIfInBounds_toArray, List.set_cons_zero, List.set_cons_succ])
  refine wpAnyH_take (i := 4) (oi := { dst := some 21, op := Op.move (Operand.tmp 1), type := 29, pos := "ref.go:100", after := #[], guard := none }) (v := ?_) rfl (by kernel_rfl) (by kernel_rfl) (by kernel_rfl) (fun _ _ _ h => h) (Or.inl ⟨by rfl, ?_⟩) hHeld ?_
  rotate_left 1
  · intro u hSu
    obtain ⟨x0, x1, x2, x3⟩ := HA.out.1
    obtain ⟨y0, y1, y2, y3⟩ := HA.out.2
    have x0u := hSu.out.cell x0 (by simp)
    have x1u := hSu.out.cell x1 (by simp)
    have x2u := hSu.out.cell x2 (by simp)
    have x3u := hSu.out.cell x3 (by simp)
    have y0u := hSu.out.cell y0 (by simp)
    have y1u := hSu.out.cell y1 (by simp)
    have y2u := hSu.out.cell y2 (by simp)
    have y3u := hSu.out.cell y3 (by simp)
    go_simp
    first | done | with_reducible rfl
  (try simp only [Act.put, List.setIfInBounds_toArray, List.set_cons_zero, List.set_cons_succ])
  refine wpAnyH_take (i := 5) (oi := { dst := some 22, op := Op.move (Operand.tmp 5), type := 3, pos := "ref.go:100", after := #[], guard := none }) (v := ?_) rfl (by kernel_rfl) (by kernel_rfl) (by kernel_rfl) (fun _ _ _ h => h) (Or.inl ⟨by rfl, ?_⟩) hHeld ?_
  rotate_left 1
  · intro u hSu
    obtain ⟨x0, x1, x2, x3⟩ := HA.out.1
    obtain ⟨y0, y1, y2, y3⟩ := HA.out.2
    have x0u := hSu.out.cell x0 (by simp)
    have x1u := hSu.out.cell x1 (by simp)
    have x2u := hSu.out.cell x2 (by simp)
    have x3u := hSu.out.cell x3 (by simp)
    have y0u := hSu.out.cell y0 (by simp)
    have y1u := hSu.out.cell y1 (by simp)
    have y2u := hSu.out.cell y2 (by simp)
    have y3u := hSu.out.cell y3 (by simp)
    go_simp
    first | done | with_reducible rfl
  (try simp only [Act.put, List.setIfInBounds_toArray, List.set_cons_zero, List.set_cons_succ])
  refine wpAnyH_take (i := 6) (oi := { dst := some 23, op := Op.indexAddr 29 (Operand.tmp 21) (Operand.tmp 22), type := 0, pos := "ref.go:100", after := #[{ on := 4, ground := Ground.data }, { on := 5, ground := Ground.data }], guard := none }) (v := ?_) rfl (by kernel_rfl) (by kernel_rfl) (by kernel_rfl) (fun _ _ _ h => h) (Or.inl ⟨by rfl, ?_⟩) hHeld ?_
  rotate_left 1
  · intro u hSu
    obtain ⟨x0, x1, x2, x3⟩ := HA.out.1
    obtain ⟨y0, y1, y2, y3⟩ := HA.out.2
    have x0u := hSu.out.cell x0 (by simp)
    have x1u := hSu.out.cell x1 (by simp)
    have x2u := hSu.out.cell x2 (by simp)
    have x3u := hSu.out.cell x3 (by simp)
    have y0u := hSu.out.cell y0 (by simp)
    have y1u := hSu.out.cell y1 (by simp)
    have y2u := hSu.out.cell y2 (by simp)
    have y3u := hSu.out.cell y3 (by simp)
    go_simp
    first | done | with_reducible rfl
  (try simp only [Act.put, List.setIfInBounds_toArray, List.set_cons_zero, List.set_cons_succ])
  refine wpAnyH_take (i := 7) (oi := { dst := some 24, op := Op.load 25 (Operand.tmp 23), type := 25, pos := "ref.go:100", after := #[{ on := 6, ground := Ground.data }], guard := none }) (v := ?_) rfl (by kernel_rfl) (by kernel_rfl) (by kernel_rfl) (fun _ _ _ h => h) (Or.inl ⟨by rfl, ?_⟩) hHeld ?_
  rotate_left 1
  · intro u hSu
    obtain ⟨x0, x1, x2, x3⟩ := HA.out.1
    obtain ⟨y0, y1, y2, y3⟩ := HA.out.2
    have x0u := hSu.out.cell x0 (by simp)
    have x1u := hSu.out.cell x1 (by simp)
    have x2u := hSu.out.cell x2 (by simp)
    have x3u := hSu.out.cell x3 (by simp)
    have y0u := hSu.out.cell y0 (by simp)
    have y1u := hSu.out.cell y1 (by simp)
    have y2u := hSu.out.cell y2 (by simp)
    have y3u := hSu.out.cell y3 (by simp)
    go_simp
    first | done | with_reducible rfl
  (try simp only [Act.put, List.setIfInBounds_toArray, List.set_cons_zero, List.set_cons_succ])
  refine wpAnyH_ready (rs := [8]) (by kernel_rfl) (by simp) ?_
  refine AllReadyH.cons (o := { dst := some 25, op := Op.call { callee := Callee.value (Operand.func 16), args := #[Operand.tmp 20, Operand.tmp 24], argTypes := #[25, 25] }, type := 4, pos := "ref.go:100", after := #[{ on := 3, ground := Ground.data }, { on := 7, ground := Ground.data }], guard := none }) rfl (fun Kz hK => ?_) AllReadyH.nil
  go_simp
  go_at_call 16
  refine (rSame_any x.r x.s x.n x.p x.c x.L y.r y.s y.n y.p y.c y.L _ _ _ (HXY.out.1.1.keep hHeld.out) (HXY.out.2.1.keep hHeld.out) HXY.out.1.2 HXY.out.2.2).mono ?_
  rintro e wx ⟨rfl, hg⟩
  rw [HSM.out]
  have HN := Lib.hid (grown_trans hHeld.out hg)
  clear hg
  simp only
  refine hK.out _ _ (HN) (fun hH2 => ?_)
  clear hK Kz hHeld
  have hHeld := hH2
  clear hH2
  (try simp only [Act.put, List.setIfInBounds_toArray, List.set_cons_zero, List.set_cons_succ])
  refine wpAnyH_take (i := 9) (oi := { dst := some 26, op := Op.unOp UnOp.not 4 (Operand.tmp 25), type := 4, pos := "ref.go:100", after := #[{ on := 8, ground := Ground.data }], guard := none }) (v := ?_) rfl (by kernel_rfl) (by kernel_rfl) (by kernel_rfl) (fun _ _ _ h => h) (Or.inl ⟨by rfl, ?_⟩) hHeld ?_
  rotate_left 1
  · intro u hSu
    obtain ⟨x0, x1, x2, x3⟩ := HA.out.1
    obtain ⟨y0, y1, y2, y3⟩ := HA.out.2
    have x0u := hSu.out.cell x0 (by simp)
    have x1u := hSu.out.cell x1 (by simp)
    have x2u := hSu.out.cell x2 (by simp)
    have x3u := hSu.out.cell x3 (by simp)
    have y0u := hSu.out.cell y0 (by simp)
    have y1u := hSu.out.cell y1 (by simp)
    have y2u := hSu.out.cell y2 (by simp)
    have y3u := hSu.out.cell y3 (by simp)
    go_simp
    first | done | with_reducible rfl
  (try simp only [Act.put, List.setIfInBounds_toArray, List.set_cons_zero, List.set_cons_succ])
  refine wpAnyH_done (by kernel_rfl) ?_ _
  have GW := Lib.hid (grown_trans G.out hHeld.out)
  clear hHeld
  go_wp2_with fail
  exact ⟨⟨k + 1, by omega, congrArg _ (by omega), GW⟩, by simp only [RowKit.intOf]; omega⟩
end Go.Proofs.YtahafijpcmphaaaGreat

/- tables: the law of All. -/
namespace Go.Proofs.YtahafijpcmphaaaGreat
open Go.RowKit Bs
set_option maxRecDepth 100000 in
set_option maxHeartbeats 12800000 in
theorem tallsl_walk (v : Value) (w : World) (hv : IntsIn w v) :
    Calls Tryz.prog 7 #[v] w fun e w' => e = .returned (.bool true) ∧ w.grownBy w' none := by
  have HV := Lib.hid hv
  clear hv
  go_enter Tryz.func7, Tryz.ntmps7
  go_wp2_with fail
  refine (new_any v w HV.out).mono ?_
  rintro e w1 ⟨rfl, hg1, hT1⟩
  have H1 := Lib.hid (And.intro hg1 hT1)
  clear hg1 hT1 HV
  obtain ⟨a, ha⟩ : ∃ a, w.heap.size = a := ⟨_, rfl⟩
  have HA := Lib.hid ha
  rw [ha] at H1 ⊢
  clear ha
  go_wp2_with fail
  refine (mixed_any a 6 (by omega) (by omega) w1 H1.out.2).mono ?_
  rintro e w3 ⟨R0, R, L0, vR, vL, rfl, hR, hL, hO, hid, hs⟩
  obtain ⟨pR, cR, pL, cL, rfl, rfl, hTg⟩ := tg_of_ownT hR hL
  have HGT := Lib.hid (GT.mix (T := ⟨R, L0, pR, cR, pL, cL⟩) hO (by omega) hid (pl_own hL))
  have H3 := Lib.hid (gx_start (T := ⟨R, L0, pR, cR, pL, cL⟩) HA.out H1.out.1 H1.out.2 hTg hs)
  clear hR hL hO hid hs hTg H1
  go_upto_region 3 with fail
  generalize w3.alloc _ = w4 at *
  generalize w3.heap.size = B at *
  go_wp2_with fail
  refine (one_any a 6 (by unfold I64; omega) w4 H3.out.tp).mono ?_
  rintro e w5 ⟨z, rfl, hs⟩
  have H5 := Lib.hid (H3.out.tape hs)
  have HGT2 := Lib.hid HGT.out.1
  clear hs H3 HGT
  go_upto_if 15 with fail
  go_cut [] from 16 to 17 (fun wx => ∃ T : Tg, Hid (GT T) ∧ Hid (GX w a B T wx))
  case first =>
    cases z
    case false =>
      go_wp2_with fail
      go_meet
      exact ⟨_, HGT2, H5⟩
    go_wp2_with fail
    refine (stopo_any a 6 2 (by omega) (by omega) (by unfold I64; omega) w5 H5.out.tp).mono ?_
    rintro e w6 ⟨T2, rfl, hT, hO, hp, hs⟩
    have HGT3 := Lib.hid (GT.topo hO (by omega) hp)
    have H6 := Lib.hid (H5.out.put hT hs)
    have hB6 := kept_row H5.out.bT hs.1 (fun e => by have := Option.some.inj e; have := H5.out.lo; omega)
    obtain ⟨t0, t1⟩ := row_cells hB6
    have f0 := frozen_of_row _ _ 0 _ _ hB6
    have f1 := frozen_of_row _ _ 1 _ _ hB6
    obtain ⟨R2, L2, pR2, cR2, pL2, cL2⟩ := T2
    (try simp only at H6 HGT3)
    clear hT hO hp hs H5 hB6 HGT2
    go_wp2_with fail
    go_meet
    exact ⟨_, HGT3, H6⟩
  case rest =>
  clear H5 HGT2
  obtain ⟨T, HGT, H6⟩ := hcut
  obtain ⟨R, L0, pR, cR, pL, cL⟩ := T
  (try simp only at HGT H6)
  obtain ⟨t0, t1⟩ := row_cells H6.out.bT
  go_wp2_with fail
  refine (tplan_any a 6 (by unfold I64; omega) R pR pL cR L0.length cL HGT.out.len.2 wc H6.out.tp (H6.out.t.r.mono (fun b hb => ⟨by omega, hb.2.2⟩))).mono ?_
  rintro e w7 ⟨sub, len, E, pE, cE, rfl, hE, hEl, -, hs⟩
  have H7 := Lib.hid (gp_start sub len H6.out hs hE)
  have HEL : Hid (E.length ≤ 41) := Lib.hid (by have := HGT.out.len.2; simp only at this; omega)
  clear hE hEl hs H6 t0 t1
  go_upto_region 6 with fail
  generalize w7.alloc _ = w8 at *
  generalize w7.heap.size = C at *
  obtain ⟨t0, t1⟩ := row_cells H7.out.gx.bT
  obtain ⟨q0, q1, q2⟩ := row3B H7.out.bP
  go_wp2_with fail
  refine (tAll_any ⟨R, L0, pR, cR, pL, cL⟩ sub len E pE cE _ _ w8 H7.out.gx.t H7.out.e (by have := HEL.out; omega) HGT.out.pl (Nat.le_trans HGT.out.len.2 (by decide)) HGT.out.ok (Nat.le_trans HGT.out.l60 (by decide))).mono ?_
  rintro e w9 ⟨A, pA, cA, er, rfl, hres, hown, htab, hg⟩
  have HA : Hid (RdT w9 (fun _ => True) pA cA A ∧ A.length ≤ 9223372036854775807) := Lib.hid ⟨⟨(rdf_of_own hown).mono (fun _ _ => trivial), fun x hx => ⟨(htab x hx).rd.mono (fun _ _ => trivial), Nat.le_trans (htab x hx).hc.1 (htab x hx).hc.2⟩⟩, by
    obtain ⟨p, c, e, h1, h2⟩ := own_shape hown
    exact Nat.le_trans h1 h2⟩
  have HRA := Lib.hid hres
  have H8 := Lib.hid (H7.out.keep hg)
  clear hres hown htab hg H7 t0 t1 q0 q1 q2
  simp only
  obtain ⟨t0, t1⟩ := row_cells H8.out.gx.bT
  obtain ⟨q0, q1, q2⟩ := row3B H8.out.bP
  go_wp2_with fail
  refine (rall11_any ⟨R, L0, pR, cR, pL, cL⟩ sub len E pE cE _ _ w9 H8.out.gx.t H8.out.e (by have := HEL.out; omega)).mono ?_
  rintro e w10 ⟨B2, pB, cB, er2, rfl, hres, hown, htab, hg⟩
  have HB : Hid (RdT w10 (fun _ => True) pB cB B2) := Lib.hid ⟨(rdf_of_own hown).mono (fun _ _ => trivial), fun x hx => ⟨(htab x hx).rd.mono (fun _ _ => trivial), Nat.le_trans (htab x hx).hc.1 (htab x hx).hc.2⟩⟩
  have HA2 := Lib.hid (HA.out.1.keep hg)
  have G10 := Lib.hid (grown_trans H8.out.gx.gr hg)
  have HAL := Lib.hid HA.out.2
  have HALL : Hid (er2 = er ∧ (A.length = B2.length ∧ ∀ (i : Nat) (x y : Tb), A[i]? = some x → B2[i]? = some y → smT x.r x.s x.n x.L y.r y.s y.n y.L = true) ∧ ((er = 0 ∧ caT A = 0) ∨ er = 1)) := Lib.hid (by
    rcases HRA.out with ⟨a0, a1, a2, a3⟩ | ⟨a0, a1, a2⟩
    · rcases hres with ⟨b0, b1, b2, b3⟩ | ⟨b0, b1, b2⟩
      · exact ⟨by omega, allM_same a3 b3, Or.inl ⟨a0, allM_valid a3 a1 a2 (okT_len a1).1⟩⟩
      · exact absurd ⟨a1, a2⟩ b1
    · rcases hres with ⟨b0, b1, b2, b3⟩ | ⟨b0, b1, b2⟩
      · exact absurd ⟨b1, b2⟩ a1
      · exact ⟨by omega, ⟨by rw [a2, b2], fun i x y hx => by rw [a2] at hx; simp at hx⟩, Or.inr a0⟩)
  clear hres hown htab hg H8 t0 t1 q0 q1 q2 HA HRA
  simp only
  obtain ⟨rfl, -, -⟩ := HALL.out
  go_wp2_with fail
  refine (rSameAll_any A B2 pA pB cA cB _ _ w10 HA2.out HB.out HAL.out HALL.out.2.1.1 HALL.out.2.1.2).mono ?_
  rintro e w11 ⟨rfl, hg⟩
  have HA3 := Lib.hid (HA2.out.keep hg)
  have G11 := Lib.hid (grown_trans G10.out hg)
  clear hg HA2 HB G10
  simp only
  rcases HALL.out.2.2 with ⟨h0, hca⟩ | h1
  · have HCA := Lib.hid hca
    clear hca HALL
    subst h0
    go_wp2_with fail
    refine (tCheckAll_any pA cA A _ w11 HA3.out HAL.out).mono ?_
    rintro e w12 ⟨rfl, hg⟩
    rw [HCA.out]
    have G12 := Lib.hid (grown_trans G11.out hg)
    clear hg HA3 G11
    simp only
    go_wp2_with fail
    refine (awk11_any w12).mono ?_
    rintro e w13 ⟨rfl, hg⟩
    have G13 := Lib.hid (grown_trans G12.out hg)
    clear hg G12
    simp only
    go_wp2_with fail
    go_ret
    exact ⟨rfl, G13.out⟩
  · clear HALL
    subst h1
    go_wp2_with fail
    refine (awk11_any w11).mono ?_
    rintro e w13 ⟨rfl, hg⟩
    have G13 := Lib.hid (grown_trans G11.out hg)
    clear hg G11
    simp only
    go_wp2_with fail
    go_ret
    exact ⟨rfl, G13.out⟩
end Go.Proofs.YtahafijpcmphaaaGreat
