/- Parts of the proof, packed: ToPaLaw. -/
import Derived.Test.YtiencdgmnkphjaaDvd21
import Derived.Test.YtiencdgmnkphjaaDvd20
/- The law TopologyParts. -/
namespace Go.Proofs.Ytiencdgmnkphjaa
open Go.RowKit Bs
theorem TCPost.cl {Cs : List (List Int)} {w w' : World} {e : Ending} (h : TCPost Cs w e w') : ∃ p c vals, e = .returned (.slice p Cs.length c) ∧ CL w' (w.heap.size ≤ ·) p c Cs vals ∧ w.grownBy w' none := by
  obtain ⟨p, c, vals, e, h1, h2, h3, h4, h5⟩ := h
  exact ⟨p, c, vals, e, ⟨h1, h2, h3, h4⟩, h5⟩
theorem CL.all {w : World} {q : Nat → Prop} {p : Option Addr} {c : Nat} {Cs : List (List Int)} {vals : List Value} (h : CL w q p c Cs vals) : CL w (fun _ => True) p c Cs vals :=
  ⟨h.rd.mono (fun _ _ => trivial), h.len, h.cap, fun i C x h1 h2 => by
    obtain ⟨p, c, e, hr, hc⟩ := h.at_ i C x h1 h2
    exact ⟨p, c, e, hr.mono (fun _ _ => trivial), hc⟩⟩
set_option maxRecDepth 100000 in
set_option maxHeartbeats 6400000 in
theorem tparts_walk (v : Value) (x y : Int) (w : World) (hv : IntsIn w v) :
    Calls Try.prog 7 #[v, .int .i64 x, .int .i64 y] w fun e w' => e = .returned (.bool true) ∧ w.grownBy w' none := by
  go_enter Try.func7, Try.ntmps7
  go_wp2_with fail
  refine (new_any v w hv).mono ?_
  rintro e w2 ⟨rfl, hg1, hT1⟩
  have H2 := Lib.hid (And.intro hg1 hT1)
  obtain ⟨a, ha⟩ : ∃ a, a = w.heap.size := ⟨_, rfl⟩
  rw [← ha] at H2
  have HA := Lib.hid ha
  clear hg1 hT1 hv
  rw [← HA.out]
  clear ha
  go_wp2_with fail
  refine (topo_tg a 7 8 (by decide) (by decide) (by unfold I64; omega) w2 H2.out.2).mono ?_
  rintro e w3 ⟨T, rfl, hT, hO, hs3⟩
  obtain ⟨R, L, pR, cR, pL, cL⟩ := T
  simp only at hO ⊢
  have gal := World.grownBy_alloc w3 (.cells #[.slice pR R.length cR, .slice pL L.length cL] 26) none
  have ha2 : a < w2.heap.size := H2.out.2.lt
  have ha3 : a < w3.heap.size := Nat.lt_of_lt_of_le ha2 hs3.1.size
  have HW4 : Hid (w.grownBy (w3.alloc (.cells #[.slice pR R.length cR, .slice pL L.length cL] 26)) none) := Lib.hid (grown_trans (grown_tape H2.out.1 (by rw [← HA.out]; exact hs3.1)) gal)
  have HG : Hid ((w3.alloc (.cells #[.slice pR R.length cR, .slice pL L.length cL] 26)).heap[w3.heap.size]? = some (.cells #[.slice pR R.length cR, .slice pL L.length cL] 26 (0, 0)) ∧ TgOk (w3.alloc (.cells #[.slice pR R.length cR, .slice pL L.length cL] 26)) (fun b => w2.heap.size ≤ b ∧ b < w3.heap.size) ⟨R, L, pR, cR, pL, cL⟩ ∧ Tp (w3.alloc (.cells #[.slice pR R.length cR, .slice pL L.length cL] 26)) a ∧ w3.heap.size < (w3.alloc (.cells #[.slice pR R.length cR, .slice pL L.length cL] 26)).heap.size) :=
    Lib.hid ⟨heap_alloc_new w3 _, hT.keep gal, hs3.2.keep gal, by simp⟩
  have hm1 := Nat.le_trans hT.cr.1 hT.cr.2
  have hm2 := Nat.le_trans hT.cl.1 hT.cl.2
  simp only at hm1 hm2
  have HOT := Lib.hid hO
  clear hT hs3 gal hO
  go_upto_region 3 with fail
  generalize w3.alloc _ = w4 at *
  have HQ : Hid (∀ (u : World), w4.grownBy u (some a) → Tp u a → (TgOk u (fun b => w2.heap.size ≤ b ∧ b < w3.heap.size) ⟨R, L, pR, cR, pL, cL⟩ ∧ (∀ b, (w2.heap.size ≤ b ∧ b < w3.heap.size) → b ≠ a ∧ b < u.heap.size))) :=
    Lib.hid (fun u g _ => ⟨HG.out.2.1.grown g (fun b hb e => by have := Option.some.inj e; omega), fun b hb => ⟨by omega, Nat.lt_of_lt_of_le hb.2 (Nat.le_trans (Nat.le_of_lt HG.out.2.2.2) g.size)⟩⟩)
  refine region_until (S := fun w' => Hid (w4.grownBy w' (some a) ∧ Tp w' a)) (fun j => j == 5) (by kernel_rfl) (Lib.hid ⟨grown_drew (grown_refl _ _), HG.out.2.2.1.drew⟩) (fun hHeld => ?_)
  refine anyU_take (i := 0) (oi := { dst := some 18, op := Op.load 26 (Operand.tmp 8), type := 26, pos := "law.go:90", after := #[], guard := none }) (v := ?_) rfl (by kernel_rfl) (by kernel_rfl) (by kernel_rfl) (by kernel_rfl) (by kernel_rfl) (fun _ _ _ h => h) (Or.inl ⟨by rfl, ?_⟩) hHeld ?_
  rotate_left 1
  · intro u hSu
    obtain ⟨q0, q1⟩ := row_cells (kept_row HG.out.1 hSu.out.1 (fun e => by have := Option.some.inj e; omega))
    go_simp
    first | done | with_reducible rfl
  (try simp only [Act.put, List.setIfInBounds_toArray, List.set_cons_zero, List.set_cons_succ])
  refine anyU_take (i := 1) (oi := { dst := some 19, op := Op.move (Operand.tmp 7), type := 27, pos := "law.go:90", after := #[], guard := none }) (v := ?_) rfl (by kernel_rfl) (by kernel_rfl) (by kernel_rfl) (by kernel_rfl) (by kernel_rfl) (fun _ _ _ h => h) (Or.inl ⟨by rfl, ?_⟩) hHeld ?_
  rotate_left 1
  · intro u hSu
    obtain ⟨q0, q1⟩ := row_cells (kept_row HG.out.1 hSu.out.1 (fun e => by have := Option.some.inj e; omega))
    go_simp
    first | done | with_reducible rfl
  (try simp only [Act.put, List.setIfInBounds_toArray, List.set_cons_zero, List.set_cons_succ])
  refine anyU_take (i := 2) (oi := { dst := some 20, op := Op.load 26 (Operand.tmp 8), type := 26, pos := "law.go:90", after := #[], guard := none }) (v := ?_) rfl (by kernel_rfl) (by kernel_rfl) (by kernel_rfl) (by kernel_rfl) (by kernel_rfl) (fun _ _ _ h => h) (Or.inl ⟨by rfl, ?_⟩) hHeld ?_
  rotate_left 1
  · intro u hSu
    obtain ⟨q0, q1⟩ := row_cells (kept_row HG.out.1 hSu.out.1 (fun e => by have := Option.some.inj e; omega))
    go_simp
    first | done | with_reducible rfl
  (try simp only [Act.put, List.setIfInBounds_toArray, List.set_cons_zero, List.set_cons_succ])
  refine anyU_ready (rs := [3]) (by kernel_rfl) (by simp) ?_
  refine EachU.cons (o := { dst := some 21, op := Op.call { callee := Callee.value (Operand.func 30), args := #[Operand.tmp 19, Operand.tmp 20], argTypes := #[27, 26] }, type := 47, pos := "law.go:90", after := #[{ on := 1, ground := Ground.data }, { on := 2, ground := Ground.data }], guard := none }) rfl (fun Kz hK => ?_) EachU.nil
  go_simp
  go_at_call 30
  refine (fails_any a ⟨R, L, pR, cR, pL, cL⟩ _ _ (HQ.out _ hHeld.out.1 hHeld.out.2).1 (HQ.out _ hHeld.out.1 hHeld.out.2).2 hHeld.out.2).mono ?_
  rintro e w6 ⟨Hh, Xh, vh, vx, rfl, hH, hX, -, -, hs⟩
  obtain ⟨F, rfl, rfl, hF⟩ := fl_of_own hH hX
  have HF := Lib.hid hF
  clear hH hX hF
  refine hK.out _ _ (fun _ => Lib.hid ⟨grown_trans hHeld.out.1 hs.1, hs.2⟩) (fun hH2 => ?_)
  clear hK Kz hHeld
  have hHeld := hH2 rfl
  clear hH2
  (try simp only [Act.put, List.setIfInBounds_toArray, List.set_cons_zero, List.set_cons_succ])
  refine anyU_ready (rs := [4]) (by kernel_rfl) (by simp) ?_
  refine EachU.cons (o := { dst := some 22, op := Op.call { callee := Callee.value (Operand.func 33), args := #[Operand.tmp 18, Operand.tmp 21], argTypes := #[26, 47] }, type := 26, pos := "law.go:90", after := #[{ on := 0, ground := Ground.data }, { on := 3, ground := Ground.data }, { on := 3, ground := Ground.chain }], guard := none }) rfl (fun Kz hK => ?_) EachU.nil
  go_simp
  go_at_call 33
  refine (rwithout_any ⟨R, L, pR, cR, pL, cL⟩ F _ _ _ (HQ.out _ hHeld.out.1 hHeld.out.2).1 HF.out).mono ?_
  rintro e w7 ⟨pu, cu, pv, cv, rfl, hTr, hg⟩
  simp only at hTr ⊢
  obtain ⟨Rw, hRw⟩ : ∃ Rw, (if okT R L = true then woR F R else []) = Rw := ⟨_, rfl⟩
  obtain ⟨Lw, hLw⟩ : ∃ Lw, (if okT R L = true then woL F L else []) = Lw := ⟨_, rfl⟩
  have HOK : Hid (okT Rw Lw = true ∧ Rw.length ≤ 8) := Lib.hid (by
  have hc : chk Rw Lw = 0 := by rw [← hRw, ← hLw]; exact wo_chk F R L
  refine ⟨by unfold okT; simpa using hc, ?_⟩
  rw [← hRw]
  split
  · rename_i hok
    obtain ⟨h24, -⟩ := okT_len hok
    have h0 := HOT.out.2.1
    have h1 : (woR F R).length ≤ R.length := List.length_filter_le _ _
    omega
  · exact Nat.zero_le _)
  rw [hRw, hLw] at hTr
  rw [hRw, hLw]
  have h67 := hHeld.out.1
  have hsz6 := h67.size
  have hTr2 := hTr.mono (q' := fun b => b ≠ a ∧ b ≠ w3.heap.size) (fun b hb => by have := HG.out.2.2.2; constructor <;> omega)
  have HT7 := Lib.hid hTr2
  clear hRw hLw hTr hTr2 h67
  refine hK.out _ _ (fun _ => Lib.hid ⟨grown_trans hHeld.out.1 (grown_none hg _), hHeld.out.2.keep hg⟩) (fun hH2 => ?_)
  clear hK Kz hHeld
  have hHeld := hH2 rfl
  clear hH2
  (try simp only [Act.put, List.setIfInBounds_toArray, List.set_cons_zero, List.set_cons_succ])
  refine anyU_ready (rs := [5]) (by kernel_rfl) (by simp) ?_
  refine EachU.cons (o := { dst := none, op := Op.store 26 (Operand.tmp 8) (Operand.tmp 22), type := 0, pos := "law.go:90", after := #[{ on := 4, ground := Ground.data }, { on := 4, ground := Ground.chain }, { on := 0, ground := Ground.phase }, { on := 1, ground := Ground.phase }, { on := 2, ground := Ground.phase }, { on := 3, ground := Ground.phase }, { on := 4, ground := Ground.phase }], guard := none }) rfl (fun Kz hK => ?_) EachU.nil
  have hb5 := kept_row HG.out.1 hHeld.out.1 (fun e => by have := Option.some.inj e; omega)
  obtain ⟨z0, z1⟩ := row_cells hb5
  have y0 := frozen_of_row _ _ 0 _ _ hb5
  have y1 := frozen_of_row _ _ 1 _ _ hb5
  clear hb5
  go_simp
  refine hK.out _ _ (fun h => by cases h) (fun _ => ?_)
  clear hK Kz
  (try simp only [Act.put, List.setIfInBounds_toArray, List.set_cons_zero, List.set_cons_succ])
  refine anyU_done (by kernel_rfl) ?_ _
  have hb7 := kept_row HG.out.1 hHeld.out.1 (fun e => by have := Option.some.inj e; omega)
  have hst := grown_store2 w7 w3.heap.size (.slice pu Rw.length cu) (.slice pv Lw.length cv)
  have HP : Hid (PW w a w3.heap.size ⟨Rw, Lw, pu, cu, pv, cv⟩ ((w7.setCell ⟨w3.heap.size, 0, none⟩ (.slice pu Rw.length cu)).setCell ⟨w3.heap.size, 1, none⟩ (.slice pv Lw.length cv))) := Lib.hid ⟨store2 hb7, (HT7.out.grown hst (fun b hb e => hb.2 (Option.some.inj e))).mono (fun b hb => hb.1), hHeld.out.2.other hst (by omega), grown_new (grown_new HW4.out hHeld.out.1 (by have := HA.out; omega)) hst (by have := HW4.out.size; have := HA.out; omega), ⟨by have := HA.out; omega, by omega⟩⟩
  have hmu := Nat.le_trans HT7.out.cr.1 HT7.out.cr.2
  have hmv := Nat.le_trans HT7.out.cl.1 HT7.out.cl.2
  simp only at hmu hmv
  clear hHeld hb7 hst HT7 HF HQ HG HW4 H2 HOT
  try clear z0 z1 y0 y1
  generalize (w7.setCell _ _).setCell _ _ = wp at *
  obtain ⟨G, hG⟩ : ∃ G, G = w3.heap.size := ⟨_, rfl⟩
  rw [← hG] at HP
  rw [← hG]
  clear hG ha3
  have HT : Hid (∀ u, Hid (PW w a G ⟨Rw, Lw, pu, cu, pv, cv⟩ u) → TgOk u (· ≠ a) ⟨Rw, Lw, pu, cu, pv, cv⟩) := Lib.hid (fun u h => h.out.t)
  have HPD := Lib.hid HP.out.drew
  go_upto_region 4 with fail
  refine wp_region_held_drew (S := fun w' => Hid (PW w a G ⟨Rw, Lw, pu, cu, pv, cv⟩ w')) (by kernel_rfl) (HPD) (fun hHeld => ?_)
  refine wpAnyH_take (i := 0) (oi := { dst := some 23, op := Op.load 26 (Operand.tmp 8), type := 26, pos := "law.go:91", after := #[], guard := none }) (v := ?_) rfl (by kernel_rfl) (by kernel_rfl) (by kernel_rfl) (fun _ _ _ h => h) (Or.inl ⟨by rfl, ?_⟩) hHeld ?_
  rotate_left 1
  · intro u hSu
    obtain ⟨q0, q1⟩ := row_cells hSu.out.gb
    go_simp
    first | done | with_reducible rfl
  (try simp only [Act.put, List.setIfInBounds_toArray, List.set_cons_zero, List.set_cons_succ])
  refine wpAnyH_take (i := 2) (oi := { dst := some 25, op := Op.load 26 (Operand.tmp 8), type := 26, pos := "law.go:91", after := #[], guard := none }) (v := ?_) rfl (by kernel_rfl) (by kernel_rfl) (by kernel_rfl) (fun _ _ _ h => h) (Or.inl ⟨by rfl, ?_⟩) hHeld ?_
  rotate_left 1
  · intro u hSu
    obtain ⟨q0, q1⟩ := row_cells hSu.out.gb
    go_simp
    first | done | with_reducible rfl
  (try simp only [Act.put, List.setIfInBounds_toArray, List.set_cons_zero, List.set_cons_succ])
  refine wpAnyH_ready (rs := [1]) (by kernel_rfl) (by simp) ?_
  refine AllReadyH.cons (o := { dst := some 24, op := Op.call { callee := Callee.value (Operand.func 37), args := #[Operand.tmp 23], argTypes := #[26] }, type := 60, pos := "law.go:91", after := #[{ on := 0, ground := Ground.data }], guard := none }) rfl (fun Kz hK => ?_) AllReadyH.nil
  go_simp
  go_at_call 37
  refine (tcomps_any ⟨Rw, Lw, pu, cu, pv, cv⟩ _ _ hHeld.out.t (fun _ => Nat.le_trans HOK.out.2 (by decide))).mono ?_
  rintro e w8 hpost
  obtain ⟨p1, c1, vs1, rfl, hCA0, hg⟩ := hpost.cl
  have HCA0 := Lib.hid hCA0.all
  clear hpost hCA0
  simp only
  refine hK.out _ _ (Lib.hid (hHeld.out.keep hg)) (fun hH2 => ?_)
  clear hK Kz hHeld
  have hHeld := hH2
  clear hH2
  (try simp only [Act.put, List.setIfInBounds_toArray, List.set_cons_zero, List.set_cons_succ])
  refine wpAnyH_ready (rs := [3]) (by kernel_rfl) (by simp) ?_
  refine AllReadyH.cons (o := { dst := some 26, op := Op.call { callee := Callee.value (Operand.func 38), args := #[Operand.tmp 25], argTypes := #[26] }, type := 60, pos := "law.go:91", after := #[{ on := 2, ground := Ground.data }, { on := 1, ground := Ground.chain }], guard := none }) rfl (fun Kz hK => ?_) AllReadyH.nil
  go_simp
  go_at_call 38
  refine (rcomps_any ⟨Rw, Lw, pu, cu, pv, cv⟩ _ _ hHeld.out.t).mono ?_
  rintro e w9 hpost
  obtain ⟨p2, c2, vs2, rfl, hCB0, hg⟩ := hpost.cl
  have HCB := Lib.hid hCB0.all
  have HCA := Lib.hid (HCA0.out.keep hg)
  clear hpost hCB0 HCA0
  simp only
  refine hK.out _ _ (Lib.hid (hHeld.out.keep hg)) (fun hH2 => ?_)
  clear hK Kz hHeld
  have hHeld := hH2
  clear hH2
  (try simp only [Act.put, List.setIfInBounds_toArray, List.set_cons_zero, List.set_cons_succ])
  refine wpAnyH_take (i := 4) (oi := { dst := some 9, op := Op.assign (Operand.tmp 24), type := 60, pos := "law.go:91", after := #[{ on := 1, ground := Ground.data }, { on := 3, ground := Ground.chain }, { on := 0, ground := Ground.phase }, { on := 1, ground := Ground.phase }, { on := 2, ground := Ground.textOnly Departure.lateStores }, { on := 3, ground := Ground.textOnly Departure.lateStoresUnsure }], guard := none }) (v := ?_) rfl (by kernel_rfl) (by kernel_rfl) (by kernel_rfl) (fun _ _ _ h => h) (Or.inl ⟨by rfl, ?_⟩) hHeld ?_
  rotate_left 1
  · intro u hSu
    obtain ⟨q0, q1⟩ := row_cells hSu.out.gb
    go_simp
    first | done | with_reducible rfl
  (try simp only [Act.put, List.setIfInBounds_toArray, List.set_cons_zero, List.set_cons_succ])
  refine wpAnyH_take (i := 5) (oi := { dst := some 10, op := Op.assign (Operand.tmp 26), type := 60, pos := "law.go:91", after := #[{ on := 3, ground := Ground.data }, { on := 4, ground := Ground.chain }, { on := 0, ground := Ground.phase }, { on := 1, ground := Ground.phase }, { on := 2, ground := Ground.phase }, { on := 3, ground := Ground.phase }, { on := 4, ground := Ground.phase }], guard := none }) (v := ?_) rfl (by kernel_rfl) (by kernel_rfl) (by kernel_rfl) (fun _ _ _ h => h) (Or.inl ⟨by rfl, ?_⟩) hHeld ?_
  rotate_left 1
  · intro u hSu
    obtain ⟨q0, q1⟩ := row_cells hSu.out.gb
    go_simp
    first | done | with_reducible rfl
  (try simp only [Act.put, List.setIfInBounds_toArray, List.set_cons_zero, List.set_cons_succ])
  refine wpAnyH_done (by kernel_rfl) ?_ _
  have HP2 := hHeld
  clear hHeld HPD HP
  have HP := HP2
  clear HP2
  have hcm := Nat.le_trans HCA.out.cap.1 HCA.out.cap.2
  obtain ⟨Cs, hCs⟩ : ∃ Cs, comps Rw Lw = Cs := ⟨_, rfl⟩
  rw [hCs] at HCA HCB hcm ⊢
  clear hCs
  go_wp2_with fail
  go_loopw [11] (fun i wr => ∃ k : Nat, k ≤ Cs.length ∧ i = .int .i64 (k : Int) ∧ Hid (PW w a G ⟨Rw, Lw, pu, cu, pv, cv⟩ wr) ∧ Hid (CL wr (fun _ => True) p1 c1 Cs vs1) ∧ Hid (CL wr (fun _ => True) p2 c2 Cs vs2)) (fun i _ => Cs.length - (intOf i).toNat)
  case atStart => exact ⟨0, Nat.zero_le _, rfl, HP, HCA, HCB⟩
  case round =>
  obtain ⟨k, hk, rfl, HK, HC1, HC2⟩ := hrel
  clear HP HCA HCB
  by_cases hlt : k < Cs.length
  · have hv1 := HC1.out.len
    have hv2 := HC2.out.len
    obtain ⟨-, b1, o1, rfl, -, -⟩ := rdv_cells HC1.out.rd (by omega)
    obtain ⟨-, b2, o2, rfl, -, -⟩ := rdv_cells HC2.out.rd (by omega)
    obtain ⟨C, hC⟩ : ∃ C, Cs[k]? = some C := ⟨_, List.getElem?_eq_getElem hlt⟩
    obtain ⟨x1, hx1⟩ : ∃ x, vs1[k]? = some x := ⟨_, List.getElem?_eq_getElem (by omega)⟩
    obtain ⟨x2, hx2⟩ : ∃ x, vs2[k]? = some x := ⟨_, List.getElem?_eq_getElem (by omega)⟩
    obtain ⟨p3, c3, rfl, hr3, hc3⟩ := HC1.out.at_ k C x1 hC hx1
    obtain ⟨p4, c4, rfl, hr4, hc4⟩ := HC2.out.at_ k C x2 hC hx2
    have HRR := Lib.hid (And.intro hr3 hr4)
    have HCC : Hid (∀ u, Hid (wr.grownBy u none) → u.cell? ⟨b1, o1 + k, none⟩ = some (.slice p3 C.length c3) ∧ u.cell? ⟨b2, o2 + k, none⟩ = some (.slice p4 C.length c4)) := Lib.hid (fun u hu => by
      obtain ⟨-, b1', o1', e1, -, k1⟩ := rdv_cells (HC1.out.keep hu.out).rd (by omega)
      obtain ⟨-, b2', o2', e2, -, k2⟩ := rdv_cells (HC2.out.keep hu.out).rd (by omega)
      injection e1 with e1
      injection e1 with e11 e12
      subst e11
      subst e12
      injection e2 with e2
      injection e2 with e21 e22
      subst e21
      subst e22
      exact ⟨k1 k _ hx1, k2 k _ hx2⟩)
    have hcm2 := Nat.le_trans hc3.1 hc3.2
    have i0 : (0 : Int) ≤ (k : Int) := by omega
    have i1 : (k : Int) < (Cs.length : Int) := by omega
    clear hC hx1 hx2 hr3 hr4 hc3 hc4 hv1 hv2
    go_upto_region 10 with fail
    refine wp_region_held_drew (S := fun w' => Hid (wr.grownBy w' none)) (by kernel_rfl) (Lib.hid (grown_drew (grown_refl _ _))) (fun hHeld => ?_)
    refine wpAnyH_take (i := 0) (oi := { dst := some 38, op := Op.move (Operand.tmp 9), type := 60, pos := "law.go:96", after := #[], guard := none }) (v := ?_) rfl (by kernel_rfl) (by kernel_rfl) (by kernel_rfl) (fun _ _ _ h => h) (Or.inl ⟨by rfl, ?_⟩) hHeld ?_
    rotate_left 1
    · intro u hSu
      obtain ⟨q0, q1⟩ := HCC.out _ hSu
      go_simp
      first | done | with_reducible rfl
    (try simp only [Act.put, List.setIfInBounds_toArray, List.set_cons_zero, List.set_cons_succ])
    refine wpAnyH_take (i := 1) (oi := { dst := some 39, op := Op.move (Operand.tmp 11), type := 3, pos := "law.go:96", after := #[], guard := none }) (v := ?_) rfl (by kernel_rfl) (by kernel_rfl) (by kernel_rfl) (fun _ _ _ h => h) (Or.inl ⟨by rfl, ?_⟩) hHeld ?_
    rotate_left 1
    · intro u hSu
      obtain ⟨q0, q1⟩ := HCC.out _ hSu
      go_simp
      first | done | with_reducible rfl
    (try simp only [Act.put, List.setIfInBounds_toArray, List.set_cons_zero, List.set_cons_succ])
    refine wpAnyH_take (i := 2) (oi := { dst := some 40, op := Op.indexAddr 60 (Operand.tmp 38) (Operand.tmp 39), type := 0, pos := "law.go:96", after := #[{ on := 0, ground := Ground.data }, { on := 1, ground := Ground.data }], guard := none }) (v := ?_) rfl (by kernel_rfl) (by kernel_rfl) (by kernel_rfl) (fun _ _ _ h => h) (Or.inl ⟨by rfl, ?_⟩) hHeld ?_
    rotate_left 1
    · intro u hSu
      obtain ⟨q0, q1⟩ := HCC.out _ hSu
      go_simp
      first | done | with_reducible rfl
    (try simp only [Act.put, List.setIfInBounds_toArray, List.set_cons_zero, List.set_cons_succ])
    refine wpAnyH_take (i := 3) (oi := { dst := some 41, op := Op.load 22 (Operand.tmp 40), type := 22, pos := "law.go:96", after := #[{ on := 2, ground := Ground.data }], guard := none }) (v := ?_) rfl (by kernel_rfl) (by kernel_rfl) (by kernel_rfl) (fun _ _ _ h => h) (Or.inl ⟨by rfl, ?_⟩) hHeld ?_
    rotate_left 1
    · intro u hSu
      obtain ⟨q0, q1⟩ := HCC.out _ hSu
      go_simp
      first | done | with_reducible rfl
    (try simp only [Act.put, List.setIfInBounds_toArray, List.set_cons_zero, List.set_cons_succ])
    refine wpAnyH_take (i := 4) (oi := { dst := some 42, op := Op.move (Operand.tmp 10), type := 60, pos := "law.go:96", after := #[], guard := none }) (v := ?_) rfl (by kernel_rfl) (by kernel_rfl) (by kernel_rfl) (fun _ _ _ h => h) (Or.inl ⟨by rfl, ?_⟩) hHeld ?_
    rotate_left 1
    · intro u hSu
      obtain ⟨q0, q1⟩ := HCC.out _ hSu
      go_simp
      first | done | with_reducible rfl
    (try simp only [Act.put, List.setIfInBounds_toArray, List.set_cons_zero, List.set_cons_succ])
    refine wpAnyH_take (i := 5) (oi := { dst := some 43, op := Op.move (Operand.tmp 11), type := 3, pos := "law.go:96", after := #[], guard := none }) (v := ?_) rfl (by kernel_rfl) (by kernel_rfl) (by kernel_rfl) (fun _ _ _ h => h) (Or.inl ⟨by rfl, ?_⟩) hHeld ?_
    rotate_left 1
    · intro u hSu
      obtain ⟨q0, q1⟩ := HCC.out _ hSu
      go_simp
      first | done | with_reducible rfl
    (try simp only [Act.put, List.setIfInBounds_toArray, List.set_cons_zero, List.set_cons_succ])
    refine wpAnyH_take (i := 6) (oi := { dst := some 44, op := Op.indexAddr 60 (Operand.tmp 42) (Operand.tmp 43), type := 0, pos := "law.go:96", after := #[{ on := 4, ground := Ground.data }, { on := 5, ground := Ground.data }], guard := none }) (v := ?_) rfl (by kernel_rfl) (by kernel_rfl) (by kernel_rfl) (fun _ _ _ h => h) (Or.inl ⟨by rfl, ?_⟩) hHeld ?_
    rotate_left 1
    · intro u hSu
      obtain ⟨q0, q1⟩ := HCC.out _ hSu
      go_simp
      first | done | with_reducible rfl
    (try simp only [Act.put, List.setIfInBounds_toArray, List.set_cons_zero, List.set_cons_succ])
    refine wpAnyH_take (i := 7) (oi := { dst := some 45, op := Op.load 22 (Operand.tmp 44), type := 22, pos := "law.go:96", after := #[{ on := 6, ground := Ground.data }], guard := none }) (v := ?_) rfl (by kernel_rfl) (by kernel_rfl) (by kernel_rfl) (fun _ _ _ h => h) (Or.inl ⟨by rfl, ?_⟩) hHeld ?_
    rotate_left 1
    · intro u hSu
      obtain ⟨q0, q1⟩ := HCC.out _ hSu
      go_simp
      first | done | with_reducible rfl
    (try simp only [Act.put, List.setIfInBounds_toArray, List.set_cons_zero, List.set_cons_succ])
    refine wpAnyH_ready (rs := [8]) (by kernel_rfl) (by simp) ?_
    refine AllReadyH.cons (o := { dst := some 46, op := Op.call { callee := Callee.value (Operand.func 24), args := #[Operand.tmp 41, Operand.tmp 45], argTypes := #[22, 22] }, type := 4, pos := "law.go:96", after := #[{ on := 3, ground := Ground.data }, { on := 7, ground := Ground.data }], guard := none }) rfl (fun Kz hK => ?_) AllReadyH.nil
    go_simp
    go_at_call 24
    refine (rints_any C p3 p4 c3 c4 _ _ _ (HRR.out.1.grown hHeld.out (by simp)) (HRR.out.2.grown hHeld.out (by simp)) hcm2).mono ?_
    rintro e w8 ⟨rfl, hg⟩
    refine hK.out _ _ (Lib.hid (grown_trans hHeld.out hg)) (fun hH2 => ?_)
    clear hK Kz hHeld
    have hHeld := hH2
    clear hH2
    (try simp only [Act.put, List.setIfInBounds_toArray, List.set_cons_zero, List.set_cons_succ])
    refine wpAnyH_take (i := 9) (oi := { dst := some 47, op := Op.unOp UnOp.not 4 (Operand.tmp 46), type := 4, pos := "law.go:96", after := #[{ on := 8, ground := Ground.data }], guard := none }) (v := ?_) rfl (by kernel_rfl) (by kernel_rfl) (by kernel_rfl) (fun _ _ _ h => h) (Or.inl ⟨by rfl, ?_⟩) hHeld ?_
    rotate_left 1
    · intro u hSu
      obtain ⟨q0, q1⟩ := HCC.out _ hSu
      go_simp
      first | done | with_reducible rfl
    (try simp only [Act.put, List.setIfInBounds_toArray, List.set_cons_zero, List.set_cons_succ])
    refine wpAnyH_done (by kernel_rfl) ?_ _
    have HK2 := Lib.hid (HK.out.keep hHeld.out)
    have HC12 := Lib.hid (HC1.out.keep hHeld.out)
    have HC22 := Lib.hid (HC2.out.keep hHeld.out)
    clear hHeld HRR HCC HK HC1 HC2 i0 i1
    go_wp2_with fail
    exact ⟨⟨k + 1, by omega, congrArg _ (by omega), HK2, HC12, HC22⟩, by simp only [intOf]; omega⟩
  · obtain rfl : k = Cs.length := by omega
    clear HC1 HC2
    go_upto_region 12 with fail
    have HKD := Lib.hid HK.out.drew
    refine wp_region_held_drew (S := fun w' => Hid (PW w a G ⟨Rw, Lw, pu, cu, pv, cv⟩ w')) (by kernel_rfl) (HKD) (fun hHeld => ?_)
    refine wpAnyH_take (i := 0) (oi := { dst := some 48, op := Op.move (Operand.tmp 7), type := 27, pos := "law.go:100", after := #[], guard := none }) (v := ?_) rfl (by kernel_rfl) (by kernel_rfl) (by kernel_rfl) (fun _ _ _ h => h) (Or.inl ⟨by rfl, ?_⟩) hHeld ?_
    rotate_left 1
    · intro u hSu
      obtain ⟨q0, q1⟩ := row_cells hSu.out.gb
      go_simp
      first | done | with_reducible rfl
    (try simp only [Act.put, List.setIfInBounds_toArray, List.set_cons_zero, List.set_cons_succ])
    refine wpAnyH_take (i := 1) (oi := { dst := some 49, op := Op.load 26 (Operand.tmp 8), type := 26, pos := "law.go:100", after := #[], guard := none }) (v := ?_) rfl (by kernel_rfl) (by kernel_rfl) (by kernel_rfl) (fun _ _ _ h => h) (Or.inl ⟨by rfl, ?_⟩) hHeld ?_
    rotate_left 1
    · intro u hSu
      obtain ⟨q0, q1⟩ := row_cells hSu.out.gb
      go_simp
      first | done | with_reducible rfl
    (try simp only [Act.put, List.setIfInBounds_toArray, List.set_cons_zero, List.set_cons_succ])
    refine wpAnyH_take (i := 3) (oi := { dst := some 51, op := Op.move (Operand.tmp 7), type := 27, pos := "law.go:100", after := #[], guard := none }) (v := ?_) rfl (by kernel_rfl) (by kernel_rfl) (by kernel_rfl) (fun _ _ _ h => h) (Or.inl ⟨by rfl, ?_⟩) hHeld ?_
    rotate_left 1
    · intro u hSu
      obtain ⟨q0, q1⟩ := row_cells hSu.out.gb
      go_simp
      first | done | with_reducible rfl
    (try simp only [Act.put, List.setIfInBounds_toArray, List.set_cons_zero, List.set_cons_succ])
    refine wpAnyH_take (i := 4) (oi := { dst := some 52, op := Op.load 26 (Operand.tmp 8), type := 26, pos := "law.go:100", after := #[], guard := none }) (v := ?_) rfl (by kernel_rfl) (by kernel_rfl) (by kernel_rfl) (fun _ _ _ h => h) (Or.inl ⟨by rfl, ?_⟩) hHeld ?_
    rotate_left 1
    · intro u hSu
      obtain ⟨q0, q1⟩ := row_cells hSu.out.gb
      go_simp
      first | done | with_reducible rfl
    (try simp only [Act.put, List.setIfInBounds_toArray, List.set_cons_zero, List.set_cons_succ])
    refine wpAnyH_ready (rs := [2]) (by kernel_rfl) (by simp) ?_
    refine AllReadyH.cons (o := { dst := some 50, op := Op.call { callee := Callee.value (Operand.func 18), args := #[Operand.tmp 48, Operand.tmp 49, Operand.const (Value.int IntKind.i64 5)], argTypes := #[27, 26, 3] }, type := 3, pos := "law.go:100", after := #[{ on := 0, ground := Ground.data }, { on := 1, ground := Ground.data }], guard := none }) rfl (fun Kz hK => ?_) AllReadyH.nil
    go_simp
    go_at_call 18
    refine (routerN_any a ⟨Rw, Lw, pu, cu, pv, cv⟩ 5 (by unfold I64; omega) _ _ hHeld.out.t (fun b hb => hb) hHeld.out.tp).mono ?_
    rintro e w12 ⟨p, rfl, hs⟩
    refine hK.out _ _ (Lib.hid (hHeld.out.tape hs)) (fun hH2 => ?_)
    clear hK Kz hHeld
    have hHeld := hH2
    clear hH2
    (try simp only [Act.put, List.setIfInBounds_toArray, List.set_cons_zero, List.set_cons_succ])
    refine wpAnyH_ready (rs := [5]) (by kernel_rfl) (by simp) ?_
    refine AllReadyH.cons (o := { dst := some 53, op := Op.call { callee := Callee.value (Operand.func 18), args := #[Operand.tmp 51, Operand.tmp 52, Operand.const (Value.int IntKind.i64 5)], argTypes := #[27, 26, 3] }, type := 3, pos := "law.go:100", after := #[{ on := 3, ground := Ground.data }, { on := 4, ground := Ground.data }, { on := 2, ground := Ground.chain }], guard := none }) rfl (fun Kz hK => ?_) AllReadyH.nil
    go_simp
    go_at_call 18
    refine (routerN_any a ⟨Rw, Lw, pu, cu, pv, cv⟩ 5 (by unfold I64; omega) _ _ hHeld.out.t (fun b hb => hb) hHeld.out.tp).mono ?_
    rintro e w13 ⟨r, rfl, hs⟩
    refine hK.out _ _ (Lib.hid (hHeld.out.tape hs)) (fun hH2 => ?_)
    clear hK Kz hHeld
    have hHeld := hH2
    clear hH2
    (try simp only [Act.put, List.setIfInBounds_toArray, List.set_cons_zero, List.set_cons_succ])
    refine wpAnyH_take (i := 6) (oi := { dst := some 12, op := Op.assign (Operand.tmp 50), type := 3, pos := "law.go:100", after := #[{ on := 2, ground := Ground.data }, { on := 5, ground := Ground.chain }, { on := 0, ground := Ground.phase }, { on := 1, ground := Ground.phase }, { on := 2, ground := Ground.phase }, { on := 3, ground := Ground.textOnly Departure.lateStores }, { on := 4, ground := Ground.textOnly Departure.lateStores }, { on := 5, ground := Ground.textOnly Departure.lateStoresUnsure }], guard := none }) (v := ?_) rfl (by kernel_rfl) (by kernel_rfl) (by kernel_rfl) (fun _ _ _ h => h) (Or.inl ⟨by rfl, ?_⟩) hHeld ?_
    rotate_left 1
    · intro u hSu
      obtain ⟨q0, q1⟩ := row_cells hSu.out.gb
      go_simp
      first | done | with_reducible rfl
    (try simp only [Act.put, List.setIfInBounds_toArray, List.set_cons_zero, List.set_cons_succ])
    refine wpAnyH_take (i := 7) (oi := { dst := some 13, op := Op.assign (Operand.tmp 53), type := 3, pos := "law.go:100", after := #[{ on := 5, ground := Ground.data }, { on := 6, ground := Ground.chain }, { on := 0, ground := Ground.phase }, { on := 1, ground := Ground.phase }, { on := 2, ground := Ground.phase }, { on := 3, ground := Ground.phase }, { on := 4, ground := Ground.phase }, { on := 5, ground := Ground.phase }, { on := 6, ground := Ground.phase }], guard := none }) (v := ?_) rfl (by kernel_rfl) (by kernel_rfl) (by kernel_rfl) (fun _ _ _ h => h) (Or.inl ⟨by rfl, ?_⟩) hHeld ?_
    rotate_left 1
    · intro u hSu
      obtain ⟨q0, q1⟩ := row_cells hSu.out.gb
      go_simp
      first | done | with_reducible rfl
    (try simp only [Act.put, List.setIfInBounds_toArray, List.set_cons_zero, List.set_cons_succ])
    refine wpAnyH_done (by kernel_rfl) ?_ _
    clear HKD HK
    have HK := hHeld
    clear hHeld
    go_upto_region 13 with fail
    have HKD := Lib.hid HK.out.drew
    refine wp_region_held_drew (S := fun w' => Hid (PW w a G ⟨Rw, Lw, pu, cu, pv, cv⟩ w')) (by kernel_rfl) (HKD) (fun hHeld => ?_)
    refine wpAnyH_take (i := 0) (oi := { dst := some 54, op := Op.load 26 (Operand.tmp 8), type := 26, pos := "law.go:101", after := #[], guard := none }) (v := ?_) rfl (by kernel_rfl) (by kernel_rfl) (by kernel_rfl) (fun _ _ _ h => h) (Or.inl ⟨by rfl, ?_⟩) hHeld ?_
    rotate_left 1
    · intro u hSu
      obtain ⟨q0, q1⟩ := row_cells hSu.out.gb
      go_simp
      first | done | with_reducible rfl
    (try simp only [Act.put, List.setIfInBounds_toArray, List.set_cons_zero, List.set_cons_succ])
    refine wpAnyH_take (i := 1) (oi := { dst := some 55, op := Op.move (Operand.tmp 12), type := 3, pos := "law.go:101", after := #[], guard := none }) (v := ?_) rfl (by kernel_rfl) (by kernel_rfl) (by kernel_rfl) (fun _ _ _ h => h) (Or.inl ⟨by rfl, ?_⟩) hHeld ?_
    rotate_left 1
    · intro u hSu
      obtain ⟨q0, q1⟩ := row_cells hSu.out.gb
      go_simp
      first | done | with_reducible rfl
    (try simp only [Act.put, List.setIfInBounds_toArray, List.set_cons_zero, List.set_cons_succ])
    refine wpAnyH_take (i := 2) (oi := { dst := some 56, op := Op.move (Operand.tmp 13), type := 3, pos := "law.go:101", after := #[], guard := none }) (v := ?_) rfl (by kernel_rfl) (by kernel_rfl) (by kernel_rfl) (fun _ _ _ h => h) (Or.inl ⟨by rfl, ?_⟩) hHeld ?_
    rotate_left 1
    · intro u hSu
      obtain ⟨q0, q1⟩ := row_cells hSu.out.gb
      go_simp
      first | done | with_reducible rfl
    (try simp only [Act.put, List.setIfInBounds_toArray, List.set_cons_zero, List.set_cons_succ])
    refine wpAnyH_take (i := 4) (oi := { dst := some 58, op := Op.load 26 (Operand.tmp 8), type := 26, pos := "law.go:101", after := #[], guard := none }) (v := ?_) rfl (by kernel_rfl) (by kernel_rfl) (by kernel_rfl) (fun _ _ _ h => h) (Or.inl ⟨by rfl, ?_⟩) hHeld ?_
    rotate_left 1
    · intro u hSu
      obtain ⟨q0, q1⟩ := row_cells hSu.out.gb
      go_simp
      first | done | with_reducible rfl
    (try simp only [Act.put, List.setIfInBounds_toArray, List.set_cons_zero, List.set_cons_succ])
    refine wpAnyH_take (i := 5) (oi := { dst := some 59, op := Op.move (Operand.tmp 12), type := 3, pos := "law.go:101", after := #[], guard := none }) (v := ?_) rfl (by kernel_rfl) (by kernel_rfl) (by kernel_rfl) (fun _ _ _ h => h) (Or.inl ⟨by rfl, ?_⟩) hHeld ?_
    rotate_left 1
    · intro u hSu
      obtain ⟨q0, q1⟩ := row_cells hSu.out.gb
      go_simp
      first | done | with_reducible rfl
    (try simp only [Act.put, List.setIfInBounds_toArray, List.set_cons_zero, List.set_cons_succ])
    refine wpAnyH_take (i := 6) (oi := { dst := some 60, op := Op.move (Operand.tmp 13), type := 3, pos := "law.go:101", after := #[], guard := none }) (v := ?_) rfl (by kernel_rfl) (by kernel_rfl) (by kernel_rfl) (fun _ _ _ h => h) (Or.inl ⟨by rfl, ?_⟩) hHeld ?_
    rotate_left 1
    · intro u hSu
      obtain ⟨q0, q1⟩ := row_cells hSu.out.gb
      go_simp
      first | done | with_reducible rfl
    (try simp only [Act.put, List.setIfInBounds_toArray, List.set_cons_zero, List.set_cons_succ])
    refine wpAnyH_ready (rs := [3]) (by kernel_rfl) (by simp) ?_
    refine AllReadyH.cons (o := { dst := some 57, op := Op.call { callee := Callee.value (Operand.func 39), args := #[Operand.tmp 54, Operand.tmp 55, Operand.tmp 56], argTypes := #[26, 3, 3] }, type := 4, pos := "law.go:101", after := #[{ on := 0, ground := Ground.data }, { on := 1, ground := Ground.data }, { on := 2, ground := Ground.data }], guard := none }) rfl (fun Kz hK => ?_) AllReadyH.nil
    go_simp
    go_at_call 39
    refine (tconn_any ⟨Rw, Lw, pu, cu, pv, cv⟩ p r _ _ hHeld.out.t (fun _ => Nat.le_trans HOK.out.2 (by decide))).mono ?_
    simp only
    rintro e w14 ⟨rfl, hg⟩
    obtain ⟨zp, hzp⟩ : ∃ z, conn Rw Lw p r = z := ⟨_, rfl⟩
    rw [hzp]
    have Hzp := Lib.hid hzp
    clear hzp
    refine hK.out _ _ (Lib.hid (hHeld.out.keep hg)) (fun hH2 => ?_)
    clear hK Kz hHeld
    have hHeld := hH2
    clear hH2
    (try simp only [Act.put, List.setIfInBounds_toArray, List.set_cons_zero, List.set_cons_succ])
    refine wpAnyH_ready (rs := [7]) (by kernel_rfl) (by simp) ?_
    refine AllReadyH.cons (o := { dst := some 61, op := Op.call { callee := Callee.value (Operand.func 40), args := #[Operand.tmp 58, Operand.tmp 59, Operand.tmp 60], argTypes := #[26, 3, 3] }, type := 4, pos := "law.go:101", after := #[{ on := 4, ground := Ground.data }, { on := 5, ground := Ground.data }, { on := 6, ground := Ground.data }, { on := 3, ground := Ground.chain }], guard := none }) rfl (fun Kz hK => ?_) AllReadyH.nil
    go_simp
    go_at_call 40
    refine (rconn_any ⟨Rw, Lw, pu, cu, pv, cv⟩ p r _ _ hHeld.out.t).mono ?_
    simp only
    rw [Hzp.out]
    rintro e w15 ⟨rfl, hg⟩
    refine hK.out _ _ (Lib.hid (hHeld.out.keep hg)) (fun hH2 => ?_)
    clear hK Kz hHeld
    have hHeld := hH2
    clear hH2
    (try simp only [Act.put, List.setIfInBounds_toArray, List.set_cons_zero, List.set_cons_succ])
    refine wpAnyH_take (i := 8) (oi := { dst := some 62, op := Op.binOp BinOp.eql 4 (Operand.tmp 57) (Operand.tmp 61) 4, type := 4, pos := "law.go:101", after := #[{ on := 3, ground := Ground.data }, { on := 7, ground := Ground.data }], guard := none }) (v := (.bool true)) rfl (by kernel_rfl) (by kernel_rfl) (by kernel_rfl) (fun _ _ _ h => h) (Or.inl ⟨by rfl, ?_⟩) hHeld ?_
    · intro u hSu
      obtain ⟨q0, q1⟩ := row_cells hSu.out.gb
      go_simp
      first | done | with_reducible rfl | (simp; done)
    (try simp only [Act.put, List.setIfInBounds_toArray, List.set_cons_zero, List.set_cons_succ])
    refine wpAnyH_take (i := 9) (oi := { dst := some 63, op := Op.move (Operand.tmp 62), type := 4, pos := "law.go:101", after := #[{ on := 8, ground := Ground.data }, { on := 7, ground := Ground.chain }], guard := none }) (v := (.bool true)) rfl (by kernel_rfl) (by kernel_rfl) (by kernel_rfl) (fun _ _ _ h => h) (Or.inl ⟨by rfl, ?_⟩) hHeld ?_
    · intro u hSu
      obtain ⟨q0, q1⟩ := row_cells hSu.out.gb
      go_simp
      first | done | with_reducible rfl | (simp; done)
    (try simp only [Act.put, List.setIfInBounds_toArray, List.set_cons_zero, List.set_cons_succ])
    refine wpAnyH_take (i := 10) (oi := { dst := some 64, op := Op.load 26 (Operand.tmp 8), type := 26, pos := "law.go:101", after := #[{ on := 9, ground := Ground.guard }], guard := some (9, true) }) (v := ?_) rfl (by kernel_rfl) (by kernel_rfl) (by kernel_rfl) (fun _ _ _ h => h) (Or.inl ⟨by rfl, ?_⟩) hHeld ?_
    rotate_left 1
    · intro u hSu
      obtain ⟨q0, q1⟩ := row_cells hSu.out.gb
      go_simp
      first | done | with_reducible rfl
    (try simp only [Act.put, List.setIfInBounds_toArray, List.set_cons_zero, List.set_cons_succ])
    refine wpAnyH_take (i := 11) (oi := { dst := some 65, op := Op.move (Operand.tmp 1), type := 3, pos := "law.go:101", after := #[{ on := 9, ground := Ground.guard }], guard := some (9, true) }) (v := ?_) rfl (by kernel_rfl) (by kernel_rfl) (by kernel_rfl) (fun _ _ _ h => h) (Or.inl ⟨by rfl, ?_⟩) hHeld ?_
    rotate_left 1
    · intro u hSu
      obtain ⟨q0, q1⟩ := row_cells hSu.out.gb
      go_simp
      first | done | with_reducible rfl
    (try simp only [Act.put, List.setIfInBounds_toArray, List.set_cons_zero, List.set_cons_succ])
    refine wpAnyH_take (i := 12) (oi := { dst := some 66, op := Op.move (Operand.tmp 2), type := 3, pos := "law.go:101", after := #[{ on := 9, ground := Ground.guard }], guard := some (9, true) }) (v := ?_) rfl (by kernel_rfl) (by kernel_rfl) (by kernel_rfl) (fun _ _ _ h => h) (Or.inl ⟨by rfl, ?_⟩) hHeld ?_
    rotate_left 1
    · intro u hSu
      obtain ⟨q0, q1⟩ := row_cells hSu.out.gb
      go_simp
      first | done | with_reducible rfl
    (try simp only [Act.put, List.setIfInBounds_toArray, List.set_cons_zero, List.set_cons_succ])
    refine wpAnyH_take (i := 14) (oi := { dst := some 68, op := Op.load 26 (Operand.tmp 8), type := 26, pos := "law.go:101", after := #[{ on := 9, ground := Ground.guard }], guard := some (9, true) }) (v := ?_) rfl (by kernel_rfl) (by kernel_rfl) (by kernel_rfl) (fun _ _ _ h => h) (Or.inl ⟨by rfl, ?_⟩) hHeld ?_
    rotate_left 1
    · intro u hSu
      obtain ⟨q0, q1⟩ := row_cells hSu.out.gb
      go_simp
      first | done | with_reducible rfl
    (try simp only [Act.put, List.setIfInBounds_toArray, List.set_cons_zero, List.set_cons_succ])
    refine wpAnyH_take (i := 15) (oi := { dst := some 69, op := Op.move (Operand.tmp 1), type := 3, pos := "law.go:101", after := #[{ on := 9, ground := Ground.guard }], guard := some (9, true) }) (v := ?_) rfl (by kernel_rfl) (by kernel_rfl) (by kernel_rfl) (fun _ _ _ h => h) (Or.inl ⟨by rfl, ?_⟩) hHeld ?_
    rotate_left 1
    · intro u hSu
      obtain ⟨q0, q1⟩ := row_cells hSu.out.gb
      go_simp
      first | done | with_reducible rfl
    (try simp only [Act.put, List.setIfInBounds_toArray, List.set_cons_zero, List.set_cons_succ])
    refine wpAnyH_take (i := 16) (oi := { dst := some 70, op := Op.move (Operand.tmp 2), type := 3, pos := "law.go:101", after := #[{ on := 9, ground := Ground.guard }], guard := some (9, true) }) (v := ?_) rfl (by kernel_rfl) (by kernel_rfl) (by kernel_rfl) (fun _ _ _ h => h) (Or.inl ⟨by rfl, ?_⟩) hHeld ?_
    rotate_left 1
    · intro u hSu
      obtain ⟨q0, q1⟩ := row_cells hSu.out.gb
      go_simp
      first | done | with_reducible rfl
    (try simp only [Act.put, List.setIfInBounds_toArray, List.set_cons_zero, List.set_cons_succ])
    refine wpAnyH_ready (rs := [13]) (by kernel_rfl) (by simp) ?_
    refine AllReadyH.cons (o := { dst := some 67, op := Op.call { callee := Callee.value (Operand.func 39), args := #[Operand.tmp 64, Operand.tmp 65, Operand.tmp 66], argTypes := #[26, 3, 3] }, type := 4, pos := "law.go:101", after := #[{ on := 10, ground := Ground.data }, { on := 11, ground := Ground.data }, { on := 12, ground := Ground.data }, { on := 9, ground := Ground.chain }, { on := 9, ground := Ground.guard }], guard := some (9, true) }) rfl (fun Kz hK => ?_) AllReadyH.nil
    go_simp
    go_at_call 39
    refine (tconn_any ⟨Rw, Lw, pu, cu, pv, cv⟩ x y _ _ hHeld.out.t (fun _ => Nat.le_trans HOK.out.2 (by decide))).mono ?_
    simp only
    rintro e w16 ⟨rfl, hg⟩
    obtain ⟨zx, hzx⟩ : ∃ z, conn Rw Lw x y = z := ⟨_, rfl⟩
    rw [hzx]
    have Hzx := Lib.hid hzx
    clear hzx
    refine hK.out _ _ (Lib.hid (hHeld.out.keep hg)) (fun hH2 => ?_)
    clear hK Kz hHeld
    have hHeld := hH2
    clear hH2
    (try simp only [Act.put, List.setIfInBounds_toArray, List.set_cons_zero, List.set_cons_succ])
    refine wpAnyH_ready (rs := [17]) (by kernel_rfl) (by simp) ?_
    refine AllReadyH.cons (o := { dst := some 71, op := Op.call { callee := Callee.value (Operand.func 40), args := #[Operand.tmp 68, Operand.tmp 69, Operand.tmp 70], argTypes := #[26, 3, 3] }, type := 4, pos := "law.go:101", after := #[{ on := 14, ground := Ground.data }, { on := 15, ground := Ground.data }, { on := 16, ground := Ground.data }, { on := 13, ground := Ground.chain }, { on := 9, ground := Ground.guard }], guard := some (9, true) }) rfl (fun Kz hK => ?_) AllReadyH.nil
    go_simp
    go_at_call 40
    refine (rconn_any ⟨Rw, Lw, pu, cu, pv, cv⟩ x y _ _ hHeld.out.t).mono ?_
    simp only
    rw [Hzx.out]
    rintro e w17 ⟨rfl, hg⟩
    refine hK.out _ _ (Lib.hid (hHeld.out.keep hg)) (fun hH2 => ?_)
    clear hK Kz hHeld
    have hHeld := hH2
    clear hH2
    (try simp only [Act.put, List.setIfInBounds_toArray, List.set_cons_zero, List.set_cons_succ])
    refine wpAnyH_take (i := 18) (oi := { dst := some 72, op := Op.binOp BinOp.eql 4 (Operand.tmp 67) (Operand.tmp 71) 4, type := 4, pos := "law.go:101", after := #[{ on := 13, ground := Ground.data }, { on := 17, ground := Ground.data }, { on := 9, ground := Ground.guard }], guard := some (9, true) }) (v := (.bool true)) rfl (by kernel_rfl) (by kernel_rfl) (by kernel_rfl) (fun _ _ _ h => h) (Or.inl ⟨by rfl, ?_⟩) hHeld ?_
    · intro u hSu
      obtain ⟨q0, q1⟩ := row_cells hSu.out.gb
      go_simp
      first | done | with_reducible rfl | (simp; done)
    (try simp only [Act.put, List.setIfInBounds_toArray, List.set_cons_zero, List.set_cons_succ])
    refine wpAnyH_take (i := 19) (oi := { dst := some 73, op := Op.pick (Operand.tmp 63) (Operand.tmp 72) (Operand.const (Value.bool false)), type := 4, pos := "law.go:101", after := #[{ on := 9, ground := Ground.data }, { on := 18, ground := Ground.data }], guard := none }) (v := (.bool true)) rfl (by kernel_rfl) (by kernel_rfl) (by kernel_rfl) (fun _ _ _ h => h) (Or.inl ⟨by rfl, ?_⟩) hHeld ?_
    · intro u hSu
      obtain ⟨q0, q1⟩ := row_cells hSu.out.gb
      go_simp
      first | done | with_reducible rfl | (simp; done)
    (try simp only [Act.put, List.setIfInBounds_toArray, List.set_cons_zero, List.set_cons_succ])
    refine wpAnyH_take (i := 20) (oi := { dst := some 74, op := Op.move (Operand.tmp 73), type := 4, pos := "law.go:101", after := #[{ on := 19, ground := Ground.data }, { on := 17, ground := Ground.chain }], guard := none }) (v := (.bool true)) rfl (by kernel_rfl) (by kernel_rfl) (by kernel_rfl) (fun _ _ _ h => h) (Or.inl ⟨by rfl, ?_⟩) hHeld ?_
    · intro u hSu
      obtain ⟨q0, q1⟩ := row_cells hSu.out.gb
      go_simp
      first | done | with_reducible rfl | (simp; done)
    (try simp only [Act.put, List.setIfInBounds_toArray, List.set_cons_zero, List.set_cons_succ])
    refine wpAnyH_ready (rs := [21]) (by kernel_rfl) (by simp) ?_
    refine AllReadyH.cons (o := { dst := some 75, op := Op.call { callee := Callee.value (Operand.func 16), args := #[], argTypes := #[] }, type := 4, pos := "law.go:101", after := #[{ on := 20, ground := Ground.chain }, { on := 20, ground := Ground.guard }], guard := some (20, true) }) rfl (fun Kz hK => ?_) AllReadyH.nil
    go_simp
    go_at_call 16
    refine (tawake_any _).mono ?_
    rintro e w18 ⟨rfl, hg⟩
    refine hK.out _ _ (Lib.hid (hHeld.out.keep hg)) (fun hH2 => ?_)
    clear hK Kz hHeld
    have hHeld := hH2
    clear hH2
    (try simp only [Act.put, List.setIfInBounds_toArray, List.set_cons_zero, List.set_cons_succ])
    refine wpAnyH_take (i := 22) (oi := { dst := some 76, op := Op.pick (Operand.tmp 74) (Operand.tmp 75) (Operand.const (Value.bool false)), type := 4, pos := "law.go:101", after := #[{ on := 20, ground := Ground.data }, { on := 21, ground := Ground.data }], guard := none }) (v := (.bool true)) rfl (by kernel_rfl) (by kernel_rfl) (by kernel_rfl) (fun _ _ _ h => h) (Or.inl ⟨by rfl, ?_⟩) hHeld ?_
    · intro u hSu
      obtain ⟨q0, q1⟩ := row_cells hSu.out.gb
      go_simp
      first | done | with_reducible rfl | (simp; done)
    (try simp only [Act.put, List.setIfInBounds_toArray, List.set_cons_zero, List.set_cons_succ])
    refine wpAnyH_take (i := 23) (oi := { dst := some 6, op := Op.assign (Operand.tmp 76), type := 4, pos := "law.go:101", after := #[{ on := 22, ground := Ground.data }, { on := 21, ground := Ground.chain }, { on := 0, ground := Ground.phase }, { on := 1, ground := Ground.phase }, { on := 2, ground := Ground.phase }, { on := 3, ground := Ground.phase }, { on := 4, ground := Ground.phase }, { on := 5, ground := Ground.phase }, { on := 6, ground := Ground.phase }, { on := 7, ground := Ground.phase }, { on := 8, ground := Ground.phase }, { on := 9, ground := Ground.phase }, { on := 10, ground := Ground.phase }, { on := 11, ground := Ground.phase }, { on := 12, ground := Ground.phase }, { on := 13, ground := Ground.phase }, { on := 14, ground := Ground.phase }, { on := 15, ground := Ground.phase }, { on := 16, ground := Ground.phase }, { on := 17, ground := Ground.phase }, { on := 18, ground := Ground.phase }, { on := 19, ground := Ground.phase }, { on := 20, ground := Ground.phase }, { on := 21, ground := Ground.phase }, { on := 22, ground := Ground.phase }], guard := none }) (v := ?_) rfl (by kernel_rfl) (by kernel_rfl) (by kernel_rfl) (fun _ _ _ h => h) (Or.inl ⟨by rfl, ?_⟩) hHeld ?_
    rotate_left 1
    · intro u hSu
      obtain ⟨q0, q1⟩ := row_cells hSu.out.gb
      go_simp
      first | done | with_reducible rfl
    (try simp only [Act.put, List.setIfInBounds_toArray, List.set_cons_zero, List.set_cons_succ])
    refine wpAnyH_done (by kernel_rfl) ?_ _
    have HE := Lib.hid hHeld.out.gr
    clear hHeld HKD HK
    go_wp2_with fail
    go_ret
    exact ⟨rfl, HE.out⟩
end Go.Proofs.Ytiencdgmnkphjaa
