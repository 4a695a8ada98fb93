/- Parts of the proof, packed: TaNrLaw. -/
import Derived.Test.YtahafijpcmphaaaGreatQr17
import Derived.Test.YtahafijpcmphaaaGreatQr19
import Derived.Test.YtahafijpcmphaaaGreatQr20
import Derived.Test.YtahafijpcmphaaaGreatQr12
/- tables: the law of nearer. -/
namespace Go.Proofs.YtahafijpcmphaaaGreat
open Go.RowKit Bs
set_option maxRecDepth 100000 in
theorem eb_b {w w6 : World} (hg : (w.alloc (.cells #[.int .i64 0, .int .i64 0] 71)).drew.grownBy w6 none) : w6.heap[w.heap.size]? = some (.cells #[.int .i64 0, .int .i64 0] 71 (0, 0)) :=
  kept_row (w := (w.alloc (.cells #[.int .i64 0, .int .i64 0] 71)).drew) (alloc_row (w := w) #[.int .i64 0, .int .i64 0] 71 rfl).1 hg (by simp)
/-- All that the rounds of the law read. -/
structure LR (W : World) (T : Tg) (s n : Int) (E : List Ed) (pE : Option Addr) (cE B C Z : Nat) (p : Option Addr) (c : Nat) (Ts : List Tb) (w : World) : Prop where
  bT : w.heap[B]? = some (.cells #[.slice T.pR T.R.length T.cR, .slice T.pL T.L.length T.cL] 45 (0, 0))
  bP : w.heap[C]? = some (.cells #[.int .i64 s, .int .i64 n, .slice pE E.length cE] 48 (0, 0))
  t : TgOk w (· < Z) T
  e : RdF w (· < Z) (.slice pE E.length cE) E.length (E.flatMap edC)
  rd : RdT w (· < Z) p c Ts
  gr : W.grownBy w none
  lo : W.heap.size ≤ Z ∧ B < Z ∧ C < Z ∧ Z ≤ w.heap.size
set_option maxRecDepth 100000 in
theorem LR.put {W : World} {T : Tg} {s n : Int} {E : List Ed} {pE : Option Addr} {cE B C Z : Nat} {p : Option Addr} {c : Nat} {Ts : List Tb} {w w1 : World} {r : Option Nat} (h : LR W T s n E pE cE B C Z p c Ts w) (g : w.grownBy w1 r) (hr : ∀ b, b < Z → some b ≠ r) : LR W T s n E pE cE B C Z p c Ts w1 := by
  have hlo := h.lo
  exact ⟨kept_row h.bT g (hr _ hlo.2.1), kept_row h.bP g (hr _ hlo.2.2.1), h.t.grown g hr, h.e.grown g hr, ⟨h.rd.rd.grown g hr, fun x hx => ⟨(h.rd.ok x hx).1.grown g hr, (h.rd.ok x hx).2⟩⟩, grown_any h.gr g (fun b hb => hr b (by omega)), hlo.1, hlo.2.1, hlo.2.2.1, Nat.le_trans hlo.2.2.2 g.size⟩
set_option maxRecDepth 100000 in
theorem LR.keep {W : World} {T : Tg} {s n : Int} {E : List Ed} {pE : Option Addr} {cE B C Z : Nat} {p : Option Addr} {c : Nat} {Ts : List Tb} {w w1 : World} (h : LR W T s n E pE cE B C Z p c Ts w) (g : w.grownBy w1 none) : LR W T s n E pE cE B C Z p c Ts w1 := h.put g (fun _ _ => by simp)
set_option maxRecDepth 100000 in
set_option maxHeartbeats 12800000 in
theorem tnearerl_walk (v : Value) (w : World) (hv : IntsIn w v) :
    Calls Tryz.prog 9 #[v] w fun e w' => e = .returned (.bool true) ∧ w.grownBy w' none := by
  have HV := Lib.hid hv
  clear hv
  go_enter Tryz.func9, Tryz.ntmps9
  go_wp2_with fail
  refine (new_any v w HV.out).mono ?_
  rintro e w1 ⟨rfl, hg1, hT1⟩
  have H1 := Lib.hid (And.intro hg1 hT1)
  clear hg1 hT1 HV
  obtain ⟨a, ha⟩ : ∃ a, w.heap.size = a := ⟨_, rfl⟩
  have HA := Lib.hid ha
  rw [ha] at H1 ⊢
  clear ha
  go_wp2_with fail
  refine (mixed_any a 7 (by omega) (by omega) w1 H1.out.2).mono ?_
  rintro e w3 ⟨R0, R, L0, vR, vL, rfl, hR, hL, hO, hid, hs⟩
  obtain ⟨pR, cR, pL, cL, rfl, rfl, hTg⟩ := tg_of_ownT hR hL
  have HGT := Lib.hid (GT.mix (T := ⟨R, L0, pR, cR, pL, cL⟩) hO (by omega) hid (pl_own hL))
  have H3 := Lib.hid (gx_start (T := ⟨R, L0, pR, cR, pL, cL⟩) HA.out H1.out.1 H1.out.2 hTg hs)
  clear hR hL hO hid hs hTg H1
  have HOK : Hid (chk R L0 = 0 ∧ okT R L0 = true) := Lib.hid (by
    have h := HGT.out.2
    exact ⟨by unfold okT at h; simpa using h, h⟩)
  have HG1 := Lib.hid HGT.out.1
  clear HGT
  have HGT := HG1
  clear HG1
  (try simp only at HGT)
  go_upto_region 3 with fail
  generalize w3.alloc _ = w4 at *
  generalize w3.heap.size = B at *
  obtain ⟨t0, t1⟩ := row_cells H3.out.bT
  go_wp2_with fail
  refine (tplan_any a 0 (by unfold I64; omega) R pR pL cR L0.length cL HGT.out.len.2 w4 H3.out.tp (H3.out.t.r.mono (fun b hb => ⟨by omega, hb.2.2⟩))).mono ?_
  rintro e w7 ⟨sub, len, E, pE, cE, rfl, hE, hEl, hgood, hs⟩
  obtain ⟨hg1, hg2, O, i, id, hO, hP⟩ := hgood (Int.le_refl 0)
  have hsub : inV sub 0 7 = true := by unfold inV at hg1 ⊢; simp only [decide_eq_true_eq] at hg1 ⊢; omega
  have HVP := Lib.hid (hP.valid HOK.out.1 hO hsub hg2).1
  have H7 := Lib.hid (gp_start sub len H3.out hs hE)
  have HEL : Hid (E.length ≤ 41) := Lib.hid (by have := HGT.out.len.2; simp only at this; omega)
  clear hE hEl hgood hg1 hg2 hO hP hsub hs H3 t0 t1
  go_upto_region 4 with fail
  generalize w7.alloc _ = w8 at *
  generalize w7.heap.size = C at *
  obtain ⟨t0, t1⟩ := row_cells H7.out.gx.bT
  obtain ⟨q0, q1, q2⟩ := row3B H7.out.bP
  go_wp2_with fail
  refine (tAll_any ⟨R, L0, pR, cR, pL, cL⟩ sub len E pE cE _ _ w8 H7.out.gx.t H7.out.e (by have := HEL.out; omega) HGT.out.pl (Nat.le_trans HGT.out.len.2 (by decide)) HGT.out.ok (Nat.le_trans HGT.out.l60 (by decide))).mono ?_
  rintro e w9 ⟨Ts, pA, cA, er, rfl, hres, hown, htab, hg⟩
  obtain ⟨rfl, hM⟩ : er = 0 ∧ AllM R L0 sub len E R Ts := by
    rcases hres with h | h
    · exact ⟨h.1, h.2.2.2⟩
    · exact absurd ⟨HOK.out.2, HVP.out⟩ h.2.1
  have HM := Lib.hid hM
  have HTL : Hid (Ts.length ≤ 40) := Lib.hid (Nat.le_trans hM.len HGT.out.len.2)
  have K0 : Hid (LR w ⟨R, L0, pR, cR, pL, cL⟩ sub len E pE cE B C w9.heap.size pA cA Ts w9) := Lib.hid (by
    have h := H7.out.keep hg
    have h1 := h.gx.lo
    have h2 := h.lo
    exact ⟨h.gx.bT, h.bP, h.gx.t.mono (fun b hb => hb.2.2), h.e.mono (fun b hb => hb.2), ⟨(rdf_of_own2 hown).mono (fun b hb => hb.2), fun x hx => ⟨(htab x hx).rd.mono (fun b hb => hb.2.1), Nat.le_trans (htab x hx).hc.1 (htab x hx).hc.2⟩⟩, h.gx.gr, by omega, by omega, by omega, Nat.le_refl _⟩)
  clear hres hown htab hg hM H7 t0 t1 q0 q1 q2
  generalize w9.heap.size = Z at *
  simp only
  go_wp2_with fail
  go_loopw [8] (fun v wr => ∃ i : Nat, i ≤ Ts.length ∧ v = .int .i64 (i : Int) ∧ Hid (LR w ⟨R, L0, pR, cR, pL, cL⟩ sub len E pE cE B C Z pA cA Ts wr)) (fun v _ => Ts.length - (RowKit.intOf v).toNat)
  case atStart => exact ⟨0, Nat.zero_le _, rfl, K0⟩
  case round =>
  clear K0
  obtain ⟨i, hi, rfl, K⟩ := hrel
  obtain ⟨w5, hw5⟩ : ∃ w5, w5 = wr := ⟨_, rfl⟩
  rw [← hw5] at K ⊢
  clear hw5
  by_cases hlt : i < Ts.length
  case neg =>
    obtain rfl : i = Ts.length := by omega
    have hnl : ¬ (Ts.length : Int) < (Ts.length : Int) := by omega
    go_wp2_with fail
    refine (awk11_any w5).mono ?_
    rintro e w6 ⟨rfl, hg⟩
    have G := Lib.hid (grown_trans K.out.gr hg)
    clear hg K
    simp only
    go_wp2_with fail
    go_ret
    exact ⟨rfl, G.out⟩
  have hlti : (i : Int) < (Ts.length : Int) := by omega
  have hi0 : (0 : Int) ≤ (i : Int) := by omega
  have hT40 := HTL.out
  obtain ⟨x, hx⟩ : ∃ x, Ts[i]? = some x := ⟨_, List.getElem?_eq_getElem hlt⟩
  obtain ⟨-, b, off, rfl, -, -⟩ := tb_cells K.out.rd.rd (by omega)
  have HX := Lib.hid (List.mem_of_getElem? hx)
  have HTB : Hid (∀ u, LR w ⟨R, L0, pR, cR, pL, cL⟩ sub len E pE cE B C Z (some ⟨b, off, none⟩) cA Ts u → u.cell? ⟨b, off + i * 4, none⟩ = some (.int .i64 x.r) ∧ u.cell? ⟨b, off + i * 4 + 1, none⟩ = some (.int .i64 x.s) ∧ u.cell? ⟨b, off + i * 4 + 2, none⟩ = some (.int .i64 x.n) ∧ u.cell? ⟨b, off + i * 4 + 3, none⟩ = some (.slice x.p x.L.length x.c)) := Lib.hid (fun u h => by
    obtain ⟨-, b', off', hp, -, hc⟩ := tb_cells h.rd.rd (by omega)
    injection hp with hp
    injection hp with e1 e2
    subst e1
    subst e2
    exact hc i x hx)
  have HBM := Lib.hid (HM.out.2 x HX.out).2.2
  have HRO : Hid (∀ u, LR w ⟨R, L0, pR, cR, pL, cL⟩ sub len E pE cE B C Z (some ⟨b, off, none⟩) cA Ts u → RdW u (· < Z) x.p x.c x.L) := Lib.hid (fun u h => (h.rd.ok x HX.out).1)
  obtain ⟨tr, ts, tn, tL, tp, tc⟩ := x
  simp only at HTB HBM HRO
  have HLL : Hid (tL.length = E.length) := Lib.hid HBM.out.1
  have hTL41 : tL.length ≤ 41 := by have := HEL.out; rw [HLL.out]; omega
  clear hx
  go_wp2_with fail
  go_loopw [9] (fun v wr => ∃ k : Nat, k ≤ tL.length ∧ v = .int .i64 (k : Int) ∧ Hid (LR w ⟨R, L0, pR, cR, pL, cL⟩ sub len E pE cE B C Z (some ⟨b, off, none⟩) cA Ts wr)) (fun v _ => tL.length - (RowKit.intOf v).toNat)
  case atStart => exact ⟨0, Nat.zero_le _, rfl, K⟩
  case round =>
  clear K
  obtain ⟨k, hk, rfl, K⟩ := hrel
  obtain ⟨w6, hw6⟩ : ∃ w6, w6 = wr := ⟨_, rfl⟩
  rw [← hw6] at K ⊢
  clear hw6
  obtain ⟨a0, a1, a2, a3⟩ := HTB.out _ K.out
  by_cases hltk : k < tL.length
  case neg =>
    obtain rfl : k = tL.length := by omega
    have hnl : ¬ (tL.length : Int) < (tL.length : Int) := by omega
    go_wp2_with fail
    exact ⟨⟨i + 1, by omega, congrArg _ (by omega), K⟩, by simp only [RowKit.intOf]; omega⟩
  have hltk' : (k : Int) < (tL.length : Int) := by omega
  have hk0 : (0 : Int) ≤ (k : Int) := by omega
  obtain ⟨y, hy⟩ : ∃ y, tL[k]? = some y := ⟨_, List.getElem?_eq_getElem hltk⟩
  obtain ⟨e, he⟩ : ∃ e, E[k]? = some e := ⟨_, List.getElem?_eq_getElem (by rw [← HLL.out]; exact hltk)⟩
  obtain ⟨hyi, hnb⟩ := HBM.out.2 k e y he hy
  have hef := edF_at HVP.out he
  obtain ⟨-, b2, o2, rfl, -, -⟩ := rw_cells (HRO.out _ K.out).rd (by omega)
  have HRW : Hid (∀ u, LR w ⟨R, L0, pR, cR, pL, cL⟩ sub len E pE cE B C Z (some ⟨b, off, none⟩) cA Ts u → u.cell? ⟨b2, o2 + k * 2, none⟩ = some (.int .i64 y.id) ∧ u.cell? ⟨b2, o2 + k * 2 + 1, none⟩ = some (.slice y.p y.nx.length y.c)) := Lib.hid (fun u h => by
    obtain ⟨-, b', off', hp, -, hc⟩ := rw_cells (HRO.out u h).rd (by omega)
    injection hp with hp
    injection hp with e1 e2
    subst e1
    subst e2
    exact hc k y hy)
  have HNX : Hid (∀ u, LR w ⟨R, L0, pR, cR, pL, cL⟩ sub len E pE cE B C Z (some ⟨b, off, none⟩) cA Ts u → RwOk u (· < Z) y) := Lib.hid (fun u h => (HRO.out u h).ok y (List.mem_of_getElem? hy))
  obtain ⟨yi, xn, xp, xc⟩ := y
  obtain ⟨er, ei⟩ := e
  simp only at hyi hnb hef HRW HNX
  subst hyi
  have HNB := Lib.hid hnb
  have HEF := Lib.hid hef
  clear hy he hnb hef
  go_upto_region 13 with fail
  clear a0 a1 a2 a3
  go_cut [10, 11] from 49 to 62 (fun u v wx => ∃ (g : Nat), u = .pointer (some ⟨g, 0, none⟩) ∧ v = .bool true ∧ Hid (LR w ⟨R, L0, pR, cR, pL, cL⟩ sub len E pE cE B C Z (some ⟨b, off, none⟩) cA Ts wx ∧ wx.heap[g]? = some (.cells #[.int .i64 er, .int .i64 yi] 71 (0, 0))))
  case first =>
    refine region_until2 (S := fun w' => Hid (LR w ⟨R, L0, pR, cR, pL, cL⟩ sub len E pE cE B C Z (some ⟨b, off, none⟩) cA Ts w')) (fun j => j == 15 || j == 16) (by kernel_rfl) (Lib.hid (K.out.keep (grown_drew (grown_refl _ none)))) (fun hHeld => ?_)
    refine anyV_take (i := 0) (oi := { dst := some 50, op := Op.load 48 (Operand.tmp 5), type := 48, pos := "law.go:170", after := #[], guard := none }) (v := ?_) rfl (by kernel_rfl) (by kernel_rfl) (by kernel_rfl) (by kernel_rfl) (by kernel_rfl) (fun _ _ _ h => h) (Or.inl ⟨by rfl, ?_⟩) hHeld ?_
    rotate_left 1
    · intro u hSu
      obtain ⟨q0u, q1u, q2u⟩ := row3B hSu.out.bP
      obtain ⟨a0u, a1u, a2u, a3u⟩ := HTB.out u hSu.out
      obtain ⟨m0u, m1u⟩ := HRW.out u hSu.out
      go_simp
      first | done | with_reducible rfl
    (try simp only [Act.put, List.setIfInBounds_toArray, List.set_cons_zero, List.set_cons_succ])
    refine anyV_take (i := 1) (oi := { dst := some 51, op := Op.move (Operand.tmp 6), type := 29, pos := "law.go:170", after := #[], guard := none }) (v := ?_) rfl (by kernel_rfl) (by kernel_rfl) (by kernel_rfl) (by kernel_rfl) (by kernel_rfl) (fun _ _ _ h => h) (Or.inl ⟨by rfl, ?_⟩) hHeld ?_
    rotate_left 1
    · intro u hSu
      obtain ⟨q0u, q1u, q2u⟩ := row3B hSu.out.bP
      obtain ⟨a0u, a1u, a2u, a3u⟩ := HTB.out u hSu.out
      obtain ⟨m0u, m1u⟩ := HRW.out u hSu.out
      go_simp
      first | done | with_reducible rfl
    (try simp only [Act.put, List.setIfInBounds_toArray, List.set_cons_zero, List.set_cons_succ])
    refine anyV_take (i := 2) (oi := { dst := some 52, op := Op.move (Operand.tmp 8), type := 3, pos := "law.go:170", after := #[], guard := none }) (v := ?_) rfl (by kernel_rfl) (by kernel_rfl) (by kernel_rfl) (by kernel_rfl) (by kernel_rfl) (fun _ _ _ h => h) (Or.inl ⟨by rfl, ?_⟩) hHeld ?_
    rotate_left 1
    · intro u hSu
      obtain ⟨q0u, q1u, q2u⟩ := row3B hSu.out.bP
      obtain ⟨a0u, a1u, a2u, a3u⟩ := HTB.out u hSu.out
      obtain ⟨m0u, m1u⟩ := HRW.out u hSu.out
      go_simp
      first | done | with_reducible rfl
    (try simp only [Act.put, List.setIfInBounds_toArray, List.set_cons_zero, List.set_cons_succ])
    refine anyV_take (i := 3) (oi := { dst := some 53, op := Op.indexAddr 29 (Operand.tmp 51) (Operand.tmp 52), type := 0, pos := "law.go:170", after := #[{ on := 1, ground := Ground.data }, { on := 2, ground := Ground.data }], guard := none }) (v := ?_) rfl (by kernel_rfl) (by kernel_rfl) (by kernel_rfl) (by kernel_rfl) (by kernel_rfl) (fun _ _ _ h => h) (Or.inl ⟨by rfl, ?_⟩) hHeld ?_
    rotate_left 1
    · intro u hSu
      obtain ⟨q0u, q1u, q2u⟩ := row3B hSu.out.bP
      obtain ⟨a0u, a1u, a2u, a3u⟩ := HTB.out u hSu.out
      obtain ⟨m0u, m1u⟩ := HRW.out u hSu.out
      go_simp
      first | done | with_reducible rfl
    (try simp only [Act.put, List.setIfInBounds_toArray, List.set_cons_zero, List.set_cons_succ])
    refine anyV_take (i := 4) (oi := { dst := some 54, op := Op.fieldAddr 25 (Operand.tmp 53) 3, type := 0, pos := "law.go:170", after := #[{ on := 3, ground := Ground.data }], guard := none }) (v := ?_) rfl (by kernel_rfl) (by kernel_rfl) (by kernel_rfl) (by kernel_rfl) (by kernel_rfl) (fun _ _ _ h => h) (Or.inl ⟨by rfl, ?_⟩) hHeld ?_
    rotate_left 1
    · intro u hSu
      obtain ⟨q0u, q1u, q2u⟩ := row3B hSu.out.bP
      obtain ⟨a0u, a1u, a2u, a3u⟩ := HTB.out u hSu.out
      obtain ⟨m0u, m1u⟩ := HRW.out u hSu.out
      go_simp
      first | done | with_reducible rfl
    (try simp only [Act.put, List.setIfInBounds_toArray, List.set_cons_zero, List.set_cons_succ])
    refine anyV_take (i := 5) (oi := { dst := some 55, op := Op.load 23 (Operand.tmp 54), type := 23, pos := "law.go:170", after := #[{ on := 4, ground := Ground.data }], guard := none }) (v := ?_) rfl (by kernel_rfl) (by kernel_rfl) (by kernel_rfl) (by kernel_rfl) (by kernel_rfl) (fun _ _ _ h => h) (Or.inl ⟨by rfl, ?_⟩) hHeld ?_
    rotate_left 1
    · intro u hSu
      obtain ⟨q0u, q1u, q2u⟩ := row3B hSu.out.bP
      obtain ⟨a0u, a1u, a2u, a3u⟩ := HTB.out u hSu.out
      obtain ⟨m0u, m1u⟩ := HRW.out u hSu.out
      go_simp
      first | done | with_reducible rfl
    (try simp only [Act.put, List.setIfInBounds_toArray, List.set_cons_zero, List.set_cons_succ])
    refine anyV_take (i := 6) (oi := { dst := some 56, op := Op.move (Operand.tmp 9), type := 3, pos := "law.go:170", after := #[], guard := none }) (v := ?_) rfl (by kernel_rfl) (by kernel_rfl) (by kernel_rfl) (by kernel_rfl) (by kernel_rfl) (fun _ _ _ h => h) (Or.inl ⟨by rfl, ?_⟩) hHeld ?_
    rotate_left 1
    · intro u hSu
      obtain ⟨q0u, q1u, q2u⟩ := row3B hSu.out.bP
      obtain ⟨a0u, a1u, a2u, a3u⟩ := HTB.out u hSu.out
      obtain ⟨m0u, m1u⟩ := HRW.out u hSu.out
      go_simp
      first | done | with_reducible rfl
    (try simp only [Act.put, List.setIfInBounds_toArray, List.set_cons_zero, List.set_cons_succ])
    refine anyV_take (i := 7) (oi := { dst := some 57, op := Op.indexAddr 23 (Operand.tmp 55) (Operand.tmp 56), type := 0, pos := "law.go:170", after := #[{ on := 5, ground := Ground.data }, { on := 6, ground := Ground.data }], guard := none }) (v := ?_) rfl (by kernel_rfl) (by kernel_rfl) (by kernel_rfl) (by kernel_rfl) (by kernel_rfl) (fun _ _ _ h => h) (Or.inl ⟨by rfl, ?_⟩) hHeld ?_
    rotate_left 1
    · intro u hSu
      obtain ⟨q0u, q1u, q2u⟩ := row3B hSu.out.bP
      obtain ⟨a0u, a1u, a2u, a3u⟩ := HTB.out u hSu.out
      obtain ⟨m0u, m1u⟩ := HRW.out u hSu.out
      go_simp
      first | done | with_reducible rfl
    (try simp only [Act.put, List.setIfInBounds_toArray, List.set_cons_zero, List.set_cons_succ])
    refine anyV_take (i := 8) (oi := { dst := some 58, op := Op.fieldAddr 36 (Operand.tmp 57) 0, type := 0, pos := "law.go:170", after := #[{ on := 7, ground := Ground.data }], guard := none }) (v := ?_) rfl (by kernel_rfl) (by kernel_rfl) (by kernel_rfl) (by kernel_rfl) (by kernel_rfl) (fun _ _ _ h => h) (Or.inl ⟨by rfl, ?_⟩) hHeld ?_
    rotate_left 1
    · intro u hSu
      obtain ⟨q0u, q1u, q2u⟩ := row3B hSu.out.bP
      obtain ⟨a0u, a1u, a2u, a3u⟩ := HTB.out u hSu.out
      obtain ⟨m0u, m1u⟩ := HRW.out u hSu.out
      go_simp
      first | done | with_reducible rfl
    (try simp only [Act.put, List.setIfInBounds_toArray, List.set_cons_zero, List.set_cons_succ])
    refine anyV_take (i := 9) (oi := { dst := some 59, op := Op.load 3 (Operand.tmp 58), type := 3, pos := "law.go:170", after := #[{ on := 8, ground := Ground.data }], guard := none }) (v := ?_) rfl (by kernel_rfl) (by kernel_rfl) (by kernel_rfl) (by kernel_rfl) (by kernel_rfl) (fun _ _ _ h => h) (Or.inl ⟨by rfl, ?_⟩) hHeld ?_
    rotate_left 1
    · intro u hSu
      obtain ⟨q0u, q1u, q2u⟩ := row3B hSu.out.bP
      obtain ⟨a0u, a1u, a2u, a3u⟩ := HTB.out u hSu.out
      obtain ⟨m0u, m1u⟩ := HRW.out u hSu.out
      go_simp
      first | done | with_reducible rfl
    (try simp only [Act.put, List.setIfInBounds_toArray, List.set_cons_zero, List.set_cons_succ])
    refine anyV_ready (rs := [10, 14]) (by kernel_rfl) (by simp) ?_
    refine EachV.cons (o := { dst := some 60, op := Op.call { callee := Callee.value (Operand.func 41), args := #[Operand.tmp 50, Operand.tmp 59], argTypes := #[48, 3] }, type := 73, pos := "law.go:170", after := #[{ on := 0, ground := Ground.data }, { on := 9, ground := Ground.data }], guard := none }) rfl (fun Kz hK => ?_) (EachV.cons (o := { dst := some 10, op := Op.alloc 71, type := 0, pos := "law.go:170", after := #[], guard := none }) rfl (fun Kz hK => ?_) EachV.nil)
    · go_simp
      go_at_call 41
      refine (iredgeT_any sub len E yi pE cE _ _ hHeld.out.e (by have := HEL.out; omega)).mono ?_
      rintro e wb ⟨rfl, hg⟩
      rw [HEF.out.1, HEF.out.2]
      have HG6 := Lib.hid hg
      have HN := Lib.hid (hHeld.out.keep hg)
      clear hg
      simp only
      refine hK.out _ _ (fun _ _ => HN) (fun hH2 => ?_)
      have hHeld2 := hH2 rfl hHeld
      clear hK Kz hHeld hH2
      have hHeld := hHeld2
      clear hHeld2
      (try simp only [Act.put, List.setIfInBounds_toArray, List.set_cons_zero, List.set_cons_succ])
      refine anyV_take (i := 11) (oi := { dst := some 49, op := Op.move (Operand.tmp 60), type := 73, pos := "law.go:170", after := #[{ on := 10, ground := Ground.data }], guard := none }) (v := ?_) rfl (by kernel_rfl) (by kernel_rfl) (by kernel_rfl) (by kernel_rfl) (by kernel_rfl) (fun _ _ _ h => h) (Or.inl ⟨by rfl, ?_⟩) hHeld ?_
      rotate_left 1
      · intro u hSu
        obtain ⟨q0u, q1u, q2u⟩ := row3B hSu.out.bP
        obtain ⟨a0u, a1u, a2u, a3u⟩ := HTB.out u hSu.out
        obtain ⟨m0u, m1u⟩ := HRW.out u hSu.out
        go_simp
        first | done | with_reducible rfl
      (try simp only [Act.put, List.setIfInBounds_toArray, List.set_cons_zero, List.set_cons_succ])
      refine anyV_take (i := 12) (oi := { dst := some 61, op := Op.extract (Operand.tmp 49) 0, type := 71, pos := "law.go:170", after := #[{ on := 11, ground := Ground.data }], guard := none }) (v := ?_) rfl (by kernel_rfl) (by kernel_rfl) (by kernel_rfl) (by kernel_rfl) (by kernel_rfl) (fun _ _ _ h => h) (Or.inl ⟨by rfl, ?_⟩) hHeld ?_
      rotate_left 1
      · intro u hSu
        obtain ⟨q0u, q1u, q2u⟩ := row3B hSu.out.bP
        obtain ⟨a0u, a1u, a2u, a3u⟩ := HTB.out u hSu.out
        obtain ⟨m0u, m1u⟩ := HRW.out u hSu.out
        go_simp
        first | done | with_reducible rfl
      (try simp only [Act.put, List.setIfInBounds_toArray, List.set_cons_zero, List.set_cons_succ])
      refine anyV_ready (rs := [13, 14]) (by kernel_rfl) (by simp) ?_
      refine EachV.cons (o := { dst := some 62, op := Op.extract (Operand.tmp 49) 1, type := 4, pos := "law.go:170", after := #[{ on := 11, ground := Ground.data }, { on := 15, ground := Ground.gcOnly Departure.lateStores }], guard := none }) rfl (fun Kz hK => ?_) (EachV.cons (o := { dst := some 10, op := Op.alloc 71, type := 0, pos := "law.go:170", after := #[], guard := none }) rfl (fun Kz hK => ?_) EachV.nil)
      · go_simp
        refine hK.out _ _ (fun _ h => h) (fun _ => ?_)
        clear hK Kz
        (try simp only [Act.put, List.setIfInBounds_toArray, List.set_cons_zero, List.set_cons_succ])
        refine anyV_ready (rs := [14]) (by kernel_rfl) (by simp) ?_
        refine EachV.cons (o := { dst := some 10, op := Op.alloc 71, type := 0, pos := "law.go:170", after := #[], guard := none }) rfl (fun Kz hK => ?_) EachV.nil
        go_simp
        first | (have HLO : Hid (Z ≤ w6.heap.size) := Lib.hid (show Z ≤ w6.drew.heap.size from hHeld.out.lo.2.2.2)) | (have HLO := Lib.hid hHeld.out.lo.2.2.2)
        have HS0 := Lib.hid hHeld.out
        refine hK.out _ _ (fun _ _ => Lib.hid (hHeld.out.keep (World.grownBy_alloc _ _ none))) (fun hH2 => ?_)
        have hHeld2 := hH2 rfl hHeld
        clear hK Kz hHeld hH2
        have hHeld := hHeld2
        clear hHeld2
        (try simp only [Act.put, List.setIfInBounds_toArray, List.set_cons_zero, List.set_cons_succ])
        refine anyV_ready (rs := [15]) (by kernel_rfl) (by simp) ?_
        refine EachV.cons (o := { dst := none, op := Op.store 71 (Operand.tmp 10) (Operand.tmp 61), type := 0, pos := "law.go:170", after := #[{ on := 14, ground := Ground.data }, { on := 12, ground := Ground.data }, { on := 10, ground := Ground.chain }, { on := 0, ground := Ground.phase }, { on := 1, ground := Ground.phase }, { on := 2, ground := Ground.phase }, { on := 3, ground := Ground.phase }, { on := 4, ground := Ground.phase }, { on := 5, ground := Ground.phase }, { on := 6, ground := Ground.phase }, { on := 7, ground := Ground.phase }, { on := 8, ground := Ground.phase }, { on := 9, ground := Ground.phase }, { on := 10, ground := Ground.phase }, { on := 11, ground := Ground.phase }, { on := 12, ground := Ground.phase }, { on := 13, ground := Ground.textOnly Departure.lateStores }, { on := 14, ground := Ground.phase }], guard := none }) rfl (fun Kz hK => ?_) EachV.nil
        first | (have HBX := Lib.hid (eb_b HG6.out)) | (have HBX := Lib.hid (alloc_row (w := wb) #[.int .i64 0, .int .i64 0] 71 rfl).1)
        obtain ⟨z0, z1⟩ := row_cells HBX.out
        have f0 := frozen_of_row _ _ 0 _ _ HBX.out
        have f1 := frozen_of_row _ _ 1 _ _ HBX.out
        go_simp
        have HT := Lib.hid (store2eT (.int .i64 er) (.int .i64 yi) HBX.out)
        have HZL := Lib.hid hHeld.out
        refine hK.out _ _ (fun h => by cases h) (fun _ => ?_)
        clear hK Kz
        (try simp only [Act.put, List.setIfInBounds_toArray, List.set_cons_zero, List.set_cons_succ])
        refine anyV_ready (rs := [16]) (by kernel_rfl) (by simp) ?_
        refine EachV.cons (o := { dst := some 11, op := Op.assign (Operand.tmp 62), type := 4, pos := "law.go:170", after := #[{ on := 13, ground := Ground.data }, { on := 15, ground := Ground.chain }, { on := 0, ground := Ground.phase }, { on := 1, ground := Ground.phase }, { on := 2, ground := Ground.phase }, { on := 3, ground := Ground.phase }, { on := 4, ground := Ground.phase }, { on := 5, ground := Ground.phase }, { on := 6, ground := Ground.phase }, { on := 7, ground := Ground.phase }, { on := 8, ground := Ground.phase }, { on := 9, ground := Ground.phase }, { on := 10, ground := Ground.phase }, { on := 11, ground := Ground.phase }, { on := 12, ground := Ground.phase }, { on := 13, ground := Ground.phase }, { on := 14, ground := Ground.phase }, { on := 15, ground := Ground.phase }], guard := none }) rfl (fun Kz hK => ?_) EachV.nil
        go_simp
        refine hK.out _ _ (fun h => by cases h) (fun _ => ?_)
        clear hK Kz
        (try simp only [Act.put, List.setIfInBounds_toArray, List.set_cons_zero, List.set_cons_succ])
        refine anyV_done (by kernel_rfl) ?_ _
        clear z0 z1 f0 f1 hHeld
        go_wp2_with fail
        go_meet
        first
        | exact ⟨_, rfl, rfl, Lib.hid (And.intro (HZL.out.put HT.out.2 (fun b hb e => by have := Option.some.inj e; have := HLO.out; omega)) HT.out.1)⟩
        | exact ⟨_, rfl, rfl, Lib.hid (And.intro (HS0.out.keep (World.grownBy_alloc _ _ none)) (alloc_row (w := wb) #[.int .i64 er, .int .i64 yi] 71 rfl).1)⟩
      · go_simp
        first | (have HLO : Hid (Z ≤ w6.heap.size) := Lib.hid (show Z ≤ w6.drew.heap.size from hHeld.out.lo.2.2.2)) | (have HLO := Lib.hid hHeld.out.lo.2.2.2)
        have HS0 := Lib.hid hHeld.out
        refine hK.out _ _ (fun _ _ => Lib.hid (hHeld.out.keep (World.grownBy_alloc _ _ none))) (fun hH2 => ?_)
        have hHeld2 := hH2 rfl hHeld
        clear hK Kz hHeld hH2
        have hHeld := hHeld2
        clear hHeld2
        (try simp only [Act.put, List.setIfInBounds_toArray, List.set_cons_zero, List.set_cons_succ])
        refine anyV_ready (rs := [13, 15]) (by kernel_rfl) (by simp) ?_
        refine EachV.cons (o := { dst := some 62, op := Op.extract (Operand.tmp 49) 1, type := 4, pos := "law.go:170", after := #[{ on := 11, ground := Ground.data }, { on := 15, ground := Ground.gcOnly Departure.lateStores }], guard := none }) rfl (fun Kz hK => ?_) (EachV.cons (o := { dst := none, op := Op.store 71 (Operand.tmp 10) (Operand.tmp 61), type := 0, pos := "law.go:170", after := #[{ on := 14, ground := Ground.data }, { on := 12, ground := Ground.data }, { on := 10, ground := Ground.chain }, { on := 0, ground := Ground.phase }, { on := 1, ground := Ground.phase }, { on := 2, ground := Ground.phase }, { on := 3, ground := Ground.phase }, { on := 4, ground := Ground.phase }, { on := 5, ground := Ground.phase }, { on := 6, ground := Ground.phase }, { on := 7, ground := Ground.phase }, { on := 8, ground := Ground.phase }, { on := 9, ground := Ground.phase }, { on := 10, ground := Ground.phase }, { on := 11, ground := Ground.phase }, { on := 12, ground := Ground.phase }, { on := 13, ground := Ground.textOnly Departure.lateStores }, { on := 14, ground := Ground.phase }], guard := none }) rfl (fun Kz hK => ?_) EachV.nil)
        · go_simp
          refine hK.out _ _ (fun _ h => h) (fun _ => ?_)
          clear hK Kz
          (try simp only [Act.put, List.setIfInBounds_toArray, List.set_cons_zero, List.set_cons_succ])
          refine anyV_ready (rs := [15]) (by kernel_rfl) (by simp) ?_
          refine EachV.cons (o := { dst := none, op := Op.store 71 (Operand.tmp 10) (Operand.tmp 61), type := 0, pos := "law.go:170", after := #[{ on := 14, ground := Ground.data }, { on := 12, ground := Ground.data }, { on := 10, ground := Ground.chain }, { on := 0, ground := Ground.phase }, { on := 1, ground := Ground.phase }, { on := 2, ground := Ground.phase }, { on := 3, ground := Ground.phase }, { on := 4, ground := Ground.phase }, { on := 5, ground := Ground.phase }, { on := 6, ground := Ground.phase }, { on := 7, ground := Ground.phase }, { on := 8, ground := Ground.phase }, { on := 9, ground := Ground.phase }, { on := 10, ground := Ground.phase }, { on := 11, ground := Ground.phase }, { on := 12, ground := Ground.phase }, { on := 13, ground := Ground.textOnly Departure.lateStores }, { on := 14, ground := Ground.phase }], guard := none }) rfl (fun Kz hK => ?_) EachV.nil
          first | (have HBX := Lib.hid (eb_b HG6.out)) | (have HBX := Lib.hid (alloc_row (w := wb) #[.int .i64 0, .int .i64 0] 71 rfl).1)
          obtain ⟨z0, z1⟩ := row_cells HBX.out
          have f0 := frozen_of_row _ _ 0 _ _ HBX.out
          have f1 := frozen_of_row _ _ 1 _ _ HBX.out
          go_simp
          have HT := Lib.hid (store2eT (.int .i64 er) (.int .i64 yi) HBX.out)
          have HZL := Lib.hid hHeld.out
          refine hK.out _ _ (fun h => by cases h) (fun _ => ?_)
          clear hK Kz
          (try simp only [Act.put, List.setIfInBounds_toArray, List.set_cons_zero, List.set_cons_succ])
          refine anyV_ready (rs := [16]) (by kernel_rfl) (by simp) ?_
          refine EachV.cons (o := { dst := some 11, op := Op.assign (Operand.tmp 62), type := 4, pos := "law.go:170", after := #[{ on := 13, ground := Ground.data }, { on := 15, ground := Ground.chain }, { on := 0, ground := Ground.phase }, { on := 1, ground := Ground.phase }, { on := 2, ground := Ground.phase }, { on := 3, ground := Ground.phase }, { on := 4, ground := Ground.phase }, { on := 5, ground := Ground.phase }, { on := 6, ground := Ground.phase }, { on := 7, ground := Ground.phase }, { on := 8, ground := Ground.phase }, { on := 9, ground := Ground.phase }, { on := 10, ground := Ground.phase }, { on := 11, ground := Ground.phase }, { on := 12, ground := Ground.phase }, { on := 13, ground := Ground.phase }, { on := 14, ground := Ground.phase }, { on := 15, ground := Ground.phase }], guard := none }) rfl (fun Kz hK => ?_) EachV.nil
          go_simp
          refine hK.out _ _ (fun h => by cases h) (fun _ => ?_)
          clear hK Kz
          (try simp only [Act.put, List.setIfInBounds_toArray, List.set_cons_zero, List.set_cons_succ])
          refine anyV_done (by kernel_rfl) ?_ _
          clear z0 z1 f0 f1 hHeld
          go_wp2_with fail
          go_meet
          first
          | exact ⟨_, rfl, rfl, Lib.hid (And.intro (HZL.out.put HT.out.2 (fun b hb e => by have := Option.some.inj e; have := HLO.out; omega)) HT.out.1)⟩
          | exact ⟨_, rfl, rfl, Lib.hid (And.intro (HS0.out.keep (World.grownBy_alloc _ _ none)) (alloc_row (w := wb) #[.int .i64 er, .int .i64 yi] 71 rfl).1)⟩
        · first | (have HBX := Lib.hid (eb_b HG6.out)) | (have HBX := Lib.hid (alloc_row (w := wb) #[.int .i64 0, .int .i64 0] 71 rfl).1)
          obtain ⟨z0, z1⟩ := row_cells HBX.out
          have f0 := frozen_of_row _ _ 0 _ _ HBX.out
          have f1 := frozen_of_row _ _ 1 _ _ HBX.out
          go_simp
          have HT := Lib.hid (store2eT (.int .i64 er) (.int .i64 yi) HBX.out)
          have HZL := Lib.hid hHeld.out
          refine hK.out _ _ (fun h => by cases h) (fun _ => ?_)
          clear hK Kz
          (try simp only [Act.put, List.setIfInBounds_toArray, List.set_cons_zero, List.set_cons_succ])
          refine anyV_ready (rs := [13]) (by kernel_rfl) (by simp) ?_
          refine EachV.cons (o := { dst := some 62, op := Op.extract (Operand.tmp 49) 1, type := 4, pos := "law.go:170", after := #[{ on := 11, ground := Ground.data }, { on := 15, ground := Ground.gcOnly Departure.lateStores }], guard := none }) rfl (fun Kz hK => ?_) EachV.nil
          go_simp
          refine hK.out _ _ (fun _ h => h) (fun _ => ?_)
          clear hK Kz
          (try simp only [Act.put, List.setIfInBounds_toArray, List.set_cons_zero, List.set_cons_succ])
          refine anyV_ready (rs := [16]) (by kernel_rfl) (by simp) ?_
          refine EachV.cons (o := { dst := some 11, op := Op.assign (Operand.tmp 62), type := 4, pos := "law.go:170", after := #[{ on := 13, ground := Ground.data }, { on := 15, ground := Ground.chain }, { on := 0, ground := Ground.phase }, { on := 1, ground := Ground.phase }, { on := 2, ground := Ground.phase }, { on := 3, ground := Ground.phase }, { on := 4, ground := Ground.phase }, { on := 5, ground := Ground.phase }, { on := 6, ground := Ground.phase }, { on := 7, ground := Ground.phase }, { on := 8, ground := Ground.phase }, { on := 9, ground := Ground.phase }, { on := 10, ground := Ground.phase }, { on := 11, ground := Ground.phase }, { on := 12, ground := Ground.phase }, { on := 13, ground := Ground.phase }, { on := 14, ground := Ground.phase }, { on := 15, ground := Ground.phase }], guard := none }) rfl (fun Kz hK => ?_) EachV.nil
          go_simp
          refine hK.out _ _ (fun h => by cases h) (fun _ => ?_)
          clear hK Kz
          (try simp only [Act.put, List.setIfInBounds_toArray, List.set_cons_zero, List.set_cons_succ])
          refine anyV_done (by kernel_rfl) ?_ _
          clear z0 z1 f0 f1 hHeld
          go_wp2_with fail
          go_meet
          first
          | exact ⟨_, rfl, rfl, Lib.hid (And.intro (HZL.out.put HT.out.2 (fun b hb e => by have := Option.some.inj e; have := HLO.out; omega)) HT.out.1)⟩
          | exact ⟨_, rfl, rfl, Lib.hid (And.intro (HS0.out.keep (World.grownBy_alloc _ _ none)) (alloc_row (w := wb) #[.int .i64 er, .int .i64 yi] 71 rfl).1)⟩
    · go_simp
      first | (have HLO : Hid (Z ≤ w6.heap.size) := Lib.hid (show Z ≤ w6.drew.heap.size from hHeld.out.lo.2.2.2)) | (have HLO := Lib.hid hHeld.out.lo.2.2.2)
      have HS0 := Lib.hid hHeld.out
      refine hK.out _ _ (fun _ _ => Lib.hid (hHeld.out.keep (World.grownBy_alloc _ _ none))) (fun hH2 => ?_)
      have hHeld2 := hH2 rfl hHeld
      clear hK Kz hHeld hH2
      have hHeld := hHeld2
      clear hHeld2
      (try simp only [Act.put, List.setIfInBounds_toArray, List.set_cons_zero, List.set_cons_succ])
      refine anyV_ready (rs := [10]) (by kernel_rfl) (by simp) ?_
      refine EachV.cons (o := { dst := some 60, op := Op.call { callee := Callee.value (Operand.func 41), args := #[Operand.tmp 50, Operand.tmp 59], argTypes := #[48, 3] }, type := 73, pos := "law.go:170", after := #[{ on := 0, ground := Ground.data }, { on := 9, ground := Ground.data }], guard := none }) rfl (fun Kz hK => ?_) EachV.nil
      go_simp
      go_at_call 41
      refine (iredgeT_any sub len E yi pE cE _ _ hHeld.out.e (by have := HEL.out; omega)).mono ?_
      rintro e wb ⟨rfl, hg⟩
      rw [HEF.out.1, HEF.out.2]
      have HG6 := Lib.hid hg
      have HN := Lib.hid (hHeld.out.keep hg)
      clear hg
      simp only
      refine hK.out _ _ (fun _ _ => HN) (fun hH2 => ?_)
      have hHeld2 := hH2 rfl hHeld
      clear hK Kz hHeld hH2
      have hHeld := hHeld2
      clear hHeld2
      (try simp only [Act.put, List.setIfInBounds_toArray, List.set_cons_zero, List.set_cons_succ])
      refine anyV_take (i := 11) (oi := { dst := some 49, op := Op.move (Operand.tmp 60), type := 73, pos := "law.go:170", after := #[{ on := 10, ground := Ground.data }], guard := none }) (v := ?_) rfl (by kernel_rfl) (by kernel_rfl) (by kernel_rfl) (by kernel_rfl) (by kernel_rfl) (fun _ _ _ h => h) (Or.inl ⟨by rfl, ?_⟩) hHeld ?_
      rotate_left 1
      · intro u hSu
        obtain ⟨q0u, q1u, q2u⟩ := row3B hSu.out.bP
        obtain ⟨a0u, a1u, a2u, a3u⟩ := HTB.out u hSu.out
        obtain ⟨m0u, m1u⟩ := HRW.out u hSu.out
        go_simp
        first | done | with_reducible rfl
      (try simp only [Act.put, List.setIfInBounds_toArray, List.set_cons_zero, List.set_cons_succ])
      refine anyV_take (i := 12) (oi := { dst := some 61, op := Op.extract (Operand.tmp 49) 0, type := 71, pos := "law.go:170", after := #[{ on := 11, ground := Ground.data }], guard := none }) (v := ?_) rfl (by kernel_rfl) (by kernel_rfl) (by kernel_rfl) (by kernel_rfl) (by kernel_rfl) (fun _ _ _ h => h) (Or.inl ⟨by rfl, ?_⟩) hHeld ?_
      rotate_left 1
      · intro u hSu
        obtain ⟨q0u, q1u, q2u⟩ := row3B hSu.out.bP
        obtain ⟨a0u, a1u, a2u, a3u⟩ := HTB.out u hSu.out
        obtain ⟨m0u, m1u⟩ := HRW.out u hSu.out
        go_simp
        first | done | with_reducible rfl
      (try simp only [Act.put, List.setIfInBounds_toArray, List.set_cons_zero, List.set_cons_succ])
      refine anyV_ready (rs := [13, 15]) (by kernel_rfl) (by simp) ?_
      refine EachV.cons (o := { dst := some 62, op := Op.extract (Operand.tmp 49) 1, type := 4, pos := "law.go:170", after := #[{ on := 11, ground := Ground.data }, { on := 15, ground := Ground.gcOnly Departure.lateStores }], guard := none }) rfl (fun Kz hK => ?_) (EachV.cons (o := { dst := none, op := Op.store 71 (Operand.tmp 10) (Operand.tmp 61), type := 0, pos := "law.go:170", after := #[{ on := 14, ground := Ground.data }, { on := 12, ground := Ground.data }, { on := 10, ground := Ground.chain }, { on := 0, ground := Ground.phase }, { on := 1, ground := Ground.phase }, { on := 2, ground := Ground.phase }, { on := 3, ground := Ground.phase }, { on := 4, ground := Ground.phase }, { on := 5, ground := Ground.phase }, { on := 6, ground := Ground.phase }, { on := 7, ground := Ground.phase }, { on := 8, ground := Ground.phase }, { on := 9, ground := Ground.phase }, { on := 10, ground := Ground.phase }, { on := 11, ground := Ground.phase }, { on := 12, ground := Ground.phase }, { on := 13, ground := Ground.textOnly Departure.lateStores }, { on := 14, ground := Ground.phase }], guard := none }) rfl (fun Kz hK => ?_) EachV.nil)
      · go_simp
        refine hK.out _ _ (fun _ h => h) (fun _ => ?_)
        clear hK Kz
        (try simp only [Act.put, List.setIfInBounds_toArray, List.set_cons_zero, List.set_cons_succ])
        refine anyV_ready (rs := [15]) (by kernel_rfl) (by simp) ?_
        refine EachV.cons (o := { dst := none, op := Op.store 71 (Operand.tmp 10) (Operand.tmp 61), type := 0, pos := "law.go:170", after := #[{ on := 14, ground := Ground.data }, { on := 12, ground := Ground.data }, { on := 10, ground := Ground.chain }, { on := 0, ground := Ground.phase }, { on := 1, ground := Ground.phase }, { on := 2, ground := Ground.phase }, { on := 3, ground := Ground.phase }, { on := 4, ground := Ground.phase }, { on := 5, ground := Ground.phase }, { on := 6, ground := Ground.phase }, { on := 7, ground := Ground.phase }, { on := 8, ground := Ground.phase }, { on := 9, ground := Ground.phase }, { on := 10, ground := Ground.phase }, { on := 11, ground := Ground.phase }, { on := 12, ground := Ground.phase }, { on := 13, ground := Ground.textOnly Departure.lateStores }, { on := 14, ground := Ground.phase }], guard := none }) rfl (fun Kz hK => ?_) EachV.nil
        first | (have HBX := Lib.hid (eb_b HG6.out)) | (have HBX := Lib.hid (alloc_row (w := wb) #[.int .i64 0, .int .i64 0] 71 rfl).1)
        obtain ⟨z0, z1⟩ := row_cells HBX.out
        have f0 := frozen_of_row _ _ 0 _ _ HBX.out
        have f1 := frozen_of_row _ _ 1 _ _ HBX.out
        go_simp
        have HT := Lib.hid (store2eT (.int .i64 er) (.int .i64 yi) HBX.out)
        have HZL := Lib.hid hHeld.out
        refine hK.out _ _ (fun h => by cases h) (fun _ => ?_)
        clear hK Kz
        (try simp only [Act.put, List.setIfInBounds_toArray, List.set_cons_zero, List.set_cons_succ])
        refine anyV_ready (rs := [16]) (by kernel_rfl) (by simp) ?_
        refine EachV.cons (o := { dst := some 11, op := Op.assign (Operand.tmp 62), type := 4, pos := "law.go:170", after := #[{ on := 13, ground := Ground.data }, { on := 15, ground := Ground.chain }, { on := 0, ground := Ground.phase }, { on := 1, ground := Ground.phase }, { on := 2, ground := Ground.phase }, { on := 3, ground := Ground.phase }, { on := 4, ground := Ground.phase }, { on := 5, ground := Ground.phase }, { on := 6, ground := Ground.phase }, { on := 7, ground := Ground.phase }, { on := 8, ground := Ground.phase }, { on := 9, ground := Ground.phase }, { on := 10, ground := Ground.phase }, { on := 11, ground := Ground.phase }, { on := 12, ground := Ground.phase }, { on := 13, ground := Ground.phase }, { on := 14, ground := Ground.phase }, { on := 15, ground := Ground.phase }], guard := none }) rfl (fun Kz hK => ?_) EachV.nil
        go_simp
        refine hK.out _ _ (fun h => by cases h) (fun _ => ?_)
        clear hK Kz
        (try simp only [Act.put, List.setIfInBounds_toArray, List.set_cons_zero, List.set_cons_succ])
        refine anyV_done (by kernel_rfl) ?_ _
        clear z0 z1 f0 f1 hHeld
        go_wp2_with fail
        go_meet
        first
        | exact ⟨_, rfl, rfl, Lib.hid (And.intro (HZL.out.put HT.out.2 (fun b hb e => by have := Option.some.inj e; have := HLO.out; omega)) HT.out.1)⟩
        | exact ⟨_, rfl, rfl, Lib.hid (And.intro (HS0.out.keep (World.grownBy_alloc _ _ none)) (alloc_row (w := wb) #[.int .i64 er, .int .i64 yi] 71 rfl).1)⟩
      · first | (have HBX := Lib.hid (eb_b HG6.out)) | (have HBX := Lib.hid (alloc_row (w := wb) #[.int .i64 0, .int .i64 0] 71 rfl).1)
        obtain ⟨z0, z1⟩ := row_cells HBX.out
        have f0 := frozen_of_row _ _ 0 _ _ HBX.out
        have f1 := frozen_of_row _ _ 1 _ _ HBX.out
        go_simp
        have HT := Lib.hid (store2eT (.int .i64 er) (.int .i64 yi) HBX.out)
        have HZL := Lib.hid hHeld.out
        refine hK.out _ _ (fun h => by cases h) (fun _ => ?_)
        clear hK Kz
        (try simp only [Act.put, List.setIfInBounds_toArray, List.set_cons_zero, List.set_cons_succ])
        refine anyV_ready (rs := [13]) (by kernel_rfl) (by simp) ?_
        refine EachV.cons (o := { dst := some 62, op := Op.extract (Operand.tmp 49) 1, type := 4, pos := "law.go:170", after := #[{ on := 11, ground := Ground.data }, { on := 15, ground := Ground.gcOnly Departure.lateStores }], guard := none }) rfl (fun Kz hK => ?_) EachV.nil
        go_simp
        refine hK.out _ _ (fun _ h => h) (fun _ => ?_)
        clear hK Kz
        (try simp only [Act.put, List.setIfInBounds_toArray, List.set_cons_zero, List.set_cons_succ])
        refine anyV_ready (rs := [16]) (by kernel_rfl) (by simp) ?_
        refine EachV.cons (o := { dst := some 11, op := Op.assign (Operand.tmp 62), type := 4, pos := "law.go:170", after := #[{ on := 13, ground := Ground.data }, { on := 15, ground := Ground.chain }, { on := 0, ground := Ground.phase }, { on := 1, ground := Ground.phase }, { on := 2, ground := Ground.phase }, { on := 3, ground := Ground.phase }, { on := 4, ground := Ground.phase }, { on := 5, ground := Ground.phase }, { on := 6, ground := Ground.phase }, { on := 7, ground := Ground.phase }, { on := 8, ground := Ground.phase }, { on := 9, ground := Ground.phase }, { on := 10, ground := Ground.phase }, { on := 11, ground := Ground.phase }, { on := 12, ground := Ground.phase }, { on := 13, ground := Ground.phase }, { on := 14, ground := Ground.phase }, { on := 15, ground := Ground.phase }], guard := none }) rfl (fun Kz hK => ?_) EachV.nil
        go_simp
        refine hK.out _ _ (fun h => by cases h) (fun _ => ?_)
        clear hK Kz
        (try simp only [Act.put, List.setIfInBounds_toArray, List.set_cons_zero, List.set_cons_succ])
        refine anyV_done (by kernel_rfl) ?_ _
        clear z0 z1 f0 f1 hHeld
        go_wp2_with fail
        go_meet
        first
        | exact ⟨_, rfl, rfl, Lib.hid (And.intro (HZL.out.put HT.out.2 (fun b hb e => by have := Option.some.inj e; have := HLO.out; omega)) HT.out.1)⟩
        | exact ⟨_, rfl, rfl, Lib.hid (And.intro (HS0.out.keep (World.grownBy_alloc _ _ none)) (alloc_row (w := wb) #[.int .i64 er, .int .i64 yi] 71 rfl).1)⟩
  case rest =>
  clear K
  obtain ⟨g, rfl, rfl, K⟩ := hcut
  obtain ⟨w10, hw10⟩ : ∃ w10, w10 = wc := ⟨_, rfl⟩
  rw [← hw10] at K ⊢
  clear hw10
  obtain ⟨a0, a1, a2, a3⟩ := HTB.out _ K.out.1
  obtain ⟨m0, m1⟩ := HRW.out _ K.out.1
  go_upto_region 17 with fail
  clear a0 a1 a2 a3 m0 m1
  refine wp_region_held_drew (S := fun w' => Hid (LR w ⟨R, L0, pR, cR, pL, cL⟩ sub len E pE cE B C Z (some ⟨b, off, none⟩) cA Ts w' ∧ w'.heap[g]? = some (.cells #[.int .i64 er, .int .i64 yi] 71 (0, 0)))) (by kernel_rfl) (Lib.hid (And.intro (K.out.1.keep (grown_drew (grown_refl _ none))) (kept_row K.out.2 (grown_drew (grown_refl _ none)) (by simp)))) (fun hHeld => ?_)
  refine wpAnyH_take (i := 0) (oi := { dst := some 75, op := Op.load 45 (Operand.tmp 4), type := 45, pos := "law.go:175", after := #[], guard := none }) (v := ?_) rfl (by kernel_rfl) (by kernel_rfl) (by kernel_rfl) (fun _ _ _ h => h) (Or.inl ⟨by rfl, ?_⟩) hHeld ?_
  rotate_left 1
  · intro u hSu
    obtain ⟨t0u, t1u⟩ := row_cells hSu.out.1.bT
    obtain ⟨a0u, a1u, a2u, a3u⟩ := HTB.out u hSu.out.1
    obtain ⟨g0u, g1u⟩ := row_cells hSu.out.2
    go_simp
    first | done | with_reducible rfl
  (try simp only [Act.put, List.setIfInBounds_toArray, List.set_cons_zero, List.set_cons_succ])
  refine wpAnyH_take (i := 1) (oi := { dst := some 76, op := Op.move (Operand.tmp 6), type := 29, pos := "law.go:175", after := #[], guard := none }) (v := ?_) rfl (by kernel_rfl) (by kernel_rfl) (by kernel_rfl) (fun _ _ _ h => h) (Or.inl ⟨by rfl, ?_⟩) hHeld ?_
  rotate_left 1
  · intro u hSu
    obtain ⟨t0u, t1u⟩ := row_cells hSu.out.1.bT
    obtain ⟨a0u, a1u, a2u, a3u⟩ := HTB.out u hSu.out.1
    obtain ⟨g0u, g1u⟩ := row_cells hSu.out.2
    go_simp
    first | done | with_reducible rfl
  (try simp only [Act.put, List.setIfInBounds_toArray, List.set_cons_zero, List.set_cons_succ])
  refine wpAnyH_take (i := 2) (oi := { dst := some 77, op := Op.move (Operand.tmp 8), type := 3, pos := "law.go:175", after := #[], guard := none }) (v := ?_) rfl (by kernel_rfl) (by kernel_rfl) (by kernel_rfl) (fun _ _ _ h => h) (Or.inl ⟨by rfl, ?_⟩) hHeld ?_
  rotate_left 1
  · intro u hSu
    obtain ⟨t0u, t1u⟩ := row_cells hSu.out.1.bT
    obtain ⟨a0u, a1u, a2u, a3u⟩ := HTB.out u hSu.out.1
    obtain ⟨g0u, g1u⟩ := row_cells hSu.out.2
    go_simp
    first | done | with_reducible rfl
  (try simp only [Act.put, List.setIfInBounds_toArray, List.set_cons_zero, List.set_cons_succ])
  refine wpAnyH_take (i := 3) (oi := { dst := some 78, op := Op.indexAddr 29 (Operand.tmp 76) (Operand.tmp 77), type := 0, pos := "law.go:175", after := #[{ on := 1, ground := Ground.data }, { on := 2, ground := Ground.data }], guard := none }) (v := ?_) rfl (by kernel_rfl) (by kernel_rfl) (by kernel_rfl) (fun _ _ _ h => h) (Or.inl ⟨by rfl, ?_⟩) hHeld ?_
  rotate_left 1
  · intro u hSu
    obtain ⟨t0u, t1u⟩ := row_cells hSu.out.1.bT
    obtain ⟨a0u, a1u, a2u, a3u⟩ := HTB.out u hSu.out.1
    obtain ⟨g0u, g1u⟩ := row_cells hSu.out.2
    go_simp
    first | done | with_reducible rfl
  (try simp only [Act.put, List.setIfInBounds_toArray, List.set_cons_zero, List.set_cons_succ])
  refine wpAnyH_take (i := 4) (oi := { dst := some 79, op := Op.fieldAddr 25 (Operand.tmp 78) 0, type := 0, pos := "law.go:175", after := #[{ on := 3, ground := Ground.data }], guard := none }) (v := ?_) rfl (by kernel_rfl) (by kernel_rfl) (by kernel_rfl) (fun _ _ _ h => h) (Or.inl ⟨by rfl, ?_⟩) hHeld ?_
  rotate_left 1
  · intro u hSu
    obtain ⟨t0u, t1u⟩ := row_cells hSu.out.1.bT
    obtain ⟨a0u, a1u, a2u, a3u⟩ := HTB.out u hSu.out.1
    obtain ⟨g0u, g1u⟩ := row_cells hSu.out.2
    go_simp
    first | done | with_reducible rfl
  (try simp only [Act.put, List.setIfInBounds_toArray, List.set_cons_zero, List.set_cons_succ])
  refine wpAnyH_take (i := 5) (oi := { dst := some 80, op := Op.load 3 (Operand.tmp 79), type := 3, pos := "law.go:175", after := #[{ on := 4, ground := Ground.data }], guard := none }) (v := ?_) rfl (by kernel_rfl) (by kernel_rfl) (by kernel_rfl) (fun _ _ _ h => h) (Or.inl ⟨by rfl, ?_⟩) hHeld ?_
  rotate_left 1
  · intro u hSu
    obtain ⟨t0u, t1u⟩ := row_cells hSu.out.1.bT
    obtain ⟨a0u, a1u, a2u, a3u⟩ := HTB.out u hSu.out.1
    obtain ⟨g0u, g1u⟩ := row_cells hSu.out.2
    go_simp
    first | done | with_reducible rfl
  (try simp only [Act.put, List.setIfInBounds_toArray, List.set_cons_zero, List.set_cons_succ])
  refine wpAnyH_take (i := 6) (oi := { dst := some 81, op := Op.fieldAddr 71 (Operand.tmp 10) 0, type := 0, pos := "law.go:175", after := #[], guard := none }) (v := ?_) rfl (by kernel_rfl) (by kernel_rfl) (by kernel_rfl) (fun _ _ _ h => h) (Or.inl ⟨by rfl, ?_⟩) hHeld ?_
  rotate_left 1
  · intro u hSu
    obtain ⟨t0u, t1u⟩ := row_cells hSu.out.1.bT
    obtain ⟨a0u, a1u, a2u, a3u⟩ := HTB.out u hSu.out.1
    obtain ⟨g0u, g1u⟩ := row_cells hSu.out.2
    go_simp
    first | done | with_reducible rfl
  (try simp only [Act.put, List.setIfInBounds_toArray, List.set_cons_zero, List.set_cons_succ])
  refine wpAnyH_take (i := 7) (oi := { dst := some 82, op := Op.load 3 (Operand.tmp 81), type := 3, pos := "law.go:175", after := #[{ on := 6, ground := Ground.data }], guard := none }) (v := ?_) rfl (by kernel_rfl) (by kernel_rfl) (by kernel_rfl) (fun _ _ _ h => h) (Or.inl ⟨by rfl, ?_⟩) hHeld ?_
  rotate_left 1
  · intro u hSu
    obtain ⟨t0u, t1u⟩ := row_cells hSu.out.1.bT
    obtain ⟨a0u, a1u, a2u, a3u⟩ := HTB.out u hSu.out.1
    obtain ⟨g0u, g1u⟩ := row_cells hSu.out.2
    go_simp
    first | done | with_reducible rfl
  (try simp only [Act.put, List.setIfInBounds_toArray, List.set_cons_zero, List.set_cons_succ])
  refine wpAnyH_ready (rs := [8]) (by kernel_rfl) (by simp) ?_
  refine AllReadyH.cons (o := { dst := some 83, op := Op.call { callee := Callee.value (Operand.func 42), args := #[Operand.tmp 75, Operand.tmp 80, Operand.tmp 82], argTypes := #[45, 3, 3] }, type := 75, pos := "law.go:175", after := #[{ on := 0, ground := Ground.data }, { on := 5, ground := Ground.data }, { on := 7, ground := Ground.data }], guard := none }) rfl (fun Kz hK => ?_) AllReadyH.nil
  go_simp
  go_at_call 42
  refine (rcst_any ⟨R, L0, pR, cR, pL, cL⟩ tr er _ _ hHeld.out.1.t).mono ?_
  rintro e wb ⟨rfl, hg⟩
  have HN := Lib.hid (And.intro (hHeld.out.1.keep hg) (kept_row hHeld.out.2 hg (by simp)))
  clear hg
  simp only
  refine hK.out _ _ (HN) (fun hH2 => ?_)
  clear hK Kz hHeld
  have hHeld := hH2
  clear hH2
  (try simp only [Act.put, List.setIfInBounds_toArray, List.set_cons_zero, List.set_cons_succ])
  refine wpAnyH_take (i := 9) (oi := { dst := some 74, op := Op.move (Operand.tmp 83), type := 75, pos := "law.go:175", after := #[{ on := 8, ground := Ground.data }], guard := none }) (v := ?_) rfl (by kernel_rfl) (by kernel_rfl) (by kernel_rfl) (fun _ _ _ h => h) (Or.inl ⟨by rfl, ?_⟩) hHeld ?_
  rotate_left 1
  · intro u hSu
    obtain ⟨t0u, t1u⟩ := row_cells hSu.out.1.bT
    obtain ⟨a0u, a1u, a2u, a3u⟩ := HTB.out u hSu.out.1
    obtain ⟨g0u, g1u⟩ := row_cells hSu.out.2
    go_simp
    first | done | with_reducible rfl
  (try simp only [Act.put, List.setIfInBounds_toArray, List.set_cons_zero, List.set_cons_succ])
  refine wpAnyH_take (i := 10) (oi := { dst := some 84, op := Op.extract (Operand.tmp 74) 0, type := 3, pos := "law.go:175", after := #[{ on := 9, ground := Ground.data }], guard := none }) (v := ?_) rfl (by kernel_rfl) (by kernel_rfl) (by kernel_rfl) (fun _ _ _ h => h) (Or.inl ⟨by rfl, ?_⟩) hHeld ?_
  rotate_left 1
  · intro u hSu
    obtain ⟨t0u, t1u⟩ := row_cells hSu.out.1.bT
    obtain ⟨a0u, a1u, a2u, a3u⟩ := HTB.out u hSu.out.1
    obtain ⟨g0u, g1u⟩ := row_cells hSu.out.2
    go_simp
    first | done | with_reducible rfl
  (try simp only [Act.put, List.setIfInBounds_toArray, List.set_cons_zero, List.set_cons_succ])
  refine wpAnyH_take (i := 11) (oi := { dst := some 85, op := Op.extract (Operand.tmp 74) 1, type := 4, pos := "law.go:175", after := #[{ on := 9, ground := Ground.data }, { on := 12, ground := Ground.gcOnly Departure.lateStores }], guard := none }) (v := ?_) rfl (by kernel_rfl) (by kernel_rfl) (by kernel_rfl) (fun _ _ _ h => h) (Or.inl ⟨by rfl, ?_⟩) hHeld ?_
  rotate_left 1
  · intro u hSu
    obtain ⟨t0u, t1u⟩ := row_cells hSu.out.1.bT
    obtain ⟨a0u, a1u, a2u, a3u⟩ := HTB.out u hSu.out.1
    obtain ⟨g0u, g1u⟩ := row_cells hSu.out.2
    go_simp
    first | done | with_reducible rfl
  (try simp only [Act.put, List.setIfInBounds_toArray, List.set_cons_zero, List.set_cons_succ])
  refine wpAnyH_take (i := 12) (oi := { dst := some 13, op := Op.assign (Operand.tmp 84), type := 3, pos := "law.go:175", after := #[{ on := 10, ground := Ground.data }, { on := 8, ground := Ground.chain }, { on := 0, ground := Ground.phase }, { on := 1, ground := Ground.phase }, { on := 2, ground := Ground.phase }, { on := 3, ground := Ground.phase }, { on := 4, ground := Ground.phase }, { on := 5, ground := Ground.phase }, { on := 6, ground := Ground.phase }, { on := 7, ground := Ground.phase }, { on := 8, ground := Ground.phase }, { on := 9, ground := Ground.phase }, { on := 10, ground := Ground.phase }, { on := 11, ground := Ground.textOnly Departure.lateStores }], guard := none }) (v := ?_) rfl (by kernel_rfl) (by kernel_rfl) (by kernel_rfl) (fun _ _ _ h => h) (Or.inl ⟨by rfl, ?_⟩) hHeld ?_
  rotate_left 1
  · intro u hSu
    obtain ⟨t0u, t1u⟩ := row_cells hSu.out.1.bT
    obtain ⟨a0u, a1u, a2u, a3u⟩ := HTB.out u hSu.out.1
    obtain ⟨g0u, g1u⟩ := row_cells hSu.out.2
    go_simp
    first | done | with_reducible rfl
  (try simp only [Act.put, List.setIfInBounds_toArray, List.set_cons_zero, List.set_cons_succ])
  refine wpAnyH_take (i := 13) (oi := { dst := some 14, op := Op.assign (Operand.tmp 85), type := 4, pos := "law.go:175", after := #[{ on := 11, ground := Ground.data }, { on := 12, ground := Ground.chain }, { on := 0, ground := Ground.phase }, { on := 1, ground := Ground.phase }, { on := 2, ground := Ground.phase }, { on := 3, ground := Ground.phase }, { on := 4, ground := Ground.phase }, { on := 5, ground := Ground.phase }, { on := 6, ground := Ground.phase }, { on := 7, ground := Ground.phase }, { on := 8, ground := Ground.phase }, { on := 9, ground := Ground.phase }, { on := 10, ground := Ground.phase }, { on := 11, ground := Ground.phase }, { on := 12, ground := Ground.phase }], guard := none }) (v := ?_) rfl (by kernel_rfl) (by kernel_rfl) (by kernel_rfl) (fun _ _ _ h => h) (Or.inl ⟨by rfl, ?_⟩) hHeld ?_
  rotate_left 1
  · intro u hSu
    obtain ⟨t0u, t1u⟩ := row_cells hSu.out.1.bT
    obtain ⟨a0u, a1u, a2u, a3u⟩ := HTB.out u hSu.out.1
    obtain ⟨g0u, g1u⟩ := row_cells hSu.out.2
    go_simp
    first | done | with_reducible rfl
  (try simp only [Act.put, List.setIfInBounds_toArray, List.set_cons_zero, List.set_cons_succ])
  refine wpAnyH_done (by kernel_rfl) ?_ _
  have K11 := hHeld
  clear hHeld K
  obtain ⟨hv, hhv⟩ : ∃ hv, (dst R L0 tr er).getD 0 = hv := ⟨_, rfl⟩
  obtain ⟨rb, hrb⟩ : ∃ rb, (dst R L0 tr er).isSome = rb := ⟨_, rfl⟩
  have HV := Lib.hid (And.intro hhv hrb)
  rw [hhv, hrb]
  clear hhv hrb
  go_upto_region 18 with fail
  by_cases hre : tr = er
  case pos =>
    have hre' : (tr != er) = false := by simp [hre]
    refine wp_region_held_drew (S := fun w' => Hid (LR w ⟨R, L0, pR, cR, pL, cL⟩ sub len E pE cE B C Z (some ⟨b, off, none⟩) cA Ts w' ∧ w'.heap[g]? = some (.cells #[.int .i64 er, .int .i64 yi] 71 (0, 0)))) (by kernel_rfl) (Lib.hid (And.intro (K11.out.1.keep (grown_drew (grown_refl _ none))) (kept_row K11.out.2 (grown_drew (grown_refl _ none)) (by simp)))) (fun hHeld => ?_)
    refine wpAnyH_take (i := 0) (oi := { dst := some 86, op := Op.move (Operand.tmp 6), type := 29, pos := "law.go:176", after := #[], guard := none }) (v := ?_) rfl (by kernel_rfl) (by kernel_rfl) (by kernel_rfl) (fun _ _ _ h => h) (Or.inl ⟨by rfl, ?_⟩) hHeld ?_
    rotate_left 1
    · intro u hSu
      obtain ⟨t0u, t1u⟩ := row_cells hSu.out.1.bT
      obtain ⟨a0u, a1u, a2u, a3u⟩ := HTB.out u hSu.out.1
      obtain ⟨g0u, g1u⟩ := row_cells hSu.out.2
      go_simp
      first | done | with_reducible rfl
    (try simp only [Act.put, List.setIfInBounds_toArray, List.set_cons_zero, List.set_cons_succ])
    refine wpAnyH_take (i := 1) (oi := { dst := some 87, op := Op.move (Operand.tmp 8), type := 3, pos := "law.go:176", after := #[], guard := none }) (v := ?_) rfl (by kernel_rfl) (by kernel_rfl) (by kernel_rfl) (fun _ _ _ h => h) (Or.inl ⟨by rfl, ?_⟩) hHeld ?_
    rotate_left 1
    · intro u hSu
      obtain ⟨t0u, t1u⟩ := row_cells hSu.out.1.bT
      obtain ⟨a0u, a1u, a2u, a3u⟩ := HTB.out u hSu.out.1
      obtain ⟨g0u, g1u⟩ := row_cells hSu.out.2
      go_simp
      first | done | with_reducible rfl
    (try simp only [Act.put, List.setIfInBounds_toArray, List.set_cons_zero, List.set_cons_succ])
    refine wpAnyH_take (i := 2) (oi := { dst := some 88, op := Op.indexAddr 29 (Operand.tmp 86) (Operand.tmp 87), type := 0, pos := "law.go:176", after := #[{ on := 0, ground := Ground.data }, { on := 1, ground := Ground.data }], guard := none }) (v := ?_) rfl (by kernel_rfl) (by kernel_rfl) (by kernel_rfl) (fun _ _ _ h => h) (Or.inl ⟨by rfl, ?_⟩) hHeld ?_
    rotate_left 1
    · intro u hSu
      obtain ⟨t0u, t1u⟩ := row_cells hSu.out.1.bT
      obtain ⟨a0u, a1u, a2u, a3u⟩ := HTB.out u hSu.out.1
      obtain ⟨g0u, g1u⟩ := row_cells hSu.out.2
      go_simp
      first | done | with_reducible rfl
    (try simp only [Act.put, List.setIfInBounds_toArray, List.set_cons_zero, List.set_cons_succ])
    refine wpAnyH_take (i := 3) (oi := { dst := some 89, op := Op.fieldAddr 25 (Operand.tmp 88) 0, type := 0, pos := "law.go:176", after := #[{ on := 2, ground := Ground.data }], guard := none }) (v := ?_) rfl (by kernel_rfl) (by kernel_rfl) (by kernel_rfl) (fun _ _ _ h => h) (Or.inl ⟨by rfl, ?_⟩) hHeld ?_
    rotate_left 1
    · intro u hSu
      obtain ⟨t0u, t1u⟩ := row_cells hSu.out.1.bT
      obtain ⟨a0u, a1u, a2u, a3u⟩ := HTB.out u hSu.out.1
      obtain ⟨g0u, g1u⟩ := row_cells hSu.out.2
      go_simp
      first | done | with_reducible rfl
    (try simp only [Act.put, List.setIfInBounds_toArray, List.set_cons_zero, List.set_cons_succ])
    refine wpAnyH_take (i := 4) (oi := { dst := some 90, op := Op.load 3 (Operand.tmp 89), type := 3, pos := "law.go:176", after := #[{ on := 3, ground := Ground.data }], guard := none }) (v := ?_) rfl (by kernel_rfl) (by kernel_rfl) (by kernel_rfl) (fun _ _ _ h => h) (Or.inl ⟨by rfl, ?_⟩) hHeld ?_
    rotate_left 1
    · intro u hSu
      obtain ⟨t0u, t1u⟩ := row_cells hSu.out.1.bT
      obtain ⟨a0u, a1u, a2u, a3u⟩ := HTB.out u hSu.out.1
      obtain ⟨g0u, g1u⟩ := row_cells hSu.out.2
      go_simp
      first | done | with_reducible rfl
    (try simp only [Act.put, List.setIfInBounds_toArray, List.set_cons_zero, List.set_cons_succ])
    refine wpAnyH_take (i := 5) (oi := { dst := some 91, op := Op.fieldAddr 71 (Operand.tmp 10) 0, type := 0, pos := "law.go:176", after := #[], guard := none }) (v := ?_) rfl (by kernel_rfl) (by kernel_rfl) (by kernel_rfl) (fun _ _ _ h => h) (Or.inl ⟨by rfl, ?_⟩) hHeld ?_
    rotate_left 1
    · intro u hSu
      obtain ⟨t0u, t1u⟩ := row_cells hSu.out.1.bT
      obtain ⟨a0u, a1u, a2u, a3u⟩ := HTB.out u hSu.out.1
      obtain ⟨g0u, g1u⟩ := row_cells hSu.out.2
      go_simp
      first | done | with_reducible rfl
    (try simp only [Act.put, List.setIfInBounds_toArray, List.set_cons_zero, List.set_cons_succ])
    refine wpAnyH_take (i := 6) (oi := { dst := some 92, op := Op.load 3 (Operand.tmp 91), type := 3, pos := "law.go:176", after := #[{ on := 5, ground := Ground.data }], guard := none }) (v := ?_) rfl (by kernel_rfl) (by kernel_rfl) (by kernel_rfl) (fun _ _ _ h => h) (Or.inl ⟨by rfl, ?_⟩) hHeld ?_
    rotate_left 1
    · intro u hSu
      obtain ⟨t0u, t1u⟩ := row_cells hSu.out.1.bT
      obtain ⟨a0u, a1u, a2u, a3u⟩ := HTB.out u hSu.out.1
      obtain ⟨g0u, g1u⟩ := row_cells hSu.out.2
      go_simp
      first | done | with_reducible rfl
    (try simp only [Act.put, List.setIfInBounds_toArray, List.set_cons_zero, List.set_cons_succ])
    refine wpAnyH_take (i := 7) (oi := { dst := some 93, op := Op.binOp BinOp.neq 3 (Operand.tmp 90) (Operand.tmp 92) 3, type := 4, pos := "law.go:176", after := #[{ on := 4, ground := Ground.data }, { on := 6, ground := Ground.data }], guard := none }) (v := .bool false) rfl (by kernel_rfl) (by kernel_rfl) (by kernel_rfl) (fun _ _ _ h => h) (Or.inl ⟨by rfl, ?_⟩) hHeld ?_
    · intro u hSu
      obtain ⟨t0u, t1u⟩ := row_cells hSu.out.1.bT
      obtain ⟨a0u, a1u, a2u, a3u⟩ := HTB.out u hSu.out.1
      obtain ⟨g0u, g1u⟩ := row_cells hSu.out.2
      go_simp
      first | done | with_reducible rfl
    (try simp only [Act.put, List.setIfInBounds_toArray, List.set_cons_zero, List.set_cons_succ])
    refine wpAnyH_take (i := 8) (oi := { dst := some 94, op := Op.move (Operand.tmp 93), type := 4, pos := "law.go:176", after := #[{ on := 7, ground := Ground.data }], guard := none }) (v := ?_) rfl (by kernel_rfl) (by kernel_rfl) (by kernel_rfl) (fun _ _ _ h => h) (Or.inl ⟨by rfl, ?_⟩) hHeld ?_
    rotate_left 1
    · intro u hSu
      obtain ⟨t0u, t1u⟩ := row_cells hSu.out.1.bT
      obtain ⟨a0u, a1u, a2u, a3u⟩ := HTB.out u hSu.out.1
      obtain ⟨g0u, g1u⟩ := row_cells hSu.out.2
      go_simp
      first | done | with_reducible rfl
    (try simp only [Act.put, List.setIfInBounds_toArray, List.set_cons_zero, List.set_cons_succ])
    refine wpAnyH_take (i := 9) (oi := { dst := some 95, op := Op.move (Operand.tmp 12), type := 22, pos := "law.go:176", after := #[{ on := 8, ground := Ground.guard }], guard := some (8, true) }) (v := undef) rfl (by kernel_rfl) (by kernel_rfl) (by kernel_rfl) (fun _ _ _ h => h) (Or.inr ⟨by rfl, rfl⟩) hHeld ?_
    (try simp only [Act.put, List.setIfInBounds_toArray, List.set_cons_zero, List.set_cons_succ])
    refine wpAnyH_take (i := 10) (oi := { dst := some 96, op := Op.call { callee := Callee.builtin Builtin.len, args := #[Operand.tmp 95], argTypes := #[22] }, type := 3, pos := "law.go:176", after := #[{ on := 9, ground := Ground.data }, { on := 8, ground := Ground.guard }], guard := some (8, true) }) (v := undef) rfl (by kernel_rfl) (by kernel_rfl) (by kernel_rfl) (fun _ _ _ h => h) (Or.inr ⟨by rfl, rfl⟩) hHeld ?_
    (try simp only [Act.put, List.setIfInBounds_toArray, List.set_cons_zero, List.set_cons_succ])
    refine wpAnyH_take (i := 11) (oi := { dst := some 97, op := Op.binOp BinOp.gtr 3 (Operand.tmp 96) (Operand.const (Value.int IntKind.i64 0)) 3, type := 4, pos := "law.go:176", after := #[{ on := 10, ground := Ground.data }, { on := 8, ground := Ground.guard }], guard := some (8, true) }) (v := undef) rfl (by kernel_rfl) (by kernel_rfl) (by kernel_rfl) (fun _ _ _ h => h) (Or.inr ⟨by rfl, rfl⟩) hHeld ?_
    (try simp only [Act.put, List.setIfInBounds_toArray, List.set_cons_zero, List.set_cons_succ])
    refine wpAnyH_take (i := 12) (oi := { dst := some 98, op := Op.move (Operand.tmp 14), type := 4, pos := "law.go:176", after := #[{ on := 8, ground := Ground.guard }], guard := some (8, true) }) (v := undef) rfl (by kernel_rfl) (by kernel_rfl) (by kernel_rfl) (fun _ _ _ h => h) (Or.inr ⟨by rfl, rfl⟩) hHeld ?_
    (try simp only [Act.put, List.setIfInBounds_toArray, List.set_cons_zero, List.set_cons_succ])
    refine wpAnyH_take (i := 13) (oi := { dst := some 99, op := Op.move (Operand.tmp 98), type := 4, pos := "law.go:176", after := #[{ on := 12, ground := Ground.data }, { on := 8, ground := Ground.chain }, { on := 8, ground := Ground.guard }], guard := some (8, true) }) (v := undef) rfl (by kernel_rfl) (by kernel_rfl) (by kernel_rfl) (fun _ _ _ h => h) (Or.inr ⟨by rfl, rfl⟩) hHeld ?_
    (try simp only [Act.put, List.setIfInBounds_toArray, List.set_cons_zero, List.set_cons_succ])
    refine wpAnyH_take (i := 14) (oi := { dst := some 100, op := Op.load 45 (Operand.tmp 4), type := 45, pos := "law.go:176", after := #[{ on := 13, ground := Ground.guard }], guard := some (13, true) }) (v := undef) rfl (by kernel_rfl) (by kernel_rfl) (by kernel_rfl) (fun _ _ _ h => h) (Or.inr ⟨by rfl, rfl⟩) hHeld ?_
    (try simp only [Act.put, List.setIfInBounds_toArray, List.set_cons_zero, List.set_cons_succ])
    refine wpAnyH_take (i := 15) (oi := { dst := some 101, op := Op.fieldAddr 71 (Operand.tmp 10) 0, type := 0, pos := "law.go:176", after := #[{ on := 13, ground := Ground.guard }], guard := some (13, true) }) (v := undef) rfl (by kernel_rfl) (by kernel_rfl) (by kernel_rfl) (fun _ _ _ h => h) (Or.inr ⟨by rfl, rfl⟩) hHeld ?_
    (try simp only [Act.put, List.setIfInBounds_toArray, List.set_cons_zero, List.set_cons_succ])
    refine wpAnyH_take (i := 16) (oi := { dst := some 102, op := Op.load 3 (Operand.tmp 101), type := 3, pos := "law.go:176", after := #[{ on := 15, ground := Ground.data }, { on := 13, ground := Ground.guard }], guard := some (13, true) }) (v := undef) rfl (by kernel_rfl) (by kernel_rfl) (by kernel_rfl) (fun _ _ _ h => h) (Or.inr ⟨by rfl, rfl⟩) hHeld ?_
    (try simp only [Act.put, List.setIfInBounds_toArray, List.set_cons_zero, List.set_cons_succ])
    refine wpAnyH_take (i := 17) (oi := { dst := some 103, op := Op.call { callee := Callee.value (Operand.func 43), args := #[Operand.tmp 100, Operand.tmp 102], argTypes := #[45, 3] }, type := 4, pos := "law.go:176", after := #[{ on := 14, ground := Ground.data }, { on := 16, ground := Ground.data }, { on := 13, ground := Ground.chain }, { on := 13, ground := Ground.guard }], guard := some (13, true) }) (v := undef) rfl (by kernel_rfl) (by kernel_rfl) (by kernel_rfl) (fun _ _ _ h => h) (Or.inr ⟨by rfl, rfl⟩) hHeld ?_
    (try simp only [Act.put, List.setIfInBounds_toArray, List.set_cons_zero, List.set_cons_succ])
    refine wpAnyH_take (i := 18) (oi := { dst := some 104, op := Op.pick (Operand.tmp 99) (Operand.tmp 103) (Operand.const (Value.bool false)), type := 4, pos := "law.go:176", after := #[{ on := 13, ground := Ground.data }, { on := 17, ground := Ground.data }, { on := 8, ground := Ground.guard }], guard := some (8, true) }) (v := undef) rfl (by kernel_rfl) (by kernel_rfl) (by kernel_rfl) (fun _ _ _ h => h) (Or.inr ⟨by rfl, rfl⟩) hHeld ?_
    (try simp only [Act.put, List.setIfInBounds_toArray, List.set_cons_zero, List.set_cons_succ])
    refine wpAnyH_take (i := 19) (oi := { dst := some 105, op := Op.binOp BinOp.neq 4 (Operand.tmp 97) (Operand.tmp 104) 4, type := 4, pos := "law.go:176", after := #[{ on := 11, ground := Ground.data }, { on := 18, ground := Ground.data }, { on := 8, ground := Ground.guard }], guard := some (8, true) }) (v := undef) rfl (by kernel_rfl) (by kernel_rfl) (by kernel_rfl) (fun _ _ _ h => h) (Or.inr ⟨by rfl, rfl⟩) hHeld ?_
    (try simp only [Act.put, List.setIfInBounds_toArray, List.set_cons_zero, List.set_cons_succ])
    refine wpAnyH_take (i := 20) (oi := { dst := some 106, op := Op.pick (Operand.tmp 94) (Operand.tmp 105) (Operand.const (Value.bool false)), type := 4, pos := "law.go:176", after := #[{ on := 8, ground := Ground.data }, { on := 19, ground := Ground.data }], guard := none }) (v := ?_) rfl (by kernel_rfl) (by kernel_rfl) (by kernel_rfl) (fun _ _ _ h => h) (Or.inl ⟨by rfl, ?_⟩) hHeld ?_
    rotate_left 1
    · intro u hSu
      obtain ⟨t0u, t1u⟩ := row_cells hSu.out.1.bT
      obtain ⟨a0u, a1u, a2u, a3u⟩ := HTB.out u hSu.out.1
      obtain ⟨g0u, g1u⟩ := row_cells hSu.out.2
      go_simp
      first | done | with_reducible rfl
    (try simp only [Act.put, List.setIfInBounds_toArray, List.set_cons_zero, List.set_cons_succ])
    refine wpAnyH_done (by kernel_rfl) ?_ _
    have K12 := hHeld
    clear hHeld
    clear K11
    go_wp2_with fail
    go_loopw [15] (fun v wr => v = .int .i64 0 ∧ Hid (LR w ⟨R, L0, pR, cR, pL, cL⟩ sub len E pE cE B C Z (some ⟨b, off, none⟩) cA Ts wr ∧ wr.heap[g]? = some (.cells #[.int .i64 er, .int .i64 yi] 71 (0, 0)))) (fun _ _ => 0)
    case atStart => exact ⟨rfl, K12⟩
    case round =>
    clear K12
    obtain ⟨rfl, K⟩ := hrel
    obtain ⟨w13, hw13⟩ : ∃ w13, w13 = wr := ⟨_, rfl⟩
    rw [← hw13] at K ⊢
    clear hw13
    by_cases hx0 : 0 < xn.length
    · have hx0' : (0 : Int) < (xn.length : Int) := by omega
      go_upto_region 21 with fail
      refine wp_region_held_drew (S := fun w' => Hid (LR w ⟨R, L0, pR, cR, pL, cL⟩ sub len E pE cE B C Z (some ⟨b, off, none⟩) cA Ts w' ∧ w'.heap[g]? = some (.cells #[.int .i64 er, .int .i64 yi] 71 (0, 0)))) (by kernel_rfl) (Lib.hid (And.intro (K.out.1.keep (grown_drew (grown_refl _ none))) (kept_row K.out.2 (grown_drew (grown_refl _ none)) (by simp)))) (fun hHeld => ?_)
      refine wpAnyH_take (i := 0) (oi := { dst := some 107, op := Op.move (Operand.tmp 15), type := 3, pos := "law.go:179", after := #[], guard := none }) (v := ?_) rfl (by kernel_rfl) (by kernel_rfl) (by kernel_rfl) (fun _ _ _ h => h) (Or.inl ⟨by rfl, ?_⟩) hHeld ?_
      rotate_left 1
      · intro u hSu
        obtain ⟨t0u, t1u⟩ := row_cells hSu.out.1.bT
        obtain ⟨a0u, a1u, a2u, a3u⟩ := HTB.out u hSu.out.1
        obtain ⟨g0u, g1u⟩ := row_cells hSu.out.2
        go_simp
        first | done | with_reducible rfl
      (try simp only [Act.put, List.setIfInBounds_toArray, List.set_cons_zero, List.set_cons_succ])
      refine wpAnyH_take (i := 1) (oi := { dst := some 108, op := Op.move (Operand.tmp 12), type := 22, pos := "law.go:179", after := #[], guard := none }) (v := ?_) rfl (by kernel_rfl) (by kernel_rfl) (by kernel_rfl) (fun _ _ _ h => h) (Or.inl ⟨by rfl, ?_⟩) hHeld ?_
      rotate_left 1
      · intro u hSu
        obtain ⟨t0u, t1u⟩ := row_cells hSu.out.1.bT
        obtain ⟨a0u, a1u, a2u, a3u⟩ := HTB.out u hSu.out.1
        obtain ⟨g0u, g1u⟩ := row_cells hSu.out.2
        go_simp
        first | done | with_reducible rfl
      (try simp only [Act.put, List.setIfInBounds_toArray, List.set_cons_zero, List.set_cons_succ])
      refine wpAnyH_take (i := 2) (oi := { dst := some 109, op := Op.call { callee := Callee.builtin Builtin.len, args := #[Operand.tmp 108], argTypes := #[22] }, type := 3, pos := "law.go:179", after := #[{ on := 1, ground := Ground.data }], guard := none }) (v := ?_) rfl (by kernel_rfl) (by kernel_rfl) (by kernel_rfl) (fun _ _ _ h => h) (Or.inl ⟨by rfl, ?_⟩) hHeld ?_
      rotate_left 1
      · intro u hSu
        obtain ⟨t0u, t1u⟩ := row_cells hSu.out.1.bT
        obtain ⟨a0u, a1u, a2u, a3u⟩ := HTB.out u hSu.out.1
        obtain ⟨g0u, g1u⟩ := row_cells hSu.out.2
        go_simp
        first | done | with_reducible rfl
      (try simp only [Act.put, List.setIfInBounds_toArray, List.set_cons_zero, List.set_cons_succ])
      refine wpAnyH_take (i := 3) (oi := { dst := some 110, op := Op.binOp BinOp.lss 3 (Operand.tmp 107) (Operand.tmp 109) 3, type := 4, pos := "law.go:179", after := #[{ on := 0, ground := Ground.data }, { on := 2, ground := Ground.data }], guard := none }) (v := .bool true) rfl (by kernel_rfl) (by kernel_rfl) (by kernel_rfl) (fun _ _ _ h => h) (Or.inl ⟨by rfl, ?_⟩) hHeld ?_
      · intro u hSu
        obtain ⟨t0u, t1u⟩ := row_cells hSu.out.1.bT
        obtain ⟨a0u, a1u, a2u, a3u⟩ := HTB.out u hSu.out.1
        obtain ⟨g0u, g1u⟩ := row_cells hSu.out.2
        go_simp
        first | done | with_reducible rfl
      (try simp only [Act.put, List.setIfInBounds_toArray, List.set_cons_zero, List.set_cons_succ])
      refine wpAnyH_take (i := 4) (oi := { dst := some 111, op := Op.move (Operand.tmp 110), type := 4, pos := "law.go:179", after := #[{ on := 3, ground := Ground.data }], guard := none }) (v := ?_) rfl (by kernel_rfl) (by kernel_rfl) (by kernel_rfl) (fun _ _ _ h => h) (Or.inl ⟨by rfl, ?_⟩) hHeld ?_
      rotate_left 1
      · intro u hSu
        obtain ⟨t0u, t1u⟩ := row_cells hSu.out.1.bT
        obtain ⟨a0u, a1u, a2u, a3u⟩ := HTB.out u hSu.out.1
        obtain ⟨g0u, g1u⟩ := row_cells hSu.out.2
        go_simp
        first | done | with_reducible rfl
      (try simp only [Act.put, List.setIfInBounds_toArray, List.set_cons_zero, List.set_cons_succ])
      refine wpAnyH_take (i := 5) (oi := { dst := some 112, op := Op.move (Operand.tmp 6), type := 29, pos := "law.go:179", after := #[{ on := 4, ground := Ground.guard }], guard := some (4, true) }) (v := ?_) rfl (by kernel_rfl) (by kernel_rfl) (by kernel_rfl) (fun _ _ _ h => h) (Or.inl ⟨by rfl, ?_⟩) hHeld ?_
      rotate_left 1
      · intro u hSu
        obtain ⟨t0u, t1u⟩ := row_cells hSu.out.1.bT
        obtain ⟨a0u, a1u, a2u, a3u⟩ := HTB.out u hSu.out.1
        obtain ⟨g0u, g1u⟩ := row_cells hSu.out.2
        go_simp
        first | done | with_reducible rfl
      (try simp only [Act.put, List.setIfInBounds_toArray, List.set_cons_zero, List.set_cons_succ])
      refine wpAnyH_take (i := 6) (oi := { dst := some 113, op := Op.move (Operand.tmp 8), type := 3, pos := "law.go:179", after := #[{ on := 4, ground := Ground.guard }], guard := some (4, true) }) (v := ?_) rfl (by kernel_rfl) (by kernel_rfl) (by kernel_rfl) (fun _ _ _ h => h) (Or.inl ⟨by rfl, ?_⟩) hHeld ?_
      rotate_left 1
      · intro u hSu
        obtain ⟨t0u, t1u⟩ := row_cells hSu.out.1.bT
        obtain ⟨a0u, a1u, a2u, a3u⟩ := HTB.out u hSu.out.1
        obtain ⟨g0u, g1u⟩ := row_cells hSu.out.2
        go_simp
        first | done | with_reducible rfl
      (try simp only [Act.put, List.setIfInBounds_toArray, List.set_cons_zero, List.set_cons_succ])
      refine wpAnyH_take (i := 7) (oi := { dst := some 114, op := Op.indexAddr 29 (Operand.tmp 112) (Operand.tmp 113), type := 0, pos := "law.go:179", after := #[{ on := 5, ground := Ground.data }, { on := 6, ground := Ground.data }, { on := 4, ground := Ground.guard }], guard := some (4, true) }) (v := ?_) rfl (by kernel_rfl) (by kernel_rfl) (by kernel_rfl) (fun _ _ _ h => h) (Or.inl ⟨by rfl, ?_⟩) hHeld ?_
      rotate_left 1
      · intro u hSu
        obtain ⟨t0u, t1u⟩ := row_cells hSu.out.1.bT
        obtain ⟨a0u, a1u, a2u, a3u⟩ := HTB.out u hSu.out.1
        obtain ⟨g0u, g1u⟩ := row_cells hSu.out.2
        go_simp
        first | done | with_reducible rfl
      (try simp only [Act.put, List.setIfInBounds_toArray, List.set_cons_zero, List.set_cons_succ])
      refine wpAnyH_take (i := 8) (oi := { dst := some 115, op := Op.fieldAddr 25 (Operand.tmp 114) 0, type := 0, pos := "law.go:179", after := #[{ on := 7, ground := Ground.data }, { on := 4, ground := Ground.guard }], guard := some (4, true) }) (v := ?_) rfl (by kernel_rfl) (by kernel_rfl) (by kernel_rfl) (fun _ _ _ h => h) (Or.inl ⟨by rfl, ?_⟩) hHeld ?_
      rotate_left 1
      · intro u hSu
        obtain ⟨t0u, t1u⟩ := row_cells hSu.out.1.bT
        obtain ⟨a0u, a1u, a2u, a3u⟩ := HTB.out u hSu.out.1
        obtain ⟨g0u, g1u⟩ := row_cells hSu.out.2
        go_simp
        first | done | with_reducible rfl
      (try simp only [Act.put, List.setIfInBounds_toArray, List.set_cons_zero, List.set_cons_succ])
      refine wpAnyH_take (i := 9) (oi := { dst := some 116, op := Op.load 3 (Operand.tmp 115), type := 3, pos := "law.go:179", after := #[{ on := 8, ground := Ground.data }, { on := 4, ground := Ground.guard }], guard := some (4, true) }) (v := ?_) rfl (by kernel_rfl) (by kernel_rfl) (by kernel_rfl) (fun _ _ _ h => h) (Or.inl ⟨by rfl, ?_⟩) hHeld ?_
      rotate_left 1
      · intro u hSu
        obtain ⟨t0u, t1u⟩ := row_cells hSu.out.1.bT
        obtain ⟨a0u, a1u, a2u, a3u⟩ := HTB.out u hSu.out.1
        obtain ⟨g0u, g1u⟩ := row_cells hSu.out.2
        go_simp
        first | done | with_reducible rfl
      (try simp only [Act.put, List.setIfInBounds_toArray, List.set_cons_zero, List.set_cons_succ])
      refine wpAnyH_take (i := 10) (oi := { dst := some 117, op := Op.fieldAddr 71 (Operand.tmp 10) 0, type := 0, pos := "law.go:179", after := #[{ on := 4, ground := Ground.guard }], guard := some (4, true) }) (v := ?_) rfl (by kernel_rfl) (by kernel_rfl) (by kernel_rfl) (fun _ _ _ h => h) (Or.inl ⟨by rfl, ?_⟩) hHeld ?_
      rotate_left 1
      · intro u hSu
        obtain ⟨t0u, t1u⟩ := row_cells hSu.out.1.bT
        obtain ⟨a0u, a1u, a2u, a3u⟩ := HTB.out u hSu.out.1
        obtain ⟨g0u, g1u⟩ := row_cells hSu.out.2
        go_simp
        first | done | with_reducible rfl
      (try simp only [Act.put, List.setIfInBounds_toArray, List.set_cons_zero, List.set_cons_succ])
      refine wpAnyH_take (i := 11) (oi := { dst := some 118, op := Op.load 3 (Operand.tmp 117), type := 3, pos := "law.go:179", after := #[{ on := 10, ground := Ground.data }, { on := 4, ground := Ground.guard }], guard := some (4, true) }) (v := ?_) rfl (by kernel_rfl) (by kernel_rfl) (by kernel_rfl) (fun _ _ _ h => h) (Or.inl ⟨by rfl, ?_⟩) hHeld ?_
      rotate_left 1
      · intro u hSu
        obtain ⟨t0u, t1u⟩ := row_cells hSu.out.1.bT
        obtain ⟨a0u, a1u, a2u, a3u⟩ := HTB.out u hSu.out.1
        obtain ⟨g0u, g1u⟩ := row_cells hSu.out.2
        go_simp
        first | done | with_reducible rfl
      (try simp only [Act.put, List.setIfInBounds_toArray, List.set_cons_zero, List.set_cons_succ])
      refine wpAnyH_take (i := 12) (oi := { dst := some 119, op := Op.binOp BinOp.neq 3 (Operand.tmp 116) (Operand.tmp 118) 3, type := 4, pos := "law.go:179", after := #[{ on := 9, ground := Ground.data }, { on := 11, ground := Ground.data }, { on := 4, ground := Ground.guard }], guard := some (4, true) }) (v := .bool false) rfl (by kernel_rfl) (by kernel_rfl) (by kernel_rfl) (fun _ _ _ h => h) (Or.inl ⟨by rfl, ?_⟩) hHeld ?_
      · intro u hSu
        obtain ⟨t0u, t1u⟩ := row_cells hSu.out.1.bT
        obtain ⟨a0u, a1u, a2u, a3u⟩ := HTB.out u hSu.out.1
        obtain ⟨g0u, g1u⟩ := row_cells hSu.out.2
        go_simp
        first | done | with_reducible rfl
      (try simp only [Act.put, List.setIfInBounds_toArray, List.set_cons_zero, List.set_cons_succ])
      refine wpAnyH_take (i := 13) (oi := { dst := some 120, op := Op.pick (Operand.tmp 111) (Operand.tmp 119) (Operand.const (Value.bool false)), type := 4, pos := "law.go:179", after := #[{ on := 4, ground := Ground.data }, { on := 12, ground := Ground.data }], guard := none }) (v := ?_) rfl (by kernel_rfl) (by kernel_rfl) (by kernel_rfl) (fun _ _ _ h => h) (Or.inl ⟨by rfl, ?_⟩) hHeld ?_
      rotate_left 1
      · intro u hSu
        obtain ⟨t0u, t1u⟩ := row_cells hSu.out.1.bT
        obtain ⟨a0u, a1u, a2u, a3u⟩ := HTB.out u hSu.out.1
        obtain ⟨g0u, g1u⟩ := row_cells hSu.out.2
        go_simp
        first | done | with_reducible rfl
      (try simp only [Act.put, List.setIfInBounds_toArray, List.set_cons_zero, List.set_cons_succ])
      refine wpAnyH_done (by kernel_rfl) ?_ _
      have K14 := Lib.hid hHeld.out.1
      clear hHeld
      go_wp2_with fail
      exact ⟨⟨k + 1, by omega, congrArg _ (by omega), K14⟩, by simp only [RowKit.intOf]; omega⟩
    · have hx0' : ¬ (0 : Int) < (xn.length : Int) := by omega
      go_upto_region 21 with fail
      refine wp_region_held_drew (S := fun w' => Hid (LR w ⟨R, L0, pR, cR, pL, cL⟩ sub len E pE cE B C Z (some ⟨b, off, none⟩) cA Ts w' ∧ w'.heap[g]? = some (.cells #[.int .i64 er, .int .i64 yi] 71 (0, 0)))) (by kernel_rfl) (Lib.hid (And.intro (K.out.1.keep (grown_drew (grown_refl _ none))) (kept_row K.out.2 (grown_drew (grown_refl _ none)) (by simp)))) (fun hHeld => ?_)
      refine wpAnyH_take (i := 0) (oi := { dst := some 107, op := Op.move (Operand.tmp 15), type := 3, pos := "law.go:179", after := #[], guard := none }) (v := ?_) rfl (by kernel_rfl) (by kernel_rfl) (by kernel_rfl) (fun _ _ _ h => h) (Or.inl ⟨by rfl, ?_⟩) hHeld ?_
      rotate_left 1
      · intro u hSu
        obtain ⟨t0u, t1u⟩ := row_cells hSu.out.1.bT
        obtain ⟨a0u, a1u, a2u, a3u⟩ := HTB.out u hSu.out.1
        obtain ⟨g0u, g1u⟩ := row_cells hSu.out.2
        go_simp
        first | done | with_reducible rfl
      (try simp only [Act.put, List.setIfInBounds_toArray, List.set_cons_zero, List.set_cons_succ])
      refine wpAnyH_take (i := 1) (oi := { dst := some 108, op := Op.move (Operand.tmp 12), type := 22, pos := "law.go:179", after := #[], guard := none }) (v := ?_) rfl (by kernel_rfl) (by kernel_rfl) (by kernel_rfl) (fun _ _ _ h => h) (Or.inl ⟨by rfl, ?_⟩) hHeld ?_
      rotate_left 1
      · intro u hSu
        obtain ⟨t0u, t1u⟩ := row_cells hSu.out.1.bT
        obtain ⟨a0u, a1u, a2u, a3u⟩ := HTB.out u hSu.out.1
        obtain ⟨g0u, g1u⟩ := row_cells hSu.out.2
        go_simp
        first | done | with_reducible rfl
      (try simp only [Act.put, List.setIfInBounds_toArray, List.set_cons_zero, List.set_cons_succ])
      refine wpAnyH_take (i := 2) (oi := { dst := some 109, op := Op.call { callee := Callee.builtin Builtin.len, args := #[Operand.tmp 108], argTypes := #[22] }, type := 3, pos := "law.go:179", after := #[{ on := 1, ground := Ground.data }], guard := none }) (v := ?_) rfl (by kernel_rfl) (by kernel_rfl) (by kernel_rfl) (fun _ _ _ h => h) (Or.inl ⟨by rfl, ?_⟩) hHeld ?_
      rotate_left 1
      · intro u hSu
        obtain ⟨t0u, t1u⟩ := row_cells hSu.out.1.bT
        obtain ⟨a0u, a1u, a2u, a3u⟩ := HTB.out u hSu.out.1
        obtain ⟨g0u, g1u⟩ := row_cells hSu.out.2
        go_simp
        first | done | with_reducible rfl
      (try simp only [Act.put, List.setIfInBounds_toArray, List.set_cons_zero, List.set_cons_succ])
      refine wpAnyH_take (i := 3) (oi := { dst := some 110, op := Op.binOp BinOp.lss 3 (Operand.tmp 107) (Operand.tmp 109) 3, type := 4, pos := "law.go:179", after := #[{ on := 0, ground := Ground.data }, { on := 2, ground := Ground.data }], guard := none }) (v := .bool false) rfl (by kernel_rfl) (by kernel_rfl) (by kernel_rfl) (fun _ _ _ h => h) (Or.inl ⟨by rfl, ?_⟩) hHeld ?_
      · intro u hSu
        obtain ⟨t0u, t1u⟩ := row_cells hSu.out.1.bT
        obtain ⟨a0u, a1u, a2u, a3u⟩ := HTB.out u hSu.out.1
        obtain ⟨g0u, g1u⟩ := row_cells hSu.out.2
        go_simp
        first | done | with_reducible rfl
      (try simp only [Act.put, List.setIfInBounds_toArray, List.set_cons_zero, List.set_cons_succ])
      refine wpAnyH_take (i := 4) (oi := { dst := some 111, op := Op.move (Operand.tmp 110), type := 4, pos := "law.go:179", after := #[{ on := 3, ground := Ground.data }], guard := none }) (v := ?_) rfl (by kernel_rfl) (by kernel_rfl) (by kernel_rfl) (fun _ _ _ h => h) (Or.inl ⟨by rfl, ?_⟩) hHeld ?_
      rotate_left 1
      · intro u hSu
        obtain ⟨t0u, t1u⟩ := row_cells hSu.out.1.bT
        obtain ⟨a0u, a1u, a2u, a3u⟩ := HTB.out u hSu.out.1
        obtain ⟨g0u, g1u⟩ := row_cells hSu.out.2
        go_simp
        first | done | with_reducible rfl
      (try simp only [Act.put, List.setIfInBounds_toArray, List.set_cons_zero, List.set_cons_succ])
      refine wpAnyH_take (i := 5) (oi := { dst := some 112, op := Op.move (Operand.tmp 6), type := 29, pos := "law.go:179", after := #[{ on := 4, ground := Ground.guard }], guard := some (4, true) }) (v := undef) rfl (by kernel_rfl) (by kernel_rfl) (by kernel_rfl) (fun _ _ _ h => h) (Or.inr ⟨by rfl, rfl⟩) hHeld ?_
      (try simp only [Act.put, List.setIfInBounds_toArray, List.set_cons_zero, List.set_cons_succ])
      refine wpAnyH_take (i := 6) (oi := { dst := some 113, op := Op.move (Operand.tmp 8), type := 3, pos := "law.go:179", after := #[{ on := 4, ground := Ground.guard }], guard := some (4, true) }) (v := undef) rfl (by kernel_rfl) (by kernel_rfl) (by kernel_rfl) (fun _ _ _ h => h) (Or.inr ⟨by rfl, rfl⟩) hHeld ?_
      (try simp only [Act.put, List.setIfInBounds_toArray, List.set_cons_zero, List.set_cons_succ])
      refine wpAnyH_take (i := 7) (oi := { dst := some 114, op := Op.indexAddr 29 (Operand.tmp 112) (Operand.tmp 113), type := 0, pos := "law.go:179", after := #[{ on := 5, ground := Ground.data }, { on := 6, ground := Ground.data }, { on := 4, ground := Ground.guard }], guard := some (4, true) }) (v := undef) rfl (by kernel_rfl) (by kernel_rfl) (by kernel_rfl) (fun _ _ _ h => h) (Or.inr ⟨by rfl, rfl⟩) hHeld ?_
      (try simp only [Act.put, List.setIfInBounds_toArray, List.set_cons_zero, List.set_cons_succ])
      refine wpAnyH_take (i := 8) (oi := { dst := some 115, op := Op.fieldAddr 25 (Operand.tmp 114) 0, type := 0, pos := "law.go:179", after := #[{ on := 7, ground := Ground.data }, { on := 4, ground := Ground.guard }], guard := some (4, true) }) (v := undef) rfl (by kernel_rfl) (by kernel_rfl) (by kernel_rfl) (fun _ _ _ h => h) (Or.inr ⟨by rfl, rfl⟩) hHeld ?_
      (try simp only [Act.put, List.setIfInBounds_toArray, List.set_cons_zero, List.set_cons_succ])
      refine wpAnyH_take (i := 9) (oi := { dst := some 116, op := Op.load 3 (Operand.tmp 115), type := 3, pos := "law.go:179", after := #[{ on := 8, ground := Ground.data }, { on := 4, ground := Ground.guard }], guard := some (4, true) }) (v := undef) rfl (by kernel_rfl) (by kernel_rfl) (by kernel_rfl) (fun _ _ _ h => h) (Or.inr ⟨by rfl, rfl⟩) hHeld ?_
      (try simp only [Act.put, List.setIfInBounds_toArray, List.set_cons_zero, List.set_cons_succ])
      refine wpAnyH_take (i := 10) (oi := { dst := some 117, op := Op.fieldAddr 71 (Operand.tmp 10) 0, type := 0, pos := "law.go:179", after := #[{ on := 4, ground := Ground.guard }], guard := some (4, true) }) (v := undef) rfl (by kernel_rfl) (by kernel_rfl) (by kernel_rfl) (fun _ _ _ h => h) (Or.inr ⟨by rfl, rfl⟩) hHeld ?_
      (try simp only [Act.put, List.setIfInBounds_toArray, List.set_cons_zero, List.set_cons_succ])
      refine wpAnyH_take (i := 11) (oi := { dst := some 118, op := Op.load 3 (Operand.tmp 117), type := 3, pos := "law.go:179", after := #[{ on := 10, ground := Ground.data }, { on := 4, ground := Ground.guard }], guard := some (4, true) }) (v := undef) rfl (by kernel_rfl) (by kernel_rfl) (by kernel_rfl) (fun _ _ _ h => h) (Or.inr ⟨by rfl, rfl⟩) hHeld ?_
      (try simp only [Act.put, List.setIfInBounds_toArray, List.set_cons_zero, List.set_cons_succ])
      refine wpAnyH_take (i := 12) (oi := { dst := some 119, op := Op.binOp BinOp.neq 3 (Operand.tmp 116) (Operand.tmp 118) 3, type := 4, pos := "law.go:179", after := #[{ on := 9, ground := Ground.data }, { on := 11, ground := Ground.data }, { on := 4, ground := Ground.guard }], guard := some (4, true) }) (v := undef) rfl (by kernel_rfl) (by kernel_rfl) (by kernel_rfl) (fun _ _ _ h => h) (Or.inr ⟨by rfl, rfl⟩) hHeld ?_
      (try simp only [Act.put, List.setIfInBounds_toArray, List.set_cons_zero, List.set_cons_succ])
      refine wpAnyH_take (i := 13) (oi := { dst := some 120, op := Op.pick (Operand.tmp 111) (Operand.tmp 119) (Operand.const (Value.bool false)), type := 4, pos := "law.go:179", after := #[{ on := 4, ground := Ground.data }, { on := 12, ground := Ground.data }], guard := none }) (v := ?_) rfl (by kernel_rfl) (by kernel_rfl) (by kernel_rfl) (fun _ _ _ h => h) (Or.inl ⟨by rfl, ?_⟩) hHeld ?_
      rotate_left 1
      · intro u hSu
        obtain ⟨t0u, t1u⟩ := row_cells hSu.out.1.bT
        obtain ⟨a0u, a1u, a2u, a3u⟩ := HTB.out u hSu.out.1
        obtain ⟨g0u, g1u⟩ := row_cells hSu.out.2
        go_simp
        first | done | with_reducible rfl
      (try simp only [Act.put, List.setIfInBounds_toArray, List.set_cons_zero, List.set_cons_succ])
      refine wpAnyH_done (by kernel_rfl) ?_ _
      have K14 := Lib.hid hHeld.out.1
      clear hHeld
      go_wp2_with fail
      exact ⟨⟨k + 1, by omega, congrArg _ (by omega), K14⟩, by simp only [RowKit.intOf]; omega⟩
  have hre' : (tr != er) = true := by simpa using hre
  have HSO := Lib.hid (near_some HOK.out.2 HNB.out (fun h => hre h.symm))
  have HEA : Hid (∀ y ∈ xn, (∃ d, dst R L0 tr er = some d ∧ ∃ t, dst R L0 y er = some t ∧ t < d) ∧ capV R L0 y = true ∧ capV R L0 er = true) := Lib.hid (fun y hy => near_each HOK.out.2 HNB.out (fun h => hre h.symm) hy)
  rw [HV.out.2] at HSO
  cases rb
  case false =>
    have hx0 : ¬ 0 < xn.length := of_decide_eq_false (by rw [HSO.out]; rfl)
    have hx0' : ¬ (0 : Int) < (xn.length : Int) := by omega
    refine wp_region_held_drew (S := fun w' => Hid (LR w ⟨R, L0, pR, cR, pL, cL⟩ sub len E pE cE B C Z (some ⟨b, off, none⟩) cA Ts w' ∧ w'.heap[g]? = some (.cells #[.int .i64 er, .int .i64 yi] 71 (0, 0)))) (by kernel_rfl) (Lib.hid (And.intro (K11.out.1.keep (grown_drew (grown_refl _ none))) (kept_row K11.out.2 (grown_drew (grown_refl _ none)) (by simp)))) (fun hHeld => ?_)
    refine wpAnyH_take (i := 0) (oi := { dst := some 86, op := Op.move (Operand.tmp 6), type := 29, pos := "law.go:176", after := #[], guard := none }) (v := ?_) rfl (by kernel_rfl) (by kernel_rfl) (by kernel_rfl) (fun _ _ _ h => h) (Or.inl ⟨by rfl, ?_⟩) hHeld ?_
    rotate_left 1
    · intro u hSu
      obtain ⟨t0u, t1u⟩ := row_cells hSu.out.1.bT
      obtain ⟨a0u, a1u, a2u, a3u⟩ := HTB.out u hSu.out.1
      obtain ⟨g0u, g1u⟩ := row_cells hSu.out.2
      go_simp
      first | done | with_reducible rfl
    (try simp only [Act.put, List.setIfInBounds_toArray, List.set_cons_zero, List.set_cons_succ])
    refine wpAnyH_take (i := 1) (oi := { dst := some 87, op := Op.move (Operand.tmp 8), type := 3, pos := "law.go:176", after := #[], guard := none }) (v := ?_) rfl (by kernel_rfl) (by kernel_rfl) (by kernel_rfl) (fun _ _ _ h => h) (Or.inl ⟨by rfl, ?_⟩) hHeld ?_
    rotate_left 1
    · intro u hSu
      obtain ⟨t0u, t1u⟩ := row_cells hSu.out.1.bT
      obtain ⟨a0u, a1u, a2u, a3u⟩ := HTB.out u hSu.out.1
      obtain ⟨g0u, g1u⟩ := row_cells hSu.out.2
      go_simp
      first | done | with_reducible rfl
    (try simp only [Act.put, List.setIfInBounds_toArray, List.set_cons_zero, List.set_cons_succ])
    refine wpAnyH_take (i := 2) (oi := { dst := some 88, op := Op.indexAddr 29 (Operand.tmp 86) (Operand.tmp 87), type := 0, pos := "law.go:176", after := #[{ on := 0, ground := Ground.data }, { on := 1, ground := Ground.data }], guard := none }) (v := ?_) rfl (by kernel_rfl) (by kernel_rfl) (by kernel_rfl) (fun _ _ _ h => h) (Or.inl ⟨by rfl, ?_⟩) hHeld ?_
    rotate_left 1
    · intro u hSu
      obtain ⟨t0u, t1u⟩ := row_cells hSu.out.1.bT
      obtain ⟨a0u, a1u, a2u, a3u⟩ := HTB.out u hSu.out.1
      obtain ⟨g0u, g1u⟩ := row_cells hSu.out.2
      go_simp
      first | done | with_reducible rfl
    (try simp only [Act.put, List.setIfInBounds_toArray, List.set_cons_zero, List.set_cons_succ])
    refine wpAnyH_take (i := 3) (oi := { dst := some 89, op := Op.fieldAddr 25 (Operand.tmp 88) 0, type := 0, pos := "law.go:176", after := #[{ on := 2, ground := Ground.data }], guard := none }) (v := ?_) rfl (by kernel_rfl) (by kernel_rfl) (by kernel_rfl) (fun _ _ _ h => h) (Or.inl ⟨by rfl, ?_⟩) hHeld ?_
    rotate_left 1
    · intro u hSu
      obtain ⟨t0u, t1u⟩ := row_cells hSu.out.1.bT
      obtain ⟨a0u, a1u, a2u, a3u⟩ := HTB.out u hSu.out.1
      obtain ⟨g0u, g1u⟩ := row_cells hSu.out.2
      go_simp
      first | done | with_reducible rfl
    (try simp only [Act.put, List.setIfInBounds_toArray, List.set_cons_zero, List.set_cons_succ])
    refine wpAnyH_take (i := 4) (oi := { dst := some 90, op := Op.load 3 (Operand.tmp 89), type := 3, pos := "law.go:176", after := #[{ on := 3, ground := Ground.data }], guard := none }) (v := ?_) rfl (by kernel_rfl) (by kernel_rfl) (by kernel_rfl) (fun _ _ _ h => h) (Or.inl ⟨by rfl, ?_⟩) hHeld ?_
    rotate_left 1
    · intro u hSu
      obtain ⟨t0u, t1u⟩ := row_cells hSu.out.1.bT
      obtain ⟨a0u, a1u, a2u, a3u⟩ := HTB.out u hSu.out.1
      obtain ⟨g0u, g1u⟩ := row_cells hSu.out.2
      go_simp
      first | done | with_reducible rfl
    (try simp only [Act.put, List.setIfInBounds_toArray, List.set_cons_zero, List.set_cons_succ])
    refine wpAnyH_take (i := 5) (oi := { dst := some 91, op := Op.fieldAddr 71 (Operand.tmp 10) 0, type := 0, pos := "law.go:176", after := #[], guard := none }) (v := ?_) rfl (by kernel_rfl) (by kernel_rfl) (by kernel_rfl) (fun _ _ _ h => h) (Or.inl ⟨by rfl, ?_⟩) hHeld ?_
    rotate_left 1
    · intro u hSu
      obtain ⟨t0u, t1u⟩ := row_cells hSu.out.1.bT
      obtain ⟨a0u, a1u, a2u, a3u⟩ := HTB.out u hSu.out.1
      obtain ⟨g0u, g1u⟩ := row_cells hSu.out.2
      go_simp
      first | done | with_reducible rfl
    (try simp only [Act.put, List.setIfInBounds_toArray, List.set_cons_zero, List.set_cons_succ])
    refine wpAnyH_take (i := 6) (oi := { dst := some 92, op := Op.load 3 (Operand.tmp 91), type := 3, pos := "law.go:176", after := #[{ on := 5, ground := Ground.data }], guard := none }) (v := ?_) rfl (by kernel_rfl) (by kernel_rfl) (by kernel_rfl) (fun _ _ _ h => h) (Or.inl ⟨by rfl, ?_⟩) hHeld ?_
    rotate_left 1
    · intro u hSu
      obtain ⟨t0u, t1u⟩ := row_cells hSu.out.1.bT
      obtain ⟨a0u, a1u, a2u, a3u⟩ := HTB.out u hSu.out.1
      obtain ⟨g0u, g1u⟩ := row_cells hSu.out.2
      go_simp
      first | done | with_reducible rfl
    (try simp only [Act.put, List.setIfInBounds_toArray, List.set_cons_zero, List.set_cons_succ])
    refine wpAnyH_take (i := 7) (oi := { dst := some 93, op := Op.binOp BinOp.neq 3 (Operand.tmp 90) (Operand.tmp 92) 3, type := 4, pos := "law.go:176", after := #[{ on := 4, ground := Ground.data }, { on := 6, ground := Ground.data }], guard := none }) (v := .bool true) rfl (by kernel_rfl) (by kernel_rfl) (by kernel_rfl) (fun _ _ _ h => h) (Or.inl ⟨by rfl, ?_⟩) hHeld ?_
    · intro u hSu
      obtain ⟨t0u, t1u⟩ := row_cells hSu.out.1.bT
      obtain ⟨a0u, a1u, a2u, a3u⟩ := HTB.out u hSu.out.1
      obtain ⟨g0u, g1u⟩ := row_cells hSu.out.2
      go_simp
      first | done | with_reducible rfl
    (try simp only [Act.put, List.setIfInBounds_toArray, List.set_cons_zero, List.set_cons_succ])
    refine wpAnyH_take (i := 8) (oi := { dst := some 94, op := Op.move (Operand.tmp 93), type := 4, pos := "law.go:176", after := #[{ on := 7, ground := Ground.data }], guard := none }) (v := ?_) rfl (by kernel_rfl) (by kernel_rfl) (by kernel_rfl) (fun _ _ _ h => h) (Or.inl ⟨by rfl, ?_⟩) hHeld ?_
    rotate_left 1
    · intro u hSu
      obtain ⟨t0u, t1u⟩ := row_cells hSu.out.1.bT
      obtain ⟨a0u, a1u, a2u, a3u⟩ := HTB.out u hSu.out.1
      obtain ⟨g0u, g1u⟩ := row_cells hSu.out.2
      go_simp
      first | done | with_reducible rfl
    (try simp only [Act.put, List.setIfInBounds_toArray, List.set_cons_zero, List.set_cons_succ])
    refine wpAnyH_take (i := 9) (oi := { dst := some 95, op := Op.move (Operand.tmp 12), type := 22, pos := "law.go:176", after := #[{ on := 8, ground := Ground.guard }], guard := some (8, true) }) (v := ?_) rfl (by kernel_rfl) (by kernel_rfl) (by kernel_rfl) (fun _ _ _ h => h) (Or.inl ⟨by rfl, ?_⟩) hHeld ?_
    rotate_left 1
    · intro u hSu
      obtain ⟨t0u, t1u⟩ := row_cells hSu.out.1.bT
      obtain ⟨a0u, a1u, a2u, a3u⟩ := HTB.out u hSu.out.1
      obtain ⟨g0u, g1u⟩ := row_cells hSu.out.2
      go_simp
      first | done | with_reducible rfl
    (try simp only [Act.put, List.setIfInBounds_toArray, List.set_cons_zero, List.set_cons_succ])
    refine wpAnyH_take (i := 10) (oi := { dst := some 96, op := Op.call { callee := Callee.builtin Builtin.len, args := #[Operand.tmp 95], argTypes := #[22] }, type := 3, pos := "law.go:176", after := #[{ on := 9, ground := Ground.data }, { on := 8, ground := Ground.guard }], guard := some (8, true) }) (v := ?_) rfl (by kernel_rfl) (by kernel_rfl) (by kernel_rfl) (fun _ _ _ h => h) (Or.inl ⟨by rfl, ?_⟩) hHeld ?_
    rotate_left 1
    · intro u hSu
      obtain ⟨t0u, t1u⟩ := row_cells hSu.out.1.bT
      obtain ⟨a0u, a1u, a2u, a3u⟩ := HTB.out u hSu.out.1
      obtain ⟨g0u, g1u⟩ := row_cells hSu.out.2
      go_simp
      first | done | with_reducible rfl
    (try simp only [Act.put, List.setIfInBounds_toArray, List.set_cons_zero, List.set_cons_succ])
    refine wpAnyH_take (i := 11) (oi := { dst := some 97, op := Op.binOp BinOp.gtr 3 (Operand.tmp 96) (Operand.const (Value.int IntKind.i64 0)) 3, type := 4, pos := "law.go:176", after := #[{ on := 10, ground := Ground.data }, { on := 8, ground := Ground.guard }], guard := some (8, true) }) (v := .bool false) rfl (by kernel_rfl) (by kernel_rfl) (by kernel_rfl) (fun _ _ _ h => h) (Or.inl ⟨by rfl, ?_⟩) hHeld ?_
    · intro u hSu
      obtain ⟨t0u, t1u⟩ := row_cells hSu.out.1.bT
      obtain ⟨a0u, a1u, a2u, a3u⟩ := HTB.out u hSu.out.1
      obtain ⟨g0u, g1u⟩ := row_cells hSu.out.2
      go_simp
      first | done | with_reducible rfl
    (try simp only [Act.put, List.setIfInBounds_toArray, List.set_cons_zero, List.set_cons_succ])
    refine wpAnyH_take (i := 12) (oi := { dst := some 98, op := Op.move (Operand.tmp 14), type := 4, pos := "law.go:176", after := #[{ on := 8, ground := Ground.guard }], guard := some (8, true) }) (v := ?_) rfl (by kernel_rfl) (by kernel_rfl) (by kernel_rfl) (fun _ _ _ h => h) (Or.inl ⟨by rfl, ?_⟩) hHeld ?_
    rotate_left 1
    · intro u hSu
      obtain ⟨t0u, t1u⟩ := row_cells hSu.out.1.bT
      obtain ⟨a0u, a1u, a2u, a3u⟩ := HTB.out u hSu.out.1
      obtain ⟨g0u, g1u⟩ := row_cells hSu.out.2
      go_simp
      first | done | with_reducible rfl
    (try simp only [Act.put, List.setIfInBounds_toArray, List.set_cons_zero, List.set_cons_succ])
    refine wpAnyH_take (i := 13) (oi := { dst := some 99, op := Op.move (Operand.tmp 98), type := 4, pos := "law.go:176", after := #[{ on := 12, ground := Ground.data }, { on := 8, ground := Ground.chain }, { on := 8, ground := Ground.guard }], guard := some (8, true) }) (v := ?_) rfl (by kernel_rfl) (by kernel_rfl) (by kernel_rfl) (fun _ _ _ h => h) (Or.inl ⟨by rfl, ?_⟩) hHeld ?_
    rotate_left 1
    · intro u hSu
      obtain ⟨t0u, t1u⟩ := row_cells hSu.out.1.bT
      obtain ⟨a0u, a1u, a2u, a3u⟩ := HTB.out u hSu.out.1
      obtain ⟨g0u, g1u⟩ := row_cells hSu.out.2
      go_simp
      first | done | with_reducible rfl
    (try simp only [Act.put, List.setIfInBounds_toArray, List.set_cons_zero, List.set_cons_succ])
    refine wpAnyH_take (i := 14) (oi := { dst := some 100, op := Op.load 45 (Operand.tmp 4), type := 45, pos := "law.go:176", after := #[{ on := 13, ground := Ground.guard }], guard := some (13, true) }) (v := undef) rfl (by kernel_rfl) (by kernel_rfl) (by kernel_rfl) (fun _ _ _ h => h) (Or.inr ⟨by rfl, rfl⟩) hHeld ?_
    (try simp only [Act.put, List.setIfInBounds_toArray, List.set_cons_zero, List.set_cons_succ])
    refine wpAnyH_take (i := 15) (oi := { dst := some 101, op := Op.fieldAddr 71 (Operand.tmp 10) 0, type := 0, pos := "law.go:176", after := #[{ on := 13, ground := Ground.guard }], guard := some (13, true) }) (v := undef) rfl (by kernel_rfl) (by kernel_rfl) (by kernel_rfl) (fun _ _ _ h => h) (Or.inr ⟨by rfl, rfl⟩) hHeld ?_
    (try simp only [Act.put, List.setIfInBounds_toArray, List.set_cons_zero, List.set_cons_succ])
    refine wpAnyH_take (i := 16) (oi := { dst := some 102, op := Op.load 3 (Operand.tmp 101), type := 3, pos := "law.go:176", after := #[{ on := 15, ground := Ground.data }, { on := 13, ground := Ground.guard }], guard := some (13, true) }) (v := undef) rfl (by kernel_rfl) (by kernel_rfl) (by kernel_rfl) (fun _ _ _ h => h) (Or.inr ⟨by rfl, rfl⟩) hHeld ?_
    (try simp only [Act.put, List.setIfInBounds_toArray, List.set_cons_zero, List.set_cons_succ])
    refine wpAnyH_take (i := 17) (oi := { dst := some 103, op := Op.call { callee := Callee.value (Operand.func 43), args := #[Operand.tmp 100, Operand.tmp 102], argTypes := #[45, 3] }, type := 4, pos := "law.go:176", after := #[{ on := 14, ground := Ground.data }, { on := 16, ground := Ground.data }, { on := 13, ground := Ground.chain }, { on := 13, ground := Ground.guard }], guard := some (13, true) }) (v := undef) rfl (by kernel_rfl) (by kernel_rfl) (by kernel_rfl) (fun _ _ _ h => h) (Or.inr ⟨by rfl, rfl⟩) hHeld ?_
    (try simp only [Act.put, List.setIfInBounds_toArray, List.set_cons_zero, List.set_cons_succ])
    refine wpAnyH_take (i := 18) (oi := { dst := some 104, op := Op.pick (Operand.tmp 99) (Operand.tmp 103) (Operand.const (Value.bool false)), type := 4, pos := "law.go:176", after := #[{ on := 13, ground := Ground.data }, { on := 17, ground := Ground.data }, { on := 8, ground := Ground.guard }], guard := some (8, true) }) (v := ?_) rfl (by kernel_rfl) (by kernel_rfl) (by kernel_rfl) (fun _ _ _ h => h) (Or.inl ⟨by rfl, ?_⟩) hHeld ?_
    rotate_left 1
    · intro u hSu
      obtain ⟨t0u, t1u⟩ := row_cells hSu.out.1.bT
      obtain ⟨a0u, a1u, a2u, a3u⟩ := HTB.out u hSu.out.1
      obtain ⟨g0u, g1u⟩ := row_cells hSu.out.2
      go_simp
      first | done | with_reducible rfl
    (try simp only [Act.put, List.setIfInBounds_toArray, List.set_cons_zero, List.set_cons_succ])
    refine wpAnyH_take (i := 19) (oi := { dst := some 105, op := Op.binOp BinOp.neq 4 (Operand.tmp 97) (Operand.tmp 104) 4, type := 4, pos := "law.go:176", after := #[{ on := 11, ground := Ground.data }, { on := 18, ground := Ground.data }, { on := 8, ground := Ground.guard }], guard := some (8, true) }) (v := ?_) rfl (by kernel_rfl) (by kernel_rfl) (by kernel_rfl) (fun _ _ _ h => h) (Or.inl ⟨by rfl, ?_⟩) hHeld ?_
    rotate_left 1
    · intro u hSu
      obtain ⟨t0u, t1u⟩ := row_cells hSu.out.1.bT
      obtain ⟨a0u, a1u, a2u, a3u⟩ := HTB.out u hSu.out.1
      obtain ⟨g0u, g1u⟩ := row_cells hSu.out.2
      go_simp
      first | done | with_reducible rfl
    (try simp only [Act.put, List.setIfInBounds_toArray, List.set_cons_zero, List.set_cons_succ])
    refine wpAnyH_take (i := 20) (oi := { dst := some 106, op := Op.pick (Operand.tmp 94) (Operand.tmp 105) (Operand.const (Value.bool false)), type := 4, pos := "law.go:176", after := #[{ on := 8, ground := Ground.data }, { on := 19, ground := Ground.data }], guard := none }) (v := ?_) rfl (by kernel_rfl) (by kernel_rfl) (by kernel_rfl) (fun _ _ _ h => h) (Or.inl ⟨by rfl, ?_⟩) hHeld ?_
    rotate_left 1
    · intro u hSu
      obtain ⟨t0u, t1u⟩ := row_cells hSu.out.1.bT
      obtain ⟨a0u, a1u, a2u, a3u⟩ := HTB.out u hSu.out.1
      obtain ⟨g0u, g1u⟩ := row_cells hSu.out.2
      go_simp
      first | done | with_reducible rfl
    (try simp only [Act.put, List.setIfInBounds_toArray, List.set_cons_zero, List.set_cons_succ])
    refine wpAnyH_done (by kernel_rfl) ?_ _
    have K12 := hHeld
    clear hHeld
    clear K11
    go_wp2_with fail
    go_loopw [15] (fun v wr => v = .int .i64 0 ∧ Hid (LR w ⟨R, L0, pR, cR, pL, cL⟩ sub len E pE cE B C Z (some ⟨b, off, none⟩) cA Ts wr ∧ wr.heap[g]? = some (.cells #[.int .i64 er, .int .i64 yi] 71 (0, 0)))) (fun _ _ => 0)
    case atStart => exact ⟨rfl, K12⟩
    case round =>
    clear K12
    obtain ⟨rfl, K⟩ := hrel
    obtain ⟨w13, hw13⟩ : ∃ w13, w13 = wr := ⟨_, rfl⟩
    rw [← hw13] at K ⊢
    clear hw13
    go_upto_region 21 with fail
    refine wp_region_held_drew (S := fun w' => Hid (LR w ⟨R, L0, pR, cR, pL, cL⟩ sub len E pE cE B C Z (some ⟨b, off, none⟩) cA Ts w' ∧ w'.heap[g]? = some (.cells #[.int .i64 er, .int .i64 yi] 71 (0, 0)))) (by kernel_rfl) (Lib.hid (And.intro (K.out.1.keep (grown_drew (grown_refl _ none))) (kept_row K.out.2 (grown_drew (grown_refl _ none)) (by simp)))) (fun hHeld => ?_)
    refine wpAnyH_take (i := 0) (oi := { dst := some 107, op := Op.move (Operand.tmp 15), type := 3, pos := "law.go:179", after := #[], guard := none }) (v := ?_) rfl (by kernel_rfl) (by kernel_rfl) (by kernel_rfl) (fun _ _ _ h => h) (Or.inl ⟨by rfl, ?_⟩) hHeld ?_
    rotate_left 1
    · intro u hSu
      obtain ⟨t0u, t1u⟩ := row_cells hSu.out.1.bT
      obtain ⟨a0u, a1u, a2u, a3u⟩ := HTB.out u hSu.out.1
      obtain ⟨g0u, g1u⟩ := row_cells hSu.out.2
      go_simp
      first | done | with_reducible rfl
    (try simp only [Act.put, List.setIfInBounds_toArray, List.set_cons_zero, List.set_cons_succ])
    refine wpAnyH_take (i := 1) (oi := { dst := some 108, op := Op.move (Operand.tmp 12), type := 22, pos := "law.go:179", after := #[], guard := none }) (v := ?_) rfl (by kernel_rfl) (by kernel_rfl) (by kernel_rfl) (fun _ _ _ h => h) (Or.inl ⟨by rfl, ?_⟩) hHeld ?_
    rotate_left 1
    · intro u hSu
      obtain ⟨t0u, t1u⟩ := row_cells hSu.out.1.bT
      obtain ⟨a0u, a1u, a2u, a3u⟩ := HTB.out u hSu.out.1
      obtain ⟨g0u, g1u⟩ := row_cells hSu.out.2
      go_simp
      first | done | with_reducible rfl
    (try simp only [Act.put, List.setIfInBounds_toArray, List.set_cons_zero, List.set_cons_succ])
    refine wpAnyH_take (i := 2) (oi := { dst := some 109, op := Op.call { callee := Callee.builtin Builtin.len, args := #[Operand.tmp 108], argTypes := #[22] }, type := 3, pos := "law.go:179", after := #[{ on := 1, ground := Ground.data }], guard := none }) (v := ?_) rfl (by kernel_rfl) (by kernel_rfl) (by kernel_rfl) (fun _ _ _ h => h) (Or.inl ⟨by rfl, ?_⟩) hHeld ?_
    rotate_left 1
    · intro u hSu
      obtain ⟨t0u, t1u⟩ := row_cells hSu.out.1.bT
      obtain ⟨a0u, a1u, a2u, a3u⟩ := HTB.out u hSu.out.1
      obtain ⟨g0u, g1u⟩ := row_cells hSu.out.2
      go_simp
      first | done | with_reducible rfl
    (try simp only [Act.put, List.setIfInBounds_toArray, List.set_cons_zero, List.set_cons_succ])
    refine wpAnyH_take (i := 3) (oi := { dst := some 110, op := Op.binOp BinOp.lss 3 (Operand.tmp 107) (Operand.tmp 109) 3, type := 4, pos := "law.go:179", after := #[{ on := 0, ground := Ground.data }, { on := 2, ground := Ground.data }], guard := none }) (v := .bool false) rfl (by kernel_rfl) (by kernel_rfl) (by kernel_rfl) (fun _ _ _ h => h) (Or.inl ⟨by rfl, ?_⟩) hHeld ?_
    · intro u hSu
      obtain ⟨t0u, t1u⟩ := row_cells hSu.out.1.bT
      obtain ⟨a0u, a1u, a2u, a3u⟩ := HTB.out u hSu.out.1
      obtain ⟨g0u, g1u⟩ := row_cells hSu.out.2
      go_simp
      first | done | with_reducible rfl
    (try simp only [Act.put, List.setIfInBounds_toArray, List.set_cons_zero, List.set_cons_succ])
    refine wpAnyH_take (i := 4) (oi := { dst := some 111, op := Op.move (Operand.tmp 110), type := 4, pos := "law.go:179", after := #[{ on := 3, ground := Ground.data }], guard := none }) (v := ?_) rfl (by kernel_rfl) (by kernel_rfl) (by kernel_rfl) (fun _ _ _ h => h) (Or.inl ⟨by rfl, ?_⟩) hHeld ?_
    rotate_left 1
    · intro u hSu
      obtain ⟨t0u, t1u⟩ := row_cells hSu.out.1.bT
      obtain ⟨a0u, a1u, a2u, a3u⟩ := HTB.out u hSu.out.1
      obtain ⟨g0u, g1u⟩ := row_cells hSu.out.2
      go_simp
      first | done | with_reducible rfl
    (try simp only [Act.put, List.setIfInBounds_toArray, List.set_cons_zero, List.set_cons_succ])
    refine wpAnyH_take (i := 5) (oi := { dst := some 112, op := Op.move (Operand.tmp 6), type := 29, pos := "law.go:179", after := #[{ on := 4, ground := Ground.guard }], guard := some (4, true) }) (v := undef) rfl (by kernel_rfl) (by kernel_rfl) (by kernel_rfl) (fun _ _ _ h => h) (Or.inr ⟨by rfl, rfl⟩) hHeld ?_
    (try simp only [Act.put, List.setIfInBounds_toArray, List.set_cons_zero, List.set_cons_succ])
    refine wpAnyH_take (i := 6) (oi := { dst := some 113, op := Op.move (Operand.tmp 8), type := 3, pos := "law.go:179", after := #[{ on := 4, ground := Ground.guard }], guard := some (4, true) }) (v := undef) rfl (by kernel_rfl) (by kernel_rfl) (by kernel_rfl) (fun _ _ _ h => h) (Or.inr ⟨by rfl, rfl⟩) hHeld ?_
    (try simp only [Act.put, List.setIfInBounds_toArray, List.set_cons_zero, List.set_cons_succ])
    refine wpAnyH_take (i := 7) (oi := { dst := some 114, op := Op.indexAddr 29 (Operand.tmp 112) (Operand.tmp 113), type := 0, pos := "law.go:179", after := #[{ on := 5, ground := Ground.data }, { on := 6, ground := Ground.data }, { on := 4, ground := Ground.guard }], guard := some (4, true) }) (v := undef) rfl (by kernel_rfl) (by kernel_rfl) (by kernel_rfl) (fun _ _ _ h => h) (Or.inr ⟨by rfl, rfl⟩) hHeld ?_
    (try simp only [Act.put, List.setIfInBounds_toArray, List.set_cons_zero, List.set_cons_succ])
    refine wpAnyH_take (i := 8) (oi := { dst := some 115, op := Op.fieldAddr 25 (Operand.tmp 114) 0, type := 0, pos := "law.go:179", after := #[{ on := 7, ground := Ground.data }, { on := 4, ground := Ground.guard }], guard := some (4, true) }) (v := undef) rfl (by kernel_rfl) (by kernel_rfl) (by kernel_rfl) (fun _ _ _ h => h) (Or.inr ⟨by rfl, rfl⟩) hHeld ?_
    (try simp only [Act.put, List.setIfInBounds_toArray, List.set_cons_zero, List.set_cons_succ])
    refine wpAnyH_take (i := 9) (oi := { dst := some 116, op := Op.load 3 (Operand.tmp 115), type := 3, pos := "law.go:179", after := #[{ on := 8, ground := Ground.data }, { on := 4, ground := Ground.guard }], guard := some (4, true) }) (v := undef) rfl (by kernel_rfl) (by kernel_rfl) (by kernel_rfl) (fun _ _ _ h => h) (Or.inr ⟨by rfl, rfl⟩) hHeld ?_
    (try simp only [Act.put, List.setIfInBounds_toArray, List.set_cons_zero, List.set_cons_succ])
    refine wpAnyH_take (i := 10) (oi := { dst := some 117, op := Op.fieldAddr 71 (Operand.tmp 10) 0, type := 0, pos := "law.go:179", after := #[{ on := 4, ground := Ground.guard }], guard := some (4, true) }) (v := undef) rfl (by kernel_rfl) (by kernel_rfl) (by kernel_rfl) (fun _ _ _ h => h) (Or.inr ⟨by rfl, rfl⟩) hHeld ?_
    (try simp only [Act.put, List.setIfInBounds_toArray, List.set_cons_zero, List.set_cons_succ])
    refine wpAnyH_take (i := 11) (oi := { dst := some 118, op := Op.load 3 (Operand.tmp 117), type := 3, pos := "law.go:179", after := #[{ on := 10, ground := Ground.data }, { on := 4, ground := Ground.guard }], guard := some (4, true) }) (v := undef) rfl (by kernel_rfl) (by kernel_rfl) (by kernel_rfl) (fun _ _ _ h => h) (Or.inr ⟨by rfl, rfl⟩) hHeld ?_
    (try simp only [Act.put, List.setIfInBounds_toArray, List.set_cons_zero, List.set_cons_succ])
    refine wpAnyH_take (i := 12) (oi := { dst := some 119, op := Op.binOp BinOp.neq 3 (Operand.tmp 116) (Operand.tmp 118) 3, type := 4, pos := "law.go:179", after := #[{ on := 9, ground := Ground.data }, { on := 11, ground := Ground.data }, { on := 4, ground := Ground.guard }], guard := some (4, true) }) (v := undef) rfl (by kernel_rfl) (by kernel_rfl) (by kernel_rfl) (fun _ _ _ h => h) (Or.inr ⟨by rfl, rfl⟩) hHeld ?_
    (try simp only [Act.put, List.setIfInBounds_toArray, List.set_cons_zero, List.set_cons_succ])
    refine wpAnyH_take (i := 13) (oi := { dst := some 120, op := Op.pick (Operand.tmp 111) (Operand.tmp 119) (Operand.const (Value.bool false)), type := 4, pos := "law.go:179", after := #[{ on := 4, ground := Ground.data }, { on := 12, ground := Ground.data }], guard := none }) (v := ?_) rfl (by kernel_rfl) (by kernel_rfl) (by kernel_rfl) (fun _ _ _ h => h) (Or.inl ⟨by rfl, ?_⟩) hHeld ?_
    rotate_left 1
    · intro u hSu
      obtain ⟨t0u, t1u⟩ := row_cells hSu.out.1.bT
      obtain ⟨a0u, a1u, a2u, a3u⟩ := HTB.out u hSu.out.1
      obtain ⟨g0u, g1u⟩ := row_cells hSu.out.2
      go_simp
      first | done | with_reducible rfl
    (try simp only [Act.put, List.setIfInBounds_toArray, List.set_cons_zero, List.set_cons_succ])
    refine wpAnyH_done (by kernel_rfl) ?_ _
    have K14 := Lib.hid hHeld.out.1
    clear hHeld
    go_wp2_with fail
    exact ⟨⟨k + 1, by omega, congrArg _ (by omega), K14⟩, by simp only [RowKit.intOf]; omega⟩
  obtain ⟨cb, hcb⟩ : ∃ cb, capV R L0 er = cb := ⟨_, rfl⟩
  have HCB := Lib.hid hcb
  have HLB : Hid (decide (0 < xn.length) = cb) := Lib.hid (by rw [HSO.out, hcb, Bool.true_and])
  clear hcb
  refine wp_region_held_drew (S := fun w' => Hid (LR w ⟨R, L0, pR, cR, pL, cL⟩ sub len E pE cE B C Z (some ⟨b, off, none⟩) cA Ts w' ∧ w'.heap[g]? = some (.cells #[.int .i64 er, .int .i64 yi] 71 (0, 0)))) (by kernel_rfl) (Lib.hid (And.intro (K11.out.1.keep (grown_drew (grown_refl _ none))) (kept_row K11.out.2 (grown_drew (grown_refl _ none)) (by simp)))) (fun hHeld => ?_)
  refine wpAnyH_take (i := 0) (oi := { dst := some 86, op := Op.move (Operand.tmp 6), type := 29, pos := "law.go:176", after := #[], guard := none }) (v := ?_) rfl (by kernel_rfl) (by kernel_rfl) (by kernel_rfl) (fun _ _ _ h => h) (Or.inl ⟨by rfl, ?_⟩) hHeld ?_
  rotate_left 1
  · intro u hSu
    obtain ⟨t0u, t1u⟩ := row_cells hSu.out.1.bT
    obtain ⟨a0u, a1u, a2u, a3u⟩ := HTB.out u hSu.out.1
    obtain ⟨g0u, g1u⟩ := row_cells hSu.out.2
    go_simp
    first | done | with_reducible rfl
  (try simp only [Act.put, List.setIfInBounds_toArray, List.set_cons_zero, List.set_cons_succ])
  refine wpAnyH_take (i := 1) (oi := { dst := some 87, op := Op.move (Operand.tmp 8), type := 3, pos := "law.go:176", after := #[], guard := none }) (v := ?_) rfl (by kernel_rfl) (by kernel_rfl) (by kernel_rfl) (fun _ _ _ h => h) (Or.inl ⟨by rfl, ?_⟩) hHeld ?_
  rotate_left 1
  · intro u hSu
    obtain ⟨t0u, t1u⟩ := row_cells hSu.out.1.bT
    obtain ⟨a0u, a1u, a2u, a3u⟩ := HTB.out u hSu.out.1
    obtain ⟨g0u, g1u⟩ := row_cells hSu.out.2
    go_simp
    first | done | with_reducible rfl
  (try simp only [Act.put, List.setIfInBounds_toArray, List.set_cons_zero, List.set_cons_succ])
  refine wpAnyH_take (i := 2) (oi := { dst := some 88, op := Op.indexAddr 29 (Operand.tmp 86) (Operand.tmp 87), type := 0, pos := "law.go:176", after := #[{ on := 0, ground := Ground.data }, { on := 1, ground := Ground.data }], guard := none }) (v := ?_) rfl (by kernel_rfl) (by kernel_rfl) (by kernel_rfl) (fun _ _ _ h => h) (Or.inl ⟨by rfl, ?_⟩) hHeld ?_
  rotate_left 1
  · intro u hSu
    obtain ⟨t0u, t1u⟩ := row_cells hSu.out.1.bT
    obtain ⟨a0u, a1u, a2u, a3u⟩ := HTB.out u hSu.out.1
    obtain ⟨g0u, g1u⟩ := row_cells hSu.out.2
    go_simp
    first | done | with_reducible rfl
  (try simp only [Act.put, List.setIfInBounds_toArray, List.set_cons_zero, List.set_cons_succ])
  refine wpAnyH_take (i := 3) (oi := { dst := some 89, op := Op.fieldAddr 25 (Operand.tmp 88) 0, type := 0, pos := "law.go:176", after := #[{ on := 2, ground := Ground.data }], guard := none }) (v := ?_) rfl (by kernel_rfl) (by kernel_rfl) (by kernel_rfl) (fun _ _ _ h => h) (Or.inl ⟨by rfl, ?_⟩) hHeld ?_
  rotate_left 1
  · intro u hSu
    obtain ⟨t0u, t1u⟩ := row_cells hSu.out.1.bT
    obtain ⟨a0u, a1u, a2u, a3u⟩ := HTB.out u hSu.out.1
    obtain ⟨g0u, g1u⟩ := row_cells hSu.out.2
    go_simp
    first | done | with_reducible rfl
  (try simp only [Act.put, List.setIfInBounds_toArray, List.set_cons_zero, List.set_cons_succ])
  refine wpAnyH_take (i := 4) (oi := { dst := some 90, op := Op.load 3 (Operand.tmp 89), type := 3, pos := "law.go:176", after := #[{ on := 3, ground := Ground.data }], guard := none }) (v := ?_) rfl (by kernel_rfl) (by kernel_rfl) (by kernel_rfl) (fun _ _ _ h => h) (Or.inl ⟨by rfl, ?_⟩) hHeld ?_
  rotate_left 1
  · intro u hSu
    obtain ⟨t0u, t1u⟩ := row_cells hSu.out.1.bT
    obtain ⟨a0u, a1u, a2u, a3u⟩ := HTB.out u hSu.out.1
    obtain ⟨g0u, g1u⟩ := row_cells hSu.out.2
    go_simp
    first | done | with_reducible rfl
  (try simp only [Act.put, List.setIfInBounds_toArray, List.set_cons_zero, List.set_cons_succ])
  refine wpAnyH_take (i := 5) (oi := { dst := some 91, op := Op.fieldAddr 71 (Operand.tmp 10) 0, type := 0, pos := "law.go:176", after := #[], guard := none }) (v := ?_) rfl (by kernel_rfl) (by kernel_rfl) (by kernel_rfl) (fun _ _ _ h => h) (Or.inl ⟨by rfl, ?_⟩) hHeld ?_
  rotate_left 1
  · intro u hSu
    obtain ⟨t0u, t1u⟩ := row_cells hSu.out.1.bT
    obtain ⟨a0u, a1u, a2u, a3u⟩ := HTB.out u hSu.out.1
    obtain ⟨g0u, g1u⟩ := row_cells hSu.out.2
    go_simp
    first | done | with_reducible rfl
  (try simp only [Act.put, List.setIfInBounds_toArray, List.set_cons_zero, List.set_cons_succ])
  refine wpAnyH_take (i := 6) (oi := { dst := some 92, op := Op.load 3 (Operand.tmp 91), type := 3, pos := "law.go:176", after := #[{ on := 5, ground := Ground.data }], guard := none }) (v := ?_) rfl (by kernel_rfl) (by kernel_rfl) (by kernel_rfl) (fun _ _ _ h => h) (Or.inl ⟨by rfl, ?_⟩) hHeld ?_
  rotate_left 1
  · intro u hSu
    obtain ⟨t0u, t1u⟩ := row_cells hSu.out.1.bT
    obtain ⟨a0u, a1u, a2u, a3u⟩ := HTB.out u hSu.out.1
    obtain ⟨g0u, g1u⟩ := row_cells hSu.out.2
    go_simp
    first | done | with_reducible rfl
  (try simp only [Act.put, List.setIfInBounds_toArray, List.set_cons_zero, List.set_cons_succ])
  refine wpAnyH_take (i := 7) (oi := { dst := some 93, op := Op.binOp BinOp.neq 3 (Operand.tmp 90) (Operand.tmp 92) 3, type := 4, pos := "law.go:176", after := #[{ on := 4, ground := Ground.data }, { on := 6, ground := Ground.data }], guard := none }) (v := .bool true) rfl (by kernel_rfl) (by kernel_rfl) (by kernel_rfl) (fun _ _ _ h => h) (Or.inl ⟨by rfl, ?_⟩) hHeld ?_
  · intro u hSu
    obtain ⟨t0u, t1u⟩ := row_cells hSu.out.1.bT
    obtain ⟨a0u, a1u, a2u, a3u⟩ := HTB.out u hSu.out.1
    obtain ⟨g0u, g1u⟩ := row_cells hSu.out.2
    go_simp
    first | done | with_reducible rfl
  (try simp only [Act.put, List.setIfInBounds_toArray, List.set_cons_zero, List.set_cons_succ])
  refine wpAnyH_take (i := 8) (oi := { dst := some 94, op := Op.move (Operand.tmp 93), type := 4, pos := "law.go:176", after := #[{ on := 7, ground := Ground.data }], guard := none }) (v := ?_) rfl (by kernel_rfl) (by kernel_rfl) (by kernel_rfl) (fun _ _ _ h => h) (Or.inl ⟨by rfl, ?_⟩) hHeld ?_
  rotate_left 1
  · intro u hSu
    obtain ⟨t0u, t1u⟩ := row_cells hSu.out.1.bT
    obtain ⟨a0u, a1u, a2u, a3u⟩ := HTB.out u hSu.out.1
    obtain ⟨g0u, g1u⟩ := row_cells hSu.out.2
    go_simp
    first | done | with_reducible rfl
  (try simp only [Act.put, List.setIfInBounds_toArray, List.set_cons_zero, List.set_cons_succ])
  refine wpAnyH_take (i := 9) (oi := { dst := some 95, op := Op.move (Operand.tmp 12), type := 22, pos := "law.go:176", after := #[{ on := 8, ground := Ground.guard }], guard := some (8, true) }) (v := ?_) rfl (by kernel_rfl) (by kernel_rfl) (by kernel_rfl) (fun _ _ _ h => h) (Or.inl ⟨by rfl, ?_⟩) hHeld ?_
  rotate_left 1
  · intro u hSu
    obtain ⟨t0u, t1u⟩ := row_cells hSu.out.1.bT
    obtain ⟨a0u, a1u, a2u, a3u⟩ := HTB.out u hSu.out.1
    obtain ⟨g0u, g1u⟩ := row_cells hSu.out.2
    go_simp
    first | done | with_reducible rfl
  (try simp only [Act.put, List.setIfInBounds_toArray, List.set_cons_zero, List.set_cons_succ])
  refine wpAnyH_take (i := 10) (oi := { dst := some 96, op := Op.call { callee := Callee.builtin Builtin.len, args := #[Operand.tmp 95], argTypes := #[22] }, type := 3, pos := "law.go:176", after := #[{ on := 9, ground := Ground.data }, { on := 8, ground := Ground.guard }], guard := some (8, true) }) (v := ?_) rfl (by kernel_rfl) (by kernel_rfl) (by kernel_rfl) (fun _ _ _ h => h) (Or.inl ⟨by rfl, ?_⟩) hHeld ?_
  rotate_left 1
  · intro u hSu
    obtain ⟨t0u, t1u⟩ := row_cells hSu.out.1.bT
    obtain ⟨a0u, a1u, a2u, a3u⟩ := HTB.out u hSu.out.1
    obtain ⟨g0u, g1u⟩ := row_cells hSu.out.2
    go_simp
    first | done | with_reducible rfl
  (try simp only [Act.put, List.setIfInBounds_toArray, List.set_cons_zero, List.set_cons_succ])
  refine wpAnyH_take (i := 11) (oi := { dst := some 97, op := Op.binOp BinOp.gtr 3 (Operand.tmp 96) (Operand.const (Value.int IntKind.i64 0)) 3, type := 4, pos := "law.go:176", after := #[{ on := 10, ground := Ground.data }, { on := 8, ground := Ground.guard }], guard := some (8, true) }) (v := .bool cb) rfl (by kernel_rfl) (by kernel_rfl) (by kernel_rfl) (fun _ _ _ h => h) (Or.inl ⟨by rfl, ?_⟩) hHeld ?_
  · intro u hSu
    obtain ⟨t0u, t1u⟩ := row_cells hSu.out.1.bT
    obtain ⟨a0u, a1u, a2u, a3u⟩ := HTB.out u hSu.out.1
    obtain ⟨g0u, g1u⟩ := row_cells hSu.out.2
    rw [← HLB.out]
    go_simp
    first | done | with_reducible rfl
  (try simp only [Act.put, List.setIfInBounds_toArray, List.set_cons_zero, List.set_cons_succ])
  refine wpAnyH_take (i := 12) (oi := { dst := some 98, op := Op.move (Operand.tmp 14), type := 4, pos := "law.go:176", after := #[{ on := 8, ground := Ground.guard }], guard := some (8, true) }) (v := ?_) rfl (by kernel_rfl) (by kernel_rfl) (by kernel_rfl) (fun _ _ _ h => h) (Or.inl ⟨by rfl, ?_⟩) hHeld ?_
  rotate_left 1
  · intro u hSu
    obtain ⟨t0u, t1u⟩ := row_cells hSu.out.1.bT
    obtain ⟨a0u, a1u, a2u, a3u⟩ := HTB.out u hSu.out.1
    obtain ⟨g0u, g1u⟩ := row_cells hSu.out.2
    go_simp
    first | done | with_reducible rfl
  (try simp only [Act.put, List.setIfInBounds_toArray, List.set_cons_zero, List.set_cons_succ])
  refine wpAnyH_take (i := 13) (oi := { dst := some 99, op := Op.move (Operand.tmp 98), type := 4, pos := "law.go:176", after := #[{ on := 12, ground := Ground.data }, { on := 8, ground := Ground.chain }, { on := 8, ground := Ground.guard }], guard := some (8, true) }) (v := ?_) rfl (by kernel_rfl) (by kernel_rfl) (by kernel_rfl) (fun _ _ _ h => h) (Or.inl ⟨by rfl, ?_⟩) hHeld ?_
  rotate_left 1
  · intro u hSu
    obtain ⟨t0u, t1u⟩ := row_cells hSu.out.1.bT
    obtain ⟨a0u, a1u, a2u, a3u⟩ := HTB.out u hSu.out.1
    obtain ⟨g0u, g1u⟩ := row_cells hSu.out.2
    go_simp
    first | done | with_reducible rfl
  (try simp only [Act.put, List.setIfInBounds_toArray, List.set_cons_zero, List.set_cons_succ])
  refine wpAnyH_take (i := 14) (oi := { dst := some 100, op := Op.load 45 (Operand.tmp 4), type := 45, pos := "law.go:176", after := #[{ on := 13, ground := Ground.guard }], guard := some (13, true) }) (v := ?_) rfl (by kernel_rfl) (by kernel_rfl) (by kernel_rfl) (fun _ _ _ h => h) (Or.inl ⟨by rfl, ?_⟩) hHeld ?_
  rotate_left 1
  · intro u hSu
    obtain ⟨t0u, t1u⟩ := row_cells hSu.out.1.bT
    obtain ⟨a0u, a1u, a2u, a3u⟩ := HTB.out u hSu.out.1
    obtain ⟨g0u, g1u⟩ := row_cells hSu.out.2
    go_simp
    first | done | with_reducible rfl
  (try simp only [Act.put, List.setIfInBounds_toArray, List.set_cons_zero, List.set_cons_succ])
  refine wpAnyH_take (i := 15) (oi := { dst := some 101, op := Op.fieldAddr 71 (Operand.tmp 10) 0, type := 0, pos := "law.go:176", after := #[{ on := 13, ground := Ground.guard }], guard := some (13, true) }) (v := ?_) rfl (by kernel_rfl) (by kernel_rfl) (by kernel_rfl) (fun _ _ _ h => h) (Or.inl ⟨by rfl, ?_⟩) hHeld ?_
  rotate_left 1
  · intro u hSu
    obtain ⟨t0u, t1u⟩ := row_cells hSu.out.1.bT
    obtain ⟨a0u, a1u, a2u, a3u⟩ := HTB.out u hSu.out.1
    obtain ⟨g0u, g1u⟩ := row_cells hSu.out.2
    go_simp
    first | done | with_reducible rfl
  (try simp only [Act.put, List.setIfInBounds_toArray, List.set_cons_zero, List.set_cons_succ])
  refine wpAnyH_take (i := 16) (oi := { dst := some 102, op := Op.load 3 (Operand.tmp 101), type := 3, pos := "law.go:176", after := #[{ on := 15, ground := Ground.data }, { on := 13, ground := Ground.guard }], guard := some (13, true) }) (v := ?_) rfl (by kernel_rfl) (by kernel_rfl) (by kernel_rfl) (fun _ _ _ h => h) (Or.inl ⟨by rfl, ?_⟩) hHeld ?_
  rotate_left 1
  · intro u hSu
    obtain ⟨t0u, t1u⟩ := row_cells hSu.out.1.bT
    obtain ⟨a0u, a1u, a2u, a3u⟩ := HTB.out u hSu.out.1
    obtain ⟨g0u, g1u⟩ := row_cells hSu.out.2
    go_simp
    first | done | with_reducible rfl
  (try simp only [Act.put, List.setIfInBounds_toArray, List.set_cons_zero, List.set_cons_succ])
  refine wpAnyH_ready (rs := [17]) (by kernel_rfl) (by simp) ?_
  refine AllReadyH.cons (o := { dst := some 103, op := Op.call { callee := Callee.value (Operand.func 43), args := #[Operand.tmp 100, Operand.tmp 102], argTypes := #[45, 3] }, type := 4, pos := "law.go:176", after := #[{ on := 14, ground := Ground.data }, { on := 16, ground := Ground.data }, { on := 13, ground := Ground.chain }, { on := 13, ground := Ground.guard }], guard := some (13, true) }) rfl (fun Kz hK => ?_) AllReadyH.nil
  go_simp
  go_at_call 43
  refine (rcap_any ⟨R, L0, pR, cR, pL, cL⟩ er _ _ hHeld.out.1.t).mono ?_
  rintro e wb ⟨rfl, hg⟩
  rw [HCB.out]
  have HN := Lib.hid (And.intro (hHeld.out.1.keep hg) (kept_row hHeld.out.2 hg (by simp)))
  clear hg
  simp only
  refine hK.out _ _ (HN) (fun hH2 => ?_)
  clear hK Kz hHeld
  have hHeld := hH2
  clear hH2
  (try simp only [Act.put, List.setIfInBounds_toArray, List.set_cons_zero, List.set_cons_succ])
  refine wpAnyH_take (i := 18) (oi := { dst := some 104, op := Op.pick (Operand.tmp 99) (Operand.tmp 103) (Operand.const (Value.bool false)), type := 4, pos := "law.go:176", after := #[{ on := 13, ground := Ground.data }, { on := 17, ground := Ground.data }, { on := 8, ground := Ground.guard }], guard := some (8, true) }) (v := ?_) rfl (by kernel_rfl) (by kernel_rfl) (by kernel_rfl) (fun _ _ _ h => h) (Or.inl ⟨by rfl, ?_⟩) hHeld ?_
  rotate_left 1
  · intro u hSu
    obtain ⟨t0u, t1u⟩ := row_cells hSu.out.1.bT
    obtain ⟨a0u, a1u, a2u, a3u⟩ := HTB.out u hSu.out.1
    obtain ⟨g0u, g1u⟩ := row_cells hSu.out.2
    go_simp
    first | done | with_reducible rfl
  (try simp only [Act.put, List.setIfInBounds_toArray, List.set_cons_zero, List.set_cons_succ])
  refine wpAnyH_take (i := 19) (oi := { dst := some 105, op := Op.binOp BinOp.neq 4 (Operand.tmp 97) (Operand.tmp 104) 4, type := 4, pos := "law.go:176", after := #[{ on := 11, ground := Ground.data }, { on := 18, ground := Ground.data }, { on := 8, ground := Ground.guard }], guard := some (8, true) }) (v := .bool false) rfl (by kernel_rfl) (by kernel_rfl) (by kernel_rfl) (fun _ _ _ h => h) (Or.inl ⟨by rfl, ?_⟩) hHeld ?_
  · intro u hSu
    obtain ⟨t0u, t1u⟩ := row_cells hSu.out.1.bT
    obtain ⟨a0u, a1u, a2u, a3u⟩ := HTB.out u hSu.out.1
    obtain ⟨g0u, g1u⟩ := row_cells hSu.out.2
    cases cb
    all_goals go_simp
    all_goals first | done | with_reducible rfl | rfl
  (try simp only [Act.put, List.setIfInBounds_toArray, List.set_cons_zero, List.set_cons_succ])
  refine wpAnyH_take (i := 20) (oi := { dst := some 106, op := Op.pick (Operand.tmp 94) (Operand.tmp 105) (Operand.const (Value.bool false)), type := 4, pos := "law.go:176", after := #[{ on := 8, ground := Ground.data }, { on := 19, ground := Ground.data }], guard := none }) (v := ?_) rfl (by kernel_rfl) (by kernel_rfl) (by kernel_rfl) (fun _ _ _ h => h) (Or.inl ⟨by rfl, ?_⟩) hHeld ?_
  rotate_left 1
  · intro u hSu
    obtain ⟨t0u, t1u⟩ := row_cells hSu.out.1.bT
    obtain ⟨a0u, a1u, a2u, a3u⟩ := HTB.out u hSu.out.1
    obtain ⟨g0u, g1u⟩ := row_cells hSu.out.2
    go_simp
    first | done | with_reducible rfl
  (try simp only [Act.put, List.setIfInBounds_toArray, List.set_cons_zero, List.set_cons_succ])
  refine wpAnyH_done (by kernel_rfl) ?_ _
  have K12 := hHeld
  clear hHeld
  clear K11
  cases cb
  all_goals
    go_wp2_with fail
    go_loopw [15] (fun v wr => ∃ j : Nat, j ≤ xn.length ∧ v = .int .i64 (j : Int) ∧ Hid (LR w ⟨R, L0, pR, cR, pL, cL⟩ sub len E pE cE B C Z (some ⟨b, off, none⟩) cA Ts wr ∧ wr.heap[g]? = some (.cells #[.int .i64 er, .int .i64 yi] 71 (0, 0)))) (fun v _ => xn.length - (RowKit.intOf v).toNat)
    case atStart => exact ⟨0, Nat.zero_le _, rfl, K12⟩
    case round =>
    clear K12
    obtain ⟨j, hj, rfl, K⟩ := hrel
    obtain ⟨w13, hw13⟩ : ∃ w13, w13 = wr := ⟨_, rfl⟩
    rw [← hw13] at K ⊢
    clear hw13
    have hxl : xn.length ≤ 9223372036854775807 := by have := (HNX.out _ K.out.1).hc; simp only at this; omega
    by_cases hltj : j < xn.length
    case neg =>
      obtain rfl : j = xn.length := by omega
      have hnl : ¬ (xn.length : Int) < (xn.length : Int) := by omega
      go_upto_region 21 with fail
      refine wp_region_held_drew (S := fun w' => Hid (LR w ⟨R, L0, pR, cR, pL, cL⟩ sub len E pE cE B C Z (some ⟨b, off, none⟩) cA Ts w' ∧ w'.heap[g]? = some (.cells #[.int .i64 er, .int .i64 yi] 71 (0, 0)))) (by kernel_rfl) (Lib.hid (And.intro (K.out.1.keep (grown_drew (grown_refl _ none))) (kept_row K.out.2 (grown_drew (grown_refl _ none)) (by simp)))) (fun hHeld => ?_)
      refine wpAnyH_take (i := 0) (oi := { dst := some 107, op := Op.move (Operand.tmp 15), type := 3, pos := "law.go:179", after := #[], guard := none }) (v := ?_) rfl (by kernel_rfl) (by kernel_rfl) (by kernel_rfl) (fun _ _ _ h => h) (Or.inl ⟨by rfl, ?_⟩) hHeld ?_
      rotate_left 1
      · intro u hSu
        obtain ⟨t0u, t1u⟩ := row_cells hSu.out.1.bT
        obtain ⟨a0u, a1u, a2u, a3u⟩ := HTB.out u hSu.out.1
        obtain ⟨g0u, g1u⟩ := row_cells hSu.out.2
        go_simp
        first | done | with_reducible rfl
      (try simp only [Act.put, List.setIfInBounds_toArray, List.set_cons_zero, List.set_cons_succ])
      refine wpAnyH_take (i := 1) (oi := { dst := some 108, op := Op.move (Operand.tmp 12), type := 22, pos := "law.go:179", after := #[], guard := none }) (v := ?_) rfl (by kernel_rfl) (by kernel_rfl) (by kernel_rfl) (fun _ _ _ h => h) (Or.inl ⟨by rfl, ?_⟩) hHeld ?_
      rotate_left 1
      · intro u hSu
        obtain ⟨t0u, t1u⟩ := row_cells hSu.out.1.bT
        obtain ⟨a0u, a1u, a2u, a3u⟩ := HTB.out u hSu.out.1
        obtain ⟨g0u, g1u⟩ := row_cells hSu.out.2
        go_simp
        first | done | with_reducible rfl
      (try simp only [Act.put, List.setIfInBounds_toArray, List.set_cons_zero, List.set_cons_succ])
      refine wpAnyH_take (i := 2) (oi := { dst := some 109, op := Op.call { callee := Callee.builtin Builtin.len, args := #[Operand.tmp 108], argTypes := #[22] }, type := 3, pos := "law.go:179", after := #[{ on := 1, ground := Ground.data }], guard := none }) (v := ?_) rfl (by kernel_rfl) (by kernel_rfl) (by kernel_rfl) (fun _ _ _ h => h) (Or.inl ⟨by rfl, ?_⟩) hHeld ?_
      rotate_left 1
      · intro u hSu
        obtain ⟨t0u, t1u⟩ := row_cells hSu.out.1.bT
        obtain ⟨a0u, a1u, a2u, a3u⟩ := HTB.out u hSu.out.1
        obtain ⟨g0u, g1u⟩ := row_cells hSu.out.2
        go_simp
        first | done | with_reducible rfl
      (try simp only [Act.put, List.setIfInBounds_toArray, List.set_cons_zero, List.set_cons_succ])
      refine wpAnyH_take (i := 3) (oi := { dst := some 110, op := Op.binOp BinOp.lss 3 (Operand.tmp 107) (Operand.tmp 109) 3, type := 4, pos := "law.go:179", after := #[{ on := 0, ground := Ground.data }, { on := 2, ground := Ground.data }], guard := none }) (v := .bool false) rfl (by kernel_rfl) (by kernel_rfl) (by kernel_rfl) (fun _ _ _ h => h) (Or.inl ⟨by rfl, ?_⟩) hHeld ?_
      · intro u hSu
        obtain ⟨t0u, t1u⟩ := row_cells hSu.out.1.bT
        obtain ⟨a0u, a1u, a2u, a3u⟩ := HTB.out u hSu.out.1
        obtain ⟨g0u, g1u⟩ := row_cells hSu.out.2
        go_simp
        first | done | with_reducible rfl
      (try simp only [Act.put, List.setIfInBounds_toArray, List.set_cons_zero, List.set_cons_succ])
      refine wpAnyH_take (i := 4) (oi := { dst := some 111, op := Op.move (Operand.tmp 110), type := 4, pos := "law.go:179", after := #[{ on := 3, ground := Ground.data }], guard := none }) (v := ?_) rfl (by kernel_rfl) (by kernel_rfl) (by kernel_rfl) (fun _ _ _ h => h) (Or.inl ⟨by rfl, ?_⟩) hHeld ?_
      rotate_left 1
      · intro u hSu
        obtain ⟨t0u, t1u⟩ := row_cells hSu.out.1.bT
        obtain ⟨a0u, a1u, a2u, a3u⟩ := HTB.out u hSu.out.1
        obtain ⟨g0u, g1u⟩ := row_cells hSu.out.2
        go_simp
        first | done | with_reducible rfl
      (try simp only [Act.put, List.setIfInBounds_toArray, List.set_cons_zero, List.set_cons_succ])
      refine wpAnyH_take (i := 5) (oi := { dst := some 112, op := Op.move (Operand.tmp 6), type := 29, pos := "law.go:179", after := #[{ on := 4, ground := Ground.guard }], guard := some (4, true) }) (v := undef) rfl (by kernel_rfl) (by kernel_rfl) (by kernel_rfl) (fun _ _ _ h => h) (Or.inr ⟨by rfl, rfl⟩) hHeld ?_
      (try simp only [Act.put, List.setIfInBounds_toArray, List.set_cons_zero, List.set_cons_succ])
      refine wpAnyH_take (i := 6) (oi := { dst := some 113, op := Op.move (Operand.tmp 8), type := 3, pos := "law.go:179", after := #[{ on := 4, ground := Ground.guard }], guard := some (4, true) }) (v := undef) rfl (by kernel_rfl) (by kernel_rfl) (by kernel_rfl) (fun _ _ _ h => h) (Or.inr ⟨by rfl, rfl⟩) hHeld ?_
      (try simp only [Act.put, List.setIfInBounds_toArray, List.set_cons_zero, List.set_cons_succ])
      refine wpAnyH_take (i := 7) (oi := { dst := some 114, op := Op.indexAddr 29 (Operand.tmp 112) (Operand.tmp 113), type := 0, pos := "law.go:179", after := #[{ on := 5, ground := Ground.data }, { on := 6, ground := Ground.data }, { on := 4, ground := Ground.guard }], guard := some (4, true) }) (v := undef) rfl (by kernel_rfl) (by kernel_rfl) (by kernel_rfl) (fun _ _ _ h => h) (Or.inr ⟨by rfl, rfl⟩) hHeld ?_
      (try simp only [Act.put, List.setIfInBounds_toArray, List.set_cons_zero, List.set_cons_succ])
      refine wpAnyH_take (i := 8) (oi := { dst := some 115, op := Op.fieldAddr 25 (Operand.tmp 114) 0, type := 0, pos := "law.go:179", after := #[{ on := 7, ground := Ground.data }, { on := 4, ground := Ground.guard }], guard := some (4, true) }) (v := undef) rfl (by kernel_rfl) (by kernel_rfl) (by kernel_rfl) (fun _ _ _ h => h) (Or.inr ⟨by rfl, rfl⟩) hHeld ?_
      (try simp only [Act.put, List.setIfInBounds_toArray, List.set_cons_zero, List.set_cons_succ])
      refine wpAnyH_take (i := 9) (oi := { dst := some 116, op := Op.load 3 (Operand.tmp 115), type := 3, pos := "law.go:179", after := #[{ on := 8, ground := Ground.data }, { on := 4, ground := Ground.guard }], guard := some (4, true) }) (v := undef) rfl (by kernel_rfl) (by kernel_rfl) (by kernel_rfl) (fun _ _ _ h => h) (Or.inr ⟨by rfl, rfl⟩) hHeld ?_
      (try simp only [Act.put, List.setIfInBounds_toArray, List.set_cons_zero, List.set_cons_succ])
      refine wpAnyH_take (i := 10) (oi := { dst := some 117, op := Op.fieldAddr 71 (Operand.tmp 10) 0, type := 0, pos := "law.go:179", after := #[{ on := 4, ground := Ground.guard }], guard := some (4, true) }) (v := undef) rfl (by kernel_rfl) (by kernel_rfl) (by kernel_rfl) (fun _ _ _ h => h) (Or.inr ⟨by rfl, rfl⟩) hHeld ?_
      (try simp only [Act.put, List.setIfInBounds_toArray, List.set_cons_zero, List.set_cons_succ])
      refine wpAnyH_take (i := 11) (oi := { dst := some 118, op := Op.load 3 (Operand.tmp 117), type := 3, pos := "law.go:179", after := #[{ on := 10, ground := Ground.data }, { on := 4, ground := Ground.guard }], guard := some (4, true) }) (v := undef) rfl (by kernel_rfl) (by kernel_rfl) (by kernel_rfl) (fun _ _ _ h => h) (Or.inr ⟨by rfl, rfl⟩) hHeld ?_
      (try simp only [Act.put, List.setIfInBounds_toArray, List.set_cons_zero, List.set_cons_succ])
      refine wpAnyH_take (i := 12) (oi := { dst := some 119, op := Op.binOp BinOp.neq 3 (Operand.tmp 116) (Operand.tmp 118) 3, type := 4, pos := "law.go:179", after := #[{ on := 9, ground := Ground.data }, { on := 11, ground := Ground.data }, { on := 4, ground := Ground.guard }], guard := some (4, true) }) (v := undef) rfl (by kernel_rfl) (by kernel_rfl) (by kernel_rfl) (fun _ _ _ h => h) (Or.inr ⟨by rfl, rfl⟩) hHeld ?_
      (try simp only [Act.put, List.setIfInBounds_toArray, List.set_cons_zero, List.set_cons_succ])
      refine wpAnyH_take (i := 13) (oi := { dst := some 120, op := Op.pick (Operand.tmp 111) (Operand.tmp 119) (Operand.const (Value.bool false)), type := 4, pos := "law.go:179", after := #[{ on := 4, ground := Ground.data }, { on := 12, ground := Ground.data }], guard := none }) (v := ?_) rfl (by kernel_rfl) (by kernel_rfl) (by kernel_rfl) (fun _ _ _ h => h) (Or.inl ⟨by rfl, ?_⟩) hHeld ?_
      rotate_left 1
      · intro u hSu
        obtain ⟨t0u, t1u⟩ := row_cells hSu.out.1.bT
        obtain ⟨a0u, a1u, a2u, a3u⟩ := HTB.out u hSu.out.1
        obtain ⟨g0u, g1u⟩ := row_cells hSu.out.2
        go_simp
        first | done | with_reducible rfl
      (try simp only [Act.put, List.setIfInBounds_toArray, List.set_cons_zero, List.set_cons_succ])
      refine wpAnyH_done (by kernel_rfl) ?_ _
      have K14 := Lib.hid hHeld.out.1
      clear hHeld
      go_wp2_with fail
      exact ⟨⟨k + 1, by omega, congrArg _ (by omega), K14⟩, by simp only [RowKit.intOf]; omega⟩
    have hltj' : (j : Int) < (xn.length : Int) := by omega
    have hj0 : (0 : Int) ≤ (j : Int) := by omega
    obtain ⟨y, hy⟩ : ∃ y, xn[j]? = some y := ⟨_, List.getElem?_eq_getElem hltj⟩
    obtain ⟨⟨d, hd, t, ht, htd⟩, hyc, -⟩ := HEA.out y (List.mem_of_getElem? hy)
    have hdv : hv = d := by rw [← HV.out.1, hd]; rfl
    subst hdv
    have HY := Lib.hid (And.intro ht hyc)
    have htd' : ¬ hv ≤ t := by omega
    obtain ⟨-, b3, o3, hxp, -, hc3⟩ := tvT_at (HNX.out _ K.out.1).rd hy
    have HN3 : Hid (∀ u, LR w ⟨R, L0, pR, cR, pL, cL⟩ sub len E pE cE B C Z (some ⟨b, off, none⟩) cA Ts u → u.cell? ⟨b3, o3 + j, none⟩ = some (.int .i64 y)) := Lib.hid (fun u h => by
      obtain ⟨-, b', off', hp, -, hc⟩ := tvT_at (HNX.out u h).rd hy
      rw [hxp] at hp
      injection hp with hp
      injection hp with e1 e2
      subst e1
      subst e2
      exact hc j y hy)
    simp only at hxp
    clear hc3 hy hd ht hyc
    subst hxp
    go_upto_region 21 with fail
    refine wp_region_held_drew (S := fun w' => Hid (LR w ⟨R, L0, pR, cR, pL, cL⟩ sub len E pE cE B C Z (some ⟨b, off, none⟩) cA Ts w' ∧ w'.heap[g]? = some (.cells #[.int .i64 er, .int .i64 yi] 71 (0, 0)))) (by kernel_rfl) (Lib.hid (And.intro (K.out.1.keep (grown_drew (grown_refl _ none))) (kept_row K.out.2 (grown_drew (grown_refl _ none)) (by simp)))) (fun hHeld => ?_)
    refine wpAnyH_take (i := 0) (oi := { dst := some 107, op := Op.move (Operand.tmp 15), type := 3, pos := "law.go:179", after := #[], guard := none }) (v := ?_) rfl (by kernel_rfl) (by kernel_rfl) (by kernel_rfl) (fun _ _ _ h => h) (Or.inl ⟨by rfl, ?_⟩) hHeld ?_
    rotate_left 1
    · intro u hSu
      obtain ⟨t0u, t1u⟩ := row_cells hSu.out.1.bT
      obtain ⟨a0u, a1u, a2u, a3u⟩ := HTB.out u hSu.out.1
      obtain ⟨g0u, g1u⟩ := row_cells hSu.out.2
      go_simp
      first | done | with_reducible rfl
    (try simp only [Act.put, List.setIfInBounds_toArray, List.set_cons_zero, List.set_cons_succ])
    refine wpAnyH_take (i := 1) (oi := { dst := some 108, op := Op.move (Operand.tmp 12), type := 22, pos := "law.go:179", after := #[], guard := none }) (v := ?_) rfl (by kernel_rfl) (by kernel_rfl) (by kernel_rfl) (fun _ _ _ h => h) (Or.inl ⟨by rfl, ?_⟩) hHeld ?_
    rotate_left 1
    · intro u hSu
      obtain ⟨t0u, t1u⟩ := row_cells hSu.out.1.bT
      obtain ⟨a0u, a1u, a2u, a3u⟩ := HTB.out u hSu.out.1
      obtain ⟨g0u, g1u⟩ := row_cells hSu.out.2
      go_simp
      first | done | with_reducible rfl
    (try simp only [Act.put, List.setIfInBounds_toArray, List.set_cons_zero, List.set_cons_succ])
    refine wpAnyH_take (i := 2) (oi := { dst := some 109, op := Op.call { callee := Callee.builtin Builtin.len, args := #[Operand.tmp 108], argTypes := #[22] }, type := 3, pos := "law.go:179", after := #[{ on := 1, ground := Ground.data }], guard := none }) (v := ?_) rfl (by kernel_rfl) (by kernel_rfl) (by kernel_rfl) (fun _ _ _ h => h) (Or.inl ⟨by rfl, ?_⟩) hHeld ?_
    rotate_left 1
    · intro u hSu
      obtain ⟨t0u, t1u⟩ := row_cells hSu.out.1.bT
      obtain ⟨a0u, a1u, a2u, a3u⟩ := HTB.out u hSu.out.1
      obtain ⟨g0u, g1u⟩ := row_cells hSu.out.2
      go_simp
      first | done | with_reducible rfl
    (try simp only [Act.put, List.setIfInBounds_toArray, List.set_cons_zero, List.set_cons_succ])
    refine wpAnyH_take (i := 3) (oi := { dst := some 110, op := Op.binOp BinOp.lss 3 (Operand.tmp 107) (Operand.tmp 109) 3, type := 4, pos := "law.go:179", after := #[{ on := 0, ground := Ground.data }, { on := 2, ground := Ground.data }], guard := none }) (v := .bool true) rfl (by kernel_rfl) (by kernel_rfl) (by kernel_rfl) (fun _ _ _ h => h) (Or.inl ⟨by rfl, ?_⟩) hHeld ?_
    · intro u hSu
      obtain ⟨t0u, t1u⟩ := row_cells hSu.out.1.bT
      obtain ⟨a0u, a1u, a2u, a3u⟩ := HTB.out u hSu.out.1
      obtain ⟨g0u, g1u⟩ := row_cells hSu.out.2
      go_simp
      first | done | with_reducible rfl
    (try simp only [Act.put, List.setIfInBounds_toArray, List.set_cons_zero, List.set_cons_succ])
    refine wpAnyH_take (i := 4) (oi := { dst := some 111, op := Op.move (Operand.tmp 110), type := 4, pos := "law.go:179", after := #[{ on := 3, ground := Ground.data }], guard := none }) (v := ?_) rfl (by kernel_rfl) (by kernel_rfl) (by kernel_rfl) (fun _ _ _ h => h) (Or.inl ⟨by rfl, ?_⟩) hHeld ?_
    rotate_left 1
    · intro u hSu
      obtain ⟨t0u, t1u⟩ := row_cells hSu.out.1.bT
      obtain ⟨a0u, a1u, a2u, a3u⟩ := HTB.out u hSu.out.1
      obtain ⟨g0u, g1u⟩ := row_cells hSu.out.2
      go_simp
      first | done | with_reducible rfl
    (try simp only [Act.put, List.setIfInBounds_toArray, List.set_cons_zero, List.set_cons_succ])
    refine wpAnyH_take (i := 5) (oi := { dst := some 112, op := Op.move (Operand.tmp 6), type := 29, pos := "law.go:179", after := #[{ on := 4, ground := Ground.guard }], guard := some (4, true) }) (v := ?_) rfl (by kernel_rfl) (by kernel_rfl) (by kernel_rfl) (fun _ _ _ h => h) (Or.inl ⟨by rfl, ?_⟩) hHeld ?_
    rotate_left 1
    · intro u hSu
      obtain ⟨t0u, t1u⟩ := row_cells hSu.out.1.bT
      obtain ⟨a0u, a1u, a2u, a3u⟩ := HTB.out u hSu.out.1
      obtain ⟨g0u, g1u⟩ := row_cells hSu.out.2
      go_simp
      first | done | with_reducible rfl
    (try simp only [Act.put, List.setIfInBounds_toArray, List.set_cons_zero, List.set_cons_succ])
    refine wpAnyH_take (i := 6) (oi := { dst := some 113, op := Op.move (Operand.tmp 8), type := 3, pos := "law.go:179", after := #[{ on := 4, ground := Ground.guard }], guard := some (4, true) }) (v := ?_) rfl (by kernel_rfl) (by kernel_rfl) (by kernel_rfl) (fun _ _ _ h => h) (Or.inl ⟨by rfl, ?_⟩) hHeld ?_
    rotate_left 1
    · intro u hSu
      obtain ⟨t0u, t1u⟩ := row_cells hSu.out.1.bT
      obtain ⟨a0u, a1u, a2u, a3u⟩ := HTB.out u hSu.out.1
      obtain ⟨g0u, g1u⟩ := row_cells hSu.out.2
      go_simp
      first | done | with_reducible rfl
    (try simp only [Act.put, List.setIfInBounds_toArray, List.set_cons_zero, List.set_cons_succ])
    refine wpAnyH_take (i := 7) (oi := { dst := some 114, op := Op.indexAddr 29 (Operand.tmp 112) (Operand.tmp 113), type := 0, pos := "law.go:179", after := #[{ on := 5, ground := Ground.data }, { on := 6, ground := Ground.data }, { on := 4, ground := Ground.guard }], guard := some (4, true) }) (v := ?_) rfl (by kernel_rfl) (by kernel_rfl) (by kernel_rfl) (fun _ _ _ h => h) (Or.inl ⟨by rfl, ?_⟩) hHeld ?_
    rotate_left 1
    · intro u hSu
      obtain ⟨t0u, t1u⟩ := row_cells hSu.out.1.bT
      obtain ⟨a0u, a1u, a2u, a3u⟩ := HTB.out u hSu.out.1
      obtain ⟨g0u, g1u⟩ := row_cells hSu.out.2
      go_simp
      first | done | with_reducible rfl
    (try simp only [Act.put, List.setIfInBounds_toArray, List.set_cons_zero, List.set_cons_succ])
    refine wpAnyH_take (i := 8) (oi := { dst := some 115, op := Op.fieldAddr 25 (Operand.tmp 114) 0, type := 0, pos := "law.go:179", after := #[{ on := 7, ground := Ground.data }, { on := 4, ground := Ground.guard }], guard := some (4, true) }) (v := ?_) rfl (by kernel_rfl) (by kernel_rfl) (by kernel_rfl) (fun _ _ _ h => h) (Or.inl ⟨by rfl, ?_⟩) hHeld ?_
    rotate_left 1
    · intro u hSu
      obtain ⟨t0u, t1u⟩ := row_cells hSu.out.1.bT
      obtain ⟨a0u, a1u, a2u, a3u⟩ := HTB.out u hSu.out.1
      obtain ⟨g0u, g1u⟩ := row_cells hSu.out.2
      go_simp
      first | done | with_reducible rfl
    (try simp only [Act.put, List.setIfInBounds_toArray, List.set_cons_zero, List.set_cons_succ])
    refine wpAnyH_take (i := 9) (oi := { dst := some 116, op := Op.load 3 (Operand.tmp 115), type := 3, pos := "law.go:179", after := #[{ on := 8, ground := Ground.data }, { on := 4, ground := Ground.guard }], guard := some (4, true) }) (v := ?_) rfl (by kernel_rfl) (by kernel_rfl) (by kernel_rfl) (fun _ _ _ h => h) (Or.inl ⟨by rfl, ?_⟩) hHeld ?_
    rotate_left 1
    · intro u hSu
      obtain ⟨t0u, t1u⟩ := row_cells hSu.out.1.bT
      obtain ⟨a0u, a1u, a2u, a3u⟩ := HTB.out u hSu.out.1
      obtain ⟨g0u, g1u⟩ := row_cells hSu.out.2
      go_simp
      first | done | with_reducible rfl
    (try simp only [Act.put, List.setIfInBounds_toArray, List.set_cons_zero, List.set_cons_succ])
    refine wpAnyH_take (i := 10) (oi := { dst := some 117, op := Op.fieldAddr 71 (Operand.tmp 10) 0, type := 0, pos := "law.go:179", after := #[{ on := 4, ground := Ground.guard }], guard := some (4, true) }) (v := ?_) rfl (by kernel_rfl) (by kernel_rfl) (by kernel_rfl) (fun _ _ _ h => h) (Or.inl ⟨by rfl, ?_⟩) hHeld ?_
    rotate_left 1
    · intro u hSu
      obtain ⟨t0u, t1u⟩ := row_cells hSu.out.1.bT
      obtain ⟨a0u, a1u, a2u, a3u⟩ := HTB.out u hSu.out.1
      obtain ⟨g0u, g1u⟩ := row_cells hSu.out.2
      go_simp
      first | done | with_reducible rfl
    (try simp only [Act.put, List.setIfInBounds_toArray, List.set_cons_zero, List.set_cons_succ])
    refine wpAnyH_take (i := 11) (oi := { dst := some 118, op := Op.load 3 (Operand.tmp 117), type := 3, pos := "law.go:179", after := #[{ on := 10, ground := Ground.data }, { on := 4, ground := Ground.guard }], guard := some (4, true) }) (v := ?_) rfl (by kernel_rfl) (by kernel_rfl) (by kernel_rfl) (fun _ _ _ h => h) (Or.inl ⟨by rfl, ?_⟩) hHeld ?_
    rotate_left 1
    · intro u hSu
      obtain ⟨t0u, t1u⟩ := row_cells hSu.out.1.bT
      obtain ⟨a0u, a1u, a2u, a3u⟩ := HTB.out u hSu.out.1
      obtain ⟨g0u, g1u⟩ := row_cells hSu.out.2
      go_simp
      first | done | with_reducible rfl
    (try simp only [Act.put, List.setIfInBounds_toArray, List.set_cons_zero, List.set_cons_succ])
    refine wpAnyH_take (i := 12) (oi := { dst := some 119, op := Op.binOp BinOp.neq 3 (Operand.tmp 116) (Operand.tmp 118) 3, type := 4, pos := "law.go:179", after := #[{ on := 9, ground := Ground.data }, { on := 11, ground := Ground.data }, { on := 4, ground := Ground.guard }], guard := some (4, true) }) (v := .bool true) rfl (by kernel_rfl) (by kernel_rfl) (by kernel_rfl) (fun _ _ _ h => h) (Or.inl ⟨by rfl, ?_⟩) hHeld ?_
    · intro u hSu
      obtain ⟨t0u, t1u⟩ := row_cells hSu.out.1.bT
      obtain ⟨a0u, a1u, a2u, a3u⟩ := HTB.out u hSu.out.1
      obtain ⟨g0u, g1u⟩ := row_cells hSu.out.2
      go_simp
      first | done | with_reducible rfl
    (try simp only [Act.put, List.setIfInBounds_toArray, List.set_cons_zero, List.set_cons_succ])
    refine wpAnyH_take (i := 13) (oi := { dst := some 120, op := Op.pick (Operand.tmp 111) (Operand.tmp 119) (Operand.const (Value.bool false)), type := 4, pos := "law.go:179", after := #[{ on := 4, ground := Ground.data }, { on := 12, ground := Ground.data }], guard := none }) (v := ?_) rfl (by kernel_rfl) (by kernel_rfl) (by kernel_rfl) (fun _ _ _ h => h) (Or.inl ⟨by rfl, ?_⟩) hHeld ?_
    rotate_left 1
    · intro u hSu
      obtain ⟨t0u, t1u⟩ := row_cells hSu.out.1.bT
      obtain ⟨a0u, a1u, a2u, a3u⟩ := HTB.out u hSu.out.1
      obtain ⟨g0u, g1u⟩ := row_cells hSu.out.2
      go_simp
      first | done | with_reducible rfl
    (try simp only [Act.put, List.setIfInBounds_toArray, List.set_cons_zero, List.set_cons_succ])
    refine wpAnyH_done (by kernel_rfl) ?_ _
    have K15 := hHeld
    clear hHeld K
    go_upto_region 23 with fail
    refine wp_region_held_drew (S := fun w' => Hid (LR w ⟨R, L0, pR, cR, pL, cL⟩ sub len E pE cE B C Z (some ⟨b, off, none⟩) cA Ts w' ∧ w'.heap[g]? = some (.cells #[.int .i64 er, .int .i64 yi] 71 (0, 0)))) (by kernel_rfl) (Lib.hid (And.intro (K15.out.1.keep (grown_drew (grown_refl _ none))) (kept_row K15.out.2 (grown_drew (grown_refl _ none)) (by simp)))) (fun hHeld => ?_)
    refine wpAnyH_take (i := 0) (oi := { dst := some 124, op := Op.load 45 (Operand.tmp 4), type := 45, pos := "law.go:180", after := #[], guard := none }) (v := ?_) rfl (by kernel_rfl) (by kernel_rfl) (by kernel_rfl) (fun _ _ _ h => h) (Or.inl ⟨by rfl, ?_⟩) hHeld ?_
    rotate_left 1
    · intro u hSu
      obtain ⟨t0u, t1u⟩ := row_cells hSu.out.1.bT
      obtain ⟨a0u, a1u, a2u, a3u⟩ := HTB.out u hSu.out.1
      obtain ⟨g0u, g1u⟩ := row_cells hSu.out.2
      have n0u := HN3.out u hSu.out.1
      go_simp
      first | done | with_reducible rfl
    (try simp only [Act.put, List.setIfInBounds_toArray, List.set_cons_zero, List.set_cons_succ])
    refine wpAnyH_take (i := 1) (oi := { dst := some 125, op := Op.move (Operand.tmp 12), type := 22, pos := "law.go:180", after := #[], guard := none }) (v := ?_) rfl (by kernel_rfl) (by kernel_rfl) (by kernel_rfl) (fun _ _ _ h => h) (Or.inl ⟨by rfl, ?_⟩) hHeld ?_
    rotate_left 1
    · intro u hSu
      obtain ⟨t0u, t1u⟩ := row_cells hSu.out.1.bT
      obtain ⟨a0u, a1u, a2u, a3u⟩ := HTB.out u hSu.out.1
      obtain ⟨g0u, g1u⟩ := row_cells hSu.out.2
      have n0u := HN3.out u hSu.out.1
      go_simp
      first | done | with_reducible rfl
    (try simp only [Act.put, List.setIfInBounds_toArray, List.set_cons_zero, List.set_cons_succ])
    refine wpAnyH_take (i := 2) (oi := { dst := some 126, op := Op.move (Operand.tmp 15), type := 3, pos := "law.go:180", after := #[], guard := none }) (v := ?_) rfl (by kernel_rfl) (by kernel_rfl) (by kernel_rfl) (fun _ _ _ h => h) (Or.inl ⟨by rfl, ?_⟩) hHeld ?_
    rotate_left 1
    · intro u hSu
      obtain ⟨t0u, t1u⟩ := row_cells hSu.out.1.bT
      obtain ⟨a0u, a1u, a2u, a3u⟩ := HTB.out u hSu.out.1
      obtain ⟨g0u, g1u⟩ := row_cells hSu.out.2
      have n0u := HN3.out u hSu.out.1
      go_simp
      first | done | with_reducible rfl
    (try simp only [Act.put, List.setIfInBounds_toArray, List.set_cons_zero, List.set_cons_succ])
    refine wpAnyH_take (i := 3) (oi := { dst := some 127, op := Op.indexAddr 22 (Operand.tmp 125) (Operand.tmp 126), type := 0, pos := "law.go:180", after := #[{ on := 1, ground := Ground.data }, { on := 2, ground := Ground.data }], guard := none }) (v := ?_) rfl (by kernel_rfl) (by kernel_rfl) (by kernel_rfl) (fun _ _ _ h => h) (Or.inl ⟨by rfl, ?_⟩) hHeld ?_
    rotate_left 1
    · intro u hSu
      obtain ⟨t0u, t1u⟩ := row_cells hSu.out.1.bT
      obtain ⟨a0u, a1u, a2u, a3u⟩ := HTB.out u hSu.out.1
      obtain ⟨g0u, g1u⟩ := row_cells hSu.out.2
      have n0u := HN3.out u hSu.out.1
      go_simp
      first | done | with_reducible rfl
    (try simp only [Act.put, List.setIfInBounds_toArray, List.set_cons_zero, List.set_cons_succ])
    refine wpAnyH_take (i := 4) (oi := { dst := some 128, op := Op.load 3 (Operand.tmp 127), type := 3, pos := "law.go:180", after := #[{ on := 3, ground := Ground.data }], guard := none }) (v := ?_) rfl (by kernel_rfl) (by kernel_rfl) (by kernel_rfl) (fun _ _ _ h => h) (Or.inl ⟨by rfl, ?_⟩) hHeld ?_
    rotate_left 1
    · intro u hSu
      obtain ⟨t0u, t1u⟩ := row_cells hSu.out.1.bT
      obtain ⟨a0u, a1u, a2u, a3u⟩ := HTB.out u hSu.out.1
      obtain ⟨g0u, g1u⟩ := row_cells hSu.out.2
      have n0u := HN3.out u hSu.out.1
      go_simp
      first | done | with_reducible rfl
    (try simp only [Act.put, List.setIfInBounds_toArray, List.set_cons_zero, List.set_cons_succ])
    refine wpAnyH_take (i := 5) (oi := { dst := some 129, op := Op.fieldAddr 71 (Operand.tmp 10) 0, type := 0, pos := "law.go:180", after := #[], guard := none }) (v := ?_) rfl (by kernel_rfl) (by kernel_rfl) (by kernel_rfl) (fun _ _ _ h => h) (Or.inl ⟨by rfl, ?_⟩) hHeld ?_
    rotate_left 1
    · intro u hSu
      obtain ⟨t0u, t1u⟩ := row_cells hSu.out.1.bT
      obtain ⟨a0u, a1u, a2u, a3u⟩ := HTB.out u hSu.out.1
      obtain ⟨g0u, g1u⟩ := row_cells hSu.out.2
      have n0u := HN3.out u hSu.out.1
      go_simp
      first | done | with_reducible rfl
    (try simp only [Act.put, List.setIfInBounds_toArray, List.set_cons_zero, List.set_cons_succ])
    refine wpAnyH_take (i := 6) (oi := { dst := some 130, op := Op.load 3 (Operand.tmp 129), type := 3, pos := "law.go:180", after := #[{ on := 5, ground := Ground.data }], guard := none }) (v := ?_) rfl (by kernel_rfl) (by kernel_rfl) (by kernel_rfl) (fun _ _ _ h => h) (Or.inl ⟨by rfl, ?_⟩) hHeld ?_
    rotate_left 1
    · intro u hSu
      obtain ⟨t0u, t1u⟩ := row_cells hSu.out.1.bT
      obtain ⟨a0u, a1u, a2u, a3u⟩ := HTB.out u hSu.out.1
      obtain ⟨g0u, g1u⟩ := row_cells hSu.out.2
      have n0u := HN3.out u hSu.out.1
      go_simp
      first | done | with_reducible rfl
    (try simp only [Act.put, List.setIfInBounds_toArray, List.set_cons_zero, List.set_cons_succ])
    refine wpAnyH_ready (rs := [7]) (by kernel_rfl) (by simp) ?_
    refine AllReadyH.cons (o := { dst := some 131, op := Op.call { callee := Callee.value (Operand.func 42), args := #[Operand.tmp 124, Operand.tmp 128, Operand.tmp 130], argTypes := #[45, 3, 3] }, type := 75, pos := "law.go:180", after := #[{ on := 0, ground := Ground.data }, { on := 4, ground := Ground.data }, { on := 6, ground := Ground.data }], guard := none }) rfl (fun Kz hK => ?_) AllReadyH.nil
    go_simp
    go_at_call 42
    refine (rcst_any ⟨R, L0, pR, cR, pL, cL⟩ y er _ _ hHeld.out.1.t).mono ?_
    rintro e wb ⟨rfl, hg⟩
    rw [HY.out.1]
    have HN := Lib.hid (And.intro (hHeld.out.1.keep hg) (kept_row hHeld.out.2 hg (by simp)))
    clear hg
    simp only [Option.getD_some, Option.isSome_some]
    refine hK.out _ _ (HN) (fun hH2 => ?_)
    clear hK Kz hHeld
    have hHeld := hH2
    clear hH2
    (try simp only [Act.put, List.setIfInBounds_toArray, List.set_cons_zero, List.set_cons_succ])
    refine wpAnyH_take (i := 8) (oi := { dst := some 123, op := Op.move (Operand.tmp 131), type := 75, pos := "law.go:180", after := #[{ on := 7, ground := Ground.data }], guard := none }) (v := ?_) rfl (by kernel_rfl) (by kernel_rfl) (by kernel_rfl) (fun _ _ _ h => h) (Or.inl ⟨by rfl, ?_⟩) hHeld ?_
    rotate_left 1
    · intro u hSu
      obtain ⟨t0u, t1u⟩ := row_cells hSu.out.1.bT
      obtain ⟨a0u, a1u, a2u, a3u⟩ := HTB.out u hSu.out.1
      obtain ⟨g0u, g1u⟩ := row_cells hSu.out.2
      have n0u := HN3.out u hSu.out.1
      go_simp
      first | done | with_reducible rfl
    (try simp only [Act.put, List.setIfInBounds_toArray, List.set_cons_zero, List.set_cons_succ])
    refine wpAnyH_take (i := 9) (oi := { dst := some 132, op := Op.extract (Operand.tmp 123) 0, type := 3, pos := "law.go:180", after := #[{ on := 8, ground := Ground.data }], guard := none }) (v := ?_) rfl (by kernel_rfl) (by kernel_rfl) (by kernel_rfl) (fun _ _ _ h => h) (Or.inl ⟨by rfl, ?_⟩) hHeld ?_
    rotate_left 1
    · intro u hSu
      obtain ⟨t0u, t1u⟩ := row_cells hSu.out.1.bT
      obtain ⟨a0u, a1u, a2u, a3u⟩ := HTB.out u hSu.out.1
      obtain ⟨g0u, g1u⟩ := row_cells hSu.out.2
      have n0u := HN3.out u hSu.out.1
      go_simp
      first | done | with_reducible rfl
    (try simp only [Act.put, List.setIfInBounds_toArray, List.set_cons_zero, List.set_cons_succ])
    refine wpAnyH_take (i := 10) (oi := { dst := some 133, op := Op.extract (Operand.tmp 123) 1, type := 4, pos := "law.go:180", after := #[{ on := 8, ground := Ground.data }, { on := 11, ground := Ground.gcOnly Departure.lateStores }], guard := none }) (v := ?_) rfl (by kernel_rfl) (by kernel_rfl) (by kernel_rfl) (fun _ _ _ h => h) (Or.inl ⟨by rfl, ?_⟩) hHeld ?_
    rotate_left 1
    · intro u hSu
      obtain ⟨t0u, t1u⟩ := row_cells hSu.out.1.bT
      obtain ⟨a0u, a1u, a2u, a3u⟩ := HTB.out u hSu.out.1
      obtain ⟨g0u, g1u⟩ := row_cells hSu.out.2
      have n0u := HN3.out u hSu.out.1
      go_simp
      first | done | with_reducible rfl
    (try simp only [Act.put, List.setIfInBounds_toArray, List.set_cons_zero, List.set_cons_succ])
    refine wpAnyH_take (i := 11) (oi := { dst := some 16, op := Op.assign (Operand.tmp 132), type := 3, pos := "law.go:180", after := #[{ on := 9, ground := Ground.data }, { on := 7, ground := Ground.chain }, { on := 0, ground := Ground.phase }, { on := 1, ground := Ground.phase }, { on := 2, ground := Ground.phase }, { on := 3, ground := Ground.phase }, { on := 4, ground := Ground.phase }, { on := 5, ground := Ground.phase }, { on := 6, ground := Ground.phase }, { on := 7, ground := Ground.phase }, { on := 8, ground := Ground.phase }, { on := 9, ground := Ground.phase }, { on := 10, ground := Ground.textOnly Departure.lateStores }], guard := none }) (v := ?_) rfl (by kernel_rfl) (by kernel_rfl) (by kernel_rfl) (fun _ _ _ h => h) (Or.inl ⟨by rfl, ?_⟩) hHeld ?_
    rotate_left 1
    · intro u hSu
      obtain ⟨t0u, t1u⟩ := row_cells hSu.out.1.bT
      obtain ⟨a0u, a1u, a2u, a3u⟩ := HTB.out u hSu.out.1
      obtain ⟨g0u, g1u⟩ := row_cells hSu.out.2
      have n0u := HN3.out u hSu.out.1
      go_simp
      first | done | with_reducible rfl
    (try simp only [Act.put, List.setIfInBounds_toArray, List.set_cons_zero, List.set_cons_succ])
    refine wpAnyH_take (i := 12) (oi := { dst := some 17, op := Op.assign (Operand.tmp 133), type := 4, pos := "law.go:180", after := #[{ on := 10, ground := Ground.data }, { on := 11, ground := Ground.chain }, { on := 0, ground := Ground.phase }, { on := 1, ground := Ground.phase }, { on := 2, ground := Ground.phase }, { on := 3, ground := Ground.phase }, { on := 4, ground := Ground.phase }, { on := 5, ground := Ground.phase }, { on := 6, ground := Ground.phase }, { on := 7, ground := Ground.phase }, { on := 8, ground := Ground.phase }, { on := 9, ground := Ground.phase }, { on := 10, ground := Ground.phase }, { on := 11, ground := Ground.phase }], guard := none }) (v := ?_) rfl (by kernel_rfl) (by kernel_rfl) (by kernel_rfl) (fun _ _ _ h => h) (Or.inl ⟨by rfl, ?_⟩) hHeld ?_
    rotate_left 1
    · intro u hSu
      obtain ⟨t0u, t1u⟩ := row_cells hSu.out.1.bT
      obtain ⟨a0u, a1u, a2u, a3u⟩ := HTB.out u hSu.out.1
      obtain ⟨g0u, g1u⟩ := row_cells hSu.out.2
      have n0u := HN3.out u hSu.out.1
      go_simp
      first | done | with_reducible rfl
    (try simp only [Act.put, List.setIfInBounds_toArray, List.set_cons_zero, List.set_cons_succ])
    refine wpAnyH_done (by kernel_rfl) ?_ _
    have K16 := hHeld
    clear hHeld K15
    go_upto_region 24 with fail
    refine wp_region_held_drew (S := fun w' => Hid (LR w ⟨R, L0, pR, cR, pL, cL⟩ sub len E pE cE B C Z (some ⟨b, off, none⟩) cA Ts w' ∧ w'.heap[g]? = some (.cells #[.int .i64 er, .int .i64 yi] 71 (0, 0)))) (by kernel_rfl) (Lib.hid (And.intro (K16.out.1.keep (grown_drew (grown_refl _ none))) (kept_row K16.out.2 (grown_drew (grown_refl _ none)) (by simp)))) (fun hHeld => ?_)
    refine wpAnyH_take (i := 0) (oi := { dst := some 134, op := Op.move (Operand.tmp 17), type := 4, pos := "law.go:181", after := #[], guard := none }) (v := ?_) rfl (by kernel_rfl) (by kernel_rfl) (by kernel_rfl) (fun _ _ _ h => h) (Or.inl ⟨by rfl, ?_⟩) hHeld ?_
    rotate_left 1
    · intro u hSu
      obtain ⟨t0u, t1u⟩ := row_cells hSu.out.1.bT
      obtain ⟨a0u, a1u, a2u, a3u⟩ := HTB.out u hSu.out.1
      obtain ⟨g0u, g1u⟩ := row_cells hSu.out.2
      have n0u := HN3.out u hSu.out.1
      go_simp
      first | done | with_reducible rfl
    (try simp only [Act.put, List.setIfInBounds_toArray, List.set_cons_zero, List.set_cons_succ])
    refine wpAnyH_take (i := 1) (oi := { dst := some 135, op := Op.unOp UnOp.not 4 (Operand.tmp 134), type := 4, pos := "law.go:181", after := #[{ on := 0, ground := Ground.data }], guard := none }) (v := ?_) rfl (by kernel_rfl) (by kernel_rfl) (by kernel_rfl) (fun _ _ _ h => h) (Or.inl ⟨by rfl, ?_⟩) hHeld ?_
    rotate_left 1
    · intro u hSu
      obtain ⟨t0u, t1u⟩ := row_cells hSu.out.1.bT
      obtain ⟨a0u, a1u, a2u, a3u⟩ := HTB.out u hSu.out.1
      obtain ⟨g0u, g1u⟩ := row_cells hSu.out.2
      have n0u := HN3.out u hSu.out.1
      go_simp
      first | done | with_reducible rfl
    (try simp only [Act.put, List.setIfInBounds_toArray, List.set_cons_zero, List.set_cons_succ])
    refine wpAnyH_take (i := 2) (oi := { dst := some 136, op := Op.move (Operand.tmp 135), type := 4, pos := "law.go:181", after := #[{ on := 1, ground := Ground.data }], guard := none }) (v := ?_) rfl (by kernel_rfl) (by kernel_rfl) (by kernel_rfl) (fun _ _ _ h => h) (Or.inl ⟨by rfl, ?_⟩) hHeld ?_
    rotate_left 1
    · intro u hSu
      obtain ⟨t0u, t1u⟩ := row_cells hSu.out.1.bT
      obtain ⟨a0u, a1u, a2u, a3u⟩ := HTB.out u hSu.out.1
      obtain ⟨g0u, g1u⟩ := row_cells hSu.out.2
      have n0u := HN3.out u hSu.out.1
      go_simp
      first | done | with_reducible rfl
    (try simp only [Act.put, List.setIfInBounds_toArray, List.set_cons_zero, List.set_cons_succ])
    refine wpAnyH_take (i := 3) (oi := { dst := some 137, op := Op.move (Operand.tmp 16), type := 3, pos := "law.go:181", after := #[{ on := 2, ground := Ground.guard }], guard := some (2, false) }) (v := ?_) rfl (by kernel_rfl) (by kernel_rfl) (by kernel_rfl) (fun _ _ _ h => h) (Or.inl ⟨by rfl, ?_⟩) hHeld ?_
    rotate_left 1
    · intro u hSu
      obtain ⟨t0u, t1u⟩ := row_cells hSu.out.1.bT
      obtain ⟨a0u, a1u, a2u, a3u⟩ := HTB.out u hSu.out.1
      obtain ⟨g0u, g1u⟩ := row_cells hSu.out.2
      have n0u := HN3.out u hSu.out.1
      go_simp
      first | done | with_reducible rfl
    (try simp only [Act.put, List.setIfInBounds_toArray, List.set_cons_zero, List.set_cons_succ])
    refine wpAnyH_take (i := 4) (oi := { dst := some 138, op := Op.move (Operand.tmp 13), type := 3, pos := "law.go:181", after := #[{ on := 2, ground := Ground.guard }], guard := some (2, false) }) (v := ?_) rfl (by kernel_rfl) (by kernel_rfl) (by kernel_rfl) (fun _ _ _ h => h) (Or.inl ⟨by rfl, ?_⟩) hHeld ?_
    rotate_left 1
    · intro u hSu
      obtain ⟨t0u, t1u⟩ := row_cells hSu.out.1.bT
      obtain ⟨a0u, a1u, a2u, a3u⟩ := HTB.out u hSu.out.1
      obtain ⟨g0u, g1u⟩ := row_cells hSu.out.2
      have n0u := HN3.out u hSu.out.1
      go_simp
      first | done | with_reducible rfl
    (try simp only [Act.put, List.setIfInBounds_toArray, List.set_cons_zero, List.set_cons_succ])
    refine wpAnyH_take (i := 5) (oi := { dst := some 139, op := Op.binOp BinOp.geq 3 (Operand.tmp 137) (Operand.tmp 138) 3, type := 4, pos := "law.go:181", after := #[{ on := 3, ground := Ground.data }, { on := 4, ground := Ground.data }, { on := 2, ground := Ground.guard }], guard := some (2, false) }) (v := .bool false) rfl (by kernel_rfl) (by kernel_rfl) (by kernel_rfl) (fun _ _ _ h => h) (Or.inl ⟨by rfl, ?_⟩) hHeld ?_
    · intro u hSu
      obtain ⟨t0u, t1u⟩ := row_cells hSu.out.1.bT
      obtain ⟨a0u, a1u, a2u, a3u⟩ := HTB.out u hSu.out.1
      obtain ⟨g0u, g1u⟩ := row_cells hSu.out.2
      have n0u := HN3.out u hSu.out.1
      go_simp
      first | done | with_reducible rfl
    (try simp only [Act.put, List.setIfInBounds_toArray, List.set_cons_zero, List.set_cons_succ])
    refine wpAnyH_take (i := 6) (oi := { dst := some 140, op := Op.pick (Operand.tmp 136) (Operand.const (Value.bool true)) (Operand.tmp 139), type := 4, pos := "law.go:181", after := #[{ on := 2, ground := Ground.data }, { on := 5, ground := Ground.data }], guard := none }) (v := ?_) rfl (by kernel_rfl) (by kernel_rfl) (by kernel_rfl) (fun _ _ _ h => h) (Or.inl ⟨by rfl, ?_⟩) hHeld ?_
    rotate_left 1
    · intro u hSu
      obtain ⟨t0u, t1u⟩ := row_cells hSu.out.1.bT
      obtain ⟨a0u, a1u, a2u, a3u⟩ := HTB.out u hSu.out.1
      obtain ⟨g0u, g1u⟩ := row_cells hSu.out.2
      have n0u := HN3.out u hSu.out.1
      go_simp
      first | done | with_reducible rfl
    (try simp only [Act.put, List.setIfInBounds_toArray, List.set_cons_zero, List.set_cons_succ])
    refine wpAnyH_take (i := 7) (oi := { dst := some 141, op := Op.move (Operand.tmp 140), type := 4, pos := "law.go:181", after := #[{ on := 6, ground := Ground.data }, { on := 2, ground := Ground.chain }], guard := none }) (v := ?_) rfl (by kernel_rfl) (by kernel_rfl) (by kernel_rfl) (fun _ _ _ h => h) (Or.inl ⟨by rfl, ?_⟩) hHeld ?_
    rotate_left 1
    · intro u hSu
      obtain ⟨t0u, t1u⟩ := row_cells hSu.out.1.bT
      obtain ⟨a0u, a1u, a2u, a3u⟩ := HTB.out u hSu.out.1
      obtain ⟨g0u, g1u⟩ := row_cells hSu.out.2
      have n0u := HN3.out u hSu.out.1
      go_simp
      first | done | with_reducible rfl
    (try simp only [Act.put, List.setIfInBounds_toArray, List.set_cons_zero, List.set_cons_succ])
    refine wpAnyH_take (i := 8) (oi := { dst := some 142, op := Op.load 45 (Operand.tmp 4), type := 45, pos := "law.go:181", after := #[{ on := 7, ground := Ground.guard }], guard := some (7, false) }) (v := ?_) rfl (by kernel_rfl) (by kernel_rfl) (by kernel_rfl) (fun _ _ _ h => h) (Or.inl ⟨by rfl, ?_⟩) hHeld ?_
    rotate_left 1
    · intro u hSu
      obtain ⟨t0u, t1u⟩ := row_cells hSu.out.1.bT
      obtain ⟨a0u, a1u, a2u, a3u⟩ := HTB.out u hSu.out.1
      obtain ⟨g0u, g1u⟩ := row_cells hSu.out.2
      have n0u := HN3.out u hSu.out.1
      go_simp
      first | done | with_reducible rfl
    (try simp only [Act.put, List.setIfInBounds_toArray, List.set_cons_zero, List.set_cons_succ])
    refine wpAnyH_take (i := 9) (oi := { dst := some 143, op := Op.move (Operand.tmp 12), type := 22, pos := "law.go:181", after := #[{ on := 7, ground := Ground.guard }], guard := some (7, false) }) (v := ?_) rfl (by kernel_rfl) (by kernel_rfl) (by kernel_rfl) (fun _ _ _ h => h) (Or.inl ⟨by rfl, ?_⟩) hHeld ?_
    rotate_left 1
    · intro u hSu
      obtain ⟨t0u, t1u⟩ := row_cells hSu.out.1.bT
      obtain ⟨a0u, a1u, a2u, a3u⟩ := HTB.out u hSu.out.1
      obtain ⟨g0u, g1u⟩ := row_cells hSu.out.2
      have n0u := HN3.out u hSu.out.1
      go_simp
      first | done | with_reducible rfl
    (try simp only [Act.put, List.setIfInBounds_toArray, List.set_cons_zero, List.set_cons_succ])
    refine wpAnyH_take (i := 10) (oi := { dst := some 144, op := Op.move (Operand.tmp 15), type := 3, pos := "law.go:181", after := #[{ on := 7, ground := Ground.guard }], guard := some (7, false) }) (v := ?_) rfl (by kernel_rfl) (by kernel_rfl) (by kernel_rfl) (fun _ _ _ h => h) (Or.inl ⟨by rfl, ?_⟩) hHeld ?_
    rotate_left 1
    · intro u hSu
      obtain ⟨t0u, t1u⟩ := row_cells hSu.out.1.bT
      obtain ⟨a0u, a1u, a2u, a3u⟩ := HTB.out u hSu.out.1
      obtain ⟨g0u, g1u⟩ := row_cells hSu.out.2
      have n0u := HN3.out u hSu.out.1
      go_simp
      first | done | with_reducible rfl
    (try simp only [Act.put, List.setIfInBounds_toArray, List.set_cons_zero, List.set_cons_succ])
    refine wpAnyH_take (i := 11) (oi := { dst := some 145, op := Op.indexAddr 22 (Operand.tmp 143) (Operand.tmp 144), type := 0, pos := "law.go:181", after := #[{ on := 9, ground := Ground.data }, { on := 10, ground := Ground.data }, { on := 7, ground := Ground.guard }], guard := some (7, false) }) (v := ?_) rfl (by kernel_rfl) (by kernel_rfl) (by kernel_rfl) (fun _ _ _ h => h) (Or.inl ⟨by rfl, ?_⟩) hHeld ?_
    rotate_left 1
    · intro u hSu
      obtain ⟨t0u, t1u⟩ := row_cells hSu.out.1.bT
      obtain ⟨a0u, a1u, a2u, a3u⟩ := HTB.out u hSu.out.1
      obtain ⟨g0u, g1u⟩ := row_cells hSu.out.2
      have n0u := HN3.out u hSu.out.1
      go_simp
      first | done | with_reducible rfl
    (try simp only [Act.put, List.setIfInBounds_toArray, List.set_cons_zero, List.set_cons_succ])
    refine wpAnyH_take (i := 12) (oi := { dst := some 146, op := Op.load 3 (Operand.tmp 145), type := 3, pos := "law.go:181", after := #[{ on := 11, ground := Ground.data }, { on := 7, ground := Ground.guard }], guard := some (7, false) }) (v := ?_) rfl (by kernel_rfl) (by kernel_rfl) (by kernel_rfl) (fun _ _ _ h => h) (Or.inl ⟨by rfl, ?_⟩) hHeld ?_
    rotate_left 1
    · intro u hSu
      obtain ⟨t0u, t1u⟩ := row_cells hSu.out.1.bT
      obtain ⟨a0u, a1u, a2u, a3u⟩ := HTB.out u hSu.out.1
      obtain ⟨g0u, g1u⟩ := row_cells hSu.out.2
      have n0u := HN3.out u hSu.out.1
      go_simp
      first | done | with_reducible rfl
    (try simp only [Act.put, List.setIfInBounds_toArray, List.set_cons_zero, List.set_cons_succ])
    refine wpAnyH_ready (rs := [13]) (by kernel_rfl) (by simp) ?_
    refine AllReadyH.cons (o := { dst := some 147, op := Op.call { callee := Callee.value (Operand.func 43), args := #[Operand.tmp 142, Operand.tmp 146], argTypes := #[45, 3] }, type := 4, pos := "law.go:181", after := #[{ on := 8, ground := Ground.data }, { on := 12, ground := Ground.data }, { on := 7, ground := Ground.chain }, { on := 7, ground := Ground.guard }], guard := some (7, false) }) rfl (fun Kz hK => ?_) AllReadyH.nil
    go_simp
    go_at_call 43
    refine (rcap_any ⟨R, L0, pR, cR, pL, cL⟩ y _ _ hHeld.out.1.t).mono ?_
    rintro e wb ⟨rfl, hg⟩
    rw [HY.out.2]
    have HN := Lib.hid (And.intro (hHeld.out.1.keep hg) (kept_row hHeld.out.2 hg (by simp)))
    clear hg
    simp only
    refine hK.out _ _ (HN) (fun hH2 => ?_)
    clear hK Kz hHeld
    have hHeld := hH2
    clear hH2
    (try simp only [Act.put, List.setIfInBounds_toArray, List.set_cons_zero, List.set_cons_succ])
    refine wpAnyH_take (i := 14) (oi := { dst := some 148, op := Op.unOp UnOp.not 4 (Operand.tmp 147), type := 4, pos := "law.go:181", after := #[{ on := 13, ground := Ground.data }, { on := 7, ground := Ground.guard }], guard := some (7, false) }) (v := ?_) rfl (by kernel_rfl) (by kernel_rfl) (by kernel_rfl) (fun _ _ _ h => h) (Or.inl ⟨by rfl, ?_⟩) hHeld ?_
    rotate_left 1
    · intro u hSu
      obtain ⟨t0u, t1u⟩ := row_cells hSu.out.1.bT
      obtain ⟨a0u, a1u, a2u, a3u⟩ := HTB.out u hSu.out.1
      obtain ⟨g0u, g1u⟩ := row_cells hSu.out.2
      have n0u := HN3.out u hSu.out.1
      go_simp
      first | done | with_reducible rfl
    (try simp only [Act.put, List.setIfInBounds_toArray, List.set_cons_zero, List.set_cons_succ])
    refine wpAnyH_take (i := 15) (oi := { dst := some 149, op := Op.pick (Operand.tmp 141) (Operand.const (Value.bool true)) (Operand.tmp 148), type := 4, pos := "law.go:181", after := #[{ on := 7, ground := Ground.data }, { on := 14, ground := Ground.data }], guard := none }) (v := ?_) rfl (by kernel_rfl) (by kernel_rfl) (by kernel_rfl) (fun _ _ _ h => h) (Or.inl ⟨by rfl, ?_⟩) hHeld ?_
    rotate_left 1
    · intro u hSu
      obtain ⟨t0u, t1u⟩ := row_cells hSu.out.1.bT
      obtain ⟨a0u, a1u, a2u, a3u⟩ := HTB.out u hSu.out.1
      obtain ⟨g0u, g1u⟩ := row_cells hSu.out.2
      have n0u := HN3.out u hSu.out.1
      go_simp
      first | done | with_reducible rfl
    (try simp only [Act.put, List.setIfInBounds_toArray, List.set_cons_zero, List.set_cons_succ])
    refine wpAnyH_done (by kernel_rfl) ?_ _
    have K17 := hHeld
    clear hHeld K16
    go_wp2_with fail
    exact ⟨⟨j + 1, by omega, congrArg _ (by omega), K17⟩, by simp only [RowKit.intOf]; omega⟩
end Go.Proofs.YtahafijpcmphaaaGreat
