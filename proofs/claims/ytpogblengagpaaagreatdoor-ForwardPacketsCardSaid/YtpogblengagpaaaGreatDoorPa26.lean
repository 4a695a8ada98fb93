/- Parts of the proof, packed: TaTap2, FwPkLaw. -/
import Derived.Test.YtpogblengagpaaaGreatDoorPa23
import Derived.Test.YtpogblengagpaaaGreatDoorPa25
import Derived.Test.YtpogblengagpaaaGreatDoorPa17
import Derived.Test.YtpogblengagpaaaGreatDoorPa20
import Derived.Test.YtpogblengagpaaaGreatDoorPa18
/- tables: the tape's Table with a mistake. -/
namespace Go.Proofs.YtpogblengagpaaaGreatDoor
set_option maxRecDepth 100000
open Go.RowKit Bs
theorem st_up {a : Nat} {w w9 : World} {o : Obj} (h : St a w w9) (ho : w9.heap[w.heap.size]? = some o) : St a (w.alloc o) w9 := by
 refine ⟨⟨h.1.os, h.1.tape, h.1.output, by have := lt_rowB ho; simp; omega, fun b hb hr => ?_⟩, h.2⟩
 rcases Nat.lt_or_ge b w.heap.size with hlt | hge
 ·rw [h.1.block b hlt hr]
  exact (heap_alloc_old w o hlt).symm
 ·have : b = w.heap.size := by simp at hb; omega
  subst this
  rw [ho]; exact (heap_alloc_new w o).symm
set_option maxHeartbeats 6400000 in
theorem ttab1_any (a : Nat) (n0 : Int) (hn0 : 0 < n0) (hn1 : I64 n0) (w : World) (hT : Tp w a) :
  Calls Tryz.prog 10 #[.pointer (some ⟨a, 0, none⟩), .int .i64 n0] w fun e w' => TabPost a w e w' := by
 have ha := hT.lt
 have HA := Lib.hid ha
 obtain ⟨k1, k2⟩ := tone_box w #[.int .i64 0, .int .i64 0, .int .i64 0, .slice none 0 0] 25
 have HB := Lib.hid (And.intro k1 (And.intro k2 (And.intro (hT.keep k2) (by simp : (w.alloc (.cells #[.int .i64 0, .int .i64 0, .int .i64 0, .slice none 0 0] 25)).heap.size = w.heap.size + 1))))
 clear k1 k2 hT ha
 go_enter Tryz.func10, Tryz.ntmps10
 go_upto_region 1 with fail
 generalize w.alloc _ = wa at *
 go_wp2_with fail
 refine (mixed_any a 6 (by omega) (by omega) wa HB.out.2.2.1).mono ?_
 rintro e w1 ⟨R0, R, L0, vR, vL, rfl, hR, hL, hO, hid, hs⟩
 obtain ⟨pR, cR, pL, cL, rfl, rfl, hTg⟩ := tg_of_ownT hR hL
 have hlen : R.length = R0.length := by have := congrArg List.length hid; simpa using this
 have hck := (hO.2.2.2.2 (Int.le_refl 0)).1
 have hR6 : R.length ≤ 6 := by have := (hO.2.2.2.2 (Int.le_refl 0)).2; omega
 have HOK : Hid (chk R L0 = 0) := Lib.hid (by rw [chk_idsT hid]; exact hck)
 obtain ⟨b1, g1⟩ := tone_box w1 #[.slice pR R.length cR, .slice pL L0.length cL] 68
 have H1 : Hid (TT a w w1.heap.size ⟨R, L0, pR, cR, pL, cL⟩ (w1.alloc (.cells #[.slice pR R.length cR, .slice pL L0.length cL] 68))) := Lib.hid (by
  have hh := HB.out
  have hz := hh.2.2.2
  have hsz := hs.1.size
  exact ⟨kept_row (kept_row hh.1 hs.1 (fun e => by have := Option.some.inj e; have := HA.out; omega)) g1 (by simp), b1, (hTg.keep g1).mono (fun b hb => ⟨by have := hb.1; omega, hb.2⟩), (show St a w w1 from ⟨grown_trans (grown_none hh.2.1 _) hs.1, hs.2⟩).none_ g1, by omega, by simp⟩)
 clear hR hL hO hid hs hTg hck hlen b1 g1 HB
 go_upto_region 2 with fail
 generalize w1.alloc _ = w2 at *
 generalize w1.heap.size = B at *
 obtain ⟨t0, t1⟩ := row_cells H1.out.bT
 go_wp2_with fail
 refine (tplan_any a 0 (by unfold I64; omega) R pR pL cR L0.length cL (by omega) w2 H1.out.st.2 (H1.out.t.r.mono (fun b hb => ⟨by have := hb.1; have := HA.out; omega, by have := hb.2; have := H1.out.lo; omega⟩))).mono ?_
 rintro e w3 ⟨sub, len, E, pE, cE, rfl, hE, -, hgood, hs⟩
 obtain ⟨hg1, hg2, O, i, id, hO, hP⟩ := hgood (Int.le_refl 0)
 have hsub : inV sub 0 7 = true := by unfold inV at hg1 ⊢; simp only [decide_eq_true_eq] at hg1 ⊢; omega
 have HVP := Lib.hid (hP.valid HOK.out hO hsub hg2).1
 obtain ⟨b3, g3⟩ := tone_box w3 #[.int .i64 sub, .int .i64 len, .slice pE E.length cE] 72
 have H3 := Lib.hid (And.intro ((H1.out.tape HA.out hs).keep g3) (And.intro (kept_row b3 (grown_refl _ none) (by simp)) ((rdf_of_own hE).keep g3)))
 clear hE hgood hg1 hg2 hO hP hsub hs b3 g3 t0 t1 H1
 go_upto_region 3 with fail
 generalize w3.alloc _ = w4 at *
 generalize w3.heap.size = Bp at *
 obtain ⟨t0, t1⟩ := row_cells H3.out.1.bT
 obtain ⟨q0, q1, q2⟩ := row3B H3.out.2.1
 have hE24 := rows_len HVP.out
 go_wp2_with fail
 refine (rall11_any ⟨R, L0, pR, cR, pL, cL⟩ sub len E pE cE _ _ w4 H3.out.1.t H3.out.2.2 (by omega)).mono ?_
 rintro e w5 ⟨Ts, p, c, er, rfl, hres, hown, htab, hg⟩
 have hT5 := H3.out.1.keep hg
 have hsz4 := H3.out.1.lo
 have K5 : Hid (TW a w w4.heap.size (.slice p Ts.length c) Ts w5) := Lib.hid ⟨hT5.rs, hown, htab, hT5.st, by omega, hg.size⟩
 have hok : okT R L0 = true := by unfold okT; simpa using HOK.out
 have HM : Hid (AllM R L0 sub len E R Ts) := Lib.hid (by
  rcases hres with h | h
  ·exact h.2.2.2
  ·exact absurd ⟨hok, HVP.out⟩ h.2.1)
 have hTl : Ts.length ≤ 6 := Nat.le_trans HM.out.len hR6
 have HOKT := Lib.hid hok
 clear hres hown htab hg hT5 hok H3 t0 t1 q0 q1 q2 hsz4 HOK
 simp only
 obtain ⟨C, hC⟩ : ∃ C, w4.heap.size = C := ⟨_, rfl⟩
 rw [hC] at K5
 clear hC
 by_cases h0 : Ts.length = 0
 case pos =>
  have h0' : ((Ts.length : Int) == 0) = true := by simpa using h0
  obtain ⟨z0, z1, z2, z3⟩ := row4T K5.out.rs
  have f0 := frozen_of_row _ _ 0 _ _ K5.out.rs
  have f1 := frozen_of_row _ _ 1 _ _ K5.out.rs
  have f2 := frozen_of_row _ _ 2 _ _ K5.out.rs
  have f3 := frozen_of_row _ _ 3 _ _ K5.out.rs
  have HT := Lib.hid (store4B (.int .i64 1) (.int .i64 0) (.int .i64 8) (.slice none 0 0) K5.out.rs)
  clear h0
  go_wp2_with fail
  refine bodyPost_ret (res_tabB rfl _ _ w.heap.size _ _ _ _ rfl HT.out.1) rfl ?_
  have hst := K5.out.st.storeT HT.out.2 (Nat.le_refl _) HA.out
  exact ⟨1, 0, 8, [], none, 0, rfl, ⟨⟨none, 0, rfl, fun h => absurd rfl h⟩, fun x hx => (by cases hx)⟩, fun _ => rfl, ⟨Nat.le_refl _, by show (0 : Nat) ≤ _; omega⟩, fun x hx => (by cases hx), by unfold I64; omega, by show (0 : Nat) ≤ _; omega, fun x hx => (by cases hx), hst⟩
 have h0' : ((Ts.length : Int) == 0) = false := by simpa using h0
 clear h0'
 have h0'' : ¬ (Ts.length : Int) = 0 := by omega
 have h0' : ((Ts.length : Int) == 0) = false := by simpa using h0
 have hTl' : (Ts.length : Int) ≤ 6 := by omega
 clear h0
 go_wp2_with fail
 refine (next_any a (Ts.length : Int) (by unfold I64; omega) w5 K5.out.st.2).mono ?_
 rintro e w6 ⟨r, rfl, hr, hs⟩
 have K6 := Lib.hid (K5.out.tape HA.out hs)
 have hr2 : 0 ≤ r ∧ r < (Ts.length : Int) := by unfold CutOf at hr; omega
 clear hs hr K5
 obtain ⟨j, rfl⟩ : ∃ j : Nat, r = (j : Int) := ⟨r.toNat, by omega⟩
 have hj : j < Ts.length := by omega
 obtain ⟨x, hx⟩ : ∃ x, Ts[j]? = some x := ⟨_, List.getElem?_eq_getElem hj⟩
 obtain ⟨-, bt, ot, rfl, -, hc⟩ := tb_cells (rdf_of_own K6.out.own) (by omega)
 obtain ⟨a0, a1, a2, a3⟩ := hc j x hx
 have HX := Lib.hid (List.mem_of_getElem? hx)
 have hj1 : (j : Int) < (Ts.length : Int) := hr2.2
 have hj0 : (0 : Int) ≤ (j : Int) := hr2.1
 clear hc hx hr2 hj
 obtain ⟨HV1, HV2, HV3, -, HV5⟩ := all_valid HM.out HOKT.out HVP.out HX.out
 have HVB := Lib.hid (And.intro HV1 (And.intro HV2 (And.intro HV3 HV5)))
 have hxl : x.L.length ≤ 24 := by rw [HV5.1]; exact hE24
 have HXL := Lib.hid hxl
 have HNL : Hid (∀ y ∈ x.L, y.nx.length ≤ 24) := Lib.hid (by
  have hv := tab_valid HV5 HOKT.out (s := x.s) (n := x.n) (by rw [HV1, HV2]; exact HVP.out) HV3
  have h4 := (ck_ok hv).2.2.2.1
  intro y hy
  have := List.any_eq_false.1 h4 y hy
  unfold lgW at this
  simp only [decide_eq_true_eq] at this
  omega)
 clear HV1 HV2 HV3 HV5 hxl
 have hX := K6.out.tabs x HX.out
 go_wp2_with fail
 refine (copiedT_any x.r x.s x.n x.L x.p x.c _ w6 hX.rd hX.hy (by have := HXL.out; omega) (fun y hy => by have := HNL.out y hy; omega)).mono ?_
 rintro e w7 ⟨M, p2, c2, rfl, hO, hM, hg⟩
 have hM2 : ckT x.r x.s x.n M = 0 := tab_valid (bldM_congr HVB.out.2.2.2 hM) HOKT.out (by rw [HVB.out.1, HVB.out.2.1]; exact HVP.out) HVB.out.2.2.1
 have hro := ids_inT HOKT.out HVB.out.2.2.1
 have HM2 := Lib.hid (And.intro hM2 hro)
 have hMl : M.length ≤ 24 := by have := congrArg List.length hM; rw [List.length_map, List.length_map] at this; rw [this]; exact HXL.out
 have HML := Lib.hid hMl
 obtain ⟨b7, g7⟩ := tone_box w7 #[.int .i64 x.r, .int .i64 x.s, .int .i64 x.n, .slice p2 M.length c2] 25
 have hlo6 := K6.out.lo
 have K7 := Lib.hid (And.intro (kept_row (kept_row K6.out.rs hg (by simp)) g7 (by simp)) (And.intro b7 (And.intro ((hO.mono (lo2 := w.heap.size + 1) (by omega)).keep g7) (And.intro ((K6.out.st.none_ hg).none_ g7) (show w.heap.size + 1 ≤ w7.heap.size by have := hg.size; omega)))))
 have K7O := Lib.hid (And.intro (show ∀ b, (Value.slice p2 M.length c2).ownBlock = some b → b < w7.heap.size from fun b e => (hO.own.lt b e).2) (show ∀ y ∈ M, ∀ b, y.v.ownBlock = some b → b < w7.heap.size from fun y hy b e => ((hO.nx y hy).lt b e).2))
 clear hO hM hg hM2 hro hMl b7 g7 hlo6 hX K6 a0 a1 a2 a3 HX HVB HXL HNL HM hTl hTl' h0' h0'' hj0 hj1
 go_upto_region 7 with fail
 generalize w7.alloc _ = w8 at *
 generalize w7.heap.size = B9 at *
 generalize x.r = tr at *
 generalize x.s = ts at *
 generalize x.n = tn at *
 have hng : (0 : Int) < n0 := by omega
 go_wp2_with fail
 refine (one_any a n0 hn1 w8 K7.out.2.2.2.1.2).mono ?_
 rintro e w9 ⟨b1, rfl, hs⟩
 have hlo7 := K7.out.2.2.2.2
 have ha7 := HA.out
 have K9 := Lib.hid (And.intro (kept_row K7.out.1 hs.1 (fun e => by have := Option.some.inj e; omega)) (And.intro (kept_row K7.out.2.1 hs.1 (fun e => by have := Option.some.inj e; omega)) (And.intro (K7.out.2.2.1.over hs.1 (by omega)) (And.intro (K7.out.2.2.2.1.trans hs) hlo7))))
 have HRI : Hid (I64 tr) := Lib.hid (by have := HM2.out.2; unfold I64; omega)
 have HN24 : Hid (∀ y ∈ M, y.nx.length ≤ 100) := Lib.hid (fun y hy => by have := (row_asc HM2.out.1 hy).2.1; omega)
 clear hs K7 hng hlo7 ha7
 cases b1
 case false =>
  obtain ⟨z0, z1, z2, z3⟩ := row4T K9.out.1
  obtain ⟨d0, d1, d2, d3⟩ := row4T K9.out.2.1
  have f0 := frozen_of_row _ _ 0 _ _ K9.out.1
  have f1 := frozen_of_row _ _ 1 _ _ K9.out.1
  have f2 := frozen_of_row _ _ 2 _ _ K9.out.1
  have f3 := frozen_of_row _ _ 3 _ _ K9.out.1
  have HT := Lib.hid (store4B (.int .i64 tr) (.int .i64 ts) (.int .i64 tn) (.slice p2 M.length c2) K9.out.1)
  go_wp2_with fail
  refine bodyPost_ret (res_tabB rfl _ _ w.heap.size _ _ _ _ rfl HT.out.1) rfl ?_
  have hst := K9.out.2.2.2.1.storeT HT.out.2 (Nat.le_refl _) HA.out
  have hf := (K9.out.2.2.1.over HT.out.2 (by omega))
  obtain ⟨-, f5, f6, f7⟩ := own_rdw hf
  exact ⟨tr, ts, tn, M, p2, c2, rfl, (own_rdw2 hf).mono (fun b hb => ⟨by omega, hb.2⟩), f5, f6, f7, HRI.out, by have := HML.out; omega, fun y hy => by have := HN24.out y hy; omega, hst⟩
 obtain ⟨d0, d1, d2, d3⟩ := row4T K9.out.2.1
 have hml := HML.out
 go_wp2_with fail
 refine (bend_any a (w.heap.size + 1) B9 _ (w.alloc (.cells #[.int .i64 0, .int .i64 0, .int .i64 0, .slice none 0 0] 25)) w9 tr ts tn M p2 c2 (st_up K9.out.2.2.2.1 K9.out.1) K9.out.2.2.1 ⟨by simp; have := HA.out; omega, by simp, by have := lt_rowB K9.out.2.1; have := K9.out.2.2.2.2; omega⟩ K9.out.2.1 (by simp; exact K9.out.2.2.2.2) (fun hi => by
  rcases hi with hi | ⟨y, hy, hi⟩
  ·have := K7O.out.1 _ hi; omega
  ·have := K7O.out.2 y hy _ hi; omega) HRI.out (by omega) HN24.out).mono ?_
 rintro e w10 ⟨r2, s2, n2, L, p, c, rfl, hO2, hr2, hl2, hN2, hD2, hnD, hs2⟩
 have hlo9 := K9.out.2.2.2.2
 have hT := store4B (.int .i64 r2) (.int .i64 s2) (.int .i64 n2) (.slice p L.length c) hD2
 have hrs10 : w10.heap[w.heap.size]? = some (.cells #[.int .i64 0, .int .i64 0, .int .i64 0, .slice none 0 0] 25 (0, 0)) := by
  have h1 := hs2.1.block w.heap.size (by simp) (fun e => by have := Option.some.inj e; have := HA.out; omega)
  rw [h1]; exact heap_alloc_new w _
 have hst10 : St a w w10 := ⟨grown_trans (grown_none (World.grownBy_alloc w _ none) _) hs2.1, hs2.2⟩
 have K11 := Lib.hid (And.intro (kept_row hrs10 hT.2 (fun e => by have := Option.some.inj e; omega)) (And.intro hT.1 (And.intro (hO2.ne hT.2 hnD) (hst10.storeT hT.2 (by omega) HA.out))))
 have HF := Lib.hid (And.intro hr2 (And.intro hl2 hN2))
 obtain ⟨d0, d1, d2, d3⟩ := row4T hD2
 have f0 := frozen_of_row _ _ 0 _ _ hD2
 have f1 := frozen_of_row _ _ 1 _ _ hD2
 have f2 := frozen_of_row _ _ 2 _ _ hD2
 have f3 := frozen_of_row _ _ 3 _ _ hD2
 clear hO2 hr2 hl2 hN2 hD2 hnD hs2 hT hrs10 hst10 K9
 go_upto_region 9 with fail
 clear d0 d1 d2 d3 f0 f1 f2 f3
 generalize (((w10.setCell _ _).setCell _ _).setCell _ _).setCell _ _ = w11 at *
 obtain ⟨z0, z1, z2, z3⟩ := row4T K11.out.1
 obtain ⟨d0, d1, d2, d3⟩ := row4T K11.out.2.1
 have f0 := frozen_of_row _ _ 0 _ _ K11.out.1
 have f1 := frozen_of_row _ _ 1 _ _ K11.out.1
 have f2 := frozen_of_row _ _ 2 _ _ K11.out.1
 have f3 := frozen_of_row _ _ 3 _ _ K11.out.1
 have HT := Lib.hid (store4B (.int .i64 r2) (.int .i64 s2) (.int .i64 n2) (.slice p L.length c) K11.out.1)
 go_wp2_with fail
 refine bodyPost_ret (res_tabB rfl _ _ w.heap.size _ _ _ _ rfl HT.out.1) rfl ?_
 have hst := K11.out.2.2.2.storeT HT.out.2 (Nat.le_refl _) HA.out
 have hf := (K11.out.2.2.1.over HT.out.2 (by omega))
 obtain ⟨-, f5, f6, f7⟩ := own_rdw hf
 exact ⟨r2, s2, n2, L, p, c, rfl, (own_rdw2 hf).mono (fun b hb => ⟨by omega, hb.2⟩), f5, f6, f7, HF.out.1, by have := HF.out.2.1; omega, fun y hy => by have := HF.out.2.2 y hy; omega, hst⟩
end Go.Proofs.YtpogblengagpaaaGreatDoor

/- ForwardPackets: the law. -/
namespace Go.Proofs.YtpogblengagpaaaGreatDoor
set_option maxRecDepth 100000
open Go.RowKit Go.Maps Bs
set_option maxHeartbeats 1600000 in
theorem pput_gen {w : World} {h : Nat} (u0 u1 u2 u3 u4 u5 u6 u7 u8 u9 v0 v1 v2 v3 v4 v5 v6 v7 v8 v9 : Value) (hr : w.heap[h]? = some (.cells #[u0, u1, u2, u3, u4, u5, u6, u7, u8, u9] 28 (0, 0))) :
  ((((((((((w.setCell ⟨h, 0, none⟩ v0).setCell ⟨h, 1, none⟩ v1).setCell ⟨h, 2, none⟩ v2).setCell ⟨h, 3, none⟩ v3).setCell ⟨h, 4, none⟩ v4).setCell ⟨h, 5, none⟩ v5).setCell ⟨h, 6, none⟩ v6).setCell ⟨h, 7, none⟩ v7).setCell ⟨h, 8, none⟩ v8).setCell ⟨h, 9, none⟩ v9).heap[h]? = some (.cells #[v0, v1, v2, v3, v4, v5, v6, v7, v8, v9] 28 (0, 0)) := by
 have e0 := heap_setCell_same _ h 0 _ _ v0 hr
 generalize w.setCell ⟨h, 0, none⟩ v0 = w0 at *
 replace e0 : w0.heap[h]? = some (.cells #[v0, u1, u2, u3, u4, u5, u6, u7, u8, u9] 28 (0, 0)) := e0
 have e1 := heap_setCell_same _ h 1 _ _ v1 e0
 generalize w0.setCell ⟨h, 1, none⟩ v1 = w1 at *
 replace e1 : w1.heap[h]? = some (.cells #[v0, v1, u2, u3, u4, u5, u6, u7, u8, u9] 28 (0, 0)) := e1
 have e2 := heap_setCell_same _ h 2 _ _ v2 e1
 generalize w1.setCell ⟨h, 2, none⟩ v2 = w2 at *
 replace e2 : w2.heap[h]? = some (.cells #[v0, v1, v2, u3, u4, u5, u6, u7, u8, u9] 28 (0, 0)) := e2
 have e3 := heap_setCell_same _ h 3 _ _ v3 e2
 generalize w2.setCell ⟨h, 3, none⟩ v3 = w3 at *
 replace e3 : w3.heap[h]? = some (.cells #[v0, v1, v2, v3, u4, u5, u6, u7, u8, u9] 28 (0, 0)) := e3
 have e4 := heap_setCell_same _ h 4 _ _ v4 e3
 generalize w3.setCell ⟨h, 4, none⟩ v4 = w4 at *
 replace e4 : w4.heap[h]? = some (.cells #[v0, v1, v2, v3, v4, u5, u6, u7, u8, u9] 28 (0, 0)) := e4
 have e5 := heap_setCell_same _ h 5 _ _ v5 e4
 generalize w4.setCell ⟨h, 5, none⟩ v5 = w5 at *
 replace e5 : w5.heap[h]? = some (.cells #[v0, v1, v2, v3, v4, v5, u6, u7, u8, u9] 28 (0, 0)) := e5
 have e6 := heap_setCell_same _ h 6 _ _ v6 e5
 generalize w5.setCell ⟨h, 6, none⟩ v6 = w6 at *
 replace e6 : w6.heap[h]? = some (.cells #[v0, v1, v2, v3, v4, v5, v6, u7, u8, u9] 28 (0, 0)) := e6
 have e7 := heap_setCell_same _ h 7 _ _ v7 e6
 generalize w6.setCell ⟨h, 7, none⟩ v7 = w7 at *
 replace e7 : w7.heap[h]? = some (.cells #[v0, v1, v2, v3, v4, v5, v6, v7, u8, u9] 28 (0, 0)) := e7
 have e8 := heap_setCell_same _ h 8 _ _ v8 e7
 generalize w7.setCell ⟨h, 8, none⟩ v8 = w8 at *
 replace e8 : w8.heap[h]? = some (.cells #[v0, v1, v2, v3, v4, v5, v6, v7, v8, u9] 28 (0, 0)) := e8
 have e9 := heap_setCell_same _ h 9 _ _ v9 e8
 generalize w8.setCell ⟨h, 9, none⟩ v9 = w9 at *
 replace e9 : w9.heap[h]? = some (.cells #[v0, v1, v2, v3, v4, v5, v6, v7, v8, v9] 28 (0, 0)) := e9
 exact e9
theorem pput_any {w : World} {h : Nat} (Q X : Pk) (hr : w.heap[h]? = some (.cells (pcells Q) 28 (0, 0))) :
  (((((((((((w.setCell ⟨h, 0, none⟩ (.int .i64 X.mode)).setCell ⟨h, 1, none⟩ (.int .i64 X.sub)).setCell ⟨h, 2, none⟩ (.int .i64 X.set)).setCell ⟨h, 3, none⟩ (.int .i64 X.len)).setCell ⟨h, 4, none⟩ (.int .i64 X.ttl)).setCell ⟨h, 5, none⟩ (.int .i64 X.ent)).setCell ⟨h, 6, none⟩ (.int .i64 X.ing)).setCell ⟨h, 7, none⟩ (.int .i64 X.pro)).setCell ⟨h, 8, none⟩ (.int .u64 (X.bits : Int))).setCell ⟨h, 9, none⟩ (.string X.pay))).heap[h]? = some (.cells (pcells X) 28 (0, 0)) :=
 pput_gen _ _ _ _ _ _ _ _ _ _ _ _ _ _ _ _ _ _ _ _ hr
theorem p_froz {w : World} {b : Nat} {P : Pk} (hr : w.heap[b]? = some (.cells (pcells P) 28 (0, 0))) : w.frozen? ⟨b, 0, none⟩ = false ∧ w.frozen? ⟨b, 1, none⟩ = false ∧ w.frozen? ⟨b, 2, none⟩ = false ∧ w.frozen? ⟨b, 3, none⟩ = false ∧ w.frozen? ⟨b, 4, none⟩ = false ∧ w.frozen? ⟨b, 5, none⟩ = false ∧ w.frozen? ⟨b, 6, none⟩ = false ∧ w.frozen? ⟨b, 7, none⟩ = false ∧ w.frozen? ⟨b, 8, none⟩ = false ∧ w.frozen? ⟨b, 9, none⟩ = false :=
 ⟨frozen_of_row _ _ _ _ _ hr, frozen_of_row _ _ _ _ _ hr, frozen_of_row _ _ _ _ _ hr, frozen_of_row _ _ _ _ _ hr, frozen_of_row _ _ _ _ _ hr, frozen_of_row _ _ _ _ _ hr, frozen_of_row _ _ _ _ _ hr, frozen_of_row _ _ _ _ _ hr, frozen_of_row _ _ _ _ _ hr, frozen_of_row _ _ _ _ _ hr⟩
theorem FwR.mem64 {r s n : Int} {L : List Rw} {P : Pk} {e : Int} {loc lost : Nat} {cs : List (Int × Nat)} (h : FwR r s n L P e loc lost cs) (hb : U64 P.bits) : (∀ y ∈ cs, U64 y.2) ∧ cs.length ≤ 64 := by
 by_cases h0 : e = 0
 ·have hE : fwE r s n L P = 0 := h.he.symm.trans h0
  exact ⟨fun y hy => ((h.ok h0).mem (fw_ms hE) hb hy).2.2.2.2.2.1, (h.ok h0).len (fw_ms hE) hb⟩
 ·obtain ⟨-, -, rfl⟩ := h.no h0
  exact ⟨fun y hy => (by cases hy), by simp⟩
structure LP (W : World) (a Bb : Nat) (tr ts tn : Int) (tp : Option Addr) (tc : Nat) (l : List Rw) (P : Pk) (r s n : Int) (p : Option Addr) (c : Nat) (L : List Rw) (Q : Pk) (w : World) : Prop where
 tb0 : w.heap[W.heap.size]? = some (.cells #[.int .i64 tr, .int .i64 ts, .int .i64 tn, .slice tp l.length tc] 25 (0, 0))
 pb0 : w.heap[W.heap.size + 1]? = some (.cells (pcells P) 28 (0, 0))
 rd0 : RdW w (· < W.heap.size) tp tc l
 bb : w.heap[Bb]? = some (.cells #[.int .i64 r, .int .i64 s, .int .i64 n, .slice p L.length c] 25 (0, 0))
 qb : w.heap[Bb + 1]? = some (.cells (pcells Q) 28 (0, 0))
 rd : RdW w (fun b => b ≠ a ∧ b ≠ Bb ∧ b ≠ Bb + 1 ∧ b < w.heap.size) p c L
 tp_ : Tp w a
 tb : Tb w
 gr : W.grownBy w none
 lo_ : W.heap.size + 1 < a ∧ a < Bb ∧ 0 < W.heap.size
 wf : Q.Wf ∧ L.length ≤ 200
section
variable {W w w1 : World} {a Bb : Nat} {tr ts tn : Int} {tp : Option Addr} {tc : Nat} {l : List Rw} {P : Pk} {r s n : Int} {p : Option Addr} {c : Nat} {L : List Rw} {Q : Pk}
theorem LP.lt (h : LP W a Bb tr ts tn tp tc l P r s n p c L Q w) : Bb + 1 < w.heap.size := (Array.getElem?_eq_some_iff.1 h.qb).1
theorem LP.over {r2 s2 n2 : Int} {p2 : Option Addr} {c2 : Nat} {L2 : List Rw} {Q2 : Pk} (h : LP W a Bb tr ts tn tp tc l P r s n p c L Q w) {k : Nat} (g : w.grownBy w1 (some k)) (hk : k = a ∨ k = Bb ∨ k = Bb + 1) (ht : Tp w1 a) (hb : w1.heap[Bb]? = some (.cells #[.int .i64 r2, .int .i64 s2, .int .i64 n2, .slice p2 L2.length c2] 25 (0, 0))) (hq : w1.heap[Bb + 1]? = some (.cells (pcells Q2) 28 (0, 0))) (hr : RdW w1 (fun b => b ≠ a ∧ b ≠ Bb ∧ b ≠ Bb + 1 ∧ b < w1.heap.size) p2 c2 L2) (hw : Q2.Wf ∧ L2.length ≤ 200) : LP W a Bb tr ts tn tp tc l P r2 s2 n2 p2 c2 L2 Q2 w1 := by
 have hl := h.lo_
 have ne : ∀ i, i ≠ k → some i ≠ some k := fun i hi e => hi (Option.some.inj e)
 exact ⟨kept_row h.tb0 g (ne _ (by omega)), kept_row h.pb0 g (ne _ (by omega)), h.rd0.grown g (fun b hb => ne b (by have : b < W.heap.size := hb; omega)), hb, hq, hr, ht, h.tb.grown g (ne _ (by omega)).symm, grown_any h.gr g (fun b hb => ne b (by omega)), hl, hw⟩
theorem LP.tape (h : LP W a Bb tr ts tn tp tc l P r s n p c L Q w) (g : St a w w1) : LP W a Bb tr ts tn tp tc l P r s n p c L Q w1 := by
 have hl := h.lo_
 have hlt := h.lt
 have hs := g.gr.size
 have ne : ∀ i, i ≠ a → some i ≠ some a := fun i hi e => hi (Option.some.inj e)
 exact h.over g.gr (Or.inl rfl) g.tp (kept_row h.bb g.gr (ne _ (by omega))) (kept_row h.qb g.gr (ne _ (by omega))) ((h.rd.grown g.gr (fun b hb => ne b hb.1)).mono (fun b hb => ⟨hb.1, hb.2.1, hb.2.2.1, Nat.lt_of_lt_of_le hb.2.2.2 hs⟩)) h.wf
theorem LP.putQ (h : LP W a Bb tr ts tn tp tc l P r s n p c L Q w) (X : Pk) (hX : X.Wf) : LP W a Bb tr ts tn tp tc l P r s n p c L X ((((((((((w.setCell ⟨Bb + 1, 0, none⟩ (.int .i64 X.mode)).setCell ⟨Bb + 1, 1, none⟩ (.int .i64 X.sub)).setCell ⟨Bb + 1, 2, none⟩ (.int .i64 X.set)).setCell ⟨Bb + 1, 3, none⟩ (.int .i64 X.len)).setCell ⟨Bb + 1, 4, none⟩ (.int .i64 X.ttl)).setCell ⟨Bb + 1, 5, none⟩ (.int .i64 X.ent)).setCell ⟨Bb + 1, 6, none⟩ (.int .i64 X.ing)).setCell ⟨Bb + 1, 7, none⟩ (.int .i64 X.pro)).setCell ⟨Bb + 1, 8, none⟩ (.int .u64 (X.bits : Int))).setCell ⟨Bb + 1, 9, none⟩ (.string X.pay)) := by
 have hl := h.lo_
 have g := pput_grown w (Bb + 1) (.int .i64 X.mode) (.int .i64 X.sub) (.int .i64 X.set) (.int .i64 X.len) (.int .i64 X.ttl) (.int .i64 X.ent) (.int .i64 X.ing) (.int .i64 X.pro) (.int .u64 (X.bits : Int)) (.string X.pay)
 have hs := g.size
 have ne : ∀ i, i ≠ Bb + 1 → some i ≠ some (Bb + 1) := fun i hi e => hi (Option.some.inj e)
 exact h.over g (Or.inr (Or.inr rfl)) (tp_store h.tp_ g (by omega)) (kept_row h.bb g (ne _ (by omega))) (pput_any Q X h.qb) ((h.rd.grown g (fun b hb => ne b hb.2.2.1)).mono (fun b hb => ⟨hb.1, hb.2.1, hb.2.2.1, Nat.lt_of_lt_of_le hb.2.2.2 hs⟩)) ⟨hX, h.wf.2⟩
theorem LP.putB (h : LP W a Bb tr ts tn tp tc l P r s n p c L Q w) {r2 s2 n2 : Int} {p2 : Option Addr} {c2 : Nat} {L2 : List Rw} (hr : RdW w (fun b => b ≠ a ∧ b ≠ Bb ∧ b ≠ Bb + 1 ∧ b < w.heap.size) p2 c2 L2) (hL : L2.length ≤ 200) : LP W a Bb tr ts tn tp tc l P r2 s2 n2 p2 c2 L2 Q ((((w.setCell ⟨Bb, 0, none⟩ (.int .i64 r2)).setCell ⟨Bb, 1, none⟩ (.int .i64 s2)).setCell ⟨Bb, 2, none⟩ (.int .i64 n2)).setCell ⟨Bb, 3, none⟩ (.slice p2 L2.length c2)) := by
 have hl := h.lo_
 obtain ⟨hb, g⟩ := store4B (.int .i64 r2) (.int .i64 s2) (.int .i64 n2) (.slice p2 L2.length c2) h.bb
 have hs := g.size
 have ne : ∀ i, i ≠ Bb → some i ≠ some Bb := fun i hi e => hi (Option.some.inj e)
 exact h.over g (Or.inr (Or.inl rfl)) (tp_store h.tp_ g (by omega)) hb (kept_row h.qb g (ne _ (by omega))) ((hr.grown g (fun b hb => ne b hb.2.1)).mono (fun b hb => ⟨hb.1, hb.2.1, hb.2.2.1, Nat.lt_of_lt_of_le hb.2.2.2 hs⟩)) ⟨h.wf.1, hL⟩
end
structure LQ (W : World) (Bo Bw : Nat) (tr ts tn : Int) (tp : Option Addr) (tc : Nat) (l : List Rw) (P : Pk) (lo1 ls1 : Nat) (p1 : Option Addr) (c1 : Nat) (cs1 : List (Int × Nat)) (Q1 : Pk) (lo2 ls2 : Nat) (p2 : Option Addr) (c2 : Nat) (cs2 : List (Int × Nat)) (Q2 : Pk) (w : World) : Prop where
 tb0 : w.heap[W.heap.size]? = some (.cells #[.int .i64 tr, .int .i64 ts, .int .i64 tn, .slice tp l.length tc] 25 (0, 0))
 pb0 : w.heap[W.heap.size + 1]? = some (.cells (pcells P) 28 (0, 0))
 rd0 : RdW w (· < W.heap.size) tp tc l
 ob : w.heap[Bo]? = some (.cells #[.int .u64 (lo1 : Int), .int .u64 (ls1 : Int), .slice p1 cs1.length c1] 38 (0, 0))
 wb : w.heap[Bw]? = some (.cells #[.int .u64 (lo2 : Int), .int .u64 (ls2 : Int), .slice p2 cs2.length c2] 38 (0, 0))
 r1 : RdF w (fun b => b ≠ Bo ∧ b ≠ Bw) (.slice p1 cs1.length c1) cs1.length (cs1.flatMap (cyC Q1))
 r2 : RdF w (fun b => b ≠ Bo ∧ b ≠ Bw) (.slice p2 cs2.length c2) cs2.length (cs2.flatMap (cyC Q2))
 tb : Tb w
 gr : W.grownBy w none
 lo_ : W.heap.size + 1 < Bo ∧ Bo < Bw ∧ 0 < W.heap.size
section
variable {W w w1 : World} {Bo Bw : Nat} {tr ts tn : Int} {tp : Option Addr} {tc : Nat} {l : List Rw} {P : Pk} {lo1 ls1 : Nat} {p1 : Option Addr} {c1 : Nat} {cs1 : List (Int × Nat)} {Q1 : Pk} {lo2 ls2 : Nat} {p2 : Option Addr} {c2 : Nat} {cs2 : List (Int × Nat)} {Q2 : Pk} {lo3 ls3 : Nat} {p3 : Option Addr} {c3 : Nat} {cs3 : List (Int × Nat)} {Q3 : Pk}
theorem LQ.keep (h : LQ W Bo Bw tr ts tn tp tc l P lo1 ls1 p1 c1 cs1 Q1 lo2 ls2 p2 c2 cs2 Q2 w) (g : w.grownBy w1 none) : LQ W Bo Bw tr ts tn tp tc l P lo1 ls1 p1 c1 cs1 Q1 lo2 ls2 p2 c2 cs2 Q2 w1 :=
 ⟨kept_row h.tb0 g (by simp), kept_row h.pb0 g (by simp), h.rd0.keep g, kept_row h.ob g (by simp), kept_row h.wb g (by simp), h.r1.keep g, h.r2.keep g, h.tb.keep g, grown_trans h.gr g, h.lo_⟩
theorem LQ.lt (h : LQ W Bo Bw tr ts tn tp tc l P lo1 ls1 p1 c1 cs1 Q1 lo2 ls2 p2 c2 cs2 Q2 w) : Bw < w.heap.size := (Array.getElem?_eq_some_iff.1 h.wb).1
theorem LQ.rdw (h : LQ W Bo Bw tr ts tn tp tc l P lo1 ls1 p1 c1 cs1 Q1 lo2 ls2 p2 c2 cs2 Q2 w) : RdW w (· < w.heap.size) tp tc l :=
 h.rd0.mono (fun b (hb : b < W.heap.size) => Nat.lt_of_lt_of_le hb h.gr.size)
theorem LQ.put1 (h : LQ W Bo Bw tr ts tn tp tc l P lo1 ls1 p1 c1 cs1 Q1 lo2 ls2 p2 c2 cs2 Q2 w) (g : w.grownBy w1 none) (ho : w1.ownsRow w.heap.size 58 12 (.slice p3 cs3.length c3) cs3.length (cs3.flatMap (cyC Q3))) : LQ W Bo Bw tr ts tn tp tc l P lo3 ls3 p3 c3 cs3 Q3 lo2 ls2 p2 c2 cs2 Q2 (((w1.setCell ⟨Bo, 0, none⟩ (.int .u64 (lo3 : Int))).setCell ⟨Bo, 1, none⟩ (.int .u64 (ls3 : Int))).setCell ⟨Bo, 2, none⟩ (.slice p3 cs3.length c3)) := by
 have k := h.keep g
 have hl := h.lo_
 have hlt := h.lt
 have j := ob_grown w1 Bo (.int .u64 (lo3 : Int)) (.int .u64 (ls3 : Int)) (.slice p3 cs3.length c3)
 have ne : ∀ i, i ≠ Bo → some i ≠ some Bo := fun i hi e => hi (Option.some.inj e)
 have hr : RdF w1 (fun b => b ≠ Bo ∧ b ≠ Bw) (.slice p3 cs3.length c3) cs3.length (cs3.flatMap (cyC Q3)) := (rdf_of_own ho).mono (fun b hb => ⟨by have : w.heap.size ≤ b := hb; omega, by have : w.heap.size ≤ b := hb; omega⟩)
 exact ⟨kept_row k.tb0 j (ne _ (by omega)), kept_row k.pb0 j (ne _ (by omega)), k.rd0.grown j (fun b hb => ne b (by have : b < W.heap.size := hb; omega)), ob_put _ _ _ k.ob, kept_row k.wb j (ne _ (by omega)), hr.grown j (fun b hb => ne b hb.1), k.r2.grown j (fun b hb => ne b hb.1), k.tb.grown j (ne _ (by omega)).symm, grown_any k.gr j (fun b hb => ne b (by omega)), hl⟩
theorem LQ.put2 (h : LQ W Bo Bw tr ts tn tp tc l P lo1 ls1 p1 c1 cs1 Q1 lo2 ls2 p2 c2 cs2 Q2 w) (g : w.grownBy w1 none) (ho : w1.ownsRow w.heap.size 58 12 (.slice p3 cs3.length c3) cs3.length (cs3.flatMap (cyC Q3))) : LQ W Bo Bw tr ts tn tp tc l P lo1 ls1 p1 c1 cs1 Q1 lo3 ls3 p3 c3 cs3 Q3 (((w1.setCell ⟨Bw, 0, none⟩ (.int .u64 (lo3 : Int))).setCell ⟨Bw, 1, none⟩ (.int .u64 (ls3 : Int))).setCell ⟨Bw, 2, none⟩ (.slice p3 cs3.length c3)) := by
 have k := h.keep g
 have hl := h.lo_
 have hlt := h.lt
 have j := ob_grown w1 Bw (.int .u64 (lo3 : Int)) (.int .u64 (ls3 : Int)) (.slice p3 cs3.length c3)
 have ne : ∀ i, i ≠ Bw → some i ≠ some Bw := fun i hi e => hi (Option.some.inj e)
 have hr : RdF w1 (fun b => b ≠ Bo ∧ b ≠ Bw) (.slice p3 cs3.length c3) cs3.length (cs3.flatMap (cyC Q3)) := (rdf_of_own ho).mono (fun b hb => ⟨by have : w.heap.size ≤ b := hb; omega, by have : w.heap.size ≤ b := hb; omega⟩)
 exact ⟨kept_row k.tb0 j (ne _ (by omega)), kept_row k.pb0 j (ne _ (by omega)), k.rd0.grown j (fun b hb => ne b (by have : b < W.heap.size := hb; omega)), kept_row k.ob j (ne _ (by omega)), ob_put _ _ _ k.wb, k.r1.grown j (fun b hb => ne b hb.2), hr.grown j (fun b hb => ne b hb.2), k.tb.grown j (ne _ (by omega)).symm, grown_any k.gr j (fun b hb => ne b (by omega)), hl⟩
end
set_option maxHeartbeats 12800000 in
theorem packets_walkF (v0 : Value) (tr ts tn : Int) (tp : Option Addr) (tc : Nat) (l : List Rw) (P : Pk) (hP : P.Wf) (w : World) (hv : IntsIn w v0) (hT : Tb w) (hR : RdW w (· < w.heap.size) tp tc l) (hm : l.length ≤ 9223372036854775807) :
  Calls Tryz.prog 3 #[v0, .agg #[.int .i64 tr, .int .i64 ts, .int .i64 tn, .slice tp l.length tc], P.val] w fun e w' => e = .returned (.bool true) ∧ w.grownBy w' none := by
 have hval : P.val = .agg #[.int .i64 P.mode, .int .i64 P.sub, .int .i64 P.set, .int .i64 P.len, .int .i64 P.ttl, .int .i64 P.ent, .int .i64 P.ing, .int .i64 P.pro, .int .u64 (P.bits : Int), .string P.pay] := rfl
 rw [hval]
 obtain ⟨k1, k2, k3, k4⟩ := two_boxes w #[.int .i64 tr, .int .i64 ts, .int .i64 tn, .slice tp l.length tc] (pcells P) 25 28
 have H0 := Lib.hid (And.intro k1 (And.intro k2 (And.intro k3 (And.intro k4 (And.intro (ints_keep hv k3) (And.intro (hT.keep k3) (hR.keep k3)))))))
 have HTL := Lib.hid hT.lt
 have HP := Lib.hid hP
 have HM := Lib.hid hm
 unfold pcells at H0
 clear k1 k2 k3 k4 hv hT hval hP hR hm
 go_enter Tryz.func3, Tryz.ntmps3
 go_upto_region 1 with fail
 generalize (w.alloc _).alloc _ = wa at *
 go_wp2_with fail
 refine (new_any v0 wa H0.out.2.2.2.2.1).mono ?_
 rintro e w2 ⟨rfl, hg1, hT1⟩
 obtain ⟨a, ha⟩ : ∃ a, wa.heap.size = a := ⟨_, rfl⟩
 rw [ha] at hT1 ⊢
 have H2 := Lib.hid (And.intro hg1 (And.intro hT1 (show w.heap.size + 1 < a by have := H0.out.2.2.2.1; omega)))
 clear ha hg1 hT1
 go_wp2_with fail
 refine (fit_any a w2 H2.out.2.1).mono ?_
 rintro e w3 ⟨r, s, n, L, p, c, Q, rfl, hO, hck, hF, hl, hs⟩
 obtain ⟨k1, k2, k3⟩ := two_newF w3 (.cells #[.int .i64 r, .int .i64 s, .int .i64 n, .slice p L.length c] 25) (.cells (pcells Q) 28)
 have K4 : Hid (LP w a w3.heap.size tr ts tn tp tc l P r s n p c L Q ((w3.alloc (.cells #[.int .i64 r, .int .i64 s, .int .i64 n, .slice p L.length c] 25)).alloc (.cells (pcells Q) 28))) := Lib.hid (by
  have h := H0.out
  have ne : ∀ k, k ≠ a → some k ≠ some a := fun k hk e => hk (Option.some.inj e)
  have hl2 := H2.out.2.2
  have hz := HTL.out
  have ha2 := H2.out.2.1.lt
  have hs2 := hs.gr.size
  have hs3 := k3.size
  exact ⟨kept_row (kept_row (kept_row h.1 H2.out.1 (by simp)) hs.gr (ne _ (by omega))) k3 (by simp), kept_row (kept_row (kept_row h.2.1 H2.out.1 (by simp)) hs.gr (ne _ (by omega))) k3 (by simp), (((h.2.2.2.2.2.2.keep H2.out.1).grown hs.gr (fun b hb => ne b (by have : b < w.heap.size := hb; omega))).keep k3), k1, k2, ((own_rdw2 hO).keep k3).mono (fun b hb => ⟨by have := hb.1; omega, by have := hb.2; omega, by have := hb.2; omega, Nat.lt_of_lt_of_le hb.2 hs3⟩), hs.tp.keep k3, ((h.2.2.2.2.2.1.keep H2.out.1).grown hs.gr (ne _ (by omega)).symm).keep k3, grown_trans (grown_any (grown_trans h.2.2.1 H2.out.1) hs.gr (fun b hb => ne b (by omega))) k3, ⟨hl2, by omega, hz⟩, ⟨hF.wf, by omega⟩⟩)
 unfold pcells at K4
 clear k1 k2 k3 hO hck hF hl hs H0 H2
 go_upto_region 3 with fail
 generalize (w3.alloc _).alloc _ = w4 at *
 generalize w3.heap.size = Bb at *
 change Hid (LP w a Bb tr ts tn tp tc l P r s n p c L Q w4) at K4
 go_wp2_with fail
 refine (one_any a 5 (by unfold I64; omega) _ K4.out.tp_).mono ?_
 rintro e w5 ⟨z, rfl, hs⟩
 have K5 := Lib.hid (K4.out.tape hs)
 clear hs K4
 go_upto_if 22 with fail
 go_cut [] from 21 to 25 (fun wx => ∃ Q2 : Pk, Hid (LP w a Bb tr ts tn tp tc l P r s n p c L Q2 wx))
 case first =>
  cases z
  case false =>
   go_wp2_with fail
   go_meet
   exact ⟨Q, K5⟩
  go_wp2_with fail
  refine (packetN_agg a 2 (by decide) (by decide) w5 K5.out.tp_).mono ?_
  rintro e w6 ⟨X, rfl, hX, hs⟩
  have K6 := Lib.hid (K5.out.tape hs)
  have KX := Lib.hid (K6.out.putQ X hX)
  obtain ⟨z0, z1, z2, z3, z4, z5, z6, z7, z8, z9⟩ := p_facts K6.out.qb
  obtain ⟨f0, f1, f2, f3, f4, f5, f6, f7, f8, f9⟩ := p_froz K6.out.qb
  clear hs hX K5 K6
  go_wp2_with fail
  go_meet
  exact ⟨X, KX⟩
 case rest =>
 obtain ⟨Q2, K6⟩ := hcut
 clear K5
 obtain ⟨w6, hw6⟩ : ∃ w6, w6 = wc := ⟨_, rfl⟩
 rw [← hw6] at K6 ⊢
 clear hw6
 go_wp2_with fail
 refine (one_any a 5 (by unfold I64; omega) _ K6.out.tp_).mono ?_
 rintro e w7 ⟨z2, rfl, hs⟩
 have K7 := Lib.hid (K6.out.tape hs)
 clear hs K6
 go_upto_if 26 with fail
 go_cut [] from 25 to 29 (fun wx => ∃ (r2 s2 n2 : Int) (p2 : Option Addr) (c2 : Nat) (L2 : List Rw), Hid (LP w a Bb tr ts tn tp tc l P r2 s2 n2 p2 c2 L2 Q2 wx))
 case first =>
  cases z2
  case false =>
   go_wp2_with fail
   go_meet
   exact ⟨r, s, n, p, c, L, K7⟩
  go_wp2_with fail
  refine (ttab1_any a 2 (by decide) (by unfold I64; omega) w7 K7.out.tp_).mono ?_
  rintro e w8 ⟨r2, s2, n2, L2, p2, c2, rfl, hRd, -, -, -, -, hL2, -, hs⟩
  have K8 := Lib.hid (K7.out.tape hs)
  have KX : Hid (LP w a Bb tr ts tn tp tc l P r2 s2 n2 p2 c2 L2 Q2 ((((w8.setCell ⟨Bb, 0, none⟩ (.int .i64 r2)).setCell ⟨Bb, 1, none⟩ (.int .i64 s2)).setCell ⟨Bb, 2, none⟩ (.int .i64 n2)).setCell ⟨Bb, 3, none⟩ (.slice p2 L2.length c2))) := Lib.hid (K8.out.putB (hRd.mono (fun b hb => ⟨by have := K7.out.lt; have := K7.out.lo_; have := hb.1; omega, by have := K7.out.lt; have := hb.1; omega, by have := K7.out.lt; have := hb.1; omega, hb.2⟩)) hL2)
  obtain ⟨z0, z1, z2, z3⟩ := row4T K8.out.bb
  have f0 := frozen_of_row _ _ 0 _ _ K8.out.bb
  have f1 := frozen_of_row _ _ 1 _ _ K8.out.bb
  have f2 := frozen_of_row _ _ 2 _ _ K8.out.bb
  have f3 := frozen_of_row _ _ 3 _ _ K8.out.bb
  clear hs hRd hL2 K7 K8
  go_wp2_with fail
  go_meet
  exact ⟨r2, s2, n2, p2, c2, L2, KX⟩
 case rest =>
 clear K7
 obtain ⟨r, s, n, p, c, L, K8⟩ := hcut
 obtain ⟨Q, hQ⟩ : ∃ Q, Q2 = Q := ⟨_, rfl⟩
 rw [hQ] at K8
 clear hQ
 obtain ⟨w8, hw8⟩ : ∃ w8, w8 = wc := ⟨_, rfl⟩
 rw [← hw8] at K8 ⊢
 clear hw8
 obtain ⟨d0, d1, d2, d3⟩ := row4T K8.out.bb
 obtain ⟨a0, a1, a2, a3, a4, a5, a6, a7, a8, a9⟩ := p_facts K8.out.qb
 go_wp2_with fail
 refine (fwpk_any r s n p c L Q K8.out.wf.1 w8 (K8.out.rd.mono (fun b hb => hb.2.2.2)) (by have := K8.out.wf.2; omega) K8.out.tb).mono ?_
 rintro e w9 ⟨x, loc, lost, cs, pc, cc, rfl, hR, hO, hg⟩
 obtain ⟨k1, k2⟩ := tone_box w9 #[.int .u64 (loc : Int), .int .u64 (lost : Int), .slice pc cs.length cc] 38
 have K10 := Lib.hid (And.intro (kept_row K8.out.bb (grown_trans hg k2) (by simp)) (And.intro (kept_row K8.out.qb (grown_trans hg k2) (by simp)) (And.intro (K8.out.rd.keep (grown_trans hg k2)) (And.intro k1 (And.intro (((rdf_of_own2 hO).mono (fun b hb => (show b < w9.heap.size from hb.2))).keep k2) (And.intro hR (And.intro (grown_trans hg k2) (And.intro (show w8.heap.size ≤ w9.heap.size from hg.size) (show w9.heap.size < (w9.alloc (.cells #[.int .u64 (loc : Int), .int .u64 (lost : Int), .slice pc cs.length cc] 38)).heap.size by simp)))))))))
 clear k1 k2 hR hO hg d0 d1 d2 d3 a0 a1 a2 a3 a4 a5 a6 a7 a8 a9
 go_upto_region 8 with fail
 generalize w9.alloc _ = w10 at *
 generalize w9.heap.size = Bo at *
 obtain ⟨d0, d1, d2, d3⟩ := row4T K10.out.1
 obtain ⟨a0, a1, a2, a3, a4, a5, a6, a7, a8, a9⟩ := p_facts K10.out.2.1
 go_wp2_with fail
 refine (rpk_any r s n p c L Q K8.out.wf.1 w10 (K10.out.2.2.1.mono (fun b hb => Nat.lt_of_lt_of_le hb.2.2.2 K10.out.2.2.2.2.2.2.1.size)) (by have := K8.out.wf.2; omega) (K8.out.tb.keep K10.out.2.2.2.2.2.2.1)).mono ?_
 rintro e w11 ⟨x2, loc2, lost2, cs2, pc2, cc2, rfl, hR, hO, hg⟩
 obtain ⟨rfl, rfl, rfl, rfl⟩ := K10.out.2.2.2.2.2.1.uniq hR
 obtain ⟨k1, k2⟩ := tone_box w11 #[.int .u64 (loc : Int), .int .u64 (lost : Int), .slice pc2 cs.length cc2] 38
 have HU := Lib.hid (And.intro hR.hu (hR.mem64 K8.out.wf.1.bits))
 have K12 : Hid (LQ w Bo w11.heap.size tr ts tn tp tc l P loc lost pc cc cs Q loc lost pc2 cc2 cs Q (w11.alloc (.cells #[.int .u64 (loc : Int), .int .u64 (lost : Int), .slice pc2 cs.length cc2] 38))) := Lib.hid (by
  obtain ⟨-, -, -, ob, ro, -, g10, s1, s2⟩ := K10.out
  have ga := grown_trans hg k2
  have gb := grown_trans g10 ga
  have hs := hg.size
  have hlo := K8.out.lo_
  have hlt := K8.out.lt
  have h1 := (rdf_of_own2 hO).keep k2
  refine ⟨kept_row K8.out.tb0 gb (by simp), kept_row K8.out.pb0 gb (by simp), K8.out.rd0.keep gb, kept_row ob ga (by simp), k1, ?_, h1.mono (fun b hb => ⟨by have := hb.1; omega, by have := hb.2; omega⟩), K8.out.tb.keep gb, grown_trans K8.out.gr gb, ⟨by omega, by omega, hlo.2.2⟩⟩
  exact (K10.out.2.2.2.2.1.keep ga).mono (fun b hb => ⟨by have : b < Bo := hb; omega, by have : b < Bo := hb; omega⟩))
 clear k1 k2 hR hO hg d0 d1 d2 d3 a0 a1 a2 a3 a4 a5 a6 a7 a8 a9 K8 K10
 go_upto_region 9 with fail
 generalize w11.alloc _ = w12 at *
 generalize w11.heap.size = Bw at *
 obtain ⟨o0, o1, o2⟩ := (row3f K12.out.ob).1
 obtain ⟨x0, x1, x2⟩ := (row3f K12.out.wb).1
 refine wp_region_held_drew (S := fun w' => Hid (w12.grownBy w' none)) (by kernel_rfl) (Lib.hid (grown_drew (grown_refl _ none))) (fun hHeld => ?_)
 refine zT (i := 0) (v := ?_) rfl ?_ hHeld ?_
 rotate_left 1
 ·intro u hSu
  have KU := K12.out.keep hSu.out
  obtain ⟨o0u, o1u, o2u⟩ := (row3f KU.ob).1
  obtain ⟨x0u, x1u, x2u⟩ := (row3f KU.wb).1
  go_simp
  first | done | with_reducible rfl
 try simp only [Act.put, zA, zB, zC]
 refine zT (i := 1) (v := ?_) rfl ?_ hHeld ?_
 rotate_left 1
 ·intro u hSu
  have KU := K12.out.keep hSu.out
  obtain ⟨o0u, o1u, o2u⟩ := (row3f KU.ob).1
  obtain ⟨x0u, x1u, x2u⟩ := (row3f KU.wb).1
  go_simp
  first | done | with_reducible rfl
 try simp only [Act.put, zA, zB, zC]
 refine wpAnyH_ready (rs := [2]) (by kernel_rfl) (by simp) ?_
 refine AllReadyH.cons (o := ⟨_, _, _, _, _, _⟩) rfl (fun Kz hK => ?_) AllReadyH.nil
 go_simp
 go_at_call 13
 refine (same_any loc lost cs Q pc pc2 cc cc2 _ _ _ (K12.out.keep hHeld.out).r1 (K12.out.keep hHeld.out).r2 HU.out.2.2).mono ?_
 rintro e' wn ⟨rfl, hg⟩
 have HN := Lib.hid (grown_trans hHeld.out hg)
 clear hg
 simp only
 refine hK.out _ _ (HN) (fun hH2 => ?_)
 clear hK Kz hHeld
 have hHeld := hH2
 clear hH2
 try simp only [Act.put, zA, zB, zC]
 refine zT (i := 3) (v := .bool false) rfl ?_ hHeld ?_
 ·intro u hSu
  have KU := K12.out.keep hSu.out
  obtain ⟨o0u, o1u, o2u⟩ := (row3f KU.ob).1
  obtain ⟨x0u, x1u, x2u⟩ := (row3f KU.wb).1
  go_simp
  first | done | rfl | simp
 try simp only [Act.put, zA, zB, zC]
 refine zT (i := 4) (v := ?_) rfl ?_ hHeld ?_
 rotate_left 1
 ·intro u hSu
  have KU := K12.out.keep hSu.out
  obtain ⟨o0u, o1u, o2u⟩ := (row3f KU.ob).1
  obtain ⟨x0u, x1u, x2u⟩ := (row3f KU.wb).1
  go_simp
  first | done | with_reducible rfl
 try simp only [Act.put, zA, zB, zC]
 refine zT (i := 5) (v := ?_) rfl ?_ hHeld ?_
 rotate_left 1
 ·intro u hSu
  have KU := K12.out.keep hSu.out
  obtain ⟨o0u, o1u, o2u⟩ := (row3f KU.ob).1
  obtain ⟨x0u, x1u, x2u⟩ := (row3f KU.wb).1
  go_simp
  first | done | with_reducible rfl
 try simp only [Act.put, zA, zB, zC]
 refine zT (i := 6) (v := ?_) rfl ?_ hHeld ?_
 rotate_left 1
 ·intro u hSu
  have KU := K12.out.keep hSu.out
  obtain ⟨o0u, o1u, o2u⟩ := (row3f KU.ob).1
  obtain ⟨x0u, x1u, x2u⟩ := (row3f KU.wb).1
  go_simp
  first | done | with_reducible rfl
 try simp only [Act.put, zA, zB, zC]
 refine zT (i := 7) (v := .bool false) rfl ?_ hHeld ?_
 ·intro u hSu
  have KU := K12.out.keep hSu.out
  obtain ⟨o0u, o1u, o2u⟩ := (row3f KU.ob).1
  obtain ⟨x0u, x1u, x2u⟩ := (row3f KU.wb).1
  go_simp
  first | done | rfl | simp
 try simp only [Act.put, zA, zB, zC]
 refine zT (i := 8) (v := .bool false) rfl ?_ hHeld ?_
 ·intro u hSu
  have KU := K12.out.keep hSu.out
  obtain ⟨o0u, o1u, o2u⟩ := (row3f KU.ob).1
  obtain ⟨x0u, x1u, x2u⟩ := (row3f KU.wb).1
  go_simp
  first | done | rfl | simp
 try simp only [Act.put, zA, zB, zC]
 refine zT (i := 9) (v := ?_) rfl ?_ hHeld ?_
 rotate_left 1
 ·intro u hSu
  have KU := K12.out.keep hSu.out
  obtain ⟨o0u, o1u, o2u⟩ := (row3f KU.ob).1
  obtain ⟨x0u, x1u, x2u⟩ := (row3f KU.wb).1
  go_simp
  first | done | with_reducible rfl
 try simp only [Act.put, zA, zB, zC]
 refine zT (i := 10) (v := ?_) rfl ?_ hHeld ?_
 rotate_left 1
 ·intro u hSu
  have KU := K12.out.keep hSu.out
  obtain ⟨o0u, o1u, o2u⟩ := (row3f KU.ob).1
  obtain ⟨x0u, x1u, x2u⟩ := (row3f KU.wb).1
  go_simp
  first | done | with_reducible rfl
 try simp only [Act.put, zA, zB, zC]
 refine zT (i := 12) (v := ?_) rfl ?_ hHeld ?_
 rotate_left 1
 ·intro u hSu
  have KU := K12.out.keep hSu.out
  obtain ⟨o0u, o1u, o2u⟩ := (row3f KU.ob).1
  obtain ⟨x0u, x1u, x2u⟩ := (row3f KU.wb).1
  go_simp
  first | done | with_reducible rfl
 try simp only [Act.put, zA, zB, zC]
 refine wpAnyH_ready (rs := [11]) (by kernel_rfl) (by simp) ?_
 refine AllReadyH.cons (o := ⟨_, _, _, _, _, _⟩) rfl (fun Kz hK => ?_) AllReadyH.nil
 go_simp
 go_at_call 14
 refine (fwbits_any loc lost HU.out.1.1 HU.out.1.2 pc cc cs HU.out.2.1 HU.out.2.2 Q _ _ (K12.out.keep hHeld.out).r1).mono ?_
 rintro e' wn ⟨rfl, hg⟩
 have HN := Lib.hid (grown_trans hHeld.out hg)
 clear hg
 simp only
 refine hK.out _ _ (HN) (fun hH2 => ?_)
 clear hK Kz hHeld
 have hHeld := hH2
 clear hH2
 try simp only [Act.put, zA, zB, zC]
 refine wpAnyH_ready (rs := [13]) (by kernel_rfl) (by simp) ?_
 refine AllReadyH.cons (o := ⟨_, _, _, _, _, _⟩) rfl (fun Kz hK => ?_) AllReadyH.nil
 go_simp
 go_at_call 15
 refine (rfbits_any loc lost HU.out.1.1 HU.out.1.2 pc cc cs HU.out.2.1 HU.out.2.2 Q _ _ (K12.out.keep hHeld.out).r1).mono ?_
 rintro e' wn ⟨rfl, hg⟩
 have HN := Lib.hid (grown_trans hHeld.out hg)
 clear hg
 simp only
 refine hK.out _ _ (HN) (fun hH2 => ?_)
 clear hK Kz hHeld
 have hHeld := hH2
 clear hH2
 try simp only [Act.put, zA, zB, zC]
 refine zT (i := 14) (v := .bool false) rfl ?_ hHeld ?_
 ·intro u hSu
  have KU := K12.out.keep hSu.out
  obtain ⟨o0u, o1u, o2u⟩ := (row3f KU.ob).1
  obtain ⟨x0u, x1u, x2u⟩ := (row3f KU.wb).1
  go_simp
  first | done | rfl | simp
 try simp only [Act.put, zA, zB, zC]
 refine zT (i := 15) (v := .bool false) rfl ?_ hHeld ?_
 ·intro u hSu
  have KU := K12.out.keep hSu.out
  obtain ⟨o0u, o1u, o2u⟩ := (row3f KU.ob).1
  obtain ⟨x0u, x1u, x2u⟩ := (row3f KU.wb).1
  go_simp
  first | done | rfl | simp
 try simp only [Act.put, zA, zB, zC]
 refine wpAnyH_done (by kernel_rfl) ?_ _
 have K13 := Lib.hid (K12.out.keep hHeld.out)
 clear hHeld K12 o0 o1 o2 x0 x1 x2 HU
 obtain ⟨t0, t1, t2, t3⟩ := row4T K13.out.tb0
 by_cases h60 : 60 < l.length
 ·have h60' : (60 : Int) < (l.length : Int) := by omega
  clear h60
  go_wp2_with fail
  refine (awk13_any _ K13.out.tb).mono ?_
  rintro e wz ⟨rfl, hz⟩
  have GF := Lib.hid (grown_trans K13.out.gr hz)
  clear hz
  go_wp2_with fail
  go_ret
  exact ⟨rfl, GF.out⟩
 have h60' : ¬ (60 : Int) < (l.length : Int) := by omega
 clear h60
 go_upto_region 13 with fail
 clear h60'
 obtain ⟨a0, a1, a2, a3, a4, a5, a6, a7, a8, a9⟩ := p_facts K13.out.pb0
 go_wp2_with fail
 refine (fwpk_any tr ts tn tp tc l P HP.out _ K13.out.rdw HM.out K13.out.tb).mono ?_
 rintro e w14 ⟨x1, loc1, lost1, cs1, pc1, cc1, rfl, hR1, hO, hg⟩
 have K14 := Lib.hid (K13.out.keep hg)
 have KX : Hid (LQ w Bo Bw tr ts tn tp tc l P loc1 lost1 pc1 cc1 cs1 P loc lost pc2 cc2 cs Q (((w14.setCell ⟨Bo, 0, none⟩ (.int .u64 (loc1 : Int))).setCell ⟨Bo, 1, none⟩ (.int .u64 (lost1 : Int))).setCell ⟨Bo, 2, none⟩ (.slice pc1 cs1.length cc1))) := Lib.hid (K13.out.put1 hg hO)
 have HR1 := Lib.hid hR1
 obtain ⟨⟨o0, o1, o2⟩, f0, f1, f2⟩ := row3f K14.out.ob
 clear hg hO hR1 K13 K14 t0 t1 t2 t3 a0 a1 a2 a3 a4 a5 a6 a7 a8 a9
 go_upto_region 14 with fail
 clear o0 o1 o2 f0 f1 f2
 generalize ((w14.setCell _ _).setCell _ _).setCell _ _ = w15 at *
 obtain ⟨t0, t1, t2, t3⟩ := row4T KX.out.tb0
 obtain ⟨a0, a1, a2, a3, a4, a5, a6, a7, a8, a9⟩ := p_facts KX.out.pb0
 go_wp2_with fail
 refine (rpk_any tr ts tn tp tc l P HP.out _ KX.out.rdw HM.out KX.out.tb).mono ?_
 rintro e w16 ⟨x3, loc3, lost3, cs3, pc3, cc3, rfl, hR3, hO, hg⟩
 obtain ⟨rfl, rfl, rfl, rfl⟩ := HR1.out.uniq hR3
 have K16 := Lib.hid (KX.out.keep hg)
 have KY : Hid (LQ w Bo Bw tr ts tn tp tc l P loc1 lost1 pc1 cc1 cs1 P loc1 lost1 pc3 cc3 cs1 P (((w16.setCell ⟨Bw, 0, none⟩ (.int .u64 (loc1 : Int))).setCell ⟨Bw, 1, none⟩ (.int .u64 (lost1 : Int))).setCell ⟨Bw, 2, none⟩ (.slice pc3 cs1.length cc3))) := Lib.hid (KX.out.put2 hg hO)
 have HU := Lib.hid (hR3.mem64 HP.out.bits)
 obtain ⟨⟨o0, o1, o2⟩, f0, f1, f2⟩ := row3f K16.out.wb
 clear hg hO hR3 HR1 KX K16 t0 t1 t2 t3 a0 a1 a2 a3 a4 a5 a6 a7 a8 a9
 go_upto_region 15 with fail
 clear o0 o1 o2 f0 f1 f2
 generalize ((w16.setCell _ _).setCell _ _).setCell _ _ = w17 at *
 obtain ⟨o0, o1, o2⟩ := (row3f KY.out.ob).1
 obtain ⟨q0, q1, q2⟩ := (row3f KY.out.wb).1
 have hxx : (x1 == x1) = true := by simp
 go_wp2_with fail
 refine (same_any loc1 lost1 cs1 P pc1 pc3 cc1 cc3 _ _ w17 KY.out.r1 KY.out.r2 HU.out.2).mono ?_
 rintro e w18 ⟨rfl, hg⟩
 have K18 := Lib.hid (KY.out.keep hg)
 clear hg KY o0 o1 o2 q0 q1 q2
 go_wp2_with fail
 refine (awk13_any _ K18.out.tb).mono ?_
 rintro e wz ⟨rfl, hz⟩
 have GF := Lib.hid (grown_trans K18.out.gr hz)
 clear hz
 go_wp2_with fail
 go_ret
 exact ⟨rfl, GF.out⟩
end Go.Proofs.YtpogblengagpaaaGreatDoor
