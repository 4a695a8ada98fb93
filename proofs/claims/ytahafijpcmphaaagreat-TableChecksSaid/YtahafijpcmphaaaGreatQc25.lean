/- Parts of the proof, packed: TaTap2, TaBdM, TaCkM, TaFlM, TaFlS. -/
import Derived.Test.YtahafijpcmphaaaGreatQc23
import Derived.Test.YtahafijpcmphaaaGreatQc24
import Derived.Test.YtahafijpcmphaaaGreatQc16
import Derived.Test.YtahafijpcmphaaaGreatQc19
import Derived.Test.YtahafijpcmphaaaGreatQc5
import Derived.Test.YtahafijpcmphaaaGreatQc21
import Derived.Test.YtahafijpcmphaaaGreatQc6
import Derived.Test.YtahafijpcmphaaaGreatQc10
import Derived.Test.YtahafijpcmphaaaGreatQc2
/- tables: the tape's Table with a mistake. -/
namespace Go.Proofs.YtahafijpcmphaaaGreat
set_option maxRecDepth 100000
open Go.RowKit Bs
theorem st_up {a : Nat} {w w9 : World} {o : Obj} (h : St a w w9) (ho : w9.heap[w.heap.size]? = some o) : St a (w.alloc o) w9 := by
 refine ⟨⟨h.1.os, h.1.tape, h.1.output, by have := lt_rowB ho; simp; omega, fun b hb hr => ?_⟩, h.2⟩
 rcases Nat.lt_or_ge b w.heap.size with hlt | hge
 ·rw [h.1.block b hlt hr]
  exact (heap_alloc_old w o hlt).symm
 ·have : b = w.heap.size := by simp at hb; omega
  subst this
  rw [ho]; exact (heap_alloc_new w o).symm
set_option maxHeartbeats 6400000 in
theorem ttab1_any (a : Nat) (n0 : Int) (hn0 : 0 < n0) (hn1 : I64 n0) (w : World) (hT : Tp w a) :
  Calls Tryz.prog 11 #[.pointer (some ⟨a, 0, none⟩), .int .i64 n0] w fun e w' => TabPost a w e w' := by
 have ha := hT.lt
 have HA := Lib.hid ha
 obtain ⟨k1, k2⟩ := tone_box w #[.int .i64 0, .int .i64 0, .int .i64 0, .slice none 0 0] 25
 have HB := Lib.hid (And.intro k1 (And.intro k2 (And.intro (hT.keep k2) (by simp : (w.alloc (.cells #[.int .i64 0, .int .i64 0, .int .i64 0, .slice none 0 0] 25)).heap.size = w.heap.size + 1))))
 clear k1 k2 hT ha
 go_enter Tryz.func11, Tryz.ntmps11
 go_upto_region 1 with fail
 generalize w.alloc _ = wa at *
 go_wp2_with fail
 refine (mixed_any a 6 (by omega) (by omega) wa HB.out.2.2.1).mono ?_
 rintro e w1 ⟨R0, R, L0, vR, vL, rfl, hR, hL, hO, hid, hs⟩
 obtain ⟨pR, cR, pL, cL, rfl, rfl, hTg⟩ := tg_of_ownT hR hL
 have hlen : R.length = R0.length := by have := congrArg List.length hid; simpa using this
 have hck := (hO.2.2.2.2 (Int.le_refl 0)).1
 have hR6 : R.length ≤ 6 := by have := (hO.2.2.2.2 (Int.le_refl 0)).2; omega
 have HOK : Hid (chk R L0 = 0) := Lib.hid (by rw [chk_idsT hid]; exact hck)
 obtain ⟨b1, g1⟩ := tone_box w1 #[.slice pR R.length cR, .slice pL L0.length cL] 45
 have H1 : Hid (TT a w w1.heap.size ⟨R, L0, pR, cR, pL, cL⟩ (w1.alloc (.cells #[.slice pR R.length cR, .slice pL L0.length cL] 45))) := Lib.hid (by
  have hh := HB.out
  have hz := hh.2.2.2
  have hsz := hs.1.size
  exact ⟨kept_row (kept_row hh.1 hs.1 (fun e => by have := Option.some.inj e; have := HA.out; omega)) g1 (by simp), b1, (hTg.keep g1).mono (fun b hb => ⟨by have := hb.1; omega, hb.2⟩), (show St a w w1 from ⟨grown_trans (grown_none hh.2.1 _) hs.1, hs.2⟩).none_ g1, by omega, by simp⟩)
 clear hR hL hO hid hs hTg hck hlen b1 g1 HB
 go_upto_region 2 with fail
 generalize w1.alloc _ = w2 at *
 generalize w1.heap.size = B at *
 obtain ⟨t0, t1⟩ := row_cells H1.out.bT
 go_wp2_with fail
 refine (tplan_any a 0 (by unfold I64; omega) R pR pL cR L0.length cL (by omega) w2 H1.out.st.2 (H1.out.t.r.mono (fun b hb => ⟨by have := hb.1; have := HA.out; omega, by have := hb.2; have := H1.out.lo; omega⟩))).mono ?_
 rintro e w3 ⟨sub, len, E, pE, cE, rfl, hE, -, hgood, hs⟩
 obtain ⟨hg1, hg2, O, i, id, hO, hP⟩ := hgood (Int.le_refl 0)
 have hsub : inV sub 0 7 = true := by unfold inV at hg1 ⊢; simp only [decide_eq_true_eq] at hg1 ⊢; omega
 have HVP := Lib.hid (hP.valid HOK.out hO hsub hg2).1
 obtain ⟨b3, g3⟩ := tone_box w3 #[.int .i64 sub, .int .i64 len, .slice pE E.length cE] 48
 have H3 := Lib.hid (And.intro ((H1.out.tape HA.out hs).keep g3) (And.intro (kept_row b3 (grown_refl _ none) (by simp)) ((rdf_of_own hE).keep g3)))
 clear hE hgood hg1 hg2 hO hP hsub hs b3 g3 t0 t1 H1
 go_upto_region 3 with fail
 generalize w3.alloc _ = w4 at *
 generalize w3.heap.size = Bp at *
 obtain ⟨t0, t1⟩ := row_cells H3.out.1.bT
 obtain ⟨q0, q1, q2⟩ := row3B H3.out.2.1
 have hE24 := rows_len HVP.out
 go_wp2_with fail
 refine (rall11_any ⟨R, L0, pR, cR, pL, cL⟩ sub len E pE cE _ _ w4 H3.out.1.t H3.out.2.2 (by omega)).mono ?_
 rintro e w5 ⟨Ts, p, c, er, rfl, hres, hown, htab, hg⟩
 have hT5 := H3.out.1.keep hg
 have hsz4 := H3.out.1.lo
 have K5 : Hid (TW a w w4.heap.size (.slice p Ts.length c) Ts w5) := Lib.hid ⟨hT5.rs, hown, htab, hT5.st, by omega, hg.size⟩
 have hok : okT R L0 = true := by unfold okT; simpa using HOK.out
 have HM : Hid (AllM R L0 sub len E R Ts) := Lib.hid (by
  rcases hres with h | h
  ·exact h.2.2.2
  ·exact absurd ⟨hok, HVP.out⟩ h.2.1)
 have hTl : Ts.length ≤ 6 := Nat.le_trans HM.out.len hR6
 have HOKT := Lib.hid hok
 clear hres hown htab hg hT5 hok H3 t0 t1 q0 q1 q2 hsz4 HOK
 simp only
 obtain ⟨C, hC⟩ : ∃ C, w4.heap.size = C := ⟨_, rfl⟩
 rw [hC] at K5
 clear hC
 by_cases h0 : Ts.length = 0
 case pos =>
  have h0' : ((Ts.length : Int) == 0) = true := by simpa using h0
  obtain ⟨z0, z1, z2, z3⟩ := row4T K5.out.rs
  have f0 := frozen_of_row _ _ 0 _ _ K5.out.rs
  have f1 := frozen_of_row _ _ 1 _ _ K5.out.rs
  have f2 := frozen_of_row _ _ 2 _ _ K5.out.rs
  have f3 := frozen_of_row _ _ 3 _ _ K5.out.rs
  have HT := Lib.hid (store4B (.int .i64 1) (.int .i64 0) (.int .i64 8) (.slice none 0 0) K5.out.rs)
  clear h0
  go_wp2_with fail
  refine bodyPost_ret (res_tabB rfl _ _ w.heap.size _ _ _ _ rfl HT.out.1) rfl ?_
  have hst := K5.out.st.storeT HT.out.2 (Nat.le_refl _) HA.out
  exact ⟨1, 0, 8, [], none, 0, rfl, ⟨⟨none, 0, rfl, fun h => absurd rfl h⟩, fun x hx => (by cases hx)⟩, fun _ => rfl, ⟨Nat.le_refl _, by show (0 : Nat) ≤ _; omega⟩, fun x hx => (by cases hx), by unfold I64; omega, by show (0 : Nat) ≤ _; omega, fun x hx => (by cases hx), hst⟩
 have h0' : ((Ts.length : Int) == 0) = false := by simpa using h0
 clear h0'
 have h0'' : ¬ (Ts.length : Int) = 0 := by omega
 have h0' : ((Ts.length : Int) == 0) = false := by simpa using h0
 have hTl' : (Ts.length : Int) ≤ 6 := by omega
 clear h0
 go_wp2_with fail
 refine (next_any a (Ts.length : Int) (by unfold I64; omega) w5 K5.out.st.2).mono ?_
 rintro e w6 ⟨r, rfl, hr, hs⟩
 have K6 := Lib.hid (K5.out.tape HA.out hs)
 have hr2 : 0 ≤ r ∧ r < (Ts.length : Int) := by unfold CutOf at hr; omega
 clear hs hr K5
 obtain ⟨j, rfl⟩ : ∃ j : Nat, r = (j : Int) := ⟨r.toNat, by omega⟩
 have hj : j < Ts.length := by omega
 obtain ⟨x, hx⟩ : ∃ x, Ts[j]? = some x := ⟨_, List.getElem?_eq_getElem hj⟩
 obtain ⟨-, bt, ot, rfl, -, hc⟩ := tb_cells (rdf_of_own K6.out.own) (by omega)
 obtain ⟨a0, a1, a2, a3⟩ := hc j x hx
 have HX := Lib.hid (List.mem_of_getElem? hx)
 have hj1 : (j : Int) < (Ts.length : Int) := hr2.2
 have hj0 : (0 : Int) ≤ (j : Int) := hr2.1
 clear hc hx hr2 hj
 obtain ⟨HV1, HV2, HV3, -, HV5⟩ := all_valid HM.out HOKT.out HVP.out HX.out
 have HVB := Lib.hid (And.intro HV1 (And.intro HV2 (And.intro HV3 HV5)))
 have hxl : x.L.length ≤ 24 := by rw [HV5.1]; exact hE24
 have HXL := Lib.hid hxl
 have HNL : Hid (∀ y ∈ x.L, y.nx.length ≤ 24) := Lib.hid (by
  have hv := tab_valid HV5 HOKT.out (s := x.s) (n := x.n) (by rw [HV1, HV2]; exact HVP.out) HV3
  have h4 := (ck_ok hv).2.2.2.1
  intro y hy
  have := List.any_eq_false.1 h4 y hy
  unfold lgW at this
  simp only [decide_eq_true_eq] at this
  omega)
 clear HV1 HV2 HV3 HV5 hxl
 have hX := K6.out.tabs x HX.out
 go_wp2_with fail
 refine (copiedT_any x.r x.s x.n x.L x.p x.c _ w6 hX.rd hX.hy (by have := HXL.out; omega) (fun y hy => by have := HNL.out y hy; omega)).mono ?_
 rintro e w7 ⟨M, p2, c2, rfl, hO, hM, hg⟩
 have hM2 : ckT x.r x.s x.n M = 0 := tab_valid (bldM_congr HVB.out.2.2.2 hM) HOKT.out (by rw [HVB.out.1, HVB.out.2.1]; exact HVP.out) HVB.out.2.2.1
 have hro := ids_inT HOKT.out HVB.out.2.2.1
 have HM2 := Lib.hid (And.intro hM2 hro)
 have hMl : M.length ≤ 24 := by have := congrArg List.length hM; rw [List.length_map, List.length_map] at this; rw [this]; exact HXL.out
 have HML := Lib.hid hMl
 obtain ⟨b7, g7⟩ := tone_box w7 #[.int .i64 x.r, .int .i64 x.s, .int .i64 x.n, .slice p2 M.length c2] 25
 have hlo6 := K6.out.lo
 have K7 := Lib.hid (And.intro (kept_row (kept_row K6.out.rs hg (by simp)) g7 (by simp)) (And.intro b7 (And.intro ((hO.mono (lo2 := w.heap.size + 1) (by omega)).keep g7) (And.intro ((K6.out.st.none_ hg).none_ g7) (show w.heap.size + 1 ≤ w7.heap.size by have := hg.size; omega)))))
 have K7O := Lib.hid (And.intro (show ∀ b, (Value.slice p2 M.length c2).ownBlock = some b → b < w7.heap.size from fun b e => (hO.own.lt b e).2) (show ∀ y ∈ M, ∀ b, y.v.ownBlock = some b → b < w7.heap.size from fun y hy b e => ((hO.nx y hy).lt b e).2))
 clear hO hM hg hM2 hro hMl b7 g7 hlo6 hX K6 a0 a1 a2 a3 HX HVB HXL HNL HM hTl hTl' h0' h0'' hj0 hj1
 go_upto_region 7 with fail
 generalize w7.alloc _ = w8 at *
 generalize w7.heap.size = B9 at *
 generalize x.r = tr at *
 generalize x.s = ts at *
 generalize x.n = tn at *
 have hng : (0 : Int) < n0 := by omega
 go_wp2_with fail
 refine (one_any a n0 hn1 w8 K7.out.2.2.2.1.2).mono ?_
 rintro e w9 ⟨b1, rfl, hs⟩
 have hlo7 := K7.out.2.2.2.2
 have ha7 := HA.out
 have K9 := Lib.hid (And.intro (kept_row K7.out.1 hs.1 (fun e => by have := Option.some.inj e; omega)) (And.intro (kept_row K7.out.2.1 hs.1 (fun e => by have := Option.some.inj e; omega)) (And.intro (K7.out.2.2.1.over hs.1 (by omega)) (And.intro (K7.out.2.2.2.1.trans hs) hlo7))))
 have HRI : Hid (I64 tr) := Lib.hid (by have := HM2.out.2; unfold I64; omega)
 have HN24 : Hid (∀ y ∈ M, y.nx.length ≤ 100) := Lib.hid (fun y hy => by have := (row_asc HM2.out.1 hy).2.1; omega)
 clear hs K7 hng hlo7 ha7
 cases b1
 case false =>
  obtain ⟨z0, z1, z2, z3⟩ := row4T K9.out.1
  obtain ⟨d0, d1, d2, d3⟩ := row4T K9.out.2.1
  have f0 := frozen_of_row _ _ 0 _ _ K9.out.1
  have f1 := frozen_of_row _ _ 1 _ _ K9.out.1
  have f2 := frozen_of_row _ _ 2 _ _ K9.out.1
  have f3 := frozen_of_row _ _ 3 _ _ K9.out.1
  have HT := Lib.hid (store4B (.int .i64 tr) (.int .i64 ts) (.int .i64 tn) (.slice p2 M.length c2) K9.out.1)
  go_wp2_with fail
  refine bodyPost_ret (res_tabB rfl _ _ w.heap.size _ _ _ _ rfl HT.out.1) rfl ?_
  have hst := K9.out.2.2.2.1.storeT HT.out.2 (Nat.le_refl _) HA.out
  have hf := (K9.out.2.2.1.over HT.out.2 (by omega))
  obtain ⟨-, f5, f6, f7⟩ := own_rdw hf
  exact ⟨tr, ts, tn, M, p2, c2, rfl, (own_rdw2 hf).mono (fun b hb => ⟨by omega, hb.2⟩), f5, f6, f7, HRI.out, by have := HML.out; omega, fun y hy => by have := HN24.out y hy; omega, hst⟩
 obtain ⟨d0, d1, d2, d3⟩ := row4T K9.out.2.1
 have hml := HML.out
 go_wp2_with fail
 refine (bend_any a (w.heap.size + 1) B9 _ (w.alloc (.cells #[.int .i64 0, .int .i64 0, .int .i64 0, .slice none 0 0] 25)) w9 tr ts tn M p2 c2 (st_up K9.out.2.2.2.1 K9.out.1) K9.out.2.2.1 ⟨by simp; have := HA.out; omega, by simp, by have := lt_rowB K9.out.2.1; have := K9.out.2.2.2.2; omega⟩ K9.out.2.1 (by simp; exact K9.out.2.2.2.2) (fun hi => by
  rcases hi with hi | ⟨y, hy, hi⟩
  ·have := K7O.out.1 _ hi; omega
  ·have := K7O.out.2 y hy _ hi; omega) HRI.out (by omega) HN24.out).mono ?_
 rintro e w10 ⟨r2, s2, n2, L, p, c, rfl, hO2, hr2, hl2, hN2, hD2, hnD, hs2⟩
 have hlo9 := K9.out.2.2.2.2
 have hT := store4B (.int .i64 r2) (.int .i64 s2) (.int .i64 n2) (.slice p L.length c) hD2
 have hrs10 : w10.heap[w.heap.size]? = some (.cells #[.int .i64 0, .int .i64 0, .int .i64 0, .slice none 0 0] 25 (0, 0)) := by
  have h1 := hs2.1.block w.heap.size (by simp) (fun e => by have := Option.some.inj e; have := HA.out; omega)
  rw [h1]; exact heap_alloc_new w _
 have hst10 : St a w w10 := ⟨grown_trans (grown_none (World.grownBy_alloc w _ none) _) hs2.1, hs2.2⟩
 have K11 := Lib.hid (And.intro (kept_row hrs10 hT.2 (fun e => by have := Option.some.inj e; omega)) (And.intro hT.1 (And.intro (hO2.ne hT.2 hnD) (hst10.storeT hT.2 (by omega) HA.out))))
 have HF := Lib.hid (And.intro hr2 (And.intro hl2 hN2))
 obtain ⟨d0, d1, d2, d3⟩ := row4T hD2
 have f0 := frozen_of_row _ _ 0 _ _ hD2
 have f1 := frozen_of_row _ _ 1 _ _ hD2
 have f2 := frozen_of_row _ _ 2 _ _ hD2
 have f3 := frozen_of_row _ _ 3 _ _ hD2
 clear hO2 hr2 hl2 hN2 hD2 hnD hs2 hT hrs10 hst10 K9
 go_upto_region 9 with fail
 clear d0 d1 d2 d3 f0 f1 f2 f3
 generalize (((w10.setCell _ _).setCell _ _).setCell _ _).setCell _ _ = w11 at *
 obtain ⟨z0, z1, z2, z3⟩ := row4T K11.out.1
 obtain ⟨d0, d1, d2, d3⟩ := row4T K11.out.2.1
 have f0 := frozen_of_row _ _ 0 _ _ K11.out.1
 have f1 := frozen_of_row _ _ 1 _ _ K11.out.1
 have f2 := frozen_of_row _ _ 2 _ _ K11.out.1
 have f3 := frozen_of_row _ _ 3 _ _ K11.out.1
 have HT := Lib.hid (store4B (.int .i64 r2) (.int .i64 s2) (.int .i64 n2) (.slice p L.length c) K11.out.1)
 go_wp2_with fail
 refine bodyPost_ret (res_tabB rfl _ _ w.heap.size _ _ _ _ rfl HT.out.1) rfl ?_
 have hst := K11.out.2.2.2.storeT HT.out.2 (Nat.le_refl _) HA.out
 have hf := (K11.out.2.2.1.over HT.out.2 (by omega))
 obtain ⟨-, f5, f6, f7⟩ := own_rdw hf
 exact ⟨r2, s2, n2, L, p, c, rfl, (own_rdw2 hf).mono (fun b hb => ⟨by omega, hb.2⟩), f5, f6, f7, HF.out.1, by have := HF.out.2.1; omega, fun y hy => by have := HF.out.2.2 y hy; omega, hst⟩
end Go.Proofs.YtahafijpcmphaaaGreat

/- tables: what Build gives. -/
namespace Go.Proofs.YtahafijpcmphaaaGreat
set_option maxRecDepth 100000
open Go.RowKit Bs
def buE (R : List Rt) (L0 : List Lk) (s n : Int) (E : List Ed) (ro : Int) : Int :=
 if okT R L0 = true ∧ vPl s n E = true then (if hasV R L0 ro = true then (if capV R L0 ro = true then 0 else 26) else 4) else 1
theorem bu_inv {R : List Rt} {L0 : List Lk} {s n : Int} {E : List Ed} {ro : Int} (h : ¬ (okT R L0 = true ∧ vPl s n E = true)) : buE R L0 s n E ro = 1 := by unfold buE; rw [if_neg h]
theorem bu_unk {R : List Rt} {L0 : List Lk} {s n : Int} {E : List Ed} {ro : Int} (h : okT R L0 = true ∧ vPl s n E = true) (h1 : hasV R L0 ro = false) : buE R L0 s n E ro = 4 := by unfold buE; rw [if_pos h, if_neg (by rw [h1]; decide)]
theorem bu_cap {R : List Rt} {L0 : List Lk} {s n : Int} {E : List Ed} {ro : Int} (h : okT R L0 = true ∧ vPl s n E = true) (h1 : hasV R L0 ro = true) (h2 : capV R L0 ro = false) : buE R L0 s n E ro = 26 := by unfold buE; rw [if_pos h, if_pos h1, if_neg (by rw [h2]; decide)]
theorem bu_ok {R : List Rt} {L0 : List Lk} {s n : Int} {E : List Ed} {ro : Int} (h : okT R L0 = true ∧ vPl s n E = true) (h1 : hasV R L0 ro = true) (h2 : capV R L0 ro = true) : buE R L0 s n E ro = 0 := by unfold buE; rw [if_pos h, if_pos h1, if_pos h2]
def TBdPost (R : List Rt) (L0 : List Lk) (ro s n : Int) (E : List Ed) (w : World) (e : Ending) (w' : World) : Prop :=
 ∃ (r1 s1 n1 : Int) (L : List Rw) (p : Option Addr) (c : Nat) (er : Int), e = .returned (.tuple #[.agg #[.int .i64 r1, .int .i64 s1, .int .i64 n1, .slice p L.length c], .int .i64 er]) ∧ er = buE R L0 s n E ro ∧ w'.ownsRow w.heap.size 36 2 (.slice p L.length c) L.length (L.flatMap rwC) ∧ (∀ x ∈ L, RdX w.heap.size w' (.slice p L.length c) x.p x.c x.nx) ∧ ((er = 0 ∧ r1 = ro ∧ s1 = s ∧ n1 = n ∧ BldM R L0 ro E L) ∨ (er ≠ 0 ∧ r1 = 0 ∧ s1 = 0 ∧ n1 = 0 ∧ L = [])) ∧ w.grownBy w' none
theorem tbd_zero {R : List Rt} {L0 : List Lk} {ro s n er : Int} {E : List Ed} {w w' : World} (h : buE R L0 s n E ro = er) (h0 : er ≠ 0) (g : w.grownBy w' none) : TBdPost R L0 ro s n E w (.returned (.tuple #[.agg #[.int .i64 0, .int .i64 0, .int .i64 0, .slice none 0 0], .int .i64 er])) w' :=
 ⟨0, 0, 0, [], none, 0, er, rfl, h.symm, World.ownsRow_nil _ _ _ _, fun x hx => (by cases hx), Or.inr ⟨h0, rfl, rfl, rfl, rfl⟩, g⟩
structure B3 (W : World) (T : Tg) (s n : Int) (E : List Ed) (pE : Option Addr) (cE : Nat) (w : World) : Prop where
 bT : w.heap[W.heap.size]? = some (.cells #[.slice T.pR T.R.length T.cR, .slice T.pL T.L.length T.cL] 45 (0, 0))
 bP : w.heap[W.heap.size + 1]? = some (.cells #[.int .i64 s, .int .i64 n, .slice pE E.length cE] 48 (0, 0))
 bR : w.heap[W.heap.size + 1 + 1]? = some (.cells #[.int .i64 0, .int .i64 0, .int .i64 0, .slice none 0 0] 25 (0, 0))
 t : TgOk w (· < W.heap.size) T
 e : RdF w (· < W.heap.size) (.slice pE E.length cE) E.length (E.flatMap edC)
 gr : W.grownBy w none
 lo : W.heap.size + 3 ≤ w.heap.size
theorem B3.keep {W : World} {T : Tg} {s n : Int} {E : List Ed} {pE : Option Addr} {cE : Nat} {w w1 : World} (h : B3 W T s n E pE cE w) (g : w.grownBy w1 none) : B3 W T s n E pE cE w1 :=
 ⟨kept_row h.bT g (by simp), kept_row h.bP g (by simp), kept_row h.bR g (by simp), h.t.keep g, h.e.keep g, grown_trans h.gr g, Nat.le_trans h.lo g.size⟩
theorem b3_start {w : World} {T : Tg} {q q2 : Nat → Prop} (s n : Int) {E : List Ed} {pE : Option Addr} {cE : Nat} (hT : TgOk w q T) (hE : RdF w q2 (.slice pE E.length cE) E.length (E.flatMap edC)) :
  B3 w T s n E pE cE (((w.alloc (.cells #[.slice T.pR T.R.length T.cR, .slice T.pL T.L.length T.cL] 45)).alloc (.cells #[.int .i64 s, .int .i64 n, .slice pE E.length cE] 48)).alloc (.cells #[.int .i64 0, .int .i64 0, .int .i64 0, .slice none 0 0] 25)) := by
 obtain ⟨a1, g1, z1⟩ := alloc_row (w := w) #[.slice T.pR T.R.length T.cR, .slice T.pL T.L.length T.cL] 45 rfl
 generalize w.alloc _ = w1 at *
 obtain ⟨a2, g2, z2⟩ := alloc_row (w := w1) #[.int .i64 s, .int .i64 n, .slice pE E.length cE] 48 z1
 generalize w1.alloc _ = w2 at *
 obtain ⟨a3, g3, z3⟩ := alloc_row (w := w2) #[.int .i64 0, .int .i64 0, .int .i64 0, .slice none 0 0] 25 z2
 generalize w2.alloc _ = w3 at *
 have gg := grown_trans (grown_trans g1 g2) g3
 exact ⟨kept_row (kept_row a1 g2 (by simp)) g3 (by simp), kept_row a2 g3 (by simp), a3, hT.old.keep gg, hE.old.keep gg, gg, by omega⟩
theorem res_tab_e {fn : Func} {p u : Tmp} (h : fn.results = #[.cell p 25, .tmp u]) (tmps : Array Value) (w : World) (g : Nat) (x y z v : Value) (hp : tmps.getD p undef = .pointer (some ⟨g, 0, none⟩)) (hg : w.heap[g]? = some (.cells #[x, y, z, v] 25 (0, 0))) :
  (results fn tmps).run Tryz.prog w = .ok (.tuple #[.agg #[x, y, z, v], tmps.getD u undef]) w := by
 have hp' : tmps[p]?.getD undef = .pointer (some ⟨g, 0, none⟩) := by simpa using hp
 rw [results_cell_tmp h]
 simp [hp', asAddr, run_loadVar_row w g _ _ _ _ _ hg Tryz.underlying25 rfl tab_sizeB, Result.andThen]
theorem B3.out {W : World} {T : Tg} {s n : Int} {E : List Ed} {pE : Option Addr} {cE : Nat} {w w2 : World} {base : Nat} {v : Value} {L : List Rw} (h : B3 W T s n E pE cE w) (hown : w.ownsRow base 36 2 v L.length (L.flatMap rwC)) (hrows : ∀ x ∈ L, RdX base w v x.p x.c x.nx) (hb : W.heap.size + 3 ≤ base) (g : w.grownBy w2 (some (W.heap.size + 1 + 1))) :
  w2.ownsRow W.heap.size 36 2 v L.length (L.flatMap rwC) ∧ (∀ x ∈ L, RdX W.heap.size w2 v x.p x.c x.nx) ∧ W.grownBy w2 none := by
 have hne : ∀ b, base ≤ b → b ≠ W.heap.size + 1 + 1 := fun b hb => by omega
 refine ⟨(hown.kept g (by
   cases hvo : v.ownBlock with
   | none => exact Or.inl rfl
   | some b => exact Or.inr (fun e => by have := (hown.lt b hvo).1; have := Option.some.inj e; omega))).mono (by omega), fun x hx => ?_, grown_new h.gr g (by omega)⟩
 have h2 := (hrows x hx).over g hne
 exact ⟨h2.1.mono (fun b hb => ⟨by have := hb.1; omega, hb.2⟩), h2.2⟩
end Go.Proofs.YtahafijpcmphaaaGreat

/- tables: what the law of Check, Same and Row keeps in memory; big. -/
namespace Go.Proofs.YtahafijpcmphaaaGreat
set_option maxRecDepth 100000
open Go.RowKit Bs
def bgW (x : Rw) : Bool := decide (60 < x.nx.length)
def bgT (L : List Rw) : Bool := L.any bgW || decide (300 < L.length)
theorem bg_hit {L : List Rw} {k : Nat} {x : Rw} (hx : L[k]? = some x) (h : 60 < x.nx.length) : bgT L = true := by
 unfold bgT
 rw [Bool.or_eq_true]
 exact Or.inl (List.any_eq_true.2 ⟨x, List.mem_of_getElem? hx, by unfold bgW; simpa using h⟩)
theorem bg_not {L : List Rw} (h : bgT L = false) : L.length ≤ 300 ∧ ∀ x ∈ L, x.nx.length ≤ 60 := by
 unfold bgT at h
 rw [Bool.or_eq_false_iff] at h
 refine ⟨by have := of_decide_eq_false h.2; omega, fun x hx => ?_⟩
 have := List.any_eq_false.1 h.1 x hx
 unfold bgW at this
 simp only [decide_eq_true_eq] at this
 omega
set_option maxHeartbeats 3200000 in
theorem big11_any (r s n : Int) (p : Option Addr) (c : Nat) (L : List Rw) (q : Nat → Prop) (w : World) (hR : RdW w q p c L) (hm : L.length ≤ 9223372036854775807) :
  Calls Tryz.prog 12 #[.agg #[.int .i64 r, .int .i64 s, .int .i64 n, .slice p L.length c]] w fun e w' => e = .returned (.bool (bgT L)) ∧ w.grownBy w' none := by
 obtain ⟨k1, k2⟩ := tone_box w #[.int .i64 r, .int .i64 s, .int .i64 n, .slice p L.length c] 25
 have H0 : Hid (TC w r s n p c L _) := Lib.hid ⟨k1, ⟨q, hR.keep k2⟩, k2⟩
 clear k1 k2 hR
 go_enter Tryz.func12, Tryz.ntmps12
 go_upto_region 1 with fail
 generalize w.alloc _ = w1 at *
 go_wp2_with fail
 go_loopw [3] (fun v wr => ∃ k : Nat, k ≤ L.length ∧ v = .int .i64 (k : Int) ∧ Hid (∀ (i : Nat) (x : Rw), i < k → L[i]? = some x → x.nx.length ≤ 60) ∧ Hid (TC w r s n p c L wr)) (fun v _ => L.length - (RowKit.intOf v).toNat)
 case atStart => exact ⟨0, Nat.zero_le _, rfl, Lib.hid (fun i x h => absurd h (Nat.not_lt_zero _)), H0⟩
 case round =>
 clear H0
 obtain ⟨k, hk, rfl, HN, K⟩ := hrel
 obtain ⟨w5, hw5⟩ : ∃ w5, w5 = wr := ⟨_, rfl⟩
 rw [← hw5] at K ⊢
 clear hw5
 obtain ⟨d0, d1, d2, d3⟩ := row4T K.out.bx
 obtain ⟨q1, hq1⟩ := K.out.rd
 by_cases hlt : k < L.length
 case neg =>
  obtain rfl : k = L.length := by omega
  have hnl : ¬ (L.length : Int) < (L.length : Int) := by omega
  have HO : Hid (decide ((300 : Int) < (L.length : Int)) = bgT L) := Lib.hid (by
   have h1 : L.any bgW = false := List.any_eq_false.2 fun x hx => by
    obtain ⟨i, hi⟩ := List.mem_iff_getElem?.1 hx
    have := HN.out i x (List.getElem?_eq_some_iff.1 hi).1 hi
    unfold bgW
    simp only [decide_eq_true_eq]
    omega
   unfold bgT
   rw [h1, Bool.false_or, decide_eq_decide]
   omega)
  clear hq1
  go_wp2_with fail
  go_ret
  rw [← HO.out]
  exact ⟨rfl, K.out.gr⟩
 have hlt' : (k : Int) < (L.length : Int) := by omega
 have hk0 : (0 : Int) ≤ (k : Int) := by omega
 obtain ⟨x, hx⟩ : ∃ x, L[k]? = some x := ⟨_, List.getElem?_eq_getElem hlt⟩
 obtain ⟨-, b, off, rfl, -, hc⟩ := rw_cells hq1.rd (by omega)
 obtain ⟨a0, a1⟩ := hc k x hx
 have HX := Lib.hid hx
 clear hc hx hq1
 by_cases h60 : 60 < x.nx.length
 ·have h60' : (60 : Int) < (x.nx.length : Int) := by omega
  have HO := Lib.hid (bg_hit HX.out h60)
  clear h60
  go_wp2_with fail
  go_ret
  rw [HO.out]
  exact ⟨rfl, K.out.gr⟩
 ·have h60' : ¬ (60 : Int) < (x.nx.length : Int) := by omega
  have HN2 : Hid (∀ (i : Nat) (y : Rw), i < k + 1 → L[i]? = some y → y.nx.length ≤ 60) := Lib.hid (fun i y hi hy => by
   rcases Nat.lt_or_ge i k with h | h
   ·exact HN.out i y h hy
   ·obtain rfl : i = k := by omega
    rw [HX.out] at hy
    obtain rfl := Option.some.inj hy
    omega)
  clear HN h60
  go_wp2_with fail
  exact ⟨⟨k + 1, by omega, congrArg _ (by omega), HN2, K⟩, by simp only [RowKit.intOf]; omega⟩
theorem tp_otherC {w w' : World} {a b : Nat} (h : Tp w a) (g : w.grownBy w' (some b)) (hb : a < b) : Tp w' a := by
 have hlt := h.lt
 obtain ⟨v, n, i, T⟩ := h
 have hbk : w'.heap[a]? = w.heap[a]? := g.block a hlt (fun e => by have := Option.some.inj e; omega)
 refine ⟨v, n, i, (World.cell?_of_block (a := ⟨a, 0, none⟩) hbk).trans T.l, (World.cell?_of_block (a := ⟨a, 1, none⟩) hbk).trans T.p, (World.frozen?_of_block (a := ⟨a, 1, none⟩) hbk).trans T.fr, ?_, T.le, T.len⟩
 obtain ⟨p, c, hv, hc⟩ := T.ints
 refine ⟨p, c, hv, fun hn => ?_⟩
 obtain ⟨b1, off, hp, hb1, hx⟩ := hc hn
 refine ⟨b1, off, hp, hb1, fun i hi => ?_⟩
 obtain ⟨x, hx1, hcell⟩ := hx i hi
 exact ⟨x, hx1, g.cell hcell (fun e => by have : b1 = b := Option.some.inj e; omega)⟩
theorem ints_keepK {w w' : World} {v : Value} (h : IntsIn w v) (g : w.grownBy w' none) : IntsIn w' v := by
 obtain ⟨p, n, c, hv, h1, h2, hc⟩ := h
 refine ⟨p, n, c, hv, h1, h2, fun hn => ?_⟩
 obtain ⟨b, off, hp, hb, hx⟩ := hc hn
 refine ⟨b, off, hp, Nat.lt_of_lt_of_le hb g.size, fun i hi => ?_⟩
 obtain ⟨x, hx1, hcell⟩ := hx i hi
 exact ⟨x, hx1, g.cell hcell (by simp)⟩
theorem fdW_okC {w : World} {q : Nat → Prop} {p : Option Addr} {c : Nat} {L : List Rw} {id : Int} (h : RdW w q p c L) : RwOk w q ((fdW L id).getD zRw) := by
 cases hf : fdW L id with
 | none => exact ⟨⟨none, 0, rfl, fun h => absurd rfl h⟩, ⟨Nat.le_refl _, by show (0 : Nat) ≤ _; omega⟩⟩
 | some x => exact h.ok x (List.mem_of_find?_eq_some hf)
theorem tb3_cell {w : World} {D : Nat} {t : TypeId} {Ts : List Tb} (h : w.heap[D]? = some (.cells (Ts.flatMap tbC).toArray t (0, 0))) {k : Nat} {x : Tb} (hx : Ts[k]? = some x) :
  w.cell? ⟨D, k * 4, none⟩ = some (.int .i64 x.r) ∧ w.cell? ⟨D, k * 4 + 1, none⟩ = some (.int .i64 x.s) ∧ w.cell? ⟨D, k * 4 + 2, none⟩ = some (.int .i64 x.n) ∧ w.cell? ⟨D, k * 4 + 3, none⟩ = some (.slice x.p x.L.length x.c) := by
 have hR : RdF w (· = D) (.slice (some ⟨D, 0, none⟩) Ts.length Ts.length) Ts.length (Ts.flatMap tbC) := ⟨some ⟨D, 0, none⟩, Ts.length, rfl, fun _ => ⟨D, 0, rfl, rfl, fun i y hi => by
  rw [cell_of_row _ _ _ _ _ _ h, Nat.zero_add]
  simpa using hi⟩⟩
 have hlt := (List.getElem?_eq_some_iff.1 hx).1
 obtain ⟨-, b, off, hp, -, hc⟩ := tb_cells hR (by omega)
 injection hp with e
 injection e with e1 e2
 subst e1
 subst e2
 have := hc k x hx
 simpa only [Nat.zero_add] using this
structure CL (W : World) (a D Z : Nat) (raw : Tb) (Ts : List Tb) (w : World) : Prop where
 b0 : w.heap[W.heap.size]? = some (.cells #[.int .i64 raw.r, .int .i64 raw.s, .int .i64 raw.n, .slice raw.p raw.L.length raw.c] 25 (0, 0))
 r0 : RdW w (· < W.heap.size) raw.p raw.c raw.L
 bD : w.heap[D]? = some (.cells (Ts.flatMap tbC).toArray 25 (0, 0))
 rd : ∀ x ∈ Ts, RdW w (fun b => b ≠ a ∧ b < Z) x.p x.c x.L
 tp : Tp w a
 gr : W.grownBy w none
 lo : W.heap.size < a ∧ a < D ∧ D < Z ∧ Z ≤ w.heap.size
theorem CL.keep {W : World} {a D Z : Nat} {raw : Tb} {Ts : List Tb} {w w1 : World} (h : CL W a D Z raw Ts w) (g : w.grownBy w1 none) : CL W a D Z raw Ts w1 :=
 ⟨kept_row h.b0 g (by simp), h.r0.keep g, kept_row h.bD g (by simp), fun x hx => (h.rd x hx).keep g, h.tp.keep g, grown_trans h.gr g, h.lo.1, h.lo.2.1, h.lo.2.2.1, Nat.le_trans h.lo.2.2.2 g.size⟩
theorem CL.put {W : World} {a D Z b : Nat} {raw : Tb} {Ts : List Tb} {w w1 : World} (h : CL W a D Z raw Ts w) (g : w.grownBy w1 (some b)) (hb : Z ≤ b) : CL W a D Z raw Ts w1 := by
 have hlo := h.lo
 have hn : ∀ i, i < Z → some i ≠ some b := fun i hi e => by have := Option.some.inj e; omega
 exact ⟨kept_row h.b0 g (hn _ (by omega)), h.r0.grown g (fun i hi => hn i (by omega)), kept_row h.bD g (hn _ (by omega)), fun x hx => (h.rd x hx).grown g (fun i hi => hn i hi.2), tp_otherC h.tp g (by omega), grown_new h.gr g (by omega), hlo.1, hlo.2.1, hlo.2.2.1, Nat.le_trans hlo.2.2.2 g.size⟩
theorem CL.tape {W : World} {a D Z : Nat} {raw : Tb} {Ts : List Tb} {w w1 : World} (h : CL W a D Z raw Ts w) (k : St a w w1) : CL W a D Z raw Ts w1 := by
 have hlo := h.lo
 exact ⟨kept_row h.b0 k.1 (fun e => by have := Option.some.inj e; omega), h.r0.grown k.1 (fun b hb e => by have := Option.some.inj e; omega), kept_row h.bD k.1 (fun e => by have := Option.some.inj e; omega), fun x hx => (h.rd x hx).grown k.1 (fun b hb e => hb.1 (Option.some.inj e)), k.2, grown_new h.gr k.1 (by omega), hlo.1, hlo.2.1, hlo.2.2.1, Nat.le_trans hlo.2.2.2 k.1.size⟩
structure CI (W : World) (a D Z : Nat) (raw : Tb) (Ts : List Tb) (G Z2 : Nat) (x y : Int) (w : World) : Prop where
 cl : CL W a D Z raw Ts w
 bG : w.heap[G]? = some (.cells #[.int .i64 x, .int .i64 y] 3 (0, 0))
 lo : Z ≤ Z2 ∧ G < Z2 ∧ Z2 ≤ w.heap.size
theorem CI.keep {W : World} {a D Z : Nat} {raw : Tb} {Ts : List Tb} {G Z2 : Nat} {x y : Int} {w w1 : World} (h : CI W a D Z raw Ts G Z2 x y w) (g : w.grownBy w1 none) : CI W a D Z raw Ts G Z2 x y w1 := ⟨h.cl.keep g, kept_row h.bG g (by simp), h.lo.1, h.lo.2.1, Nat.le_trans h.lo.2.2 g.size⟩
theorem CI.put {W : World} {a D Z b : Nat} {raw : Tb} {Ts : List Tb} {G Z2 : Nat} {x y : Int} {w w1 : World} (h : CI W a D Z raw Ts G Z2 x y w) (g : w.grownBy w1 (some b)) (hb : Z2 ≤ b) : CI W a D Z raw Ts G Z2 x y w1 := by
 have hlo := h.lo
 exact ⟨h.cl.put g (by omega), kept_row h.bG g (fun e => by have := Option.some.inj e; omega), hlo.1, hlo.2.1, Nat.le_trans hlo.2.2 g.size⟩
theorem CI.lo0 {W : World} {a D Z : Nat} {raw : Tb} {Ts : List Tb} {G Z2 : Nat} {x y : Int} {w : World} (h : CI W a D Z raw Ts G Z2 x y w) : Z2 ≤ w.heap.size ∧ 0 ≤ w.heap.size := ⟨h.lo.2.2, Nat.zero_le _⟩
theorem CL.ci {W : World} {a D Z : Nat} {raw : Tb} {Ts : List Tb} {w : World} (h : CL W a D Z raw Ts w) (x y : Int) : CI W a D Z raw Ts w.heap.size (w.heap.size + 1) x y (w.alloc (.cells #[.int .i64 x, .int .i64 y] 3)) := by
 obtain ⟨k1, k2, k3⟩ := alloc_row (w := w) #[.int .i64 x, .int .i64 y] 3 rfl
 have hlo := h.lo
 exact ⟨h.keep k2, k1, by omega, by omega, by omega⟩
theorem CI.cell {W : World} {a D Z : Nat} {raw : Tb} {Ts : List Tb} {G Z2 : Nat} {x y : Int} {w : World} (h : CI W a D Z raw Ts G Z2 x y w) (k : Nat) (hk : k < 2) : w.cell? ⟨G, k, none⟩ = some (.int .i64 (if k = 0 then x else y)) := by
 obtain ⟨d0, d1⟩ := row_cells h.bG
 rcases k with _ | _ | k
 ·exact d0
 ·exact d1
 ·omega
structure CNt (x : Tb) : Prop where
 hy : ∀ y ∈ x.L, y.p = none → y.c = 0
 hl : x.L.length ≤ 9223372036854775807
 hb : ∀ y ∈ x.L, y.nx.length ≤ 1000
structure C0 (W : World) (a : Nat) (raw : Tb) (Ts : List Tb) (w : World) : Prop where
 b0 : w.heap[W.heap.size]? = some (.cells #[.int .i64 raw.r, .int .i64 raw.s, .int .i64 raw.n, .slice raw.p raw.L.length raw.c] 25 (0, 0))
 r0 : RdW w (· < W.heap.size) raw.p raw.c raw.L
 rd : ∀ x ∈ Ts, RdW w (fun b => b ≠ a ∧ b < w.heap.size) x.p x.c x.L
 tp : Tp w a
 gr : W.grownBy w none
 lo : W.heap.size < a ∧ a < w.heap.size
theorem C0.keep {W : World} {a : Nat} {raw : Tb} {Ts : List Tb} {w w1 : World} (h : C0 W a raw Ts w) (g : w.grownBy w1 none) : C0 W a raw Ts w1 :=
 ⟨kept_row h.b0 g (by simp), h.r0.keep g, fun x hx => ((h.rd x hx).keep g).mono (fun b hb => ⟨hb.1, Nat.lt_of_lt_of_le hb.2 g.size⟩), h.tp.keep g, grown_trans h.gr g, h.lo.1, Nat.lt_of_lt_of_le h.lo.2 g.size⟩
theorem C0.add {W : World} {a : Nat} {raw : Tb} {Ts : List Tb} {w w1 : World} {x : Tb} (h : C0 W a raw Ts w) (k : St a w w1) (hx : RdW w1 (fun b => w.heap.size ≤ b ∧ b < w1.heap.size) x.p x.c x.L) : C0 W a raw (Ts ++ [x]) w1 := by
 have hlo := h.lo
 refine ⟨kept_row h.b0 k.1 (fun e => by have := Option.some.inj e; omega), h.r0.grown k.1 (fun b hb e => by have := Option.some.inj e; omega), fun y hy => ?_, k.2, grown_new h.gr k.1 (by omega), hlo.1, Nat.lt_of_lt_of_le hlo.2 k.1.size⟩
 rcases List.mem_append.1 hy with hm | hm
 ·exact ((h.rd y hm).grown k.1 (fun b hb e => hb.1 (Option.some.inj e))).mono (fun b hb => ⟨hb.1, Nat.lt_of_lt_of_le hb.2 k.1.size⟩)
 ·rw [List.mem_singleton.1 hm]
  exact hx.mono (fun b hb => ⟨by have := hb.1; omega, hb.2⟩)
theorem C0.tape {W : World} {a : Nat} {raw : Tb} {Ts : List Tb} {w w1 : World} (h : C0 W a raw Ts w) (k : St a w w1) : C0 W a raw Ts w1 := by
 have hlo := h.lo
 exact ⟨kept_row h.b0 k.1 (fun e => by have := Option.some.inj e; omega), h.r0.grown k.1 (fun b hb e => by have := Option.some.inj e; omega), fun y hm => ((h.rd y hm).grown k.1 (fun b hb e => hb.1 (Option.some.inj e))).mono (fun b hb => ⟨hb.1, Nat.lt_of_lt_of_le hb.2 k.1.size⟩), k.2, grown_new h.gr k.1 (by omega), hlo.1, Nat.lt_of_lt_of_le hlo.2 k.1.size⟩
theorem C0.cl {W : World} {a : Nat} {raw : Tb} {Ts : List Tb} {w : World} (h : C0 W a raw Ts w) : CL W a w.heap.size (w.heap.size + 1) raw (Ts ++ [raw]) (w.alloc (.cells ((Ts ++ [raw]).flatMap tbC).toArray 25)) := by
 obtain ⟨k1, k2, k3⟩ := alloc_row (w := w) ((Ts ++ [raw]).flatMap tbC).toArray 25 rfl
 have hlo := h.lo
 refine ⟨kept_row h.b0 k2 (by simp), h.r0.keep k2, k1, fun y hy => ?_, h.tp.keep k2, grown_trans h.gr k2, hlo.1, hlo.2, by omega, by omega⟩
 rcases List.mem_append.1 hy with hm | hm
 ·exact ((h.rd y hm).keep k2).mono (fun b hb => ⟨hb.1, by omega⟩)
 ·rw [List.mem_singleton.1 hm]
  exact (h.r0.keep k2).mono (fun b hb => ⟨by omega, by omega⟩)
structure RG (g Z : Nat) (i : Int) (X : List Int) (p : Option Addr) (c : Nat) (w : World) : Prop where
 bx : w.heap[g]? = some (.cells #[.int .i64 i, .slice p X.length c] 36 (0, 0))
 rd : Rd w (· < Z) (.slice p X.length c) (X.map tv)
 hl : X.length ≤ 9223372036854775807
 lo : g < Z ∧ Z ≤ w.heap.size
theorem RG.put {g Z : Nat} {i : Int} {X : List Int} {p : Option Addr} {c : Nat} {w w1 : World} {o : Option Nat} (h : RG g Z i X p c w) (k : w.grownBy w1 o) (ho : ∀ b, b < Z → some b ≠ o) : RG g Z i X p c w1 :=
 ⟨kept_row h.bx k (ho _ h.lo.1), h.rd.grown k ho, h.hl, h.lo.1, Nat.le_trans h.lo.2 k.size⟩
theorem RG.keep {g Z : Nat} {i : Int} {X : List Int} {p : Option Addr} {c : Nat} {w w1 : World} (h : RG g Z i X p c w) (k : w.grownBy w1 none) : RG g Z i X p c w1 := h.put k (fun _ _ => by simp)
structure NR (lo1 lo2 g : Nat) (p : Option Addr) (c : Nat) (X : List Int) (w : World) : Prop where
 bx : w.heap[g]? = some (.cells #[.int .i64 0, .slice none 0 0] 36 (0, 0))
 rd : Rd w (fun b => b ≠ g ∧ b < w.heap.size) (.slice p X.length c) (X.map tv)
 hl : X.length ≤ 9223372036854775807
 lo : lo1 ≤ g ∧ lo2 ≤ g
theorem nr_a {lo1 lo2 base : Nat} {w : World} {p : Option Addr} {c : Nat} {X : List Int} (hR : Rd w (fun b => base ≤ b ∧ b < w.heap.size) (.slice p X.length c) (X.map tv)) (hl : X.length ≤ 9223372036854775807) (hlo : lo1 ≤ w.heap.size ∧ lo2 ≤ w.heap.size) : NR lo1 lo2 w.heap.size p c X (w.alloc (.cells #[.int .i64 0, .slice none 0 0] 36)) := by
 obtain ⟨k1, k2, k3⟩ := alloc_row (w := w) #[.int .i64 0, .slice none 0 0] 36 rfl
 exact ⟨k1, (hR.keep k2).mono (fun b hb => by have := hb.2; omega), hl, hlo⟩
theorem nr_b {lo1 lo2 : Nat} {w w6 : World} {p : Option Addr} {c : Nat} {X : List Int} (hg : (w.alloc (.cells #[.int .i64 0, .slice none 0 0] 36)).drew.grownBy w6 none) (hR : Rd w6 (fun b => (w.alloc (.cells #[.int .i64 0, .slice none 0 0] 36)).drew.heap.size ≤ b ∧ b < w6.heap.size) (.slice p X.length c) (X.map tv)) (hl : X.length ≤ 9223372036854775807) (hlo : lo1 ≤ w.heap.size ∧ lo2 ≤ w.heap.size) : NR lo1 lo2 w.heap.size p c X w6 := by
 obtain ⟨k1, k2, k3⟩ := alloc_row (w := w) #[.int .i64 0, .slice none 0 0] 36 rfl
 have k4 : (w.alloc (.cells #[.int .i64 0, .slice none 0 0] 36)).drew.heap.size = w.heap.size + 1 := k3
 exact ⟨kept_row (w := (w.alloc (.cells #[.int .i64 0, .slice none 0 0] 36)).drew) k1 hg (by simp), hR.mono (fun b hb => by have := hb.1; have := hb.2; omega), hl, hlo⟩
theorem nr_aZ {lo1 lo2 : Nat} {w : World} {p : Option Addr} {c : Nat} {X : List Int} (hR : Rd w (· < lo1) (.slice p X.length c) (X.map tv)) (hl : X.length ≤ 9223372036854775807) (hlo : lo1 ≤ w.heap.size ∧ lo2 ≤ w.heap.size) : NR lo1 lo2 w.heap.size p c X (w.alloc (.cells #[.int .i64 0, .slice none 0 0] 36)) := by
 obtain ⟨k1, k2, k3⟩ := alloc_row (w := w) #[.int .i64 0, .slice none 0 0] 36 rfl
 exact ⟨k1, (hR.keep k2).mono (fun b hb => by omega), hl, hlo⟩
theorem nr_bZ {lo1 lo2 : Nat} {w w6 : World} {p : Option Addr} {c : Nat} {X : List Int} (hg : (w.alloc (.cells #[.int .i64 0, .slice none 0 0] 36)).drew.grownBy w6 none) (hR : Rd w6 (· < lo1) (.slice p X.length c) (X.map tv)) (hl : X.length ≤ 9223372036854775807) (hlo : lo1 ≤ w.heap.size ∧ lo2 ≤ w.heap.size) : NR lo1 lo2 w.heap.size p c X w6 := by
 obtain ⟨k1, k2, k3⟩ := alloc_row (w := w) #[.int .i64 0, .slice none 0 0] 36 rfl
 have k4 : (w.alloc (.cells #[.int .i64 0, .slice none 0 0] 36)).drew.heap.size = w.heap.size + 1 := k3
 have k5 := hg.size
 exact ⟨kept_row (w := (w.alloc (.cells #[.int .i64 0, .slice none 0 0] 36)).drew) k1 hg (by simp), hR.mono (fun b hb => by omega), hl, hlo⟩
theorem NR.rg {lo1 lo2 g : Nat} {i : Int} {p : Option Addr} {c : Nat} {X : List Int} {w w1 : World} (h : NR lo1 lo2 g p c X w) (h1 : w1.heap[g]? = some (.cells #[.int .i64 i, .slice p X.length c] 36 (0, 0))) (h2 : w.grownBy w1 (some g)) : RG g w1.heap.size i X p c w1 :=
 ⟨h1, (h.rd.grown h2 (fun b hb e => hb.1 (Option.some.inj e))).mono (fun b hb => Nat.lt_of_lt_of_le hb.2 h2.size), h.hl, Nat.lt_of_lt_of_le (lt_rowB h.bx) h2.size, Nat.le_refl _⟩
theorem nrg_aZ {lo : Nat} (i : Int) {p : Option Addr} {c : Nat} {X : List Int} {w : World} (hR : Rd w (· < lo) (.slice p X.length c) (X.map tv)) (hl : X.length ≤ 9223372036854775807) (hlo : lo ≤ w.heap.size) : RG w.heap.size (w.alloc (.cells #[.int .i64 i, .slice p X.length c] 36)).heap.size i X p c (w.alloc (.cells #[.int .i64 i, .slice p X.length c] 36)) := by
 obtain ⟨k1, k2, k3⟩ := alloc_row (w := w) #[.int .i64 i, .slice p X.length c] 36 rfl
 exact ⟨k1, (hR.keep k2).mono (fun b hb => by omega), hl, by omega, Nat.le_refl _⟩
theorem nrg_a {base : Nat} (i : Int) {p : Option Addr} {c : Nat} {X : List Int} {w : World} (hR : Rd w (fun b => base ≤ b ∧ b < w.heap.size) (.slice p X.length c) (X.map tv)) (hl : X.length ≤ 9223372036854775807) : RG w.heap.size (w.alloc (.cells #[.int .i64 i, .slice p X.length c] 36)).heap.size i X p c (w.alloc (.cells #[.int .i64 i, .slice p X.length c] 36)) := by
 obtain ⟨k1, k2, k3⟩ := alloc_row (w := w) #[.int .i64 i, .slice p X.length c] 36 rfl
 exact ⟨k1, (hR.keep k2).mono (fun b hb => by have := hb.2; omega), hl, by omega, Nat.le_refl _⟩
end Go.Proofs.YtahafijpcmphaaaGreat

/- tables: the search for the next capable routers (mathematics). -/
namespace Go.Proofs.YtahafijpcmphaaaGreat
set_option maxRecDepth 100000
open Go.RowKit Bs
def flw (N : Int → List Int) (cp : Int → Bool) : Nat → Int → List Int × List Int → List Int × List Int
 | 0, _, st => st
 | f + 1, r, st => (N r).foldl (fun st y => if y ∈ st.1 then st else if cp y = true then (st.1 ++ [y], st.2 ++ [y]) else flw N cp f y (st.1 ++ [y], st.2)) st
def flS (N : Int → List Int) (cp : Int → Bool) (f : Nat) (st : List Int × List Int) (y : Int) : List Int × List Int := if y ∈ st.1 then st else if cp y = true then (st.1 ++ [y], st.2 ++ [y]) else flw N cp f y (st.1 ++ [y], st.2)
theorem flw_succ (N : Int → List Int) (cp : Int → Bool) (f : Nat) (r : Int) (st : List Int × List Int) : flw N cp (f + 1) r st = (N r).foldl (flS N cp f) st := rfl
structure FlI (N : Int → List Int) (cp : Int → Bool) (Q : Int → Prop) (st st' : List Int × List Int) : Prop where
 sub : ∀ x ∈ st.1, x ∈ st'.1
 nd : st.1.Nodup → st'.1.Nodup
 new : ∀ x ∈ st'.1, x ∈ st.1 ∨ Q x
 hop : ∃ H, st'.2 = st.2 ++ H ∧ H.Nodup ∧ (∀ x, x ∈ H ↔ (x ∈ st'.1 ∧ x ∉ st.1 ∧ cp x = true))
 len : st.1.length ≤ st'.1.length
theorem FlI.refl {N : Int → List Int} {cp : Int → Bool} {Q : Int → Prop} (st : List Int × List Int) : FlI N cp Q st st :=
 ⟨fun _ h => h, fun h => h, fun _ h => Or.inl h, ⟨[], by simp, List.nodup_nil, fun x => ⟨fun h => (by cases h), fun h => absurd h.1 h.2.1⟩⟩, Nat.le_refl _⟩
theorem FlI.trans {N : Int → List Int} {cp : Int → Bool} {Q : Int → Prop} {a b c : List Int × List Int} (h : FlI N cp Q a b) (k : FlI N cp Q b c) : FlI N cp Q a c := by
 obtain ⟨H, h1, h2, h3⟩ := h.hop
 obtain ⟨K, k1, k2, k3⟩ := k.hop
 refine ⟨fun x hx => k.sub x (h.sub x hx), fun hn => k.nd (h.nd hn), fun x hx => ?_, ⟨H ++ K, by rw [k1, h1, List.append_assoc], ?_, fun x => ?_⟩, Nat.le_trans h.len k.len⟩
 ·rcases k.new x hx with hx | hx
  ·exact h.new x hx
  ·exact Or.inr hx
 ·refine List.nodup_append.2 ⟨h2, k2, fun x hx y hy e => ?_⟩
  subst e
  exact ((k3 x).1 hy).2.1 ((h3 x).1 hx).1
 ·rw [List.mem_append, h3, k3]
  constructor
  ·rintro (⟨a1, a2, a3⟩ | ⟨a1, a2, a3⟩)
   ·exact ⟨k.sub x a1, a2, a3⟩
   ·exact ⟨a1, fun hx => a2 (h.sub x hx), a3⟩
  ·rintro ⟨a1, a2, a3⟩
   by_cases hb : x ∈ b.1
   ·exact Or.inl ⟨hb, a2, a3⟩
   ·exact Or.inr ⟨a1, hb, a3⟩
theorem FlI.one {N : Int → List Int} {cp : Int → Bool} {Q : Int → Prop} {st : List Int × List Int} {y : Int} (hy : y ∉ st.1) (hq : Q y) (hc : cp y = true) : FlI N cp Q st (st.1 ++ [y], st.2 ++ [y]) := by
 refine ⟨fun x hx => List.mem_append_left _ hx, fun hn => ?_, fun x hx => ?_, ⟨[y], rfl, by simp, fun x => ?_⟩, by simp⟩
 ·exact List.nodup_append.2 ⟨hn, by simp, fun a ha b hb e => by rw [List.mem_singleton.1 hb] at e; subst e; exact hy ha⟩
 ·rcases List.mem_append.1 hx with hx | hx
  ·exact Or.inl hx
  ·rw [List.mem_singleton.1 hx]; exact Or.inr hq
 ·rw [List.mem_singleton]
  constructor
  ·rintro rfl; exact ⟨by simp, hy, hc⟩
  ·rintro ⟨a1, a2, -⟩
   rcases List.mem_append.1 a1 with h | h
   ·exact absurd h a2
   ·exact List.mem_singleton.1 h
theorem FlI.mark {N : Int → List Int} {cp : Int → Bool} {Q : Int → Prop} {st : List Int × List Int} {y : Int} (hy : y ∉ st.1) (hq : Q y) (hc : cp y = false) : FlI N cp Q st (st.1 ++ [y], st.2) := by
 refine ⟨fun x hx => List.mem_append_left _ hx, fun hn => ?_, fun x hx => ?_, ⟨[], by simp, List.nodup_nil, fun x => ⟨fun h => (by cases h), fun ⟨a1, a2, a3⟩ => ?_⟩⟩, by simp⟩
 ·exact List.nodup_append.2 ⟨hn, by simp, fun a ha b hb e => by rw [List.mem_singleton.1 hb] at e; subst e; exact hy ha⟩
 ·rcases List.mem_append.1 hx with hx | hx
  ·exact Or.inl hx
  ·rw [List.mem_singleton.1 hx]; exact Or.inr hq
 ·rcases List.mem_append.1 a1 with h | h
  ·exact absurd h a2
  ·rw [List.mem_singleton.1 h, hc] at a3; cases a3
theorem fl_fold {N : Int → List Int} {cp : Int → Bool} {Q : Int → Prop} (f : Nat) (hQ : ∀ r st, (∀ y ∈ N r, Q y) → FlI N cp Q st (flw N cp f r st)) (hN : ∀ y, Q y → cp y = false → ∀ z ∈ N y, Q z) : ∀ (l : List Int) (st : List Int × List Int), (∀ y ∈ l, Q y) → FlI N cp Q st (l.foldl (flS N cp f) st)
 | [], st, _ => FlI.refl st
 | y :: t, st, h => by
  rw [List.foldl_cons]
  refine FlI.trans ?_ (fl_fold f hQ hN t _ (fun z hz => h z (List.mem_cons_of_mem _ hz)))
  have hy := h y (List.mem_cons_self ..)
  unfold flS
  split
  ·exact FlI.refl st
  ·rename_i hm
   split
   ·rename_i hc; exact FlI.one hm hy hc
   ·rename_i hc
    have hc2 : cp y = false := by simpa using hc
    exact (FlI.mark hm hy hc2).trans (hQ y _ (hN y hy hc2))
theorem fl_inv {N : Int → List Int} {cp : Int → Bool} {Q : Int → Prop} (hN : ∀ y, Q y → cp y = false → ∀ z ∈ N y, Q z) : ∀ (f : Nat) (r : Int) (st : List Int × List Int), (∀ y ∈ N r, Q y) → FlI N cp Q st (flw N cp f r st)
 | 0, _, st, _ => FlI.refl st
 | f + 1, r, st, h => by rw [flw_succ]; exact fl_fold f (fl_inv hN f) hN (N r) st h
theorem fl_len {N : Int → List Int} {cp : Int → Bool} : ∀ (f : Nat) (r : Int) (st : List Int × List Int), st.2.length ≤ st.1.length → (flw N cp f r st).2.length ≤ (flw N cp f r st).1.length
 | 0, _, _, h => h
 | f + 1, r, st, h => by
  rw [flw_succ]
  have key : ∀ (l : List Int) (st : List Int × List Int), st.2.length ≤ st.1.length → (l.foldl (flS N cp f) st).2.length ≤ (l.foldl (flS N cp f) st).1.length := by
   intro l
   induction l with
   | nil => exact fun st h => h
   | cons y t ih =>
    intro st h
    rw [List.foldl_cons]
    refine ih _ ?_
    unfold flS
    split
    ·exact h
    ·split
     ·simp only [List.length_append, List.length_singleton]; omega
     ·exact fl_len f y _ (by simp only [List.length_append, List.length_singleton]; omega)
  exact key (N r) st h
theorem fl_closed {N : Int → List Int} {cp : Int → Bool} {V : List Int} (hV : ∀ r, ∀ y ∈ N r, y ∈ V) : ∀ (f : Nat) (r : Int) (st : List Int × List Int), (∀ x ∈ st.1, x ∈ V) → st.1.Nodup → V.length < f + st.1.length →
  (∀ y ∈ N r, y ∈ (flw N cp f r st).1) ∧ (∀ x ∈ (flw N cp f r st).1, x ∉ st.1 → cp x = false → ∀ z ∈ N x, z ∈ (flw N cp f r st).1)
 | 0, r, st, hs, hn, hl => by
  have := nodup_leH st.1 V hn hs
  omega
 | f + 1, r, st, hs, hn, hl => by
  have hT : ∀ y, y ∈ V → cp y = false → ∀ z ∈ N y, z ∈ V := fun y _ _ z hz => hV y z hz
  have key : ∀ (l : List Int) (st : List Int × List Int), (∀ y ∈ l, y ∈ V) → (∀ x ∈ st.1, x ∈ V) → st.1.Nodup → V.length < f + 1 + st.1.length →
    (∀ y ∈ l, y ∈ (l.foldl (flS N cp f) st).1) ∧ (∀ x ∈ (l.foldl (flS N cp f) st).1, x ∉ st.1 → cp x = false → ∀ z ∈ N x, z ∈ (l.foldl (flS N cp f) st).1) := by
   intro l
   induction l with
   | nil => exact fun st _ _ _ _ => ⟨fun y hy => (by cases hy), fun x hx hn => absurd hx hn⟩
   | cons y t ih =>
    intro st hl1 hs hn hlen
    rw [List.foldl_cons]
    have hyV := hl1 y (List.mem_cons_self ..)
    have htV : ∀ z ∈ t, z ∈ V := fun z hz => hl1 z (List.mem_cons_of_mem _ hz)
    have hstep : FlI N cp (· ∈ V) st (flS N cp f st y) := by
     have := fl_fold (Q := (· ∈ V)) f (fl_inv hT f) hT [y] st (fun z hz => by rw [List.mem_singleton.1 hz]; exact hyV)
     simpa using this
    have hs2 : ∀ x ∈ (flS N cp f st y).1, x ∈ V := fun x hx => (hstep.new x hx).elim (hs x) id
    obtain ⟨i1, i2⟩ := ih (flS N cp f st y) htV hs2 (hstep.nd hn) (by have := hstep.len; omega)
    have hrest := fl_fold (Q := (· ∈ V)) f (fl_inv hT f) hT t (flS N cp f st y) htV
    have hyS : y ∈ (flS N cp f st y).1 ∧ (∀ x ∈ (flS N cp f st y).1, x ∉ st.1 → cp x = false → ∀ z ∈ N x, z ∈ (flS N cp f st y).1) := by
     unfold flS
     split
     ·rename_i hm; exact ⟨hm, fun x hx hnx => absurd hx hnx⟩
     ·rename_i hm
      split
      ·rename_i hc
       refine ⟨by simp, fun x hx hnx hcx => ?_⟩
       rcases List.mem_append.1 hx with h | h
       ·exact absurd h hnx
       ·rw [List.mem_singleton.1 h, hc] at hcx; cases hcx
      ·rename_i hc
       have hn2 : (st.1 ++ [y]).Nodup := List.nodup_append.2 ⟨hn, by simp, fun a ha b hb e => by rw [List.mem_singleton.1 hb] at e; subst e; exact hm ha⟩
       have hs3 : ∀ x ∈ st.1 ++ [y], x ∈ V := fun x hx => by
        rcases List.mem_append.1 hx with h | h
        ·exact hs x h
        ·rw [List.mem_singleton.1 h]; exact hyV
       obtain ⟨c1, c2⟩ := fl_closed hV f y (st.1 ++ [y], st.2) hs3 hn2 (by simp; omega)
       have hI := fl_inv (Q := (· ∈ V)) (cp := cp) hT f y (st.1 ++ [y], st.2) (hV y)
       refine ⟨hI.sub y (by simp), fun x hx hnx hcx => ?_⟩
       by_cases hxy : x = y
       ·subst hxy; exact c1
       ·exact c2 x hx (fun h => by
         rcases List.mem_append.1 h with h | h
         ·exact hnx h
         ·exact hxy (List.mem_singleton.1 h)) hcx
    refine ⟨fun z hz => ?_, fun x hx hnx hcx z hz => ?_⟩
    ·rcases List.mem_cons.1 hz with rfl | hz
     ·exact hrest.sub _ hyS.1
     ·exact i1 z hz
    ·by_cases hxs : x ∈ (flS N cp f st y).1
     ·exact hrest.sub _ (hyS.2 x hxs hnx hcx z hz)
     ·exact i2 x hx hxs hcx z hz
  rw [flw_succ]
  exact key (N r) st (hV r) hs hn (by omega)
theorem fl_hops {N : Int → List Int} {cp : Int → Bool} {V : List Int} (hV : ∀ r, ∀ y ∈ N r, y ∈ V) (x : Int) {f : Nat} (hf : V.length < f) :
  (flw N cp f x ([], [])).2.Nodup ∧ ∀ y, y ∈ (flw N cp f x ([], [])).2 ↔ ∃ s, (∀ P : Int → Prop, P x → (∀ a b, P a → b ∈ N a → cp b = false → P b) → P s) ∧ y ∈ N s ∧ cp y = true := by
 let Rc : Int → Prop := fun s => ∀ P : Int → Prop, P x → (∀ a b, P a → b ∈ N a → cp b = false → P b) → P s
 let Q : Int → Prop := fun y => ∃ s, Rc s ∧ y ∈ N s
 have hx : Rc x := fun P h _ => h
 have hQ : ∀ y, Q y → cp y = false → ∀ z ∈ N y, Q z := fun y ⟨s, hs, hy⟩ hc z hz => ⟨y, fun P h0 h1 => h1 s y (hs P h0 h1) hy hc, hz⟩
 have hI := fl_inv (cp := cp) hQ f x ([], []) (fun y hy => ⟨x, hx, hy⟩)
 obtain ⟨c1, c2⟩ := fl_closed (cp := cp) hV f x ([], []) (fun y hy => (by cases hy)) List.nodup_nil (by simpa using hf)
 obtain ⟨H, h1, h2, h3⟩ := hI.hop
 have h1' : (flw N cp f x ([], [])).2 = H := by rw [h1]; rfl
 rw [h1']
 refine ⟨h2, fun y => ?_⟩
 rw [h3]
 constructor
 ·rintro ⟨a1, -, a3⟩
  rcases hI.new y a1 with h | ⟨s, hs, hy⟩
  ·cases h
  ·exact ⟨s, hs, hy, a3⟩
 ·rintro ⟨s, hs, hy, hc⟩
  refine ⟨?_, fun h => (by cases h), hc⟩
  have hall : s = x ∨ (s ∈ (flw N cp f x ([], [])).1 ∧ cp s = false) := hs (fun s => s = x ∨ (s ∈ (flw N cp f x ([], [])).1 ∧ cp s = false)) (Or.inl rfl) (fun a b ha hb hcb => by
   rcases ha with rfl | ⟨ha, hca⟩
   ·exact Or.inr ⟨c1 b hb, hcb⟩
   ·exact Or.inr ⟨c2 a ha (fun h => (by cases h)) hca b hb, hcb⟩)
  rcases hall with rfl | ⟨ha, hca⟩
  ·exact c1 y hy
  ·exact c2 s ha (fun h => (by cases h)) hca y hy
end Go.Proofs.YtahafijpcmphaaaGreat

/- tables: what the program's Hops keeps in memory. -/
namespace Go.Proofs.YtahafijpcmphaaaGreat
set_option maxRecDepth 100000
open Go.RowKit Bs
def ptB (b : Nat) : Value := .pointer (some ⟨b, 0, none⟩)
structure FJ (H : Nat) (W : World) (T : Tg) (z : Int) (v : Value) (st : List Int × List Int) (w : World) : Prop where
 bT : w.heap[H]? = some (.cells #[.slice T.pR T.R.length T.cR, .slice T.pL T.L.length T.cL] 45 (0, 0))
 bz : w.heap[H + 1]? = some (.cells #[.int .i64 z] 3 (0, 0))
 bh : w.heap[H + 2]? = some (.cells #[v] 22 (0, 0))
 bs : TRow w (H + 3) 102 (sn st.1)
 bf : w.heap[H + 4]? = some (.cells #[.func (.func 74) #[] #[ptB H, ptB (H + 1), ptB (H + 3), ptB (H + 2), ptB (H + 4)]] 103 (0, 0))
 t : TgOk w (· < H) T
 own : w.ownsRow (H + 5) 3 1 v st.2.length (st.2.map tv)
 gr : W.grownBy w none
 lo : W.heap.size ≤ H ∧ H + 5 ≤ w.heap.size
theorem FJ.keep {H : Nat} {W w w1 : World} {T : Tg} {z : Int} {v : Value} {st : List Int × List Int} (h : FJ H W T z v st w) (g : w.grownBy w1 none) : FJ H W T z v st w1 :=
 ⟨kept_row h.bT g (by simp), kept_row h.bz g (by simp), kept_row h.bh g (by simp), h.bs.kept g (by simp), kept_row h.bf g (by simp), h.t.keep g, own_keptN h.own g, grown_trans h.gr g, h.lo.1, Nat.le_trans h.lo.2 g.size⟩
theorem FJ.mark {H n : Nat} {W w : World} {T : Tg} {z : Int} {v : Value} {st : List Int × List Int} (h : FJ H W T z v st w) (hn : n < 100) : FJ H W T z v (st.1 ++ [(n : Int)], st.2) (w.setCell ⟨H + 3, n, none⟩ (.bool true)) ∧ JF (H + 1) w v (w.setCell ⟨H + 3, n, none⟩ (.bool true)) v := by
 have hl := h.lo
 have g : w.grownBy (w.setCell ⟨H + 3, n, none⟩ (.bool true)) (some (H + 3)) := grown_setCell _ _ _
 have hne : ∀ b, b ≠ H + 3 → some b ≠ some (H + 3) := fun b hb e => hb (Option.some.inj e)
 have hs := h.bs.set n (.bool true)
 rw [sn_snoc hn] at hs
 refine ⟨⟨kept_row h.bT g (hne _ (by omega)), kept_row h.bz g (hne _ (by omega)), kept_row h.bh g (hne _ (by omega)), hs, kept_row h.bf g (hne _ (by omega)), h.t.grown g (fun b hb => hne b (by omega)), own_otherL h.own g (by omega), grown_new h.gr g (by omega), hl.1, Nat.le_trans hl.2 g.size⟩, g.os, g.tape, g.output, g.size, fun b hb h1 h2 h3 => g.block b hb (hne b (by omega)), .inl rfl⟩
theorem FJ.push {H : Nat} {W w w1 : World} {T : Tg} {z y : Int} {v v' : Value} {st : List Int × List Int} (h : FJ H W T z v st w) (hown : w1.ownsRow (H + 5) 3 1 v' (st.2 ++ [y]).length ((st.2 ++ [y]).map tv)) (g : w.grownBy w1 v.ownBlock) (hv : v'.ownBlock = v.ownBlock ∨ ∃ b, v'.ownBlock = some b ∧ w.heap.size ≤ b) :
  w1.heap[H + 2]? = some (.cells #[v] 22 (0, 0)) ∧ FJ H W T z v' (st.1, st.2 ++ [y]) (w1.setCell ⟨H + 2, 0, none⟩ v') ∧ JF (H + 1) w v (w1.setCell ⟨H + 2, 0, none⟩ v') v' := by
 have hl := h.lo
 have hne : ∀ b, b < H + 5 → some b ≠ v.ownBlock := fun b hb e => by have := (h.own.lt b e.symm).1; omega
 have hB := kept_row h.bh g (hne _ (by omega))
 have g2 : w1.grownBy (w1.setCell ⟨H + 2, 0, none⟩ v') (some (H + 2)) := grown_setCell _ _ _
 have hn2 : ∀ b, b ≠ H + 2 → some b ≠ some (H + 2) := fun b hb e => hb (Option.some.inj e)
 refine ⟨hB, ⟨kept_row (kept_row h.bT g (hne _ (by omega))) g2 (hn2 _ (by omega)), kept_row (kept_row h.bz g (hne _ (by omega))) g2 (hn2 _ (by omega)), heap_setCell_same w1 (H + 2) 0 _ _ v' hB, (h.bs.kept g (hne _ (by omega))).kept g2 (hn2 _ (by omega)), kept_row (kept_row h.bf g (hne _ (by omega))) g2 (hn2 _ (by omega)), (h.t.grown g (fun b hb => hne b (by omega))).grown g2 (fun b hb => hn2 b (by omega)), own_otherL hown g2 (by omega), grown_new (grown_any h.gr g (fun b hb => hne b (by omega))) g2 (by omega), hl.1, Nat.le_trans (Nat.le_trans hl.2 g.size) g2.size⟩, g2.os.trans g.os, g2.tape.trans g.tape, g2.output.trans g.output, Nat.le_trans g.size g2.size, fun b hb h1 h2 h3 => (g2.block b (Nat.lt_of_lt_of_le hb g.size) (hn2 b (by omega))).trans (g.block b hb (fun e => h3 e.symm)), hv⟩
end Go.Proofs.YtahafijpcmphaaaGreat
