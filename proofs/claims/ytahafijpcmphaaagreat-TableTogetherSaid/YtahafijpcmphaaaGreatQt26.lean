/- Parts of the proof, packed: TaTap2, TaCkM, TaTgM, TaTgN, MaOpn, TaOpn, TaExM, TaAwk. -/
import Derived.Test.YtahafijpcmphaaaGreatQt21
import Derived.Test.YtahafijpcmphaaaGreatQt25
import Derived.Test.YtahafijpcmphaaaGreatQt24
import Derived.Test.YtahafijpcmphaaaGreatQt23
import Derived.Test.YtahafijpcmphaaaGreatQt10
import Derived.Test.YtahafijpcmphaaaGreatQt17
import Derived.Test.YtahafijpcmphaaaGreatQt22
import Derived.Test.YtahafijpcmphaaaGreatQt19
import Derived.Test.YtahafijpcmphaaaGreatQt14
/- tables: the tape's Table with a mistake. -/
namespace Go.Proofs.YtahafijpcmphaaaGreat
set_option maxRecDepth 100000
open Go.RowKit Bs
theorem st_up {a : Nat} {w w9 : World} {o : Obj} (h : St a w w9) (ho : w9.heap[w.heap.size]? = some o) : St a (w.alloc o) w9 := by
 refine ⟨⟨h.1.os, h.1.tape, h.1.output, by have := lt_rowB ho; simp; omega, fun b hb hr => ?_⟩, h.2⟩
 rcases Nat.lt_or_ge b w.heap.size with hlt | hge
 ·rw [h.1.block b hlt hr]
  exact (heap_alloc_old w o hlt).symm
 ·have : b = w.heap.size := by simp at hb; omega
  subst this
  rw [ho]; exact (heap_alloc_new w o).symm
set_option maxHeartbeats 6400000 in
theorem ttab1_any (a : Nat) (n0 : Int) (hn0 : 0 < n0) (hn1 : I64 n0) (w : World) (hT : Tp w a) :
  Calls Tryz.prog 11 #[.pointer (some ⟨a, 0, none⟩), .int .i64 n0] w fun e w' => TabPost a w e w' := by
 have ha := hT.lt
 have HA := Lib.hid ha
 obtain ⟨k1, k2⟩ := tone_box w #[.int .i64 0, .int .i64 0, .int .i64 0, .slice none 0 0] 25
 have HB := Lib.hid (And.intro k1 (And.intro k2 (And.intro (hT.keep k2) (by simp : (w.alloc (.cells #[.int .i64 0, .int .i64 0, .int .i64 0, .slice none 0 0] 25)).heap.size = w.heap.size + 1))))
 clear k1 k2 hT ha
 go_enter Tryz.func11, Tryz.ntmps11
 go_upto_region 1 with fail
 generalize w.alloc _ = wa at *
 go_wp2_with fail
 refine (mixed_any a 6 (by omega) (by omega) wa HB.out.2.2.1).mono ?_
 rintro e w1 ⟨R0, R, L0, vR, vL, rfl, hR, hL, hO, hid, hs⟩
 obtain ⟨pR, cR, pL, cL, rfl, rfl, hTg⟩ := tg_of_ownT hR hL
 have hlen : R.length = R0.length := by have := congrArg List.length hid; simpa using this
 have hck := (hO.2.2.2.2 (Int.le_refl 0)).1
 have hR6 : R.length ≤ 6 := by have := (hO.2.2.2.2 (Int.le_refl 0)).2; omega
 have HOK : Hid (chk R L0 = 0) := Lib.hid (by rw [chk_idsT hid]; exact hck)
 obtain ⟨b1, g1⟩ := tone_box w1 #[.slice pR R.length cR, .slice pL L0.length cL] 45
 have H1 : Hid (TT a w w1.heap.size ⟨R, L0, pR, cR, pL, cL⟩ (w1.alloc (.cells #[.slice pR R.length cR, .slice pL L0.length cL] 45))) := Lib.hid (by
  have hh := HB.out
  have hz := hh.2.2.2
  have hsz := hs.1.size
  exact ⟨kept_row (kept_row hh.1 hs.1 (fun e => by have := Option.some.inj e; have := HA.out; omega)) g1 (by simp), b1, (hTg.keep g1).mono (fun b hb => ⟨by have := hb.1; omega, hb.2⟩), (show St a w w1 from ⟨grown_trans (grown_none hh.2.1 _) hs.1, hs.2⟩).none_ g1, by omega, by simp⟩)
 clear hR hL hO hid hs hTg hck hlen b1 g1 HB
 go_upto_region 2 with fail
 generalize w1.alloc _ = w2 at *
 generalize w1.heap.size = B at *
 obtain ⟨t0, t1⟩ := row_cells H1.out.bT
 go_wp2_with fail
 refine (tplan_any a 0 (by unfold I64; omega) R pR pL cR L0.length cL (by omega) w2 H1.out.st.2 (H1.out.t.r.mono (fun b hb => ⟨by have := hb.1; have := HA.out; omega, by have := hb.2; have := H1.out.lo; omega⟩))).mono ?_
 rintro e w3 ⟨sub, len, E, pE, cE, rfl, hE, -, hgood, hs⟩
 obtain ⟨hg1, hg2, O, i, id, hO, hP⟩ := hgood (Int.le_refl 0)
 have hsub : inV sub 0 7 = true := by unfold inV at hg1 ⊢; simp only [decide_eq_true_eq] at hg1 ⊢; omega
 have HVP := Lib.hid (hP.valid HOK.out hO hsub hg2).1
 obtain ⟨b3, g3⟩ := tone_box w3 #[.int .i64 sub, .int .i64 len, .slice pE E.length cE] 48
 have H3 := Lib.hid (And.intro ((H1.out.tape HA.out hs).keep g3) (And.intro (kept_row b3 (grown_refl _ none) (by simp)) ((rdf_of_own hE).keep g3)))
 clear hE hgood hg1 hg2 hO hP hsub hs b3 g3 t0 t1 H1
 go_upto_region 3 with fail
 generalize w3.alloc _ = w4 at *
 generalize w3.heap.size = Bp at *
 obtain ⟨t0, t1⟩ := row_cells H3.out.1.bT
 obtain ⟨q0, q1, q2⟩ := row3B H3.out.2.1
 have hE24 := rows_len HVP.out
 go_wp2_with fail
 refine (rall11_any ⟨R, L0, pR, cR, pL, cL⟩ sub len E pE cE _ _ w4 H3.out.1.t H3.out.2.2 (by omega)).mono ?_
 rintro e w5 ⟨Ts, p, c, er, rfl, hres, hown, htab, hg⟩
 have hT5 := H3.out.1.keep hg
 have hsz4 := H3.out.1.lo
 have K5 : Hid (TW a w w4.heap.size (.slice p Ts.length c) Ts w5) := Lib.hid ⟨hT5.rs, hown, htab, hT5.st, by omega, hg.size⟩
 have hok : okT R L0 = true := by unfold okT; simpa using HOK.out
 have HM : Hid (AllM R L0 sub len E R Ts) := Lib.hid (by
  rcases hres with h | h
  ·exact h.2.2.2
  ·exact absurd ⟨hok, HVP.out⟩ h.2.1)
 have hTl : Ts.length ≤ 6 := Nat.le_trans HM.out.len hR6
 have HOKT := Lib.hid hok
 clear hres hown htab hg hT5 hok H3 t0 t1 q0 q1 q2 hsz4 HOK
 simp only
 obtain ⟨C, hC⟩ : ∃ C, w4.heap.size = C := ⟨_, rfl⟩
 rw [hC] at K5
 clear hC
 by_cases h0 : Ts.length = 0
 case pos =>
  have h0' : ((Ts.length : Int) == 0) = true := by simpa using h0
  obtain ⟨z0, z1, z2, z3⟩ := row4T K5.out.rs
  have f0 := frozen_of_row _ _ 0 _ _ K5.out.rs
  have f1 := frozen_of_row _ _ 1 _ _ K5.out.rs
  have f2 := frozen_of_row _ _ 2 _ _ K5.out.rs
  have f3 := frozen_of_row _ _ 3 _ _ K5.out.rs
  have HT := Lib.hid (store4B (.int .i64 1) (.int .i64 0) (.int .i64 8) (.slice none 0 0) K5.out.rs)
  clear h0
  go_wp2_with fail
  refine bodyPost_ret (res_tabB rfl _ _ w.heap.size _ _ _ _ rfl HT.out.1) rfl ?_
  have hst := K5.out.st.storeT HT.out.2 (Nat.le_refl _) HA.out
  exact ⟨1, 0, 8, [], none, 0, rfl, ⟨⟨none, 0, rfl, fun h => absurd rfl h⟩, fun x hx => (by cases hx)⟩, fun _ => rfl, ⟨Nat.le_refl _, by show (0 : Nat) ≤ _; omega⟩, fun x hx => (by cases hx), by unfold I64; omega, by show (0 : Nat) ≤ _; omega, fun x hx => (by cases hx), hst⟩
 have h0' : ((Ts.length : Int) == 0) = false := by simpa using h0
 clear h0'
 have h0'' : ¬ (Ts.length : Int) = 0 := by omega
 have h0' : ((Ts.length : Int) == 0) = false := by simpa using h0
 have hTl' : (Ts.length : Int) ≤ 6 := by omega
 clear h0
 go_wp2_with fail
 refine (next_any a (Ts.length : Int) (by unfold I64; omega) w5 K5.out.st.2).mono ?_
 rintro e w6 ⟨r, rfl, hr, hs⟩
 have K6 := Lib.hid (K5.out.tape HA.out hs)
 have hr2 : 0 ≤ r ∧ r < (Ts.length : Int) := by unfold CutOf at hr; omega
 clear hs hr K5
 obtain ⟨j, rfl⟩ : ∃ j : Nat, r = (j : Int) := ⟨r.toNat, by omega⟩
 have hj : j < Ts.length := by omega
 obtain ⟨x, hx⟩ : ∃ x, Ts[j]? = some x := ⟨_, List.getElem?_eq_getElem hj⟩
 obtain ⟨-, bt, ot, rfl, -, hc⟩ := tb_cells (rdf_of_own K6.out.own) (by omega)
 obtain ⟨a0, a1, a2, a3⟩ := hc j x hx
 have HX := Lib.hid (List.mem_of_getElem? hx)
 have hj1 : (j : Int) < (Ts.length : Int) := hr2.2
 have hj0 : (0 : Int) ≤ (j : Int) := hr2.1
 clear hc hx hr2 hj
 obtain ⟨HV1, HV2, HV3, -, HV5⟩ := all_valid HM.out HOKT.out HVP.out HX.out
 have HVB := Lib.hid (And.intro HV1 (And.intro HV2 (And.intro HV3 HV5)))
 have hxl : x.L.length ≤ 24 := by rw [HV5.1]; exact hE24
 have HXL := Lib.hid hxl
 have HNL : Hid (∀ y ∈ x.L, y.nx.length ≤ 24) := Lib.hid (by
  have hv := tab_valid HV5 HOKT.out (s := x.s) (n := x.n) (by rw [HV1, HV2]; exact HVP.out) HV3
  have h4 := (ck_ok hv).2.2.2.1
  intro y hy
  have := List.any_eq_false.1 h4 y hy
  unfold lgW at this
  simp only [decide_eq_true_eq] at this
  omega)
 clear HV1 HV2 HV3 HV5 hxl
 have hX := K6.out.tabs x HX.out
 go_wp2_with fail
 refine (copiedT_any x.r x.s x.n x.L x.p x.c _ w6 hX.rd hX.hy (by have := HXL.out; omega) (fun y hy => by have := HNL.out y hy; omega)).mono ?_
 rintro e w7 ⟨M, p2, c2, rfl, hO, hM, hg⟩
 have hM2 : ckT x.r x.s x.n M = 0 := tab_valid (bldM_congr HVB.out.2.2.2 hM) HOKT.out (by rw [HVB.out.1, HVB.out.2.1]; exact HVP.out) HVB.out.2.2.1
 have hro := ids_inT HOKT.out HVB.out.2.2.1
 have HM2 := Lib.hid (And.intro hM2 hro)
 have hMl : M.length ≤ 24 := by have := congrArg List.length hM; rw [List.length_map, List.length_map] at this; rw [this]; exact HXL.out
 have HML := Lib.hid hMl
 obtain ⟨b7, g7⟩ := tone_box w7 #[.int .i64 x.r, .int .i64 x.s, .int .i64 x.n, .slice p2 M.length c2] 25
 have hlo6 := K6.out.lo
 have K7 := Lib.hid (And.intro (kept_row (kept_row K6.out.rs hg (by simp)) g7 (by simp)) (And.intro b7 (And.intro ((hO.mono (lo2 := w.heap.size + 1) (by omega)).keep g7) (And.intro ((K6.out.st.none_ hg).none_ g7) (show w.heap.size + 1 ≤ w7.heap.size by have := hg.size; omega)))))
 have K7O := Lib.hid (And.intro (show ∀ b, (Value.slice p2 M.length c2).ownBlock = some b → b < w7.heap.size from fun b e => (hO.own.lt b e).2) (show ∀ y ∈ M, ∀ b, y.v.ownBlock = some b → b < w7.heap.size from fun y hy b e => ((hO.nx y hy).lt b e).2))
 clear hO hM hg hM2 hro hMl b7 g7 hlo6 hX K6 a0 a1 a2 a3 HX HVB HXL HNL HM hTl hTl' h0' h0'' hj0 hj1
 go_upto_region 7 with fail
 generalize w7.alloc _ = w8 at *
 generalize w7.heap.size = B9 at *
 generalize x.r = tr at *
 generalize x.s = ts at *
 generalize x.n = tn at *
 have hng : (0 : Int) < n0 := by omega
 go_wp2_with fail
 refine (one_any a n0 hn1 w8 K7.out.2.2.2.1.2).mono ?_
 rintro e w9 ⟨b1, rfl, hs⟩
 have hlo7 := K7.out.2.2.2.2
 have ha7 := HA.out
 have K9 := Lib.hid (And.intro (kept_row K7.out.1 hs.1 (fun e => by have := Option.some.inj e; omega)) (And.intro (kept_row K7.out.2.1 hs.1 (fun e => by have := Option.some.inj e; omega)) (And.intro (K7.out.2.2.1.over hs.1 (by omega)) (And.intro (K7.out.2.2.2.1.trans hs) hlo7))))
 have HRI : Hid (I64 tr) := Lib.hid (by have := HM2.out.2; unfold I64; omega)
 have HN24 : Hid (∀ y ∈ M, y.nx.length ≤ 100) := Lib.hid (fun y hy => by have := (row_asc HM2.out.1 hy).2.1; omega)
 clear hs K7 hng hlo7 ha7
 cases b1
 case false =>
  obtain ⟨z0, z1, z2, z3⟩ := row4T K9.out.1
  obtain ⟨d0, d1, d2, d3⟩ := row4T K9.out.2.1
  have f0 := frozen_of_row _ _ 0 _ _ K9.out.1
  have f1 := frozen_of_row _ _ 1 _ _ K9.out.1
  have f2 := frozen_of_row _ _ 2 _ _ K9.out.1
  have f3 := frozen_of_row _ _ 3 _ _ K9.out.1
  have HT := Lib.hid (store4B (.int .i64 tr) (.int .i64 ts) (.int .i64 tn) (.slice p2 M.length c2) K9.out.1)
  go_wp2_with fail
  refine bodyPost_ret (res_tabB rfl _ _ w.heap.size _ _ _ _ rfl HT.out.1) rfl ?_
  have hst := K9.out.2.2.2.1.storeT HT.out.2 (Nat.le_refl _) HA.out
  have hf := (K9.out.2.2.1.over HT.out.2 (by omega))
  obtain ⟨-, f5, f6, f7⟩ := own_rdw hf
  exact ⟨tr, ts, tn, M, p2, c2, rfl, (own_rdw2 hf).mono (fun b hb => ⟨by omega, hb.2⟩), f5, f6, f7, HRI.out, by have := HML.out; omega, fun y hy => by have := HN24.out y hy; omega, hst⟩
 obtain ⟨d0, d1, d2, d3⟩ := row4T K9.out.2.1
 have hml := HML.out
 go_wp2_with fail
 refine (bend_any a (w.heap.size + 1) B9 _ (w.alloc (.cells #[.int .i64 0, .int .i64 0, .int .i64 0, .slice none 0 0] 25)) w9 tr ts tn M p2 c2 (st_up K9.out.2.2.2.1 K9.out.1) K9.out.2.2.1 ⟨by simp; have := HA.out; omega, by simp, by have := lt_rowB K9.out.2.1; have := K9.out.2.2.2.2; omega⟩ K9.out.2.1 (by simp; exact K9.out.2.2.2.2) (fun hi => by
  rcases hi with hi | ⟨y, hy, hi⟩
  ·have := K7O.out.1 _ hi; omega
  ·have := K7O.out.2 y hy _ hi; omega) HRI.out (by omega) HN24.out).mono ?_
 rintro e w10 ⟨r2, s2, n2, L, p, c, rfl, hO2, hr2, hl2, hN2, hD2, hnD, hs2⟩
 have hlo9 := K9.out.2.2.2.2
 have hT := store4B (.int .i64 r2) (.int .i64 s2) (.int .i64 n2) (.slice p L.length c) hD2
 have hrs10 : w10.heap[w.heap.size]? = some (.cells #[.int .i64 0, .int .i64 0, .int .i64 0, .slice none 0 0] 25 (0, 0)) := by
  have h1 := hs2.1.block w.heap.size (by simp) (fun e => by have := Option.some.inj e; have := HA.out; omega)
  rw [h1]; exact heap_alloc_new w _
 have hst10 : St a w w10 := ⟨grown_trans (grown_none (World.grownBy_alloc w _ none) _) hs2.1, hs2.2⟩
 have K11 := Lib.hid (And.intro (kept_row hrs10 hT.2 (fun e => by have := Option.some.inj e; omega)) (And.intro hT.1 (And.intro (hO2.ne hT.2 hnD) (hst10.storeT hT.2 (by omega) HA.out))))
 have HF := Lib.hid (And.intro hr2 (And.intro hl2 hN2))
 obtain ⟨d0, d1, d2, d3⟩ := row4T hD2
 have f0 := frozen_of_row _ _ 0 _ _ hD2
 have f1 := frozen_of_row _ _ 1 _ _ hD2
 have f2 := frozen_of_row _ _ 2 _ _ hD2
 have f3 := frozen_of_row _ _ 3 _ _ hD2
 clear hO2 hr2 hl2 hN2 hD2 hnD hs2 hT hrs10 hst10 K9
 go_upto_region 9 with fail
 clear d0 d1 d2 d3 f0 f1 f2 f3
 generalize (((w10.setCell _ _).setCell _ _).setCell _ _).setCell _ _ = w11 at *
 obtain ⟨z0, z1, z2, z3⟩ := row4T K11.out.1
 obtain ⟨d0, d1, d2, d3⟩ := row4T K11.out.2.1
 have f0 := frozen_of_row _ _ 0 _ _ K11.out.1
 have f1 := frozen_of_row _ _ 1 _ _ K11.out.1
 have f2 := frozen_of_row _ _ 2 _ _ K11.out.1
 have f3 := frozen_of_row _ _ 3 _ _ K11.out.1
 have HT := Lib.hid (store4B (.int .i64 r2) (.int .i64 s2) (.int .i64 n2) (.slice p L.length c) K11.out.1)
 go_wp2_with fail
 refine bodyPost_ret (res_tabB rfl _ _ w.heap.size _ _ _ _ rfl HT.out.1) rfl ?_
 have hst := K11.out.2.2.2.storeT HT.out.2 (Nat.le_refl _) HA.out
 have hf := (K11.out.2.2.1.over HT.out.2 (by omega))
 obtain ⟨-, f5, f6, f7⟩ := own_rdw hf
 exact ⟨r2, s2, n2, L, p, c, rfl, (own_rdw2 hf).mono (fun b hb => ⟨by omega, hb.2⟩), f5, f6, f7, HF.out.1, by have := HF.out.2.1; omega, fun y hy => by have := HF.out.2.2 y hy; omega, hst⟩
end Go.Proofs.YtahafijpcmphaaaGreat

/- tables: what the law of Check, Same and Row keeps in memory; big. -/
namespace Go.Proofs.YtahafijpcmphaaaGreat
set_option maxRecDepth 100000
open Go.RowKit Bs
def bgW (x : Rw) : Bool := decide (60 < x.nx.length)
def bgT (L : List Rw) : Bool := L.any bgW || decide (300 < L.length)
theorem bg_hit {L : List Rw} {k : Nat} {x : Rw} (hx : L[k]? = some x) (h : 60 < x.nx.length) : bgT L = true := by
 unfold bgT
 rw [Bool.or_eq_true]
 exact Or.inl (List.any_eq_true.2 ⟨x, List.mem_of_getElem? hx, by unfold bgW; simpa using h⟩)
theorem bg_not {L : List Rw} (h : bgT L = false) : L.length ≤ 300 ∧ ∀ x ∈ L, x.nx.length ≤ 60 := by
 unfold bgT at h
 rw [Bool.or_eq_false_iff] at h
 refine ⟨by have := of_decide_eq_false h.2; omega, fun x hx => ?_⟩
 have := List.any_eq_false.1 h.1 x hx
 unfold bgW at this
 simp only [decide_eq_true_eq] at this
 omega
set_option maxHeartbeats 3200000 in
theorem big11_any (r s n : Int) (p : Option Addr) (c : Nat) (L : List Rw) (q : Nat → Prop) (w : World) (hR : RdW w q p c L) (hm : L.length ≤ 9223372036854775807) :
  Calls Tryz.prog 12 #[.agg #[.int .i64 r, .int .i64 s, .int .i64 n, .slice p L.length c]] w fun e w' => e = .returned (.bool (bgT L)) ∧ w.grownBy w' none := by
 obtain ⟨k1, k2⟩ := tone_box w #[.int .i64 r, .int .i64 s, .int .i64 n, .slice p L.length c] 25
 have H0 : Hid (TC w r s n p c L _) := Lib.hid ⟨k1, ⟨q, hR.keep k2⟩, k2⟩
 clear k1 k2 hR
 go_enter Tryz.func12, Tryz.ntmps12
 go_upto_region 1 with fail
 generalize w.alloc _ = w1 at *
 go_wp2_with fail
 go_loopw [3] (fun v wr => ∃ k : Nat, k ≤ L.length ∧ v = .int .i64 (k : Int) ∧ Hid (∀ (i : Nat) (x : Rw), i < k → L[i]? = some x → x.nx.length ≤ 60) ∧ Hid (TC w r s n p c L wr)) (fun v _ => L.length - (RowKit.intOf v).toNat)
 case atStart => exact ⟨0, Nat.zero_le _, rfl, Lib.hid (fun i x h => absurd h (Nat.not_lt_zero _)), H0⟩
 case round =>
 clear H0
 obtain ⟨k, hk, rfl, HN, K⟩ := hrel
 obtain ⟨w5, hw5⟩ : ∃ w5, w5 = wr := ⟨_, rfl⟩
 rw [← hw5] at K ⊢
 clear hw5
 obtain ⟨d0, d1, d2, d3⟩ := row4T K.out.bx
 obtain ⟨q1, hq1⟩ := K.out.rd
 by_cases hlt : k < L.length
 case neg =>
  obtain rfl : k = L.length := by omega
  have hnl : ¬ (L.length : Int) < (L.length : Int) := by omega
  have HO : Hid (decide ((300 : Int) < (L.length : Int)) = bgT L) := Lib.hid (by
   have h1 : L.any bgW = false := List.any_eq_false.2 fun x hx => by
    obtain ⟨i, hi⟩ := List.mem_iff_getElem?.1 hx
    have := HN.out i x (List.getElem?_eq_some_iff.1 hi).1 hi
    unfold bgW
    simp only [decide_eq_true_eq]
    omega
   unfold bgT
   rw [h1, Bool.false_or, decide_eq_decide]
   omega)
  clear hq1
  go_wp2_with fail
  go_ret
  rw [← HO.out]
  exact ⟨rfl, K.out.gr⟩
 have hlt' : (k : Int) < (L.length : Int) := by omega
 have hk0 : (0 : Int) ≤ (k : Int) := by omega
 obtain ⟨x, hx⟩ : ∃ x, L[k]? = some x := ⟨_, List.getElem?_eq_getElem hlt⟩
 obtain ⟨-, b, off, rfl, -, hc⟩ := rw_cells hq1.rd (by omega)
 obtain ⟨a0, a1⟩ := hc k x hx
 have HX := Lib.hid hx
 clear hc hx hq1
 by_cases h60 : 60 < x.nx.length
 ·have h60' : (60 : Int) < (x.nx.length : Int) := by omega
  have HO := Lib.hid (bg_hit HX.out h60)
  clear h60
  go_wp2_with fail
  go_ret
  rw [HO.out]
  exact ⟨rfl, K.out.gr⟩
 ·have h60' : ¬ (60 : Int) < (x.nx.length : Int) := by omega
  have HN2 : Hid (∀ (i : Nat) (y : Rw), i < k + 1 → L[i]? = some y → y.nx.length ≤ 60) := Lib.hid (fun i y hi hy => by
   rcases Nat.lt_or_ge i k with h | h
   ·exact HN.out i y h hy
   ·obtain rfl : i = k := by omega
    rw [HX.out] at hy
    obtain rfl := Option.some.inj hy
    omega)
  clear HN h60
  go_wp2_with fail
  exact ⟨⟨k + 1, by omega, congrArg _ (by omega), HN2, K⟩, by simp only [RowKit.intOf]; omega⟩
theorem tp_otherC {w w' : World} {a b : Nat} (h : Tp w a) (g : w.grownBy w' (some b)) (hb : a < b) : Tp w' a := by
 have hlt := h.lt
 obtain ⟨v, n, i, T⟩ := h
 have hbk : w'.heap[a]? = w.heap[a]? := g.block a hlt (fun e => by have := Option.some.inj e; omega)
 refine ⟨v, n, i, (World.cell?_of_block (a := ⟨a, 0, none⟩) hbk).trans T.l, (World.cell?_of_block (a := ⟨a, 1, none⟩) hbk).trans T.p, (World.frozen?_of_block (a := ⟨a, 1, none⟩) hbk).trans T.fr, ?_, T.le, T.len⟩
 obtain ⟨p, c, hv, hc⟩ := T.ints
 refine ⟨p, c, hv, fun hn => ?_⟩
 obtain ⟨b1, off, hp, hb1, hx⟩ := hc hn
 refine ⟨b1, off, hp, hb1, fun i hi => ?_⟩
 obtain ⟨x, hx1, hcell⟩ := hx i hi
 exact ⟨x, hx1, g.cell hcell (fun e => by have : b1 = b := Option.some.inj e; omega)⟩
end Go.Proofs.YtahafijpcmphaaaGreat

/- tables: what the law of CheckAll and Find keeps in memory. -/
namespace Go.Proofs.YtahafijpcmphaaaGreat
set_option maxRecDepth 100000
open Go.RowKit Bs
structure TN (x : Tb) : Prop where
 hl : x.L.length ≤ 1000
 hy : ∀ y ∈ x.L, (y.p = none → y.c = 0) ∧ y.nx.length ≤ 1000
structure TD (W : World) (a lo : Nat) (v : Value) (Ts : List Tb) (w : World) : Prop where
 own : w.ownsRow lo 25 4 v Ts.length (Ts.flatMap tbC)
 tabs : ∀ x ∈ Ts, TbX lo w v x
 tp : Tp w a
 gr : W.grownBy w none
 lo : W.heap.size ≤ a ∧ a < lo ∧ lo ≤ w.heap.size
theorem TD.keep {W : World} {a lo : Nat} {v : Value} {Ts : List Tb} {w w1 : World} (h : TD W a lo v Ts w) (g : w.grownBy w1 none) : TD W a lo v Ts w1 :=
 ⟨h.own.kept g (by cases v.ownBlock <;> simp), fun x hx => (h.tabs x hx).keep g, h.tp.keep g, grown_trans h.gr g, h.lo.1, h.lo.2.1, Nat.le_trans h.lo.2.2 g.size⟩
theorem TD.tape {W : World} {a lo : Nat} {v : Value} {Ts : List Tb} {w w1 : World} (h : TD W a lo v Ts w) (k : St a w w1) : TD W a lo v Ts w1 := by
 have hlo := h.lo
 exact ⟨own_otherL h.own k.1 hlo.2.1, fun x hx => (h.tabs x hx).tape hlo.2.1 k.1, k.2, grown_new h.gr k.1 hlo.1, hlo.1, hlo.2.1, Nat.le_trans hlo.2.2 k.1.size⟩
theorem TD.push {W : World} {a lo : Nat} {v v' : Value} {Ts : List Tb} {x : Tb} {w w1 : World} (h : TD W a lo v Ts w) (hx : TbX lo w v x) (hown : w1.ownsRow lo 25 4 v' (Ts ++ [x]).length ((Ts ++ [x]).flatMap tbC)) (g : w.grownBy w1 v.ownBlock) (hv : v'.ownBlock = v.ownBlock ∨ ∀ b, some b = v'.ownBlock → w.heap.size ≤ b) : TD W a lo v' (Ts ++ [x]) w1 := by
 have hlo := h.lo
 have hne : ∀ b, b < lo → some b ≠ v.ownBlock := fun b hb e => by have := (h.own.lt b e.symm).1; omega
 have htp : Tp w1 a := by
  cases hvo : v.ownBlock with
  | none => rw [hvo] at g; exact h.tp.keep g
  | some b => rw [hvo] at g; exact tp_otherC h.tp g (by have := (h.own.lt b hvo).1; omega)
 refine ⟨hown, fun y hy => ?_, htp, grown_any h.gr g (fun b hb => hne b (by omega)), hlo.1, hlo.2.1, Nat.le_trans hlo.2.2 g.size⟩
 rcases List.mem_append.1 hy with hm | hm
 ·exact (h.tabs y hm).put g hv
 ·rw [List.mem_singleton.1 hm]; exact hx.put g hv
theorem TD.rdt {W : World} {a lo : Nat} {v : Value} {Ts : List Tb} {w : World} {p : Option Addr} {c : Nat} (h : TD W a lo v Ts w) (hv : v = .slice p Ts.length c) : RdT w (fun b => lo ≤ b ∧ b < w.heap.size) p c Ts := by
 subst hv
 exact ⟨rdf_of_own2 h.own, fun x hx => ⟨(h.tabs x hx).rd.mono (fun b hb => ⟨hb.1, hb.2.1⟩), Nat.le_trans (h.tabs x hx).hc.1 (h.tabs x hx).hc.2⟩⟩
def CellsG (w : World) (g : Nat) (xs : List Value) : Prop := ∃ (cur : Array Value) (t : TypeId), w.heap[g]? = some (.cells cur t (0, 0)) ∧ ∀ (i : Nat) (u : Value), xs[i]? = some u → cur[i]? = some u
theorem CellsG.set {w : World} {g : Nat} {xs : List Value} (h : CellsG w g xs) (k : Nat) (u : Value) : CellsG (w.setCell ⟨g, k, none⟩ u) g (xs.set k u) := by
 obtain ⟨cur, t, h1, h2⟩ := h
 refine ⟨_, t, heap_setCell_same w g k _ _ u h1, fun i u' hi => ?_⟩
 by_cases hik : i = k
 ·subst hik
  rw [List.getElem?_set_self' ] at hi
  cases hx : xs[i]? with
  | none => rw [hx] at hi; cases hi
  | some z =>
   rw [hx] at hi
   obtain rfl := Option.some.inj hi
   have := h2 i z hx
   rw [Array.getElem?_setIfInBounds]
   obtain ⟨hb, -⟩ := Array.getElem?_eq_some_iff.1 this
   simp [hb]
 ·rw [List.getElem?_set_ne (by omega)] at hi
  rw [Array.getElem?_setIfInBounds]
  rw [if_neg (by omega)]
  exact h2 i u' hi
theorem CellsG.cell {w : World} {g : Nat} {xs : List Value} (h : CellsG w g xs) {i : Nat} {u : Value} (hi : xs[i]? = some u) : w.cell? ⟨g, i, none⟩ = some u ∧ w.frozen? ⟨g, i, none⟩ = false := by
 obtain ⟨cur, t, h1, h2⟩ := h
 refine ⟨?_, frozen_of_row _ _ _ _ _ h1⟩
 rw [cell_of_row _ _ _ _ _ _ h1]
 exact h2 i u hi
end Go.Proofs.YtahafijpcmphaaaGreat

/- tables: two tables change places; the lists that the law reads. -/
namespace Go.Proofs.YtahafijpcmphaaaGreat
set_option maxRecDepth 100000
open Go.RowKit Bs
theorem cellsG_own {w : World} {lo n c g : Nat} {t : TypeId} {xs : List Value} (h : w.ownsRow lo t 4 (.slice (some ⟨g, 0, none⟩) n c) n xs) : CellsG w g xs := by
 rcases h.2 with ⟨e, -⟩ | ⟨g', cap, cur, e, -, hg, -, -, -, ht⟩
 ·cases e
 ·injection e with e1
  injection e1 with e2
  injection e2 with e3
  subst e3
  refine ⟨cur, t, hg, fun i u hi => ?_⟩
  rw [← ht] at hi
  have hi2 := (List.getElem?_eq_some_iff.1 hi).1
  rw [List.length_take] at hi2
  rw [List.getElem?_take_of_lt (by omega)] at hi
  simpa using hi
theorem CellsG.drew {w : World} {g : Nat} {xs : List Value} (h : CellsG w g xs) : CellsG w.drew g xs := h
def sw4 (w : World) (g k : Nat) (x : Tb) : World := (((w.setCell ⟨g, k, none⟩ (.int .i64 x.r)).setCell ⟨g, k + 1, none⟩ (.int .i64 x.s)).setCell ⟨g, k + 2, none⟩ (.int .i64 x.n)).setCell ⟨g, k + 3, none⟩ (.slice x.p x.L.length x.c)
theorem sw4_grown (w : World) (g k : Nat) (x : Tb) : w.grownBy (sw4 w g k x) (some g) := grown_trans (grown_trans (grown_trans (grown_setCell _ _ _) (grown_setCell _ _ _)) (grown_setCell _ _ _)) (grown_setCell _ _ _)
theorem sw_first {w : World} {g : Nat} {x0 x1 : Tb} {rest : List Tb} (h : CellsG w g ((x0 :: x1 :: rest).flatMap tbC)) : CellsG (sw4 w g 0 x1) g ((x1 :: x1 :: rest).flatMap tbC) := (((h.set 0 _).set 1 _).set 2 _).set 3 _
theorem sw_second {w : World} {g : Nat} {x0 x1 : Tb} {rest : List Tb} (h : CellsG w g ((x1 :: x1 :: rest).flatMap tbC)) : CellsG (sw4 w g 4 x0) g ((x1 :: x0 :: rest).flatMap tbC) := (((h.set 4 _).set 5 _).set 6 _).set 7 _
theorem rdT_swap {W w w1 : World} {a lo g c : Nat} {x0 x1 : Tb} {rest : List Tb} (h : TD W a lo (.slice (some ⟨g, 0, none⟩) (x0 :: x1 :: rest).length c) (x0 :: x1 :: rest) w) (hc : CellsG w1 g ((x1 :: x0 :: rest).flatMap tbC)) (k : w.grownBy w1 (some g)) : RdT w1 (fun b => lo ≤ b ∧ b < w1.heap.size) (some ⟨g, 0, none⟩) c (x1 :: x0 :: rest) ∧ Tp w1 a ∧ W.grownBy w1 none := by
 have hlo := h.lo
 have hg := h.own.lt g rfl
 refine ⟨⟨⟨some ⟨g, 0, none⟩, c, rfl, fun _ => ⟨g, 0, rfl, ⟨hg.1, Nat.lt_of_lt_of_le hg.2 k.size⟩, fun i u hi => by rw [Nat.zero_add]; exact (hc.cell hi).1⟩⟩, fun x hx => ?_⟩, tp_otherC h.tp k (by omega), grown_any h.gr k (fun b hb e => by have := Option.some.inj e; omega)⟩
 have hx2 : x ∈ x0 :: x1 :: rest := by
  rcases List.mem_cons.1 hx with rfl | hx
  ·simp
  ·rcases List.mem_cons.1 hx with rfl | hx
   ·simp
   ·simp [hx]
 have ht := h.tabs x hx2
 exact ⟨(ht.rd.grown k (fun b hb => hb.2.2)).mono (fun b hb => ⟨hb.1, Nat.lt_of_lt_of_le hb.2.1 k.size⟩), Nat.le_trans ht.hc.1 ht.hc.2⟩
structure TG (W : World) (a D Z : Nat) (pA : Option Addr) (cA : Nat) (A : List Tb) (pB : Option Addr) (cB : Nat) (B : List Tb) (w : World) : Prop where
 bD : w.heap[D]? = some (.cells #[.slice pA A.length cA, .slice pB B.length cB] 29 (0, 0))
 r1 : RdT w (fun b => b ≠ a ∧ b < Z) pA cA A
 r2 : RdT w (fun b => b ≠ a ∧ b < Z) pB cB B
 tp : Tp w a
 gr : W.grownBy w none
 lo : W.heap.size ≤ a ∧ a < D ∧ D < Z ∧ Z ≤ w.heap.size
theorem TG.keep {W : World} {a D Z : Nat} {pA : Option Addr} {cA : Nat} {A : List Tb} {pB : Option Addr} {cB : Nat} {B : List Tb} {w w1 : World} (h : TG W a D Z pA cA A pB cB B w) (g : w.grownBy w1 none) : TG W a D Z pA cA A pB cB B w1 :=
 ⟨kept_row h.bD g (by simp), h.r1.keep g, h.r2.keep g, h.tp.keep g, grown_trans h.gr g, h.lo.1, h.lo.2.1, h.lo.2.2.1, Nat.le_trans h.lo.2.2.2 g.size⟩
theorem TG.put {W : World} {a D Z b : Nat} {pA : Option Addr} {cA : Nat} {A : List Tb} {pB : Option Addr} {cB : Nat} {B : List Tb} {w w1 : World} (h : TG W a D Z pA cA A pB cB B w) (g : w.grownBy w1 (some b)) (hb : Z ≤ b) : TG W a D Z pA cA A pB cB B w1 := by
 have hlo := h.lo
 have hn : ∀ i, i < Z → some i ≠ some b := fun i hi e => by have := Option.some.inj e; omega
 exact ⟨kept_row h.bD g (hn _ (by omega)), h.r1.grown g (fun i hi => hn i hi.2), h.r2.grown g (fun i hi => hn i hi.2), tp_otherC h.tp g (by omega), grown_new h.gr g (by omega), hlo.1, hlo.2.1, hlo.2.2.1, Nat.le_trans hlo.2.2.2 g.size⟩
theorem TG.tape {W : World} {a D Z : Nat} {pA : Option Addr} {cA : Nat} {A : List Tb} {pB : Option Addr} {cB : Nat} {B : List Tb} {w w1 : World} (h : TG W a D Z pA cA A pB cB B w) (k : St a w w1) : TG W a D Z pA cA A pB cB B w1 := by
 have hlo := h.lo
 exact ⟨kept_row h.bD k.1 (fun e => by have := Option.some.inj e; omega), h.r1.grown k.1 (fun i hi e => hi.1 (Option.some.inj e)), h.r2.grown k.1 (fun i hi e => hi.1 (Option.some.inj e)), k.2, grown_new h.gr k.1 hlo.1, hlo.1, hlo.2.1, hlo.2.2.1, Nat.le_trans hlo.2.2.2 k.1.size⟩
structure TH (W : World) (a D Z : Nat) (pA : Option Addr) (cA : Nat) (A : List Tb) (pB : Option Addr) (cB : Nat) (B : List Tb) (G Z2 : Nat) (x y : Int) (w : World) : Prop where
 tg : TG W a D Z pA cA A pB cB B w
 bG : w.heap[G]? = some (.cells #[.int .i64 x, .int .i64 y] 3 (0, 0))
 lo : Z ≤ Z2 ∧ G < Z2 ∧ Z2 ≤ w.heap.size
theorem TH.keep {W : World} {a D Z : Nat} {pA : Option Addr} {cA : Nat} {A : List Tb} {pB : Option Addr} {cB : Nat} {B : List Tb} {G Z2 : Nat} {x y : Int} {w w1 : World} (h : TH W a D Z pA cA A pB cB B G Z2 x y w) (g : w.grownBy w1 none) : TH W a D Z pA cA A pB cB B G Z2 x y w1 := ⟨h.tg.keep g, kept_row h.bG g (by simp), h.lo.1, h.lo.2.1, Nat.le_trans h.lo.2.2 g.size⟩
theorem TH.put {W : World} {a D Z b : Nat} {pA : Option Addr} {cA : Nat} {A : List Tb} {pB : Option Addr} {cB : Nat} {B : List Tb} {G Z2 : Nat} {x y : Int} {w w1 : World} (h : TH W a D Z pA cA A pB cB B G Z2 x y w) (g : w.grownBy w1 (some b)) (hb : Z2 ≤ b) : TH W a D Z pA cA A pB cB B G Z2 x y w1 := by
 have hlo := h.lo
 exact ⟨h.tg.put g (by omega), kept_row h.bG g (fun e => by have := Option.some.inj e; omega), hlo.1, hlo.2.1, Nat.le_trans hlo.2.2 g.size⟩
theorem TH.lo0 {W : World} {a D Z : Nat} {pA : Option Addr} {cA : Nat} {A : List Tb} {pB : Option Addr} {cB : Nat} {B : List Tb} {G Z2 : Nat} {x y : Int} {w : World} (h : TH W a D Z pA cA A pB cB B G Z2 x y w) : Z2 ≤ w.heap.size ∧ 0 ≤ w.heap.size := ⟨h.lo.2.2, Nat.zero_le _⟩
theorem TG.th {W : World} {a D Z : Nat} {pA : Option Addr} {cA : Nat} {A : List Tb} {pB : Option Addr} {cB : Nat} {B : List Tb} {w : World} (h : TG W a D Z pA cA A pB cB B w) (x y : Int) : TH W a D Z pA cA A pB cB B w.heap.size (w.heap.size + 1) x y (w.alloc (.cells #[.int .i64 x, .int .i64 y] 3)) := by
 obtain ⟨k1, k2, k3⟩ := alloc_row (w := w) #[.int .i64 x, .int .i64 y] 3 rfl
 have hlo := h.lo
 exact ⟨h.keep k2, k1, by omega, by omega, by omega⟩
theorem TH.cell {W : World} {a D Z : Nat} {pA : Option Addr} {cA : Nat} {A : List Tb} {pB : Option Addr} {cB : Nat} {B : List Tb} {G Z2 : Nat} {x y : Int} {w : World} (h : TH W a D Z pA cA A pB cB B G Z2 x y w) (k : Nat) (hk : k < 2) : w.cell? ⟨G, k, none⟩ = some (.int .i64 (if k = 0 then x else y)) := by
 obtain ⟨d0, d1⟩ := row_cells h.bG
 rcases k with _ | _ | k
 ·exact d0
 ·exact d1
 ·omega
theorem rdw_fi {base : Nat} {w : World} {p : Option Addr} {c : Nat} {L : List Rw} (hown : w.ownsRow base 36 2 (.slice p L.length c) L.length (L.flatMap rwC)) (hr : ∀ y ∈ L, RdO base w (.slice p L.length c) y) : RdW w (fun b => base ≤ b ∧ b < w.heap.size) p c L ∧ L.length ≤ 9223372036854775807 := by
 refine ⟨⟨rdf_of_own2 hown, fun x hx => RwOk.mono (hr x hx) (fun b hb => ⟨hb.1, hb.2.1⟩)⟩, ?_⟩
 rcases own_formF hown with ⟨e, h0⟩ | ⟨g, cap, e, h1, h2⟩ <;> omega
theorem nb_aZ {lo1 lo2 : Nat} {w : World} {p : Option Addr} {c : Nat} {L : List Rw} (hR : RdW w (· < lo1) p c L) (hl : L.length ≤ 9223372036854775807) (hlo : lo1 ≤ w.heap.size ∧ lo2 ≤ w.heap.size) : NB lo1 lo2 w.heap.size p c L (w.alloc (.cells #[.int .i64 0, .int .i64 0, .int .i64 0, .slice none 0 0] 25)) := by
 obtain ⟨k1, k2, k3⟩ := alloc_row (w := w) #[.int .i64 0, .int .i64 0, .int .i64 0, .slice none 0 0] 25 rfl
 exact ⟨k1, (hR.keep k2).mono (fun b hb => by omega), hl, hlo⟩
theorem nb_bZ {lo1 lo2 : Nat} {w w6 : World} {p : Option Addr} {c : Nat} {L : List Rw} (hg : (w.alloc (.cells #[.int .i64 0, .int .i64 0, .int .i64 0, .slice none 0 0] 25)).drew.grownBy w6 none) (hR : RdW w6 (· < lo1) p c L) (hl : L.length ≤ 9223372036854775807) (hlo : lo1 ≤ w.heap.size ∧ lo2 ≤ w.heap.size) : NB lo1 lo2 w.heap.size p c L w6 := by
 obtain ⟨k1, k2, k3⟩ := alloc_row (w := w) #[.int .i64 0, .int .i64 0, .int .i64 0, .slice none 0 0] 25 rfl
 have k4 : (w.alloc (.cells #[.int .i64 0, .int .i64 0, .int .i64 0, .slice none 0 0] 25)).drew.heap.size = w.heap.size + 1 := k3
 have k5 := hg.size
 exact ⟨kept_row (w := (w.alloc (.cells #[.int .i64 0, .int .i64 0, .int .i64 0, .slice none 0 0] 25)).drew) k1 hg (by simp), hR.mono (fun b hb => by omega), hl, hlo⟩
theorem nbg_aZ {lo : Nat} (r s n : Int) {p : Option Addr} {c : Nat} {L : List Rw} {w : World} (hR : RdW w (· < lo) p c L) (hl : L.length ≤ 9223372036854775807) (hlo : lo ≤ w.heap.size) : BG w.heap.size (w.alloc (.cells #[.int .i64 r, .int .i64 s, .int .i64 n, .slice p L.length c] 25)).heap.size r s n p c L (w.alloc (.cells #[.int .i64 r, .int .i64 s, .int .i64 n, .slice p L.length c] 25)) := by
 obtain ⟨k1, k2, k3⟩ := alloc_row (w := w) #[.int .i64 r, .int .i64 s, .int .i64 n, .slice p L.length c] 25 rfl
 exact ⟨k1, (hR.keep k2).mono (fun b hb => by omega), hl, by omega, Nat.le_refl _⟩
theorem fdT_ok {w : World} {q : Nat → Prop} {p : Option Addr} {c : Nat} {Ts : List Tb} {r : Int} (h : RdT w q p c Ts) : RdW w q ((fdT Ts r).getD zTb).p ((fdT Ts r).getD zTb).c ((fdT Ts r).getD zTb).L ∧ ((fdT Ts r).getD zTb).L.length ≤ 9223372036854775807 := by
 cases hf : fdT Ts r with
 | none => exact ⟨⟨⟨none, 0, rfl, fun h => absurd rfl h⟩, fun x hx => (by cases hx)⟩, by show (0 : Nat) ≤ _; omega⟩
 | some x => exact h.ok x (List.mem_of_find?_eq_some hf)
end Go.Proofs.YtahafijpcmphaaaGreat

/- A table that comes in as an argument. -/
namespace Go.Proofs.YtahafijpcmphaaaGreat
set_option maxRecDepth 100000
open Go.ChangeShapes Go.WideShapes Go.ChangeAt Go.RowKit Go.Joins Bs
theorem kit_cellsrwT : Tryz.prog.cellsOf 36 = 2 := by kernel_rfl
theorem kit_cellsrwsT : Tryz.prog.cellsOf 23 = 1 := by kernel_rfl
theorem kit_cellsisT : Tryz.prog.cellsOf 22 = 1 := by kernel_rfl
theorem kit_cellstbT : Tryz.prog.cellsOf 25 = 4 := by kernel_rfl
theorem tlistT2 {A : Type} {xs : List A} (h : xs.length = 2) : ∃ x0 x1, xs = [x0, x1] := by
 match xs, h with
 | [x0, x1], _ => exact ⟨x0, x1, rfl⟩
theorem tlistT4 {A : Type} {xs : List A} (h : xs.length = 4) : ∃ x0 x1 x2 x3, xs = [x0, x1, x2, x3] := by
 match xs, h with
 | [x0, x1, x2, x3], _ => exact ⟨x0, x1, x2, x3, rfl⟩
section
variable {H : Type} {enc : TypeId × Value → H} {W : World} {base : Nat} {v : Value} {d : DataW H} {ps : List MemPlace}
theorem rowsT_trod {α : Type} (f : α → List Value) (P : α → Prop) (k : Nat) (hk : 0 < k) (hf : ∀ x, (f x).length = k) (x0 : α) {E T : TypeId} (hT : Tryz.prog.underlying T = some (.slice E)) (hc : Tryz.prog.cellsOf E = k)
  (hE : ∀ {fuel : Nat} {cs : List Value} {y : DataW H × List MemPlace}, DataW.trod enc Tryz.prog W 0 (fun _ => true) true fuel E cs = some y → ∃ r : α, cs = f r ∧ P r)
  {fuel : Nat} {c0 : Value} {y : DataW H × List MemPlace} (h : DataW.trod enc Tryz.prog W 0 (fun _ => true) true fuel T [c0] = some y) :
  ∃ (l : List α) (p : Option Addr) (c : Nat), c0 = .slice p l.length c ∧ RdF W (· < W.heap.size) (.slice p l.length c) l.length (l.flatMap f) ∧ l.length ≤ c ∧ c ≤ 9223372036854775807 ∧ (p = none → c = 0) ∧ ∀ x ∈ l, P x := by
 rcases DataW.trod_slice hT h with ⟨hcs, _⟩ | ⟨a, len, cap, elems, rest, n, _, hcs, _, _, hl, hm, hlen, hel, _, _⟩
 ·obtain rfl : c0 = .slice none 0 0 := by simpa using hcs
  exact ⟨[], none, 0, rfl, rdf_nil _ _ _ _, Nat.le_refl _, by omega, fun _ => rfl, fun x h => by cases h⟩
 ·obtain rfl : c0 = .slice (some a) len cap := by simpa using hcs
  rw [hc] at hel
  have each : ∀ i, ∃ l : α, i < len → (∀ j, j < k → W.cell? ((a.add (i * k)).add j) = (f l)[j]?) ∧ P l := by
   intro i
   by_cases hi : i < len
   ·have h1 := hel i hi
    rw [List.getElem?_eq_getElem (by omega)] at h1
    obtain ⟨cs, hc1, hc2⟩ := Option.bind_eq_some_iff.1 h1
    obtain ⟨l, rfl, hPl⟩ := hE hc2
    obtain ⟨_, _, hc3⟩ := World.cells?_some hc1
    exact ⟨l, fun _ => ⟨fun j hj => hc3 j hj, hPl⟩⟩
   ·exact ⟨x0, fun h => absurd h hi⟩
  obtain ⟨g, hfn2⟩ := Classical.axiomOfChoice each
  have hfn : ∀ i, i < len → ∀ j, j < k → W.cell? ((a.add (i * k)).add j) = (f (g i))[j]? := fun i hi => (hfn2 i hi).1
  have hll : ((List.range len).map g).length = len := by simp
  refine ⟨(List.range len).map g, some a, cap, by rw [hll], ?_, by rw [hll]; exact hl, hm, (fun e => by cases e), fun x hx => by
   obtain ⟨i, hi, rfl⟩ := List.mem_map.1 hx
   exact (hfn2 i (List.mem_range.1 hi)).2⟩
  rw [hll]
  refine ⟨some a, cap, rfl, fun hne => ?_⟩
  have hpos : 0 < len := by
   rcases Nat.eq_zero_or_pos len with h0 | h0
   ·subst h0
    exact absurd rfl hne
   ·exact h0
  obtain ⟨b, off, spot⟩ := a
  have hget : ∀ i, i < len → ∀ j, j < k → ∃ u, (f (g i))[j]? = some u := fun i _ j hj => ⟨_, List.getElem?_eq_getElem (by rw [hf]; exact hj)⟩
  have hspot : spot = none := by
   obtain ⟨u, hu⟩ := hget 0 hpos 0 hk
   have := (hfn 0 hpos 0 hk).trans hu
   simpa [Addr.add] using World.cell?_spot this
  subst hspot
  have hcell : ∀ i j, i < len → j < k → W.cell? ⟨b, off + (i * k + j), none⟩ = (f (g i))[j]? := by
   intro i j hi hj
   have := hfn i hi j hj
   rw [Go.WideShapes.add_plain, Go.WideShapes.add_plain] at this
   rw [← this]
   congr 2
   omega
  refine ⟨b, off, rfl, ?_, fun j x hj => ?_⟩
  ·obtain ⟨u, hu⟩ := hget 0 hpos 0 hk
   exact World.block_lt_of_cell? W ⟨b, off + (0 * k + 0), none⟩ ((hcell 0 0 hpos hk).trans hu)
  have hj2 : j < len * k := by
   have := (List.getElem?_eq_some_iff.1 hj).1
   rw [flat_len f k hf, hll] at this
   exact this
  have hm1 : j / k < len := (Nat.div_lt_iff_lt_mul hk).2 hj2
  have hm2 : j % k < k := Nat.mod_lt _ hk
  have hd : j = j / k * k + j % k := by rw [Nat.mul_comm]; exact (Nat.div_add_mod j k).symm
  have hat : ((List.range len).map g)[j / k]? = some (g (j / k)) := by
   rw [List.getElem?_map, List.getElem?_range hm1]; rfl
  rw [hd] at hj ⊢
  rw [flat_at f k hf _ _ _ _ hat hm2] at hj
  rw [hcell _ _ hm1 hm2]
  exact hj
theorem rd_of_rdfO {w : World} {q : Nat → Prop} {v : Value} {X : List Int} (h : RdF w q v X.length (X.flatMap ivF)) : Rd w q v (X.map tv) := by
 obtain ⟨p, c, h1, h2⟩ := h
 rw [flat_ivF] at h2
 exact ⟨p, c, by rw [List.length_map]; exact h1, h2⟩
theorem iT_trod {fuel : Nat} {cs : List Value} {y : DataW H × List MemPlace} (h : DataW.trod enc Tryz.prog W 0 (fun _ => true) true fuel 3 cs = some y) : ∃ x : Int, cs = ivF x ∧ True := by
 obtain ⟨m0, e0, _, w0⟩ := DataW.trod_int Tryz.underlying3 h
 exact ⟨m0, e0, trivial⟩
theorem rw_trod {fuel : Nat} {cs : List Value} {y : DataW H × List MemPlace} (h : DataW.trod enc Tryz.prog W 0 (fun _ => true) true fuel 36 cs = some y) : ∃ x : Rw, cs = rwC x ∧ (RwOk W (· < W.heap.size) x ∧ (x.p = none → x.c = 0)) := by
 have hs := Tryz.underlying36
 obtain ⟨xs, n, _, _, hl, hlen, hf⟩ := DataW.trod_struct hs h
 rw [kit_cellsrwT] at hl
 obtain ⟨c0, c1, rfl⟩ := tlistT2 hl
 obtain ⟨x0, x1, rfl⟩ := tlistT2 hlen
 have h0 : DataW.trod enc Tryz.prog W 0 (fun _ => true) true n 3 [c0] = some x0 := by simpa [Value.cells, kit_cellsInt] using hf 0 _ rfl
 have h1 : DataW.trod enc Tryz.prog W 0 (fun _ => true) true n 22 [c1] = some x1 := by simpa [Value.cells, kit_cellsInt, kit_cellsisT] using hf 1 _ rfl
 obtain ⟨m0, e0, _, w0⟩ := DataW.trod_int Tryz.underlying3 h0
 obtain rfl : c0 = .int .i64 m0 := by simpa using e0
 obtain ⟨X, p, c, rfl, r1, r2, r3, r4, -⟩ := rowsT_trod ivF (fun _ => True) 1 (by decide) (fun _ => rfl) 0 Tryz.underlying22 kit_cellsInt iT_trod h1
 exact ⟨⟨m0, X, p, c⟩, rfl, ⟨rd_of_rdfO r1, ⟨r2, r3⟩⟩, r4⟩
end
end Go.Proofs.YtahafijpcmphaaaGreat

/- Tables that come in as an argument. -/
namespace Go.Proofs.YtahafijpcmphaaaGreat
set_option maxRecDepth 100000
open Go.ChangeShapes Go.WideShapes Go.ChangeAt Go.RowKit Go.Joins Bs
section
variable {H : Type} {enc : TypeId × Value → H} {W : World} {base : Nat} {v : Value} {d : DataW H} {ps : List MemPlace}
structure TbIn (W : World) (x : Tb) : Prop where
 rd : RdW W (· < W.heap.size) x.p x.c x.L
 hy : ∀ y ∈ x.L, y.p = none → y.c = 0
 hl : x.L.length ≤ 9223372036854775807
theorem tb_trod {fuel : Nat} {cs : List Value} {y : DataW H × List MemPlace} (h : DataW.trod enc Tryz.prog W 0 (fun _ => true) true fuel 25 cs = some y) : ∃ x : Tb, cs = tbC x ∧ TbIn W x := by
 have hs := Tryz.underlying25
 obtain ⟨xs, n, _, _, hl, hlen, hf⟩ := DataW.trod_struct hs h
 rw [kit_cellstbT] at hl
 obtain ⟨c0, c1, c2, c3, rfl⟩ := tlistT4 hl
 obtain ⟨x0, x1, x2, x3, rfl⟩ := tlistT4 hlen
 have h0 : DataW.trod enc Tryz.prog W 0 (fun _ => true) true n 3 [c0] = some x0 := by simpa [Value.cells, kit_cellsInt] using hf 0 _ rfl
 have h1 : DataW.trod enc Tryz.prog W 0 (fun _ => true) true n 3 [c1] = some x1 := by simpa [Value.cells, kit_cellsInt] using hf 1 _ rfl
 have h2 : DataW.trod enc Tryz.prog W 0 (fun _ => true) true n 3 [c2] = some x2 := by simpa [Value.cells, kit_cellsInt] using hf 2 _ rfl
 have h3 : DataW.trod enc Tryz.prog W 0 (fun _ => true) true n 23 [c3] = some x3 := by simpa [Value.cells, kit_cellsInt, kit_cellsrwsT] using hf 3 _ rfl
 obtain ⟨m0, e0, _, w0⟩ := DataW.trod_int Tryz.underlying3 h0
 obtain rfl : c0 = .int .i64 m0 := by simpa using e0
 obtain ⟨m1, e1, _, w1⟩ := DataW.trod_int Tryz.underlying3 h1
 obtain rfl : c1 = .int .i64 m1 := by simpa using e1
 obtain ⟨m2, e2, _, w2⟩ := DataW.trod_int Tryz.underlying3 h2
 obtain rfl : c2 = .int .i64 m2 := by simpa using e2
 obtain ⟨L, p, c, rfl, r1, r2, r3, r4, hP⟩ := rowsT_trod rwC (fun x => RwOk W (· < W.heap.size) x ∧ (x.p = none → x.c = 0)) 2 (by decide) (fun _ => rfl) ⟨0, [], none, 0⟩ Tryz.underlying23 kit_cellsrwT rw_trod h3
 exact ⟨⟨m0, m1, m2, L, p, c⟩, rfl, ⟨r1, fun x hx => (hP x hx).1⟩, fun x hx => (hP x hx).2, Nat.le_trans r2 r3⟩
theorem opn_tables (hval : Value.okWide Tryz.prog W .any base 29 v) (h : DataW.Trod enc Tryz.prog W 0 (fun _ => true) true 29 v d ps) :
  ∃ (Ts : List Tb) (p : Option Addr) (c : Nat), v = .slice p Ts.length c ∧ RdF W (· < W.heap.size) (.slice p Ts.length c) Ts.length (Ts.flatMap tbC) ∧ (p = none → c = 0) ∧ Ts.length ≤ c ∧ c ≤ 9223372036854775807 ∧ ∀ x ∈ Ts, TbIn W x := by
 obtain ⟨p0, n0, c0, rfl⟩ := okWide_slice Tryz.underlying29 hval
 obtain ⟨fuel, hf⟩ := h
 obtain ⟨l, p, c, e, h1, h2, h3, h4, h5⟩ := rowsT_trod tbC (fun x => TbIn W x) 4 (by decide) (fun _ => rfl) ⟨0, 0, 0, [], none, 0⟩ Tryz.underlying29 kit_cellstbT tb_trod (by simpa [Value.cells] using hf)
 injection e with e1 e2 e3
 subst e1
 subst e2
 subst e3
 exact ⟨l, p0, c0, rfl, h1, h4, h2, h3, h5⟩
end
end Go.Proofs.YtahafijpcmphaaaGreat

/- tables: the laws' example. -/
namespace Go.Proofs.YtahafijpcmphaaaGreat
set_option maxRecDepth 100000
open Go.RowKit Bs
def tbxR : List Rt := [⟨1, true⟩, ⟨2, false⟩, ⟨3, true⟩]
def tbxL : List Lk := [⟨1, 2, 1, 1, 0⟩, ⟨2, 3, 1, 1, 0⟩]
def tbxE : List Ed := [⟨3, 1⟩]
theorem tbx_ok : okT tbxR tbxL = true ∧ vPl 0 8 tbxE = true ∧ hasV tbxR tbxL 1 = true ∧ hasV tbxR tbxL 3 = true ∧ capV tbxR tbxL 1 = true ∧ capV tbxR tbxL 3 = true ∧ capV tbxR tbxL 2 = false := ⟨by kernel_rfl, by kernel_rfl, by kernel_rfl, by kernel_rfl, by kernel_rfl, by kernel_rfl, by kernel_rfl⟩
theorem tbx_st : stV tbxR tbxL (toK tbxL 3 3) 1 = [2] ∧ stV tbxR tbxL (toK tbxL 3 3) 2 = [3] := ⟨by kernel_rfl, by kernel_rfl⟩
theorem tbx_bu : buE tbxR tbxL 0 8 tbxE 1 = 0 := bu_ok ⟨tbx_ok.1, tbx_ok.2.1⟩ tbx_ok.2.2.1 tbx_ok.2.2.2.2.1
theorem tbx_hop {X : List Int} (hp : X.Pairwise (· < ·)) (h : HopsIs tbxR tbxL 1 3 X) : X = [3] := by
 unfold HopsIs at h
 rw [if_pos ⟨tbx_ok.2.2.1, tbx_ok.2.2.2.1, by decide⟩] at h
 refine asc_same hp (by decide) fun y => (h y).trans ⟨?_, ?_⟩
 ·rintro ⟨s, hs, hy, hc⟩
  have hs2 := hs (fun a => a = 1 ∨ a = 2) (Or.inl rfl) (fun a b ha hb _ => by
   rcases ha with rfl | rfl
   ·have := tbx_st.1 ▸ hb; exact Or.inr (by simpa using this)
   ·rename_i hcb
    have h3 := tbx_st.2 ▸ hb
    have h4 : b = 3 := by simpa using h3
    subst h4
    rw [tbx_ok.2.2.2.2.2.1] at hcb; cases hcb)
  rcases hs2 with rfl | rfl
  ·have h3 := tbx_st.1 ▸ hy
   have h4 : y = 2 := by simpa using h3
   subst h4
   rw [tbx_ok.2.2.2.2.2.2] at hc; cases hc
  ·have h3 := tbx_st.2 ▸ hy
   simpa using h3
 ·intro hy
  have e : y = 3 := by simpa using hy
  subst e
  refine ⟨2, fun P h1 h2 => h2 1 2 h1 (by have := tbx_st.1; show 2 ∈ stV tbxR tbxL (toK tbxL 3 3) 1; rw [this]; simp) tbx_ok.2.2.2.2.2.2, ?_, tbx_ok.2.2.2.2.2.1⟩
  show 3 ∈ stV tbxR tbxL (toK tbxL 3 3) 2
  rw [tbx_st.2]; simp
theorem tbx_bld {L : List Rw} (h : BldM tbxR tbxL 1 tbxE L) : ∃ x, L = [x] ∧ x.id = 1 ∧ x.nx = [3] := by
 have hl : L.length = 1 := h.1
 obtain ⟨x, rfl⟩ : ∃ x, L = [x] := by
  cases L with
  | nil => cases hl
  | cons x t => cases t with
   | nil => exact ⟨x, rfl⟩
   | cons y t => simp at hl
 obtain ⟨h1, h2⟩ := h.2 0 ⟨3, 1⟩ x rfl rfl
 refine ⟨x, rfl, h1, ?_⟩
 unfold NxB at h2
 rw [if_neg (by decide), if_pos tbx_ok.2.2.2.2.2.1] at h2
 exact tbx_hop h2.1 h2.2.2
end Go.Proofs.YtahafijpcmphaaaGreat

/- tables: awake. -/
namespace Go.Proofs.YtahafijpcmphaaaGreat
set_option maxRecDepth 100000
open Go.RowKit Bs
theorem rdf_rowT {w : World} {g : Nat} {t : TypeId} {n c : Nat} {xs : List Value} (h : w.heap[g]? = some (.cells xs.toArray t (0, 0))) : RdF w (· = g) (.slice (some ⟨g, 0, none⟩) n c) n xs :=
 ⟨some ⟨g, 0, none⟩, c, rfl, fun _ => ⟨g, 0, rfl, rfl, fun i x hi => by
  rw [cell_of_row _ _ _ _ _ _ h, Nat.zero_add]
  simpa using hi⟩⟩
theorem tbx_start (w : World) : ∃ w3, w3 = (((w.alloc (.cells #[.int .i64 1, .bool true, .int .i64 2, .bool false, .int .i64 3, .bool true] 92)).alloc (.cells #[.int .i64 1, .int .i64 2, .int .i64 1, .int .i64 1, .int .i64 0, .int .i64 2, .int .i64 3, .int .i64 1, .int .i64 1, .int .i64 0] 94)).alloc (.cells #[.slice (some ⟨w.heap.size, 0, none⟩) 3 3, .slice (some ⟨w.heap.size + 1, 0, none⟩) 2 2] 45)) ∧
  w3.heap[w.heap.size + 1 + 1]? = some (.cells #[.slice (some ⟨w.heap.size, 0, none⟩) 3 3, .slice (some ⟨w.heap.size + 1, 0, none⟩) 2 2] 45 (0, 0)) ∧ TgOk w3 (fun _ => True) ⟨tbxR, tbxL, some ⟨w.heap.size, 0, none⟩, 3, some ⟨w.heap.size + 1, 0, none⟩, 2⟩ ∧ w.grownBy w3 none := by
 obtain ⟨a1, g1, z1⟩ := alloc_row (w := w) #[.int .i64 1, .bool true, .int .i64 2, .bool false, .int .i64 3, .bool true] 92 rfl
 generalize w.alloc _ = w1 at *
 obtain ⟨a2, g2, z2⟩ := alloc_row (w := w1) #[.int .i64 1, .int .i64 2, .int .i64 1, .int .i64 1, .int .i64 0, .int .i64 2, .int .i64 3, .int .i64 1, .int .i64 1, .int .i64 0] 94 z1
 generalize w1.alloc _ = w2 at *
 obtain ⟨a3, g3, z3⟩ := alloc_row (w := w2) #[.slice (some ⟨w.heap.size, 0, none⟩) 3 3, .slice (some ⟨w.heap.size + 1, 0, none⟩) 2 2] 45 z2
 refine ⟨_, rfl, ?_⟩
 generalize w2.alloc _ = w3 at *
 exact ⟨a3, ⟨(rdf_rowT (xs := tbxR.flatMap rtC) (kept_row (kept_row a1 g2 (by simp)) g3 (by simp))).mono (fun _ _ => trivial), (rdf_rowT (xs := tbxL.flatMap lkC) (kept_row a2 g3 (by simp))).mono (fun _ _ => trivial), ⟨(by decide : 3 ≤ 3), (by decide : 3 ≤ 9223372036854775807)⟩, ⟨(by decide : 2 ≤ 2), (by decide : 2 ≤ 9223372036854775807)⟩⟩, grown_trans (grown_trans g1 g2) g3⟩
theorem tbx_ck (p : Option Addr) (c : Nat) : ckT 1 0 8 [⟨1, [3], p, c⟩] = 0 := by kernel_rfl
set_option maxHeartbeats 3200000 in
theorem awk11_any (w : World) : Calls Tryz.prog 21 #[] w fun e w' => e = .returned (.bool true) ∧ w.grownBy w' none := by
 obtain ⟨w3, h3, hb, hT, hg⟩ := tbx_start w
 have H3 := Lib.hid (And.intro hb (And.intro hT hg))
 clear hb hT hg
 go_enter Tryz.func21, Tryz.ntmps21
 go_upto_region 2 with fail
 rw [← h3]
 clear h3
 obtain ⟨t0, t1⟩ := row_cells H3.out.1
 have hb4 := alloc_row (w := w3) #[.int .i64 3, .int .i64 1] 71 rfl
 have H4 := Lib.hid (And.intro hb4.1 hb4.2.1)
 clear hb4
 go_wp2_with fail
 generalize w3.alloc _ = w4 at *
 generalize w3.heap.size = g4 at *
 refine (tBuild_any ⟨tbxR, tbxL, some ⟨w.heap.size, 0, none⟩, 3, some ⟨w.heap.size + 1, 0, none⟩, 2⟩ 0 8 1 tbxE (some ⟨g4, 0, none⟩) 1 _ _ w4 (H3.out.2.1.keep H4.out.2) (rdf_rowT (xs := tbxE.flatMap edC) H4.out.1) (by decide) (fun h => by cases h) (by show 3 ≤ 1000; decide) (fun _ => by show 3 ≤ 12; decide) (by show 2 ≤ 1000; decide) (fun _ => by unfold I64; omega)).mono ?_
 rintro e w5 ⟨r1, s1, n1, L, p, c, er, rfl, her, hown, hrows, hres, hg⟩
 simp only at her hres
 rw [tbx_bu] at her
 subst her
 obtain ⟨rfl, rfl, rfl, hM⟩ : r1 = 1 ∧ s1 = 0 ∧ n1 = 8 ∧ BldM tbxR tbxL 1 tbxE L := by
  rcases hres with h | h
  ·exact h.2
  ·exact absurd rfl h.1
 obtain ⟨x, rfl, hxi, hxn⟩ := tbx_bld hM
 obtain ⟨xi, xn, xp, xc⟩ := x
 simp only at hxi hxn
 subst hxi
 subst hxn
 have hx := hrows _ (List.mem_singleton.2 rfl)
 have hR : RdW w5 (fun _ => True) p c [⟨1, [3], xp, xc⟩] := ⟨(rdf_of_own2 hown).mono (fun _ _ => trivial), fun y hy => by
  rw [List.mem_singleton.1 hy]
  exact ⟨hx.1.mono (fun _ _ => trivial), hx.2.2⟩⟩
 obtain ⟨-, b, off, rfl, -, hc⟩ := rw_cells hR.rd (by show 0 < 1; decide)
 have a00 := hc 0 _ rfl
 have G5 := Lib.hid (grown_trans H3.out.2.2 (grown_trans H4.out.2 hg))
 have HR := Lib.hid hR
 have HA := Lib.hid a00
 clear hown hrows hres hg hM hx hR hc a00 t0 t1 H3 H4
 go_upto_region 3 with fail
 obtain ⟨k1, k2⟩ := tone_box w5 #[.int .i64 1, .int .i64 0, .int .i64 8, .slice (some ⟨b, off, none⟩) 1 c] 25
 have H6 := Lib.hid (And.intro k1 (And.intro (grown_trans G5.out k2) (HR.out.keep k2)))
 have a0 := k2.cell HA.out.1 (by simp)
 have a1 := k2.cell HA.out.2 (by simp)
 simp only [Nat.zero_mul, Nat.add_zero] at a0 a1
 clear k1 k2 HA HR G5
 obtain ⟨d0, d1, d2, d3⟩ := row4T H6.out.1
 generalize w5.alloc _ = w6 at *
 generalize w5.heap.size = B at *
 have hb7 := alloc_row (w := w6) #[.int .i64 3] 3 rfl
 have H7 := Lib.hid (And.intro hb7.1 hb7.2.1)
 clear hb7
 go_wp2_with fail
 refine (rintsG_any [3] [3] xp (some ⟨w6.heap.size, 0, none⟩) xc 1 _ _ _ ((H6.out.2.2.keep H7.out.2).ok _ (List.mem_singleton.2 rfl)).rd (rdf_rowT (xs := ([3] : List Int).map tv) H7.out.1) (by decide) (by decide)).mono ?_
 rintro e w7 ⟨rfl, hg⟩
 rw [show decide (([3] : List Int) = [3]) = true from rfl]
 have H8 := Lib.hid (And.intro (grown_trans H7.out.2 hg) (And.intro (kept_row H6.out.1 (grown_trans H7.out.2 hg) (by simp)) (H6.out.2.2.keep (grown_trans H7.out.2 hg))))
 clear hg H7 d0 d1 d2 d3 a0 a1
 obtain ⟨d0, d1, d2, d3⟩ := row4T H8.out.2.1
 go_wp2_with fail
 refine (tcheckT_any 1 0 8 (some ⟨b, off, none⟩) c [⟨1, [3], xp, xc⟩] _ w7 H8.out.2.2 (by show 1 ≤ 9223372036854775807; decide)).mono ?_
 rintro e w8 ⟨rfl, hg⟩
 rw [tbx_ck]
 have G := Lib.hid (grown_trans (grown_trans H6.out.2.1 H8.out.1) hg)
 clear hg d0 d1 d2 d3 H8 H6
 simp only
 go_wp2_with fail
 go_ret
 exact ⟨rfl, G.out⟩
end Go.Proofs.YtahafijpcmphaaaGreat
