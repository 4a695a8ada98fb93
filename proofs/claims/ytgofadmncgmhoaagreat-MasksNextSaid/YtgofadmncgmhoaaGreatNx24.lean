/- Parts of the proof, packed: TaTap2, MaNxM, MaNxLaw. -/
import Derived.Test.YtgofadmncgmhoaaGreatNx22
import Derived.Test.YtgofadmncgmhoaaGreatNx23
import Derived.Test.YtgofadmncgmhoaaGreatNx19
import Derived.Test.YtgofadmncgmhoaaGreatNx5
/- tables: the tape's Table with a mistake. -/
namespace Go.Proofs.YtgofadmncgmhoaaGreat
open Go.RowKit Bs
set_option maxRecDepth 100000 in
theorem st_up {a : Nat} {w w9 : World} {o : Obj} (h : St a w w9) (ho : w9.heap[w.heap.size]? = some o) : St a (w.alloc o) w9 := by
  refine ⟨⟨h.1.os, h.1.tape, h.1.output, by have := lt_rowB ho; simp; omega, fun b hb hr => ?_⟩, h.2⟩
  rcases Nat.lt_or_ge b w.heap.size with hlt | hge
  · rw [h.1.block b hlt hr]
    exact (heap_alloc_old w o hlt).symm
  · have : b = w.heap.size := by simp at hb; omega
    subst this
    rw [ho]; exact (heap_alloc_new w o).symm
set_option maxRecDepth 100000 in
set_option maxHeartbeats 6400000 in
theorem ttab1_any (a : Nat) (n0 : Int) (hn0 : 0 < n0) (hn1 : I64 n0) (w : World) (hT : Tp w a) :
    Calls Tryz.prog 13 #[.pointer (some ⟨a, 0, none⟩), .int .i64 n0] w fun e w' => TabPost a w e w' := by
  have ha := hT.lt
  have HA := Lib.hid ha
  obtain ⟨k1, k2⟩ := tone_box w #[.int .i64 0, .int .i64 0, .int .i64 0, .slice none 0 0] 25
  have HB := Lib.hid (And.intro k1 (And.intro k2 (And.intro (hT.keep k2) (by simp : (w.alloc (.cells #[.int .i64 0, .int .i64 0, .int .i64 0, .slice none 0 0] 25)).heap.size = w.heap.size + 1))))
  clear k1 k2 hT ha
  go_enter Tryz.func13, Tryz.ntmps13
  go_upto_region 1 with fail
  generalize w.alloc _ = wa at *
  go_wp2_with fail
  refine (mixed_any a 6 (by omega) (by omega) wa HB.out.2.2.1).mono ?_
  rintro e w1 ⟨R0, R, L0, vR, vL, rfl, hR, hL, hO, hid, hs⟩
  obtain ⟨pR, cR, pL, cL, rfl, rfl, hTg⟩ := tg_of_ownT hR hL
  have hlen : R.length = R0.length := by have := congrArg List.length hid; simpa using this
  have hck := (hO.2.2.2.2 (Int.le_refl 0)).1
  have hR6 : R.length ≤ 6 := by have := (hO.2.2.2.2 (Int.le_refl 0)).2; omega
  have HOK : Hid (chk R L0 = 0) := Lib.hid (by rw [chk_idsT hid]; exact hck)
  obtain ⟨b1, g1⟩ := tone_box w1 #[.slice pR R.length cR, .slice pL L0.length cL] 45
  have H1 : Hid (TT a w w1.heap.size ⟨R, L0, pR, cR, pL, cL⟩ (w1.alloc (.cells #[.slice pR R.length cR, .slice pL L0.length cL] 45))) := Lib.hid (by
    have hh := HB.out
    have hz := hh.2.2.2
    have hsz := hs.1.size
    exact ⟨kept_row (kept_row hh.1 hs.1 (fun e => by have := Option.some.inj e; have := HA.out; omega)) g1 (by simp), b1, (hTg.keep g1).mono (fun b hb => ⟨by have := hb.1; omega, hb.2⟩), (show St a w w1 from ⟨grown_trans (grown_none hh.2.1 _) hs.1, hs.2⟩).none_ g1, by omega, by simp⟩)
  clear hR hL hO hid hs hTg hck hlen b1 g1 HB
  go_upto_region 2 with fail
  generalize w1.alloc _ = w2 at *
  generalize w1.heap.size = B at *
  obtain ⟨t0, t1⟩ := row_cells H1.out.bT
  go_wp2_with fail
  refine (tplan_any a 0 (by unfold I64; omega) R pR pL cR L0.length cL (by omega) w2 H1.out.st.2 (H1.out.t.r.mono (fun b hb => ⟨by have := hb.1; have := HA.out; omega, by have := hb.2; have := H1.out.lo; omega⟩))).mono ?_
  rintro e w3 ⟨sub, len, E, pE, cE, rfl, hE, -, hgood, hs⟩
  obtain ⟨hg1, hg2, O, i, id, hO, hP⟩ := hgood (Int.le_refl 0)
  have hsub : inV sub 0 7 = true := by unfold inV at hg1 ⊢; simp only [decide_eq_true_eq] at hg1 ⊢; omega
  have HVP := Lib.hid (hP.valid HOK.out hO hsub hg2).1
  obtain ⟨b3, g3⟩ := tone_box w3 #[.int .i64 sub, .int .i64 len, .slice pE E.length cE] 48
  have H3 := Lib.hid (And.intro ((H1.out.tape HA.out hs).keep g3) (And.intro (kept_row b3 (grown_refl _ none) (by simp)) ((rdf_of_own hE).keep g3)))
  clear hE hgood hg1 hg2 hO hP hsub hs b3 g3 t0 t1 H1
  go_upto_region 3 with fail
  generalize w3.alloc _ = w4 at *
  generalize w3.heap.size = Bp at *
  obtain ⟨t0, t1⟩ := row_cells H3.out.1.bT
  obtain ⟨q0, q1, q2⟩ := row3B H3.out.2.1
  have hE24 := rows_len HVP.out
  go_wp2_with fail
  refine (rall11_any ⟨R, L0, pR, cR, pL, cL⟩ sub len E pE cE _ _ w4 H3.out.1.t H3.out.2.2 (by omega)).mono ?_
  rintro e w5 ⟨Ts, p, c, er, rfl, hres, hown, htab, hg⟩
  have hT5 := H3.out.1.keep hg
  have hsz4 := H3.out.1.lo
  have K5 : Hid (TW a w w4.heap.size (.slice p Ts.length c) Ts w5) := Lib.hid ⟨hT5.rs, hown, htab, hT5.st, by omega, hg.size⟩
  have hok : okT R L0 = true := by unfold okT; simpa using HOK.out
  have HM : Hid (AllM R L0 sub len E R Ts) := Lib.hid (by
    rcases hres with h | h
    · exact h.2.2.2
    · exact absurd ⟨hok, HVP.out⟩ h.2.1)
  have hTl : Ts.length ≤ 6 := Nat.le_trans HM.out.len hR6
  have HOKT := Lib.hid hok
  clear hres hown htab hg hT5 hok H3 t0 t1 q0 q1 q2 hsz4 HOK
  simp only
  obtain ⟨C, hC⟩ : ∃ C, w4.heap.size = C := ⟨_, rfl⟩
  rw [hC] at K5
  clear hC
  by_cases h0 : Ts.length = 0
  case pos =>
    have h0' : ((Ts.length : Int) == 0) = true := by simpa using h0
    obtain ⟨z0, z1, z2, z3⟩ := row4T K5.out.rs
    have f0 := frozen_of_row _ _ 0 _ _ K5.out.rs
    have f1 := frozen_of_row _ _ 1 _ _ K5.out.rs
    have f2 := frozen_of_row _ _ 2 _ _ K5.out.rs
    have f3 := frozen_of_row _ _ 3 _ _ K5.out.rs
    have HT := Lib.hid (store4B (.int .i64 1) (.int .i64 0) (.int .i64 8) (.slice none 0 0) K5.out.rs)
    clear h0
    go_wp2_with fail
    refine bodyPost_ret (res_tabB rfl _ _ w.heap.size _ _ _ _ rfl HT.out.1) rfl ?_
    have hst := K5.out.st.storeT HT.out.2 (Nat.le_refl _) HA.out
    exact ⟨1, 0, 8, [], none, 0, rfl, ⟨⟨none, 0, rfl, fun h => absurd rfl h⟩, fun x hx => (by cases hx)⟩, fun _ => rfl, ⟨Nat.le_refl _, by show (0 : Nat) ≤ _; omega⟩, fun x hx => (by cases hx), by unfold I64; omega, by show (0 : Nat) ≤ _; omega, fun x hx => (by cases hx), hst⟩
  have h0' : ((Ts.length : Int) == 0) = false := by simpa using h0
  clear h0'
  have h0'' : ¬ (Ts.length : Int) = 0 := by omega
  have h0' : ((Ts.length : Int) == 0) = false := by simpa using h0
  have hTl' : (Ts.length : Int) ≤ 6 := by omega
  clear h0
  go_wp2_with fail
  refine (next_any a (Ts.length : Int) (by unfold I64; omega) w5 K5.out.st.2).mono ?_
  rintro e w6 ⟨r, rfl, hr, hs⟩
  have K6 := Lib.hid (K5.out.tape HA.out hs)
  have hr2 : 0 ≤ r ∧ r < (Ts.length : Int) := by unfold CutOf at hr; omega
  clear hs hr K5
  obtain ⟨j, rfl⟩ : ∃ j : Nat, r = (j : Int) := ⟨r.toNat, by omega⟩
  have hj : j < Ts.length := by omega
  obtain ⟨x, hx⟩ : ∃ x, Ts[j]? = some x := ⟨_, List.getElem?_eq_getElem hj⟩
  obtain ⟨-, bt, ot, rfl, -, hc⟩ := tb_cells (rdf_of_own K6.out.own) (by omega)
  obtain ⟨a0, a1, a2, a3⟩ := hc j x hx
  have HX := Lib.hid (List.mem_of_getElem? hx)
  have hj1 : (j : Int) < (Ts.length : Int) := hr2.2
  have hj0 : (0 : Int) ≤ (j : Int) := hr2.1
  clear hc hx hr2 hj
  obtain ⟨HV1, HV2, HV3, -, HV5⟩ := all_valid HM.out HOKT.out HVP.out HX.out
  have HVB := Lib.hid (And.intro HV1 (And.intro HV2 (And.intro HV3 HV5)))
  have hxl : x.L.length ≤ 24 := by rw [HV5.1]; exact hE24
  have HXL := Lib.hid hxl
  have HNL : Hid (∀ y ∈ x.L, y.nx.length ≤ 24) := Lib.hid (by
    have hv := tab_valid HV5 HOKT.out (s := x.s) (n := x.n) (by rw [HV1, HV2]; exact HVP.out) HV3
    have h4 := (ck_ok hv).2.2.2.1
    intro y hy
    have := List.any_eq_false.1 h4 y hy
    unfold lgW at this
    simp only [decide_eq_true_eq] at this
    omega)
  clear HV1 HV2 HV3 HV5 hxl
  have hX := K6.out.tabs x HX.out
  go_wp2_with fail
  refine (copiedT_any x.r x.s x.n x.L x.p x.c _ w6 hX.rd hX.hy (by have := HXL.out; omega) (fun y hy => by have := HNL.out y hy; omega)).mono ?_
  rintro e w7 ⟨M, p2, c2, rfl, hO, hM, hg⟩
  have hM2 : ckT x.r x.s x.n M = 0 := tab_valid (bldM_congr HVB.out.2.2.2 hM) HOKT.out (by rw [HVB.out.1, HVB.out.2.1]; exact HVP.out) HVB.out.2.2.1
  have hro := ids_inT HOKT.out HVB.out.2.2.1
  have HM2 := Lib.hid (And.intro hM2 hro)
  have hMl : M.length ≤ 24 := by have := congrArg List.length hM; rw [List.length_map, List.length_map] at this; rw [this]; exact HXL.out
  have HML := Lib.hid hMl
  obtain ⟨b7, g7⟩ := tone_box w7 #[.int .i64 x.r, .int .i64 x.s, .int .i64 x.n, .slice p2 M.length c2] 25
  have hlo6 := K6.out.lo
  have K7 := Lib.hid (And.intro (kept_row (kept_row K6.out.rs hg (by simp)) g7 (by simp)) (And.intro b7 (And.intro ((hO.mono (lo2 := w.heap.size + 1) (by omega)).keep g7) (And.intro ((K6.out.st.none_ hg).none_ g7) (show w.heap.size + 1 ≤ w7.heap.size by have := hg.size; omega)))))
  have K7O := Lib.hid (And.intro (show ∀ b, (Value.slice p2 M.length c2).ownBlock = some b → b < w7.heap.size from fun b e => (hO.own.lt b e).2) (show ∀ y ∈ M, ∀ b, y.v.ownBlock = some b → b < w7.heap.size from fun y hy b e => ((hO.nx y hy).lt b e).2))
  clear hO hM hg hM2 hro hMl b7 g7 hlo6 hX K6 a0 a1 a2 a3 HX HVB HXL HNL HM hTl hTl' h0' h0'' hj0 hj1
  go_upto_region 7 with fail
  generalize w7.alloc _ = w8 at *
  generalize w7.heap.size = B9 at *
  generalize x.r = tr at *
  generalize x.s = ts at *
  generalize x.n = tn at *
  have hng : (0 : Int) < n0 := by omega
  go_wp2_with fail
  refine (one_any a n0 hn1 w8 K7.out.2.2.2.1.2).mono ?_
  rintro e w9 ⟨b1, rfl, hs⟩
  have hlo7 := K7.out.2.2.2.2
  have ha7 := HA.out
  have K9 := Lib.hid (And.intro (kept_row K7.out.1 hs.1 (fun e => by have := Option.some.inj e; omega)) (And.intro (kept_row K7.out.2.1 hs.1 (fun e => by have := Option.some.inj e; omega)) (And.intro (K7.out.2.2.1.over hs.1 (by omega)) (And.intro (K7.out.2.2.2.1.trans hs) hlo7))))
  have HRI : Hid (I64 tr) := Lib.hid (by have := HM2.out.2; unfold I64; omega)
  have HN24 : Hid (∀ y ∈ M, y.nx.length ≤ 100) := Lib.hid (fun y hy => by have := (row_asc HM2.out.1 hy).2.1; omega)
  clear hs K7 hng hlo7 ha7
  cases b1
  case false =>
    obtain ⟨z0, z1, z2, z3⟩ := row4T K9.out.1
    obtain ⟨d0, d1, d2, d3⟩ := row4T K9.out.2.1
    have f0 := frozen_of_row _ _ 0 _ _ K9.out.1
    have f1 := frozen_of_row _ _ 1 _ _ K9.out.1
    have f2 := frozen_of_row _ _ 2 _ _ K9.out.1
    have f3 := frozen_of_row _ _ 3 _ _ K9.out.1
    have HT := Lib.hid (store4B (.int .i64 tr) (.int .i64 ts) (.int .i64 tn) (.slice p2 M.length c2) K9.out.1)
    go_wp2_with fail
    refine bodyPost_ret (res_tabB rfl _ _ w.heap.size _ _ _ _ rfl HT.out.1) rfl ?_
    have hst := K9.out.2.2.2.1.storeT HT.out.2 (Nat.le_refl _) HA.out
    have hf := (K9.out.2.2.1.over HT.out.2 (by omega))
    obtain ⟨-, f5, f6, f7⟩ := own_rdw hf
    exact ⟨tr, ts, tn, M, p2, c2, rfl, (own_rdw2 hf).mono (fun b hb => ⟨by omega, hb.2⟩), f5, f6, f7, HRI.out, by have := HML.out; omega, fun y hy => by have := HN24.out y hy; omega, hst⟩
  obtain ⟨d0, d1, d2, d3⟩ := row4T K9.out.2.1
  have hml := HML.out
  go_wp2_with fail
  refine (bend_any a (w.heap.size + 1) B9 _ (w.alloc (.cells #[.int .i64 0, .int .i64 0, .int .i64 0, .slice none 0 0] 25)) w9 tr ts tn M p2 c2 (st_up K9.out.2.2.2.1 K9.out.1) K9.out.2.2.1 ⟨by simp; have := HA.out; omega, by simp, by have := lt_rowB K9.out.2.1; have := K9.out.2.2.2.2; omega⟩ K9.out.2.1 (by simp; exact K9.out.2.2.2.2) (fun hi => by
    rcases hi with hi | ⟨y, hy, hi⟩
    · have := K7O.out.1 _ hi; omega
    · have := K7O.out.2 y hy _ hi; omega) HRI.out (by omega) HN24.out).mono ?_
  rintro e w10 ⟨r2, s2, n2, L, p, c, rfl, hO2, hr2, hl2, hN2, hD2, hnD, hs2⟩
  have hlo9 := K9.out.2.2.2.2
  have hT := store4B (.int .i64 r2) (.int .i64 s2) (.int .i64 n2) (.slice p L.length c) hD2
  have hrs10 : w10.heap[w.heap.size]? = some (.cells #[.int .i64 0, .int .i64 0, .int .i64 0, .slice none 0 0] 25 (0, 0)) := by
    have h1 := hs2.1.block w.heap.size (by simp) (fun e => by have := Option.some.inj e; have := HA.out; omega)
    rw [h1]; exact heap_alloc_new w _
  have hst10 : St a w w10 := ⟨grown_trans (grown_none (World.grownBy_alloc w _ none) _) hs2.1, hs2.2⟩
  have K11 := Lib.hid (And.intro (kept_row hrs10 hT.2 (fun e => by have := Option.some.inj e; omega)) (And.intro hT.1 (And.intro (hO2.ne hT.2 hnD) (hst10.storeT hT.2 (by omega) HA.out))))
  have HF := Lib.hid (And.intro hr2 (And.intro hl2 hN2))
  obtain ⟨d0, d1, d2, d3⟩ := row4T hD2
  have f0 := frozen_of_row _ _ 0 _ _ hD2
  have f1 := frozen_of_row _ _ 1 _ _ hD2
  have f2 := frozen_of_row _ _ 2 _ _ hD2
  have f3 := frozen_of_row _ _ 3 _ _ hD2
  clear hO2 hr2 hl2 hN2 hD2 hnD hs2 hT hrs10 hst10 K9
  go_upto_region 9 with fail
  clear d0 d1 d2 d3 f0 f1 f2 f3
  generalize (((w10.setCell _ _).setCell _ _).setCell _ _).setCell _ _ = w11 at *
  obtain ⟨z0, z1, z2, z3⟩ := row4T K11.out.1
  obtain ⟨d0, d1, d2, d3⟩ := row4T K11.out.2.1
  have f0 := frozen_of_row _ _ 0 _ _ K11.out.1
  have f1 := frozen_of_row _ _ 1 _ _ K11.out.1
  have f2 := frozen_of_row _ _ 2 _ _ K11.out.1
  have f3 := frozen_of_row _ _ 3 _ _ K11.out.1
  have HT := Lib.hid (store4B (.int .i64 r2) (.int .i64 s2) (.int .i64 n2) (.slice p L.length c) K11.out.1)
  go_wp2_with fail
  refine bodyPost_ret (res_tabB rfl _ _ w.heap.size _ _ _ _ rfl HT.out.1) rfl ?_
  have hst := K11.out.2.2.2.storeT HT.out.2 (Nat.le_refl _) HA.out
  have hf := (K11.out.2.2.1.over HT.out.2 (by omega))
  obtain ⟨-, f5, f6, f7⟩ := own_rdw hf
  exact ⟨r2, s2, n2, L, p, c, rfl, (own_rdw2 hf).mono (fun b hb => ⟨by omega, hb.2⟩), f5, f6, f7, HF.out.1, by have := HF.out.2.1; omega, fun y hy => by have := HF.out.2.2 y hy; omega, hst⟩
end Go.Proofs.YtgofadmncgmhoaaGreat

/- masks: what the laws over a table of the tape keep, which may have a mistake. -/
namespace Go.Proofs.YtgofadmncgmhoaaGreat
open Go.RowKit Bs
structure BZ (a : Nat) (W : World) (B : Nat) (r s n : Int) (p : Option Addr) (c : Nat) (L : List Rw) (w : World) : Prop where
  bx : w.heap[B]? = some (.cells #[.int .i64 r, .int .i64 s, .int .i64 n, .slice p L.length c] 25 (0, 0))
  rd : RdW w (fun b => a < b ∧ b < w.heap.size) p c L
  gr : W.grownBy w none
  tp : Tp w a
  lo : W.heap.size ≤ a ∧ a < B
set_option maxRecDepth 100000 in
theorem BZ.keep {a : Nat} {W w w1 : World} {B : Nat} {r s n : Int} {p : Option Addr} {c : Nat} {L : List Rw} (h : BZ a W B r s n p c L w) (g : w.grownBy w1 none) : BZ a W B r s n p c L w1 :=
  ⟨kept_row h.bx g (by simp), (h.rd.keep g).mono (fun b hb => ⟨hb.1, Nat.lt_of_lt_of_le hb.2 g.size⟩), grown_trans h.gr g, h.tp.keep g, h.lo⟩
set_option maxRecDepth 100000 in
theorem BZ.tape {a : Nat} {W w w1 : World} {B : Nat} {r s n : Int} {p : Option Addr} {c : Nat} {L : List Rw} (h : BZ a W B r s n p c L w) (k : St a w w1) : BZ a W B r s n p c L w1 := by
  have hl := h.lo
  exact ⟨kept_row h.bx k.1 (fun e => by have := Option.some.inj e; omega), (h.rd.grown k.1 (fun b hb e => by have := Option.some.inj e; omega)).mono (fun b hb => ⟨hb.1, Nat.lt_of_lt_of_le hb.2 k.1.size⟩), grown_new h.gr k.1 hl.1, k.2, hl⟩
set_option maxRecDepth 100000 in
theorem BZ.rd2 {a : Nat} {W w : World} {B : Nat} {r s n : Int} {p : Option Addr} {c : Nat} {L : List Rw} (h : BZ a W B r s n p c L w) : RdW w (· < w.heap.size) p c L := h.rd.mono (fun _ hb => hb.2)
set_option maxRecDepth 100000 in
theorem bz_start {a lo : Nat} {W w2 : World} {r s n : Int} {p : Option Addr} {c : Nat} {L : List Rw} (hR : RdW w2 (fun b => lo ≤ b ∧ b < w2.heap.size) p c L) (hl : a < lo) (ha : W.heap.size ≤ a) (hs : a < w2.heap.size) (g : W.grownBy w2 none) (hT : Tp w2 a) : BZ a W w2.heap.size r s n p c L (w2.alloc (.cells #[.int .i64 r, .int .i64 s, .int .i64 n, .slice p L.length c] 25)) := by
  obtain ⟨b3, g3⟩ := tone_box w2 #[.int .i64 r, .int .i64 s, .int .i64 n, .slice p L.length c] 25
  exact ⟨b3, (hR.keep g3).mono (fun b hb => ⟨by have := hb.1; omega, Nat.lt_of_lt_of_le hb.2 g3.size⟩), grown_trans g g3, hT.keep g3, ha, hs⟩
set_option maxRecDepth 100000 in
theorem cells_list {α : Type} {w : World} {D k : Nat} {t : TypeId} {f : α → List Value} {X : List α} (hf : ∀ x, (f x).length = k) (h : w.heap[D]? = some (.cells (X.flatMap f).toArray t (0, 0))) {i : Nat} {x : α} (hx : X[i]? = some x) {j : Nat} {v : Value} (hj : (f x)[j]? = some v) : w.cell? ⟨D, i * k + j, none⟩ = some v := by
  rw [cell_of_row _ _ _ _ _ _ h, List.getElem?_toArray, flat_at f k hf X i j x hx (by have := (List.getElem?_eq_some_iff.1 hj).1; rw [hf] at this; exact this)]
  exact hj
end Go.Proofs.YtgofadmncgmhoaaGreat

/- masks: the law of Next and Mask. -/
namespace Go.Proofs.YtgofadmncgmhoaaGreat
open Go.RowKit Bs
def q4 (x : Int × Int × Int × Int) : List Value := [.int .i64 x.1, .int .i64 x.2.1, .int .i64 x.2.2.1, .int .i64 x.2.2.2]
set_option maxRecDepth 100000 in
set_option maxHeartbeats 12800000 in
theorem next_walk (v : Value) (i0 i1 i2 i3 : Int) (h3 : I64 i3) (w : World) (hv : IntsIn w v) :
    Calls Tryz.prog 10 #[v, .int .i64 i0, .int .i64 i1, .int .i64 i2, .int .i64 i3] w fun e w' => e = .returned (.bool true) ∧ w.grownBy w' none := by
  have H3I := Lib.hid h3
  clear h3
  have HV := Lib.hid hv
  clear hv
  go_enter Tryz.func10, Tryz.ntmps10
  go_wp2_with fail
  refine (new_any v w HV.out).mono ?_
  rintro e w1 ⟨rfl, hg1, hT1⟩
  have H1 := Lib.hid (And.intro hg1 hT1)
  clear hg1 hT1 HV
  obtain ⟨a, ha⟩ : ∃ a, w.heap.size = a := ⟨_, rfl⟩
  have HA := Lib.hid ha
  rw [ha] at H1 ⊢
  clear ha
  go_wp2_with fail
  refine (ttab1_any a 4 (by omega) (by unfold I64; omega) _ H1.out.2).mono ?_
  rintro e w2 ⟨r, s, n, L, p, c, rfl, hR, -, hc, hN, hri, hl, hln, hs⟩
  have HNN := Lib.hid hN
  have HRI := Lib.hid hri
  have HLN := Lib.hid hln
  have K3 := Lib.hid (bz_start (r := r) (s := s) (n := n) hR H1.out.2.lt (by rw [HA.out]; exact Nat.le_refl _) hs.2.lt (grown_new H1.out.1 hs.1 (by rw [HA.out]; exact Nat.le_refl _)) hs.2)
  clear hR hc hN hri hln hs H1 HA
  go_upto_region 3 with fail
  generalize w2.alloc _ = wb at *
  generalize w2.heap.size = B at *
  go_wp2_with fail
  refine (range_any a (0) (9) (by omega) (by omega) (by omega) (by omega) _ K3.out.tp).mono ?_
  rintro e w10 ⟨x10, rfl, hx10, hs⟩
  have hX10 := Lib.hid hx10
  have KR0 := Lib.hid (K3.out.tape hs)
  clear hs K3 hx10
  go_wp2_with fail
  refine (range_any a (0) (7) (by omega) (by omega) (by omega) (by omega) _ KR0.out.tp).mono ?_
  rintro e w11 ⟨x11, rfl, hx11, hs⟩
  have hX11 := Lib.hid hx11
  have KR1 := Lib.hid (KR0.out.tape hs)
  clear hs KR0 hx11
  go_wp2_with fail
  refine (range_any a (0) (1) (by omega) (by omega) (by omega) (by omega) _ KR1.out.tp).mono ?_
  rintro e w12 ⟨x12, rfl, hx12, hs⟩
  have hX12 := Lib.hid hx12
  have KR2 := Lib.hid (KR1.out.tape hs)
  clear hs KR1 hx12
  go_wp2_with fail
  refine (range_any a (0) (7) (by omega) (by omega) (by omega) (by omega) _ KR2.out.tp).mono ?_
  rintro e w13 ⟨x13, rfl, hx13, hs⟩
  have hX13 := Lib.hid hx13
  have KR3 := Lib.hid (KR2.out.tape hs)
  clear hs KR2 hx13
  go_wp2_with fail
  refine (range_any a (1) (5) (by omega) (by omega) (by omega) (by omega) _ KR3.out.tp).mono ?_
  rintro e w14 ⟨x14, rfl, hx14, hs⟩
  have hX14 := Lib.hid hx14
  have KR4 := Lib.hid (KR3.out.tape hs)
  clear hs KR3 hx14
  go_wp2_with fail
  refine (range_any a (-1) (8) (by omega) (by omega) (by omega) (by omega) _ KR4.out.tp).mono ?_
  rintro e w15 ⟨x15, rfl, hx15, hs⟩
  have hX15 := Lib.hid hx15
  have KR5 := Lib.hid (KR4.out.tape hs)
  clear hs KR4 hx15
  go_wp2_with fail
  refine (range_any a (-1) (32) (by omega) (by omega) (by omega) (by omega) _ KR5.out.tp).mono ?_
  rintro e w16 ⟨x16, rfl, hx16, hs⟩
  have hX16 := Lib.hid hx16
  have KR6 := Lib.hid (KR5.out.tape hs)
  clear hs KR5 hx16
  go_wp2_with fail
  refine (range_any a (1) (6) (by omega) (by omega) (by omega) (by omega) _ KR6.out.tp).mono ?_
  rintro e w17 ⟨x17, rfl, hx17, hs⟩
  have hX17 := Lib.hid hx17
  have KR7 := Lib.hid (KR6.out.tape hs)
  clear hs KR6 hx17
  have g9 := World.grownBy_alloc w17 (.cells #[.int .i64 i0, .int .i64 i1, .int .i64 i2, .int .i64 i3, .int .i64 x10, .int .i64 x11, .int .i64 x12, .int .i64 x13, .int .i64 x14, .int .i64 x15, .int .i64 x16, .int .i64 x17] 79) none
  obtain ⟨X, hX⟩ : ∃ X : List (Int × Int × Int × Int), [(i0, i1, i2, i3), (x10, x11, x12, x13), (x14, x15, x16, x17)] = X := ⟨_, rfl⟩
  have HXL : Hid (X.length = 3 ∧ ∀ q ∈ X, I64 q.2.2.2) := Lib.hid (by
    rw [← hX]
    refine ⟨rfl, fun q hq => ?_⟩
    have h13 := hX13.out
    have h17 := hX17.out
    unfold RangeOf at h13 h17
    simp only [List.mem_cons, List.not_mem_nil, or_false] at hq
    rcases hq with rfl | rfl | rfl
    · exact H3I.out
    · show I64 x13; unfold I64; omega
    · show I64 x17; unfold I64; omega)
  have K9 : Hid (BZ a w B r s n p c L (w17.alloc (.cells #[.int .i64 i0, .int .i64 i1, .int .i64 i2, .int .i64 i3, .int .i64 x10, .int .i64 x11, .int .i64 x12, .int .i64 x13, .int .i64 x14, .int .i64 x15, .int .i64 x16, .int .i64 x17] 79)) ∧ (w17.alloc (.cells #[.int .i64 i0, .int .i64 i1, .int .i64 i2, .int .i64 i3, .int .i64 x10, .int .i64 x11, .int .i64 x12, .int .i64 x13, .int .i64 x14, .int .i64 x15, .int .i64 x16, .int .i64 x17] 79)).heap[w17.heap.size]? = some (Obj.cells (X.flatMap q4).toArray 79 (0, 0))) := Lib.hid ⟨KR7.out.keep g9, by rw [← hX]; exact heap_alloc_new w17 _⟩
  clear g9 hX hX10 hX11 hX12 hX13 hX14 hX15 hX16 hX17 KR7 H3I
  go_upto_region 4 with fail
  generalize w17.alloc _ = w18 at *
  generalize w17.heap.size = D at *
  go_wp2_with fail
  go_loopw [14] (fun i wr => ∃ k : Nat, k ≤ 3 ∧ i = .int .i64 (k : Int) ∧ Hid (BZ a w B r s n p c L wr ∧ wr.heap[D]? = some (Obj.cells (X.flatMap q4).toArray 79 (0, 0)))) (fun i _ => 3 - (RowKit.intOf i).toNat)
  case atStart => exact ⟨0, Nat.zero_le _, rfl, K9⟩
  case round =>
  clear K9
  obtain ⟨i, hi, rfl, K⟩ := hrel
  obtain ⟨w19, hw19⟩ : ∃ w19, w19 = wr := ⟨_, rfl⟩
  rw [← hw19] at K ⊢
  clear hw19
  by_cases hi3 : i < 3
  case neg =>
    obtain rfl : i = 3 := by omega
    have hn3 : ¬ ((3 : Nat) : Int) < 3 := by omega
    go_wp2_with fail
    refine (mawake_any w19).mono ?_
    rintro e w20 ⟨rfl, hg⟩
    have G := Lib.hid (grown_trans K.out.1.gr hg)
    clear hg K
    go_wp2_with fail
    go_ret
    exact ⟨rfl, G.out⟩
  have hi3' : (i : Int) < 3 := by omega
  have hi0 : (0 : Int) ≤ (i : Int) := by omega
  obtain ⟨q, hq⟩ : ∃ q, X[i]? = some q := ⟨_, List.getElem?_eq_getElem (by rw [HXL.out.1]; exact hi3)⟩
  have hq3 := Lib.hid (HXL.out.2 q (List.mem_of_getElem? hq))
  have e0 := cells_list (f := q4) (k := 4) (fun _ => rfl) K.out.2 hq (j := 0) rfl
  have e1 := cells_list (f := q4) (k := 4) (fun _ => rfl) K.out.2 hq (j := 1) rfl
  have e2 := cells_list (f := q4) (k := 4) (fun _ => rfl) K.out.2 hq (j := 2) rfl
  have e3 := cells_list (f := q4) (k := 4) (fun _ => rfl) K.out.2 hq (j := 3) rfl
  rw [Nat.add_zero] at e0
  obtain ⟨y0, y1, y2, y3⟩ := q
  simp only at e0 e1 e2 e3 hq3
  clear hq
  obtain ⟨b19, g19⟩ := tone_box w19 #[.int .i64 y0, .int .i64 y1, .int .i64 y2, .int .i64 y3] 78
  have K20 := Lib.hid (And.intro (K.out.1.keep g19) (And.intro (kept_row K.out.2 g19 (by simp)) b19))
  clear b19 g19
  go_upto_region 8 with fail
  clear e0 e1 e2 e3 K
  generalize w19.alloc _ = w20 at *
  generalize w19.heap.size = E at *
  refine wp_region_held_drew (S := fun w' => Hid (w20.grownBy w' none)) (by kernel_rfl) (Lib.hid (grown_drew (grown_refl _ none))) (fun hHeld => ?_)
  refine wpAnyH_take (i := 0) (oi := { dst := some 51, op := Op.load 25 (Operand.tmp 12), type := 25, pos := "law.go:29", after := #[], guard := none }) (v := ?_) rfl (by kernel_rfl) (by kernel_rfl) (by kernel_rfl) (fun _ _ _ h => h) (Or.inl ⟨by rfl, ?_⟩) hHeld ?_
  rotate_left 1
  · intro u hSu
    obtain ⟨d0u, d1u, d2u, d3u⟩ := row4T (K20.out.1.keep hSu.out).bx
    obtain ⟨e0u, e1u, e2u, e3u⟩ := row4T (kept_row K20.out.2.2 hSu.out (by simp))
    go_simp
    first | done | with_reducible rfl
  (try simp only [Act.put, List.setIfInBounds_toArray, List.set_cons_zero, List.set_cons_succ])
  refine wpAnyH_take (i := 1) (oi := { dst := some 52, op := Op.indexAddr 78 (Operand.tmp 15) (Operand.const (Value.int IntKind.i64 0)), type := 0, pos := "law.go:29", after := #[], guard := none }) (v := ?_) rfl (by kernel_rfl) (by kernel_rfl) (by kernel_rfl) (fun _ _ _ h => h) (Or.inl ⟨by rfl, ?_⟩) hHeld ?_
  rotate_left 1
  · intro u hSu
    obtain ⟨d0u, d1u, d2u, d3u⟩ := row4T (K20.out.1.keep hSu.out).bx
    obtain ⟨e0u, e1u, e2u, e3u⟩ := row4T (kept_row K20.out.2.2 hSu.out (by simp))
    go_simp
    first | done | with_reducible rfl
  (try simp only [Act.put, List.setIfInBounds_toArray, List.set_cons_zero, List.set_cons_succ])
  refine wpAnyH_take (i := 2) (oi := { dst := some 53, op := Op.load 3 (Operand.tmp 52), type := 3, pos := "law.go:29", after := #[{ on := 1, ground := Ground.data }], guard := none }) (v := ?_) rfl (by kernel_rfl) (by kernel_rfl) (by kernel_rfl) (fun _ _ _ h => h) (Or.inl ⟨by rfl, ?_⟩) hHeld ?_
  rotate_left 1
  · intro u hSu
    obtain ⟨d0u, d1u, d2u, d3u⟩ := row4T (K20.out.1.keep hSu.out).bx
    obtain ⟨e0u, e1u, e2u, e3u⟩ := row4T (kept_row K20.out.2.2 hSu.out (by simp))
    go_simp
    first | done | with_reducible rfl
  (try simp only [Act.put, List.setIfInBounds_toArray, List.set_cons_zero, List.set_cons_succ])
  refine wpAnyH_take (i := 3) (oi := { dst := some 54, op := Op.indexAddr 78 (Operand.tmp 15) (Operand.const (Value.int IntKind.i64 1)), type := 0, pos := "law.go:29", after := #[], guard := none }) (v := ?_) rfl (by kernel_rfl) (by kernel_rfl) (by kernel_rfl) (fun _ _ _ h => h) (Or.inl ⟨by rfl, ?_⟩) hHeld ?_
  rotate_left 1
  · intro u hSu
    obtain ⟨d0u, d1u, d2u, d3u⟩ := row4T (K20.out.1.keep hSu.out).bx
    obtain ⟨e0u, e1u, e2u, e3u⟩ := row4T (kept_row K20.out.2.2 hSu.out (by simp))
    go_simp
    first | done | with_reducible rfl
  (try simp only [Act.put, List.setIfInBounds_toArray, List.set_cons_zero, List.set_cons_succ])
  refine wpAnyH_take (i := 4) (oi := { dst := some 55, op := Op.load 3 (Operand.tmp 54), type := 3, pos := "law.go:29", after := #[{ on := 3, ground := Ground.data }], guard := none }) (v := ?_) rfl (by kernel_rfl) (by kernel_rfl) (by kernel_rfl) (fun _ _ _ h => h) (Or.inl ⟨by rfl, ?_⟩) hHeld ?_
  rotate_left 1
  · intro u hSu
    obtain ⟨d0u, d1u, d2u, d3u⟩ := row4T (K20.out.1.keep hSu.out).bx
    obtain ⟨e0u, e1u, e2u, e3u⟩ := row4T (kept_row K20.out.2.2 hSu.out (by simp))
    go_simp
    first | done | with_reducible rfl
  (try simp only [Act.put, List.setIfInBounds_toArray, List.set_cons_zero, List.set_cons_succ])
  refine wpAnyH_take (i := 6) (oi := { dst := some 57, op := Op.load 25 (Operand.tmp 12), type := 25, pos := "law.go:29", after := #[], guard := none }) (v := ?_) rfl (by kernel_rfl) (by kernel_rfl) (by kernel_rfl) (fun _ _ _ h => h) (Or.inl ⟨by rfl, ?_⟩) hHeld ?_
  rotate_left 1
  · intro u hSu
    obtain ⟨d0u, d1u, d2u, d3u⟩ := row4T (K20.out.1.keep hSu.out).bx
    obtain ⟨e0u, e1u, e2u, e3u⟩ := row4T (kept_row K20.out.2.2 hSu.out (by simp))
    go_simp
    first | done | with_reducible rfl
  (try simp only [Act.put, List.setIfInBounds_toArray, List.set_cons_zero, List.set_cons_succ])
  refine wpAnyH_take (i := 7) (oi := { dst := some 58, op := Op.indexAddr 78 (Operand.tmp 15) (Operand.const (Value.int IntKind.i64 0)), type := 0, pos := "law.go:29", after := #[], guard := none }) (v := ?_) rfl (by kernel_rfl) (by kernel_rfl) (by kernel_rfl) (fun _ _ _ h => h) (Or.inl ⟨by rfl, ?_⟩) hHeld ?_
  rotate_left 1
  · intro u hSu
    obtain ⟨d0u, d1u, d2u, d3u⟩ := row4T (K20.out.1.keep hSu.out).bx
    obtain ⟨e0u, e1u, e2u, e3u⟩ := row4T (kept_row K20.out.2.2 hSu.out (by simp))
    go_simp
    first | done | with_reducible rfl
  (try simp only [Act.put, List.setIfInBounds_toArray, List.set_cons_zero, List.set_cons_succ])
  refine wpAnyH_take (i := 8) (oi := { dst := some 59, op := Op.load 3 (Operand.tmp 58), type := 3, pos := "law.go:29", after := #[{ on := 7, ground := Ground.data }], guard := none }) (v := ?_) rfl (by kernel_rfl) (by kernel_rfl) (by kernel_rfl) (fun _ _ _ h => h) (Or.inl ⟨by rfl, ?_⟩) hHeld ?_
  rotate_left 1
  · intro u hSu
    obtain ⟨d0u, d1u, d2u, d3u⟩ := row4T (K20.out.1.keep hSu.out).bx
    obtain ⟨e0u, e1u, e2u, e3u⟩ := row4T (kept_row K20.out.2.2 hSu.out (by simp))
    go_simp
    first | done | with_reducible rfl
  (try simp only [Act.put, List.setIfInBounds_toArray, List.set_cons_zero, List.set_cons_succ])
  refine wpAnyH_take (i := 9) (oi := { dst := some 60, op := Op.indexAddr 78 (Operand.tmp 15) (Operand.const (Value.int IntKind.i64 1)), type := 0, pos := "law.go:29", after := #[], guard := none }) (v := ?_) rfl (by kernel_rfl) (by kernel_rfl) (by kernel_rfl) (fun _ _ _ h => h) (Or.inl ⟨by rfl, ?_⟩) hHeld ?_
  rotate_left 1
  · intro u hSu
    obtain ⟨d0u, d1u, d2u, d3u⟩ := row4T (K20.out.1.keep hSu.out).bx
    obtain ⟨e0u, e1u, e2u, e3u⟩ := row4T (kept_row K20.out.2.2 hSu.out (by simp))
    go_simp
    first | done | with_reducible rfl
  (try simp only [Act.put, List.setIfInBounds_toArray, List.set_cons_zero, List.set_cons_succ])
  refine wpAnyH_take (i := 10) (oi := { dst := some 61, op := Op.load 3 (Operand.tmp 60), type := 3, pos := "law.go:29", after := #[{ on := 9, ground := Ground.data }], guard := none }) (v := ?_) rfl (by kernel_rfl) (by kernel_rfl) (by kernel_rfl) (fun _ _ _ h => h) (Or.inl ⟨by rfl, ?_⟩) hHeld ?_
  rotate_left 1
  · intro u hSu
    obtain ⟨d0u, d1u, d2u, d3u⟩ := row4T (K20.out.1.keep hSu.out).bx
    obtain ⟨e0u, e1u, e2u, e3u⟩ := row4T (kept_row K20.out.2.2 hSu.out (by simp))
    go_simp
    first | done | with_reducible rfl
  (try simp only [Act.put, List.setIfInBounds_toArray, List.set_cons_zero, List.set_cons_succ])
  refine wpAnyH_ready (rs := [5]) (by kernel_rfl) (by simp) ?_
  refine AllReadyH.cons (o := { dst := some 56, op := Op.call { callee := Callee.value (Operand.func 46), args := #[Operand.tmp 51, Operand.tmp 53, Operand.tmp 55], argTypes := #[25, 3, 3] }, type := 3, pos := "law.go:29", after := #[{ on := 0, ground := Ground.data }, { on := 2, ground := Ground.data }, { on := 4, ground := Ground.data }], guard := none }) rfl (fun Kz hK => ?_) AllReadyH.nil
  go_simp
  go_at_call 46
  refine (mnxt_any r s n p c L y0 y1 _ (K20.out.1.keep hHeld.out).rd2 (by omega) HNN.out).mono ?_
  rintro e' w21 ⟨rfl, hg⟩
  have HN := Lib.hid (grown_trans hHeld.out hg)
  clear hg
  simp only
  refine hK.out _ _ (HN) (fun hH2 => ?_)
  clear hK Kz hHeld
  have hHeld := hH2
  clear hH2
  (try simp only [Act.put, List.setIfInBounds_toArray, List.set_cons_zero, List.set_cons_succ])
  refine wpAnyH_ready (rs := [11]) (by kernel_rfl) (by simp) ?_
  refine AllReadyH.cons (o := { dst := some 62, op := Op.call { callee := Callee.value (Operand.func 47), args := #[Operand.tmp 57, Operand.tmp 59, Operand.tmp 61], argTypes := #[25, 3, 3] }, type := 3, pos := "law.go:29", after := #[{ on := 6, ground := Ground.data }, { on := 8, ground := Ground.data }, { on := 10, ground := Ground.data }, { on := 5, ground := Ground.chain }], guard := none }) rfl (fun Kz hK => ?_) AllReadyH.nil
  go_simp
  go_at_call 47
  refine (rnext12_any r s n p c L y0 y1 _ (K20.out.1.keep hHeld.out).rd2 (by omega)).mono ?_
  rintro e' w21 ⟨rfl, hg⟩
  have HN := Lib.hid (grown_trans hHeld.out hg)
  clear hg
  simp only
  refine hK.out _ _ (HN) (fun hH2 => ?_)
  clear hK Kz hHeld
  have hHeld := hH2
  clear hH2
  (try simp only [Act.put, List.setIfInBounds_toArray, List.set_cons_zero, List.set_cons_succ])
  refine wpAnyH_take (i := 12) (oi := { dst := some 63, op := Op.binOp BinOp.neq 3 (Operand.tmp 56) (Operand.tmp 62) 3, type := 4, pos := "law.go:29", after := #[{ on := 5, ground := Ground.data }, { on := 11, ground := Ground.data }], guard := none }) (v := .bool false) rfl (by kernel_rfl) (by kernel_rfl) (by kernel_rfl) (fun _ _ _ h => h) (Or.inl ⟨by rfl, ?_⟩) hHeld ?_
  · intro u hSu
    obtain ⟨d0u, d1u, d2u, d3u⟩ := row4T (K20.out.1.keep hSu.out).bx
    obtain ⟨e0u, e1u, e2u, e3u⟩ := row4T (kept_row K20.out.2.2 hSu.out (by simp))
    go_simp
    first | done | rfl | simp
  (try simp only [Act.put, List.setIfInBounds_toArray, List.set_cons_zero, List.set_cons_succ])
  refine wpAnyH_take (i := 13) (oi := { dst := some 64, op := Op.move (Operand.tmp 63), type := 4, pos := "law.go:29", after := #[{ on := 12, ground := Ground.data }, { on := 11, ground := Ground.chain }], guard := none }) (v := .bool false) rfl (by kernel_rfl) (by kernel_rfl) (by kernel_rfl) (fun _ _ _ h => h) (Or.inl ⟨by rfl, ?_⟩) hHeld ?_
  · intro u hSu
    obtain ⟨d0u, d1u, d2u, d3u⟩ := row4T (K20.out.1.keep hSu.out).bx
    obtain ⟨e0u, e1u, e2u, e3u⟩ := row4T (kept_row K20.out.2.2 hSu.out (by simp))
    go_simp
    first | done | rfl | simp
  (try simp only [Act.put, List.setIfInBounds_toArray, List.set_cons_zero, List.set_cons_succ])
  refine wpAnyH_take (i := 14) (oi := { dst := some 65, op := Op.load 25 (Operand.tmp 12), type := 25, pos := "law.go:29", after := #[{ on := 13, ground := Ground.guard }], guard := some (13, false) }) (v := ?_) rfl (by kernel_rfl) (by kernel_rfl) (by kernel_rfl) (fun _ _ _ h => h) (Or.inl ⟨by rfl, ?_⟩) hHeld ?_
  rotate_left 1
  · intro u hSu
    obtain ⟨d0u, d1u, d2u, d3u⟩ := row4T (K20.out.1.keep hSu.out).bx
    obtain ⟨e0u, e1u, e2u, e3u⟩ := row4T (kept_row K20.out.2.2 hSu.out (by simp))
    go_simp
    first | done | with_reducible rfl
  (try simp only [Act.put, List.setIfInBounds_toArray, List.set_cons_zero, List.set_cons_succ])
  refine wpAnyH_take (i := 15) (oi := { dst := some 66, op := Op.indexAddr 78 (Operand.tmp 15) (Operand.const (Value.int IntKind.i64 1)), type := 0, pos := "law.go:29", after := #[{ on := 13, ground := Ground.guard }], guard := some (13, false) }) (v := ?_) rfl (by kernel_rfl) (by kernel_rfl) (by kernel_rfl) (fun _ _ _ h => h) (Or.inl ⟨by rfl, ?_⟩) hHeld ?_
  rotate_left 1
  · intro u hSu
    obtain ⟨d0u, d1u, d2u, d3u⟩ := row4T (K20.out.1.keep hSu.out).bx
    obtain ⟨e0u, e1u, e2u, e3u⟩ := row4T (kept_row K20.out.2.2 hSu.out (by simp))
    go_simp
    first | done | with_reducible rfl
  (try simp only [Act.put, List.setIfInBounds_toArray, List.set_cons_zero, List.set_cons_succ])
  refine wpAnyH_take (i := 16) (oi := { dst := some 67, op := Op.load 3 (Operand.tmp 66), type := 3, pos := "law.go:29", after := #[{ on := 15, ground := Ground.data }, { on := 13, ground := Ground.guard }], guard := some (13, false) }) (v := ?_) rfl (by kernel_rfl) (by kernel_rfl) (by kernel_rfl) (fun _ _ _ h => h) (Or.inl ⟨by rfl, ?_⟩) hHeld ?_
  rotate_left 1
  · intro u hSu
    obtain ⟨d0u, d1u, d2u, d3u⟩ := row4T (K20.out.1.keep hSu.out).bx
    obtain ⟨e0u, e1u, e2u, e3u⟩ := row4T (kept_row K20.out.2.2 hSu.out (by simp))
    go_simp
    first | done | with_reducible rfl
  (try simp only [Act.put, List.setIfInBounds_toArray, List.set_cons_zero, List.set_cons_succ])
  refine wpAnyH_take (i := 17) (oi := { dst := some 68, op := Op.indexAddr 78 (Operand.tmp 15) (Operand.const (Value.int IntKind.i64 2)), type := 0, pos := "law.go:29", after := #[{ on := 13, ground := Ground.guard }], guard := some (13, false) }) (v := ?_) rfl (by kernel_rfl) (by kernel_rfl) (by kernel_rfl) (fun _ _ _ h => h) (Or.inl ⟨by rfl, ?_⟩) hHeld ?_
  rotate_left 1
  · intro u hSu
    obtain ⟨d0u, d1u, d2u, d3u⟩ := row4T (K20.out.1.keep hSu.out).bx
    obtain ⟨e0u, e1u, e2u, e3u⟩ := row4T (kept_row K20.out.2.2 hSu.out (by simp))
    go_simp
    first | done | with_reducible rfl
  (try simp only [Act.put, List.setIfInBounds_toArray, List.set_cons_zero, List.set_cons_succ])
  refine wpAnyH_take (i := 18) (oi := { dst := some 69, op := Op.load 3 (Operand.tmp 68), type := 3, pos := "law.go:29", after := #[{ on := 17, ground := Ground.data }, { on := 13, ground := Ground.guard }], guard := some (13, false) }) (v := ?_) rfl (by kernel_rfl) (by kernel_rfl) (by kernel_rfl) (fun _ _ _ h => h) (Or.inl ⟨by rfl, ?_⟩) hHeld ?_
  rotate_left 1
  · intro u hSu
    obtain ⟨d0u, d1u, d2u, d3u⟩ := row4T (K20.out.1.keep hSu.out).bx
    obtain ⟨e0u, e1u, e2u, e3u⟩ := row4T (kept_row K20.out.2.2 hSu.out (by simp))
    go_simp
    first | done | with_reducible rfl
  (try simp only [Act.put, List.setIfInBounds_toArray, List.set_cons_zero, List.set_cons_succ])
  refine wpAnyH_take (i := 19) (oi := { dst := some 70, op := Op.indexAddr 78 (Operand.tmp 15) (Operand.const (Value.int IntKind.i64 3)), type := 0, pos := "law.go:29", after := #[{ on := 13, ground := Ground.guard }], guard := some (13, false) }) (v := ?_) rfl (by kernel_rfl) (by kernel_rfl) (by kernel_rfl) (fun _ _ _ h => h) (Or.inl ⟨by rfl, ?_⟩) hHeld ?_
  rotate_left 1
  · intro u hSu
    obtain ⟨d0u, d1u, d2u, d3u⟩ := row4T (K20.out.1.keep hSu.out).bx
    obtain ⟨e0u, e1u, e2u, e3u⟩ := row4T (kept_row K20.out.2.2 hSu.out (by simp))
    go_simp
    first | done | with_reducible rfl
  (try simp only [Act.put, List.setIfInBounds_toArray, List.set_cons_zero, List.set_cons_succ])
  refine wpAnyH_take (i := 20) (oi := { dst := some 71, op := Op.load 3 (Operand.tmp 70), type := 3, pos := "law.go:29", after := #[{ on := 19, ground := Ground.data }, { on := 13, ground := Ground.guard }], guard := some (13, false) }) (v := ?_) rfl (by kernel_rfl) (by kernel_rfl) (by kernel_rfl) (fun _ _ _ h => h) (Or.inl ⟨by rfl, ?_⟩) hHeld ?_
  rotate_left 1
  · intro u hSu
    obtain ⟨d0u, d1u, d2u, d3u⟩ := row4T (K20.out.1.keep hSu.out).bx
    obtain ⟨e0u, e1u, e2u, e3u⟩ := row4T (kept_row K20.out.2.2 hSu.out (by simp))
    go_simp
    first | done | with_reducible rfl
  (try simp only [Act.put, List.setIfInBounds_toArray, List.set_cons_zero, List.set_cons_succ])
  refine wpAnyH_take (i := 22) (oi := { dst := some 73, op := Op.load 25 (Operand.tmp 12), type := 25, pos := "law.go:29", after := #[{ on := 13, ground := Ground.guard }], guard := some (13, false) }) (v := ?_) rfl (by kernel_rfl) (by kernel_rfl) (by kernel_rfl) (fun _ _ _ h => h) (Or.inl ⟨by rfl, ?_⟩) hHeld ?_
  rotate_left 1
  · intro u hSu
    obtain ⟨d0u, d1u, d2u, d3u⟩ := row4T (K20.out.1.keep hSu.out).bx
    obtain ⟨e0u, e1u, e2u, e3u⟩ := row4T (kept_row K20.out.2.2 hSu.out (by simp))
    go_simp
    first | done | with_reducible rfl
  (try simp only [Act.put, List.setIfInBounds_toArray, List.set_cons_zero, List.set_cons_succ])
  refine wpAnyH_take (i := 23) (oi := { dst := some 74, op := Op.indexAddr 78 (Operand.tmp 15) (Operand.const (Value.int IntKind.i64 1)), type := 0, pos := "law.go:29", after := #[{ on := 13, ground := Ground.guard }], guard := some (13, false) }) (v := ?_) rfl (by kernel_rfl) (by kernel_rfl) (by kernel_rfl) (fun _ _ _ h => h) (Or.inl ⟨by rfl, ?_⟩) hHeld ?_
  rotate_left 1
  · intro u hSu
    obtain ⟨d0u, d1u, d2u, d3u⟩ := row4T (K20.out.1.keep hSu.out).bx
    obtain ⟨e0u, e1u, e2u, e3u⟩ := row4T (kept_row K20.out.2.2 hSu.out (by simp))
    go_simp
    first | done | with_reducible rfl
  (try simp only [Act.put, List.setIfInBounds_toArray, List.set_cons_zero, List.set_cons_succ])
  refine wpAnyH_take (i := 24) (oi := { dst := some 75, op := Op.load 3 (Operand.tmp 74), type := 3, pos := "law.go:29", after := #[{ on := 23, ground := Ground.data }, { on := 13, ground := Ground.guard }], guard := some (13, false) }) (v := ?_) rfl (by kernel_rfl) (by kernel_rfl) (by kernel_rfl) (fun _ _ _ h => h) (Or.inl ⟨by rfl, ?_⟩) hHeld ?_
  rotate_left 1
  · intro u hSu
    obtain ⟨d0u, d1u, d2u, d3u⟩ := row4T (K20.out.1.keep hSu.out).bx
    obtain ⟨e0u, e1u, e2u, e3u⟩ := row4T (kept_row K20.out.2.2 hSu.out (by simp))
    go_simp
    first | done | with_reducible rfl
  (try simp only [Act.put, List.setIfInBounds_toArray, List.set_cons_zero, List.set_cons_succ])
  refine wpAnyH_take (i := 25) (oi := { dst := some 76, op := Op.indexAddr 78 (Operand.tmp 15) (Operand.const (Value.int IntKind.i64 2)), type := 0, pos := "law.go:29", after := #[{ on := 13, ground := Ground.guard }], guard := some (13, false) }) (v := ?_) rfl (by kernel_rfl) (by kernel_rfl) (by kernel_rfl) (fun _ _ _ h => h) (Or.inl ⟨by rfl, ?_⟩) hHeld ?_
  rotate_left 1
  · intro u hSu
    obtain ⟨d0u, d1u, d2u, d3u⟩ := row4T (K20.out.1.keep hSu.out).bx
    obtain ⟨e0u, e1u, e2u, e3u⟩ := row4T (kept_row K20.out.2.2 hSu.out (by simp))
    go_simp
    first | done | with_reducible rfl
  (try simp only [Act.put, List.setIfInBounds_toArray, List.set_cons_zero, List.set_cons_succ])
  refine wpAnyH_take (i := 26) (oi := { dst := some 77, op := Op.load 3 (Operand.tmp 76), type := 3, pos := "law.go:29", after := #[{ on := 25, ground := Ground.data }, { on := 13, ground := Ground.guard }], guard := some (13, false) }) (v := ?_) rfl (by kernel_rfl) (by kernel_rfl) (by kernel_rfl) (fun _ _ _ h => h) (Or.inl ⟨by rfl, ?_⟩) hHeld ?_
  rotate_left 1
  · intro u hSu
    obtain ⟨d0u, d1u, d2u, d3u⟩ := row4T (K20.out.1.keep hSu.out).bx
    obtain ⟨e0u, e1u, e2u, e3u⟩ := row4T (kept_row K20.out.2.2 hSu.out (by simp))
    go_simp
    first | done | with_reducible rfl
  (try simp only [Act.put, List.setIfInBounds_toArray, List.set_cons_zero, List.set_cons_succ])
  refine wpAnyH_take (i := 27) (oi := { dst := some 78, op := Op.indexAddr 78 (Operand.tmp 15) (Operand.const (Value.int IntKind.i64 3)), type := 0, pos := "law.go:29", after := #[{ on := 13, ground := Ground.guard }], guard := some (13, false) }) (v := ?_) rfl (by kernel_rfl) (by kernel_rfl) (by kernel_rfl) (fun _ _ _ h => h) (Or.inl ⟨by rfl, ?_⟩) hHeld ?_
  rotate_left 1
  · intro u hSu
    obtain ⟨d0u, d1u, d2u, d3u⟩ := row4T (K20.out.1.keep hSu.out).bx
    obtain ⟨e0u, e1u, e2u, e3u⟩ := row4T (kept_row K20.out.2.2 hSu.out (by simp))
    go_simp
    first | done | with_reducible rfl
  (try simp only [Act.put, List.setIfInBounds_toArray, List.set_cons_zero, List.set_cons_succ])
  refine wpAnyH_take (i := 28) (oi := { dst := some 79, op := Op.load 3 (Operand.tmp 78), type := 3, pos := "law.go:29", after := #[{ on := 27, ground := Ground.data }, { on := 13, ground := Ground.guard }], guard := some (13, false) }) (v := ?_) rfl (by kernel_rfl) (by kernel_rfl) (by kernel_rfl) (fun _ _ _ h => h) (Or.inl ⟨by rfl, ?_⟩) hHeld ?_
  rotate_left 1
  · intro u hSu
    obtain ⟨d0u, d1u, d2u, d3u⟩ := row4T (K20.out.1.keep hSu.out).bx
    obtain ⟨e0u, e1u, e2u, e3u⟩ := row4T (kept_row K20.out.2.2 hSu.out (by simp))
    go_simp
    first | done | with_reducible rfl
  (try simp only [Act.put, List.setIfInBounds_toArray, List.set_cons_zero, List.set_cons_succ])
  refine wpAnyH_ready (rs := [21]) (by kernel_rfl) (by simp) ?_
  refine AllReadyH.cons (o := { dst := some 72, op := Op.call { callee := Callee.value (Operand.func 48), args := #[Operand.tmp 65, Operand.tmp 67, Operand.tmp 69, Operand.tmp 71], argTypes := #[25, 3, 3, 3] }, type := 81, pos := "law.go:29", after := #[{ on := 14, ground := Ground.data }, { on := 16, ground := Ground.data }, { on := 18, ground := Ground.data }, { on := 20, ground := Ground.data }, { on := 13, ground := Ground.chain }, { on := 13, ground := Ground.guard }], guard := some (13, false) }) rfl (fun Kz hK => ?_) AllReadyH.nil
  go_simp
  go_at_call 48
  refine (mmask_any r s n p c L y1 y2 y3 hq3.out _ (K20.out.1.keep hHeld.out).rd2 (by omega)).mono ?_
  rintro e' w21 ⟨rfl, hg⟩
  have HN := Lib.hid (grown_trans hHeld.out hg)
  clear hg
  simp only
  refine hK.out _ _ (HN) (fun hH2 => ?_)
  clear hK Kz hHeld
  have hHeld := hH2
  clear hH2
  (try simp only [Act.put, List.setIfInBounds_toArray, List.set_cons_zero, List.set_cons_succ])
  refine wpAnyH_ready (rs := [29]) (by kernel_rfl) (by simp) ?_
  refine AllReadyH.cons (o := { dst := some 80, op := Op.call { callee := Callee.value (Operand.func 49), args := #[Operand.tmp 73, Operand.tmp 75, Operand.tmp 77, Operand.tmp 79], argTypes := #[25, 3, 3, 3] }, type := 81, pos := "law.go:29", after := #[{ on := 22, ground := Ground.data }, { on := 24, ground := Ground.data }, { on := 26, ground := Ground.data }, { on := 28, ground := Ground.data }, { on := 21, ground := Ground.chain }, { on := 13, ground := Ground.guard }], guard := some (13, false) }) rfl (fun Kz hK => ?_) AllReadyH.nil
  go_simp
  go_at_call 49
  refine (rmask_any r s n p c L y1 y2 y3 _ (K20.out.1.keep hHeld.out).rd2 (by omega)).mono ?_
  rintro e' w21 ⟨rfl, hg⟩
  have HN := Lib.hid (grown_trans hHeld.out hg)
  clear hg
  simp only
  refine hK.out _ _ (HN) (fun hH2 => ?_)
  clear hK Kz hHeld
  have hHeld := hH2
  clear hH2
  (try simp only [Act.put, List.setIfInBounds_toArray, List.set_cons_zero, List.set_cons_succ])
  refine wpAnyH_take (i := 30) (oi := { dst := some 81, op := Op.binOp BinOp.neq 81 (Operand.tmp 72) (Operand.tmp 80) 81, type := 4, pos := "law.go:29", after := #[{ on := 21, ground := Ground.data }, { on := 29, ground := Ground.data }, { on := 13, ground := Ground.guard }], guard := some (13, false) }) (v := .bool false) rfl (by kernel_rfl) (by kernel_rfl) (by kernel_rfl) (fun _ _ _ h => h) (Or.inl ⟨by rfl, ?_⟩) hHeld ?_
  · intro u hSu
    obtain ⟨d0u, d1u, d2u, d3u⟩ := row4T (K20.out.1.keep hSu.out).bx
    obtain ⟨e0u, e1u, e2u, e3u⟩ := row4T (kept_row K20.out.2.2 hSu.out (by simp))
    go_simp
    first | done | rfl | simp
  (try simp only [Act.put, List.setIfInBounds_toArray, List.set_cons_zero, List.set_cons_succ])
  refine wpAnyH_take (i := 31) (oi := { dst := some 82, op := Op.pick (Operand.tmp 64) (Operand.const (Value.bool true)) (Operand.tmp 81), type := 4, pos := "law.go:29", after := #[{ on := 13, ground := Ground.data }, { on := 30, ground := Ground.data }], guard := none }) (v := ?_) rfl (by kernel_rfl) (by kernel_rfl) (by kernel_rfl) (fun _ _ _ h => h) (Or.inl ⟨by rfl, ?_⟩) hHeld ?_
  rotate_left 1
  · intro u hSu
    obtain ⟨d0u, d1u, d2u, d3u⟩ := row4T (K20.out.1.keep hSu.out).bx
    obtain ⟨e0u, e1u, e2u, e3u⟩ := row4T (kept_row K20.out.2.2 hSu.out (by simp))
    go_simp
    first | done | with_reducible rfl
  (try simp only [Act.put, List.setIfInBounds_toArray, List.set_cons_zero, List.set_cons_succ])
  refine wpAnyH_done (by kernel_rfl) ?_ _
  have K30 := Lib.hid (And.intro (K20.out.1.keep hHeld.out) (kept_row K20.out.2.1 hHeld.out (by simp)))
  clear hHeld K20
  go_wp2_with fail
  exact ⟨⟨i + 1, by omega, congrArg (Value.int .i64) (by omega), K30⟩, by simp only [RowKit.intOf]; omega⟩
end Go.Proofs.YtgofadmncgmhoaaGreat
