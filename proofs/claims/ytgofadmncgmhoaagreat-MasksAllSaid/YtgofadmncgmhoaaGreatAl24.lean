/- Parts of the proof, packed: TaTap2, MaNxM, MaRAl, MaRch. -/
import Derived.Test.YtgofadmncgmhoaaGreatAl22
import Derived.Test.YtgofadmncgmhoaaGreatAl23
import Derived.Test.YtgofadmncgmhoaaGreatAl19
import Derived.Maps.RangeWalk
/- tables: the tape's Table with a mistake. -/
namespace Go.Proofs.YtgofadmncgmhoaaGreat
open Go.RowKit Bs
set_option maxRecDepth 100000 in
theorem st_up {a : Nat} {w w9 : World} {o : Obj} (h : St a w w9) (ho : w9.heap[w.heap.size]? = some o) : St a (w.alloc o) w9 := by
  refine ⟨⟨h.1.os, h.1.tape, h.1.output, by have := lt_rowB ho; simp; omega, fun b hb hr => ?_⟩, h.2⟩
  rcases Nat.lt_or_ge b w.heap.size with hlt | hge
  · rw [h.1.block b hlt hr]
    exact (heap_alloc_old w o hlt).symm
  · have : b = w.heap.size := by simp at hb; omega
    subst this
    rw [ho]; exact (heap_alloc_new w o).symm
set_option maxRecDepth 100000 in
set_option maxHeartbeats 6400000 in
theorem ttab1_any (a : Nat) (n0 : Int) (hn0 : 0 < n0) (hn1 : I64 n0) (w : World) (hT : Tp w a) :
    Calls Tryz.prog 13 #[.pointer (some ⟨a, 0, none⟩), .int .i64 n0] w fun e w' => TabPost a w e w' := by
  have ha := hT.lt
  have HA := Lib.hid ha
  obtain ⟨k1, k2⟩ := tone_box w #[.int .i64 0, .int .i64 0, .int .i64 0, .slice none 0 0] 25
  have HB := Lib.hid (And.intro k1 (And.intro k2 (And.intro (hT.keep k2) (by simp : (w.alloc (.cells #[.int .i64 0, .int .i64 0, .int .i64 0, .slice none 0 0] 25)).heap.size = w.heap.size + 1))))
  clear k1 k2 hT ha
  go_enter Tryz.func13, Tryz.ntmps13
  go_upto_region 1 with fail
  generalize w.alloc _ = wa at *
  go_wp2_with fail
  refine (mixed_any a 6 (by omega) (by omega) wa HB.out.2.2.1).mono ?_
  rintro e w1 ⟨R0, R, L0, vR, vL, rfl, hR, hL, hO, hid, hs⟩
  obtain ⟨pR, cR, pL, cL, rfl, rfl, hTg⟩ := tg_of_ownT hR hL
  have hlen : R.length = R0.length := by have := congrArg List.length hid; simpa using this
  have hck := (hO.2.2.2.2 (Int.le_refl 0)).1
  have hR6 : R.length ≤ 6 := by have := (hO.2.2.2.2 (Int.le_refl 0)).2; omega
  have HOK : Hid (chk R L0 = 0) := Lib.hid (by rw [chk_idsT hid]; exact hck)
  obtain ⟨b1, g1⟩ := tone_box w1 #[.slice pR R.length cR, .slice pL L0.length cL] 45
  have H1 : Hid (TT a w w1.heap.size ⟨R, L0, pR, cR, pL, cL⟩ (w1.alloc (.cells #[.slice pR R.length cR, .slice pL L0.length cL] 45))) := Lib.hid (by
    have hh := HB.out
    have hz := hh.2.2.2
    have hsz := hs.1.size
    exact ⟨kept_row (kept_row hh.1 hs.1 (fun e => by have := Option.some.inj e; have := HA.out; omega)) g1 (by simp), b1, (hTg.keep g1).mono (fun b hb => ⟨by have := hb.1; omega, hb.2⟩), (show St a w w1 from ⟨grown_trans (grown_none hh.2.1 _) hs.1, hs.2⟩).none_ g1, by omega, by simp⟩)
  clear hR hL hO hid hs hTg hck hlen b1 g1 HB
  go_upto_region 2 with fail
  generalize w1.alloc _ = w2 at *
  generalize w1.heap.size = B at *
  obtain ⟨t0, t1⟩ := row_cells H1.out.bT
  go_wp2_with fail
  refine (tplan_any a 0 (by unfold I64; omega) R pR pL cR L0.length cL (by omega) w2 H1.out.st.2 (H1.out.t.r.mono (fun b hb => ⟨by have := hb.1; have := HA.out; omega, by have := hb.2; have := H1.out.lo; omega⟩))).mono ?_
  rintro e w3 ⟨sub, len, E, pE, cE, rfl, hE, -, hgood, hs⟩
  obtain ⟨hg1, hg2, O, i, id, hO, hP⟩ := hgood (Int.le_refl 0)
  have hsub : inV sub 0 7 = true := by unfold inV at hg1 ⊢; simp only [decide_eq_true_eq] at hg1 ⊢; omega
  have HVP := Lib.hid (hP.valid HOK.out hO hsub hg2).1
  obtain ⟨b3, g3⟩ := tone_box w3 #[.int .i64 sub, .int .i64 len, .slice pE E.length cE] 48
  have H3 := Lib.hid (And.intro ((H1.out.tape HA.out hs).keep g3) (And.intro (kept_row b3 (grown_refl _ none) (by simp)) ((rdf_of_own hE).keep g3)))
  clear hE hgood hg1 hg2 hO hP hsub hs b3 g3 t0 t1 H1
  go_upto_region 3 with fail
  generalize w3.alloc _ = w4 at *
  generalize w3.heap.size = Bp at *
  obtain ⟨t0, t1⟩ := row_cells H3.out.1.bT
  obtain ⟨q0, q1, q2⟩ := row3B H3.out.2.1
  have hE24 := rows_len HVP.out
  go_wp2_with fail
  refine (rall11_any ⟨R, L0, pR, cR, pL, cL⟩ sub len E pE cE _ _ w4 H3.out.1.t H3.out.2.2 (by omega)).mono ?_
  rintro e w5 ⟨Ts, p, c, er, rfl, hres, hown, htab, hg⟩
  have hT5 := H3.out.1.keep hg
  have hsz4 := H3.out.1.lo
  have K5 : Hid (TW a w w4.heap.size (.slice p Ts.length c) Ts w5) := Lib.hid ⟨hT5.rs, hown, htab, hT5.st, by omega, hg.size⟩
  have hok : okT R L0 = true := by unfold okT; simpa using HOK.out
  have HM : Hid (AllM R L0 sub len E R Ts) := Lib.hid (by
    rcases hres with h | h
    · exact h.2.2.2
    · exact absurd ⟨hok, HVP.out⟩ h.2.1)
  have hTl : Ts.length ≤ 6 := Nat.le_trans HM.out.len hR6
  have HOKT := Lib.hid hok
  clear hres hown htab hg hT5 hok H3 t0 t1 q0 q1 q2 hsz4 HOK
  simp only
  obtain ⟨C, hC⟩ : ∃ C, w4.heap.size = C := ⟨_, rfl⟩
  rw [hC] at K5
  clear hC
  by_cases h0 : Ts.length = 0
  case pos =>
    have h0' : ((Ts.length : Int) == 0) = true := by simpa using h0
    obtain ⟨z0, z1, z2, z3⟩ := row4T K5.out.rs
    have f0 := frozen_of_row _ _ 0 _ _ K5.out.rs
    have f1 := frozen_of_row _ _ 1 _ _ K5.out.rs
    have f2 := frozen_of_row _ _ 2 _ _ K5.out.rs
    have f3 := frozen_of_row _ _ 3 _ _ K5.out.rs
    have HT := Lib.hid (store4B (.int .i64 1) (.int .i64 0) (.int .i64 8) (.slice none 0 0) K5.out.rs)
    clear h0
    go_wp2_with fail
    refine bodyPost_ret (res_tabB rfl _ _ w.heap.size _ _ _ _ rfl HT.out.1) rfl ?_
    have hst := K5.out.st.storeT HT.out.2 (Nat.le_refl _) HA.out
    exact ⟨1, 0, 8, [], none, 0, rfl, ⟨⟨none, 0, rfl, fun h => absurd rfl h⟩, fun x hx => (by cases hx)⟩, fun _ => rfl, ⟨Nat.le_refl _, by show (0 : Nat) ≤ _; omega⟩, fun x hx => (by cases hx), by unfold I64; omega, by show (0 : Nat) ≤ _; omega, fun x hx => (by cases hx), hst⟩
  have h0' : ((Ts.length : Int) == 0) = false := by simpa using h0
  clear h0'
  have h0'' : ¬ (Ts.length : Int) = 0 := by omega
  have h0' : ((Ts.length : Int) == 0) = false := by simpa using h0
  have hTl' : (Ts.length : Int) ≤ 6 := by omega
  clear h0
  go_wp2_with fail
  refine (next_any a (Ts.length : Int) (by unfold I64; omega) w5 K5.out.st.2).mono ?_
  rintro e w6 ⟨r, rfl, hr, hs⟩
  have K6 := Lib.hid (K5.out.tape HA.out hs)
  have hr2 : 0 ≤ r ∧ r < (Ts.length : Int) := by unfold CutOf at hr; omega
  clear hs hr K5
  obtain ⟨j, rfl⟩ : ∃ j : Nat, r = (j : Int) := ⟨r.toNat, by omega⟩
  have hj : j < Ts.length := by omega
  obtain ⟨x, hx⟩ : ∃ x, Ts[j]? = some x := ⟨_, List.getElem?_eq_getElem hj⟩
  obtain ⟨-, bt, ot, rfl, -, hc⟩ := tb_cells (rdf_of_own K6.out.own) (by omega)
  obtain ⟨a0, a1, a2, a3⟩ := hc j x hx
  have HX := Lib.hid (List.mem_of_getElem? hx)
  have hj1 : (j : Int) < (Ts.length : Int) := hr2.2
  have hj0 : (0 : Int) ≤ (j : Int) := hr2.1
  clear hc hx hr2 hj
  obtain ⟨HV1, HV2, HV3, -, HV5⟩ := all_valid HM.out HOKT.out HVP.out HX.out
  have HVB := Lib.hid (And.intro HV1 (And.intro HV2 (And.intro HV3 HV5)))
  have hxl : x.L.length ≤ 24 := by rw [HV5.1]; exact hE24
  have HXL := Lib.hid hxl
  have HNL : Hid (∀ y ∈ x.L, y.nx.length ≤ 24) := Lib.hid (by
    have hv := tab_valid HV5 HOKT.out (s := x.s) (n := x.n) (by rw [HV1, HV2]; exact HVP.out) HV3
    have h4 := (ck_ok hv).2.2.2.1
    intro y hy
    have := List.any_eq_false.1 h4 y hy
    unfold lgW at this
    simp only [decide_eq_true_eq] at this
    omega)
  clear HV1 HV2 HV3 HV5 hxl
  have hX := K6.out.tabs x HX.out
  go_wp2_with fail
  refine (copiedT_any x.r x.s x.n x.L x.p x.c _ w6 hX.rd hX.hy (by have := HXL.out; omega) (fun y hy => by have := HNL.out y hy; omega)).mono ?_
  rintro e w7 ⟨M, p2, c2, rfl, hO, hM, hg⟩
  have hM2 : ckT x.r x.s x.n M = 0 := tab_valid (bldM_congr HVB.out.2.2.2 hM) HOKT.out (by rw [HVB.out.1, HVB.out.2.1]; exact HVP.out) HVB.out.2.2.1
  have hro := ids_inT HOKT.out HVB.out.2.2.1
  have HM2 := Lib.hid (And.intro hM2 hro)
  have hMl : M.length ≤ 24 := by have := congrArg List.length hM; rw [List.length_map, List.length_map] at this; rw [this]; exact HXL.out
  have HML := Lib.hid hMl
  obtain ⟨b7, g7⟩ := tone_box w7 #[.int .i64 x.r, .int .i64 x.s, .int .i64 x.n, .slice p2 M.length c2] 25
  have hlo6 := K6.out.lo
  have K7 := Lib.hid (And.intro (kept_row (kept_row K6.out.rs hg (by simp)) g7 (by simp)) (And.intro b7 (And.intro ((hO.mono (lo2 := w.heap.size + 1) (by omega)).keep g7) (And.intro ((K6.out.st.none_ hg).none_ g7) (show w.heap.size + 1 ≤ w7.heap.size by have := hg.size; omega)))))
  have K7O := Lib.hid (And.intro (show ∀ b, (Value.slice p2 M.length c2).ownBlock = some b → b < w7.heap.size from fun b e => (hO.own.lt b e).2) (show ∀ y ∈ M, ∀ b, y.v.ownBlock = some b → b < w7.heap.size from fun y hy b e => ((hO.nx y hy).lt b e).2))
  clear hO hM hg hM2 hro hMl b7 g7 hlo6 hX K6 a0 a1 a2 a3 HX HVB HXL HNL HM hTl hTl' h0' h0'' hj0 hj1
  go_upto_region 7 with fail
  generalize w7.alloc _ = w8 at *
  generalize w7.heap.size = B9 at *
  generalize x.r = tr at *
  generalize x.s = ts at *
  generalize x.n = tn at *
  have hng : (0 : Int) < n0 := by omega
  go_wp2_with fail
  refine (one_any a n0 hn1 w8 K7.out.2.2.2.1.2).mono ?_
  rintro e w9 ⟨b1, rfl, hs⟩
  have hlo7 := K7.out.2.2.2.2
  have ha7 := HA.out
  have K9 := Lib.hid (And.intro (kept_row K7.out.1 hs.1 (fun e => by have := Option.some.inj e; omega)) (And.intro (kept_row K7.out.2.1 hs.1 (fun e => by have := Option.some.inj e; omega)) (And.intro (K7.out.2.2.1.over hs.1 (by omega)) (And.intro (K7.out.2.2.2.1.trans hs) hlo7))))
  have HRI : Hid (I64 tr) := Lib.hid (by have := HM2.out.2; unfold I64; omega)
  have HN24 : Hid (∀ y ∈ M, y.nx.length ≤ 100) := Lib.hid (fun y hy => by have := (row_asc HM2.out.1 hy).2.1; omega)
  clear hs K7 hng hlo7 ha7
  cases b1
  case false =>
    obtain ⟨z0, z1, z2, z3⟩ := row4T K9.out.1
    obtain ⟨d0, d1, d2, d3⟩ := row4T K9.out.2.1
    have f0 := frozen_of_row _ _ 0 _ _ K9.out.1
    have f1 := frozen_of_row _ _ 1 _ _ K9.out.1
    have f2 := frozen_of_row _ _ 2 _ _ K9.out.1
    have f3 := frozen_of_row _ _ 3 _ _ K9.out.1
    have HT := Lib.hid (store4B (.int .i64 tr) (.int .i64 ts) (.int .i64 tn) (.slice p2 M.length c2) K9.out.1)
    go_wp2_with fail
    refine bodyPost_ret (res_tabB rfl _ _ w.heap.size _ _ _ _ rfl HT.out.1) rfl ?_
    have hst := K9.out.2.2.2.1.storeT HT.out.2 (Nat.le_refl _) HA.out
    have hf := (K9.out.2.2.1.over HT.out.2 (by omega))
    obtain ⟨-, f5, f6, f7⟩ := own_rdw hf
    exact ⟨tr, ts, tn, M, p2, c2, rfl, (own_rdw2 hf).mono (fun b hb => ⟨by omega, hb.2⟩), f5, f6, f7, HRI.out, by have := HML.out; omega, fun y hy => by have := HN24.out y hy; omega, hst⟩
  obtain ⟨d0, d1, d2, d3⟩ := row4T K9.out.2.1
  have hml := HML.out
  go_wp2_with fail
  refine (bend_any a (w.heap.size + 1) B9 _ (w.alloc (.cells #[.int .i64 0, .int .i64 0, .int .i64 0, .slice none 0 0] 25)) w9 tr ts tn M p2 c2 (st_up K9.out.2.2.2.1 K9.out.1) K9.out.2.2.1 ⟨by simp; have := HA.out; omega, by simp, by have := lt_rowB K9.out.2.1; have := K9.out.2.2.2.2; omega⟩ K9.out.2.1 (by simp; exact K9.out.2.2.2.2) (fun hi => by
    rcases hi with hi | ⟨y, hy, hi⟩
    · have := K7O.out.1 _ hi; omega
    · have := K7O.out.2 y hy _ hi; omega) HRI.out (by omega) HN24.out).mono ?_
  rintro e w10 ⟨r2, s2, n2, L, p, c, rfl, hO2, hr2, hl2, hN2, hD2, hnD, hs2⟩
  have hlo9 := K9.out.2.2.2.2
  have hT := store4B (.int .i64 r2) (.int .i64 s2) (.int .i64 n2) (.slice p L.length c) hD2
  have hrs10 : w10.heap[w.heap.size]? = some (.cells #[.int .i64 0, .int .i64 0, .int .i64 0, .slice none 0 0] 25 (0, 0)) := by
    have h1 := hs2.1.block w.heap.size (by simp) (fun e => by have := Option.some.inj e; have := HA.out; omega)
    rw [h1]; exact heap_alloc_new w _
  have hst10 : St a w w10 := ⟨grown_trans (grown_none (World.grownBy_alloc w _ none) _) hs2.1, hs2.2⟩
  have K11 := Lib.hid (And.intro (kept_row hrs10 hT.2 (fun e => by have := Option.some.inj e; omega)) (And.intro hT.1 (And.intro (hO2.ne hT.2 hnD) (hst10.storeT hT.2 (by omega) HA.out))))
  have HF := Lib.hid (And.intro hr2 (And.intro hl2 hN2))
  obtain ⟨d0, d1, d2, d3⟩ := row4T hD2
  have f0 := frozen_of_row _ _ 0 _ _ hD2
  have f1 := frozen_of_row _ _ 1 _ _ hD2
  have f2 := frozen_of_row _ _ 2 _ _ hD2
  have f3 := frozen_of_row _ _ 3 _ _ hD2
  clear hO2 hr2 hl2 hN2 hD2 hnD hs2 hT hrs10 hst10 K9
  go_upto_region 9 with fail
  clear d0 d1 d2 d3 f0 f1 f2 f3
  generalize (((w10.setCell _ _).setCell _ _).setCell _ _).setCell _ _ = w11 at *
  obtain ⟨z0, z1, z2, z3⟩ := row4T K11.out.1
  obtain ⟨d0, d1, d2, d3⟩ := row4T K11.out.2.1
  have f0 := frozen_of_row _ _ 0 _ _ K11.out.1
  have f1 := frozen_of_row _ _ 1 _ _ K11.out.1
  have f2 := frozen_of_row _ _ 2 _ _ K11.out.1
  have f3 := frozen_of_row _ _ 3 _ _ K11.out.1
  have HT := Lib.hid (store4B (.int .i64 r2) (.int .i64 s2) (.int .i64 n2) (.slice p L.length c) K11.out.1)
  go_wp2_with fail
  refine bodyPost_ret (res_tabB rfl _ _ w.heap.size _ _ _ _ rfl HT.out.1) rfl ?_
  have hst := K11.out.2.2.2.storeT HT.out.2 (Nat.le_refl _) HA.out
  have hf := (K11.out.2.2.1.over HT.out.2 (by omega))
  obtain ⟨-, f5, f6, f7⟩ := own_rdw hf
  exact ⟨r2, s2, n2, L, p, c, rfl, (own_rdw2 hf).mono (fun b hb => ⟨by omega, hb.2⟩), f5, f6, f7, HF.out.1, by have := HF.out.2.1; omega, fun y hy => by have := HF.out.2.2 y hy; omega, hst⟩
end Go.Proofs.YtgofadmncgmhoaaGreat

/- masks: what the laws over a table of the tape keep, which may have a mistake. -/
namespace Go.Proofs.YtgofadmncgmhoaaGreat
open Go.RowKit Bs
structure BZ (a : Nat) (W : World) (B : Nat) (r s n : Int) (p : Option Addr) (c : Nat) (L : List Rw) (w : World) : Prop where
  bx : w.heap[B]? = some (.cells #[.int .i64 r, .int .i64 s, .int .i64 n, .slice p L.length c] 25 (0, 0))
  rd : RdW w (fun b => a < b ∧ b < w.heap.size) p c L
  gr : W.grownBy w none
  tp : Tp w a
  lo : W.heap.size ≤ a ∧ a < B
set_option maxRecDepth 100000 in
theorem BZ.keep {a : Nat} {W w w1 : World} {B : Nat} {r s n : Int} {p : Option Addr} {c : Nat} {L : List Rw} (h : BZ a W B r s n p c L w) (g : w.grownBy w1 none) : BZ a W B r s n p c L w1 :=
  ⟨kept_row h.bx g (by simp), (h.rd.keep g).mono (fun b hb => ⟨hb.1, Nat.lt_of_lt_of_le hb.2 g.size⟩), grown_trans h.gr g, h.tp.keep g, h.lo⟩
set_option maxRecDepth 100000 in
theorem BZ.tape {a : Nat} {W w w1 : World} {B : Nat} {r s n : Int} {p : Option Addr} {c : Nat} {L : List Rw} (h : BZ a W B r s n p c L w) (k : St a w w1) : BZ a W B r s n p c L w1 := by
  have hl := h.lo
  exact ⟨kept_row h.bx k.1 (fun e => by have := Option.some.inj e; omega), (h.rd.grown k.1 (fun b hb e => by have := Option.some.inj e; omega)).mono (fun b hb => ⟨hb.1, Nat.lt_of_lt_of_le hb.2 k.1.size⟩), grown_new h.gr k.1 hl.1, k.2, hl⟩
set_option maxRecDepth 100000 in
theorem BZ.rd2 {a : Nat} {W w : World} {B : Nat} {r s n : Int} {p : Option Addr} {c : Nat} {L : List Rw} (h : BZ a W B r s n p c L w) : RdW w (· < w.heap.size) p c L := h.rd.mono (fun _ hb => hb.2)
set_option maxRecDepth 100000 in
theorem bz_start {a lo : Nat} {W w2 : World} {r s n : Int} {p : Option Addr} {c : Nat} {L : List Rw} (hR : RdW w2 (fun b => lo ≤ b ∧ b < w2.heap.size) p c L) (hl : a < lo) (ha : W.heap.size ≤ a) (hs : a < w2.heap.size) (g : W.grownBy w2 none) (hT : Tp w2 a) : BZ a W w2.heap.size r s n p c L (w2.alloc (.cells #[.int .i64 r, .int .i64 s, .int .i64 n, .slice p L.length c] 25)) := by
  obtain ⟨b3, g3⟩ := tone_box w2 #[.int .i64 r, .int .i64 s, .int .i64 n, .slice p L.length c] 25
  exact ⟨b3, (hR.keep g3).mono (fun b hb => ⟨by have := hb.1; omega, Nat.lt_of_lt_of_le hb.2 g3.size⟩), grown_trans g g3, hT.keep g3, ha, hs⟩
set_option maxRecDepth 100000 in
theorem cells_list {α : Type} {w : World} {D k : Nat} {t : TypeId} {f : α → List Value} {X : List α} (hf : ∀ x, (f x).length = k) (h : w.heap[D]? = some (.cells (X.flatMap f).toArray t (0, 0))) {i : Nat} {x : α} (hx : X[i]? = some x) {j : Nat} {v : Value} (hj : (f x)[j]? = some v) : w.cell? ⟨D, i * k + j, none⟩ = some v := by
  rw [cell_of_row _ _ _ _ _ _ h, List.getElem?_toArray, flat_at f k hf X i j x hx (by have := (List.getElem?_eq_some_iff.1 hj).1; rw [hf] at this; exact this)]
  exact hj
end Go.Proofs.YtgofadmncgmhoaaGreat

/- masks, the reference's functions: All. -/
namespace Go.Proofs.YtgofadmncgmhoaaGreat
open Go.RowKit Go.Maps Bs
/-- The neighbours up to k with a mask. -/
def tsK (f : Int → Option Nat) (k : Nat) : List Int := ((List.range k).map fun i : Nat => (i : Int) + 1).filter fun x => (f x).isSome
set_option maxRecDepth 100000 in
theorem tsK_yes {f : Int → Option Nat} {k : Nat} (h : (f ((k : Int) + 1)).isSome = true) : tsK f (k + 1) = tsK f k ++ [(k : Int) + 1] := by
  unfold tsK
  rw [List.range_succ, List.map_append, List.filter_append]
  congr 1
  simp [h]
set_option maxRecDepth 100000 in
theorem tsK_no {f : Int → Option Nat} {k : Nat} (h : (f ((k : Int) + 1)).isSome = false) : tsK f (k + 1) = tsK f k := by
  unfold tsK
  rw [List.range_succ, List.map_append, List.filter_append]
  simp [h]
set_option maxRecDepth 100000 in
theorem tsK_len (f : Int → Option Nat) (k : Nat) : (tsK f k).length ≤ k := by
  unfold tsK
  refine Nat.le_trans (List.length_filter_le _ _) ?_
  simp
set_option maxRecDepth 100000 in
theorem tsK_asc {f : Int → Option Nat} (h : ColOk f) : AscM f (tsK f 99) := by
  constructor
  · refine List.Pairwise.sublist List.filter_sublist ?_
    rw [List.pairwise_map]
    exact List.pairwise_lt_range.imp (fun h => by omega)
  · intro x
    unfold tsK
    rw [List.mem_filter, List.mem_map]
    constructor
    · exact fun h => h.2
    · intro hx
      obtain ⟨d, hd⟩ := Option.isSome_iff_exists.1 hx
      have hb := (h.u x d hd).2
      exact ⟨⟨(x - 1).toNat, by rw [List.mem_range]; omega, by omega⟩, hx⟩
set_option maxRecDepth 100000 in
/-- A mask that is there is not empty. -/
theorem coF_some {r s n : Int} {L : List Rw} {pl set u : Int} : (coF r s n L pl set u).isSome = true ↔ (coF r s n L pl set u).getD 0 ≠ 0 := by
  constructor
  · intro h h0
    unfold coF at h h0
    split at h
    · rename_i hc
      rw [if_pos hc] at h0
      obtain ⟨x, hx, h1, h2, h3⟩ := (colL_some L u).1 h
      have := (colL_bit L u (plB x.id n).toNat).2 ⟨x, hx, h1, h2, h3, rfl⟩
      rw [h0, Nat.zero_testBit] at this
      cases this
    · cases h
  · intro h
    cases hf : coF r s n L pl set u with
    | none => rw [hf] at h; exact absurd rfl h
    | some d => rfl
/-- While the masks are listed. -/
structure RA (W : World) (C : Nat) (r s n : Int) (p : Option Addr) (c : Nat) (L : List Rw) (v : Value) (M : List Md) (w : World) : Prop where
  bx : w.heap[W.heap.size]? = some (.cells #[.int .i64 r, .int .i64 s, .int .i64 n, .slice p L.length c] 25 (0, 0))
  rd : RdW w (· < C) p c L
  own : w.ownsRow C 90 2 v M.length (M.flatMap mdC)
  gr : W.grownBy w none
  lo : W.heap.size < C ∧ C ≤ w.heap.size
set_option maxRecDepth 100000 in
theorem RA.all {W : World} {C : Nat} {r s n : Int} {p : Option Addr} {c : Nat} {L : List Rw} {v : Value} {M : List Md} {w : World} (h : RA W C r s n p c L v M w) : RdW w (· < w.heap.size) p c L :=
  h.rd.mono (fun b (hb : b < C) => Nat.lt_of_lt_of_le hb h.lo.2)
set_option maxRecDepth 100000 in
theorem RA.keep {W : World} {C : Nat} {r s n : Int} {p : Option Addr} {c : Nat} {L : List Rw} {v : Value} {M : List Md} {w w1 : World} (h : RA W C r s n p c L v M w) (g : w.grownBy w1 none) : RA W C r s n p c L v M w1 :=
  ⟨kept_row h.bx g (by simp), h.rd.keep g, h.own.kept g (by cases v.ownBlock <;> simp), grown_trans h.gr g, h.lo.1, Nat.le_trans h.lo.2 g.size⟩
set_option maxRecDepth 100000 in
theorem RA.put {W : World} {C : Nat} {r s n : Int} {p : Option Addr} {c : Nat} {L : List Rw} {v v' : Value} {M M2 : List Md} {w w1 : World} (h : RA W C r s n p c L v M w) (hown : w1.ownsRow C 90 2 v' M2.length (M2.flatMap mdC)) (g : w.grownBy w1 v.ownBlock) : RA W C r s n p c L v' M2 w1 := by
  have hlo := h.lo
  have hne : ∀ b, b < C → some b ≠ v.ownBlock := fun b hb e => by have := (h.own.lt b e.symm).1; omega
  exact ⟨kept_row h.bx g (hne _ hlo.1), h.rd.grown g hne, hown, grown_any h.gr g (fun b hb => hne b (by omega)), h.lo.1, Nat.le_trans h.lo.2 g.size⟩
set_option maxRecDepth 100000 in
set_option maxHeartbeats 6400000 in
theorem rall12_any (r s n : Int) (p : Option Addr) (c : Nat) (L : List Rw) (pl set : Int) (w : World) (hR : RdW w (· < w.heap.size) p c L) (hm : L.length ≤ 9223372036854775807) :
    Calls Tryz.prog 52 #[.agg #[.int .i64 r, .int .i64 s, .int .i64 n, .slice p L.length c], .int .i64 pl, .int .i64 set] w fun e w' => AllPost r s n L pl set w e w' := by
  obtain ⟨ie, hie, he0, he1, he2⟩ := info_parts info_md
  have B0 := bx_start (r := r) (s := s) (n := n) hR
  have H0 : Hid (RA w (w.alloc (.cells #[.int .i64 r, .int .i64 s, .int .i64 n, .slice p L.length c] 25)).heap.size r s n p c L (.slice none 0 0) [] _) := Lib.hid ⟨B0.bx, B0.rd, World.ownsRow_nil _ _ _ _, B0.gr, by simp, Nat.le_refl _⟩
  clear hR B0
  go_enter Tryz.func52, Tryz.ntmps52
  go_upto_region 1 with fail
  generalize w.alloc _ = wa at *
  generalize wa.heap.size = C at *
  obtain ⟨f, hf⟩ : ∃ f, coF r s n L pl set = f := ⟨_, rfl⟩
  have HF := Lib.hid hf
  have HOK : Hid (ColOk f) := Lib.hid (by rw [← hf]; exact coF_ok r s n L pl set)
  have HSM : Hid (∀ u, (f u).isSome = true ↔ (f u).getD 0 ≠ 0) := Lib.hid (fun u => by rw [← hf]; exact coF_some)
  clear hf
  go_wp2_with fail
  go_loopw [7, 8] (fun vo a wr => ∃ (k : Nat) (po : Option Addr) (co : Nat), k ≤ 99 ∧ a = .int .i64 ((k : Int) + 1) ∧ vo = .slice po (mdL f (tsK f k)).length co ∧ Hid (RA w C r s n p c L (.slice po (mdL f (tsK f k)).length co) (mdL f (tsK f k)) wr)) (fun _ a _ => 100 - (RowKit.intOf a).toNat)
  case atStart => exact ⟨0, none, 0, Nat.zero_le _, rfl, rfl, H0⟩
  case round =>
  clear H0
  obtain ⟨k, po, co, hk, rfl, rfl, A1⟩ := hrel
  obtain ⟨w6, hw6⟩ : ∃ w6, w6 = wr := ⟨_, rfl⟩
  rw [← hw6] at A1 ⊢
  clear hw6
  by_cases hlt : k < 99
  case neg =>
    obtain rfl : k = 99 := by omega
    go_wp2_with fail
    go_ret
    exact ⟨tsK f 99, po, co, by rw [HF.out]; rfl, by rw [HF.out]; exact tsK_asc HOK.out, by rw [HF.out]; exact A1.out.own.mono (Nat.le_of_lt A1.out.lo.1), A1.out.gr⟩
  case pos =>
  have hlt' : (k : Int) + 1 ≤ 99 := by omega
  obtain ⟨d0, d1, d2, d3⟩ := row4T A1.out.bx
  go_wp2_with fail
  refine (rmask_any r s n p c L pl set ((k : Int) + 1) w6 A1.out.all hm).mono ?_
  rintro e w7 ⟨rfl, hg⟩
  rw [HF.out]
  have A2 := Lib.hid (A1.out.keep hg)
  have HS := Lib.hid (HSM.out ((k : Int) + 1))
  clear hg A1 d0 d1 d2 d3
  by_cases hz : (f ((k : Int) + 1)).getD 0 = 0
  case pos =>
    have HE : Hid (tsK f (k + 1) = tsK f k) := Lib.hid (tsK_no (by
      cases hs : (f ((k : Int) + 1)).isSome with
      | false => rfl
      | true => exact absurd hz (HS.out.1 hs)))
    rw [hz]
    clear hz HS
    go_wp2_with fail
    exact ⟨⟨k + 1, po, co, by omega, congrArg _ (by omega), by rw [HE.out], by rw [HE.out]; exact A2⟩, by simp only [RowKit.intOf]; omega⟩
  have hz' : ((((f ((k : Int) + 1)).getD 0 : Nat) : Int) != 0) = true := by simpa using hz
  have HE : Hid (mdL f (tsK f (k + 1)) = mdL f (tsK f k) ++ [⟨(k : Int) + 1, (f ((k : Int) + 1)).getD 0⟩]) := Lib.hid (by
    rw [tsK_yes (HS.out.2 hz)]
    unfold mdL
    rw [List.map_append]; rfl)
  have hMl : (mdL f (tsK f k)).length ≤ 99 := by rw [mdL_len]; exact Nat.le_trans (tsK_len f k) (by omega)
  have HU := Lib.hid (HOK.out.getD ((k : Int) + 1))
  clear hz HS
  obtain ⟨M, hM⟩ : ∃ M, mdL f (tsK f k) = M := ⟨_, rfl⟩
  obtain ⟨M2, hM2⟩ : ∃ M2, mdL f (tsK f (k + 1)) = M2 := ⟨_, rfl⟩
  obtain ⟨d, hd⟩ : ∃ d, (f ((k : Int) + 1)).getD 0 = d := ⟨_, rfl⟩
  obtain ⟨x, hx⟩ : ∃ x, (k : Int) + 1 = x := ⟨_, rfl⟩
  rw [hd] at HE HU hz' ⊢
  rw [hM] at A2 HE hMl ⊢
  rw [hM2] at HE
  rw [hx] at HE ⊢
  have HM2 := Lib.hid hM2
  have HX := Lib.hid hx
  have HO2 := Lib.hid A2.out.own
  have hsz : C ≤ w7.heap.size := A2.out.lo.2
  clear hM hM2 hd hx
  go_wp2_with (at_builtin; refine hold_on ?_)
  refine Lib.hid ?_
  refine wpList_append_lies _ rfl _ _ 86 rfl C 90 ie (.agg #[.int .i64 0, .int .u64 0]) 2 16 Tryz.underlying86 hie he0 he1 he2 rfl (by decide) (.slice po M.length co) M.length (M.flatMap mdC) rfl (HO2.out.alloc _) ⟨w7.heap.size, 0, none⟩ 1 1 [.int .i64 x, .int .u64 (d : Int)] rfl rfl (md_row w7 x d _) (md_one ⟨x, d⟩) (by decide) (by unfold maxLen; omega) (by omega) (by simp; omega) _ rfl ?_
  intro g cap w8 hown hgrow hat hlt8
  have A3 := Lib.hid ((A2.out.keep (World.grownBy_alloc _ _ none)).put (M2 := M ++ [(⟨x, d⟩ : Md)]) (by rw [List.length_append, List.flatMap_append]; simpa [mdC] using hown) hgrow)
  rw [← HE.out] at A3
  have HL : Hid (M.length + 1 = M2.length) := Lib.hid (by rw [HE.out, List.length_append]; rfl)
  rw [HL.out] at A3 ⊢
  clear hown hgrow hat hlt8 HO2 A2 hsz HL HE HU hMl
  have hx9 : x ≤ 99 := by rw [← HX.out]; exact hlt'
  have hx0 : 1 ≤ x := by rw [← HX.out]; omega
  go_wp2_with fail
  exact ⟨⟨k + 1, some ⟨g, 0, none⟩, cap, by omega, congrArg _ (by rw [← HX.out]; omega), by rw [HM2.out], by rw [HM2.out]; exact A3⟩, by simp only [RowKit.intOf]; have := HX.out; omega⟩
end Go.Proofs.YtgofadmncgmhoaaGreat

/- masks: Reach. -/
namespace Go.Proofs.YtgofadmncgmhoaaGreat
open Go.RowKit Go.Maps Bs
/-- R is all the bits of f. -/
def RcO (f : Int → Option Nat) (R : Nat) : Prop := ∀ j, R.testBit j = true ↔ ∃ u, ((f u).getD 0).testBit j = true
set_option maxRecDepth 100000 in
theorem RcO.uniq {f : Int → Option Nat} {R S : Nat} (h : RcO f R) (k : RcO f S) : R = S :=
  Nat.eq_of_testBit_eq fun j => by rw [Bool.eq_iff_iff, h j, k j]
/-- R is the bits of the keys that have been. -/
def RcL (f : Int → Option Nat) (left : Lit → Bool) (R : Nat) : Prop := ∀ j, R.testBit j = true ↔ ∃ u, left (kM u) = false ∧ ((f u).getD 0).testBit j = true
set_option maxRecDepth 100000 in
theorem kM_same {x y : Int} : (kM y).sameKey (kM x) = decide (y = x) := by
  by_cases h : y = x
  · subst h
    rw [decide_eq_true rfl]
    unfold kM
    simp [Lit.sameKey]
  · rw [decide_eq_false h]
    exact sameKey_ne (kM_ne h)
set_option maxRecDepth 100000 in
theorem RcL.start {D : DataW Unit} {f : Int → Option Nat} (h : MU D f) : RcL f (Maps.has D) 0 := by
  intro j
  rw [Nat.zero_testBit]
  constructor
  · intro h0; cases h0
  · rintro ⟨u, h1, h2⟩
    rw [h.hs] at h1
    cases hf : f u with
    | none => rw [hf] at h2; simp at h2
    | some d => rw [hf] at h1; cases h1
set_option maxRecDepth 100000 in
theorem RcL.done {f : Int → Option Nat} {left : Lit → Bool} {R : Nat} (h : RcL f left R) (hl : ∀ z, left z = false) : RcO f R := fun j => (h j).trans ⟨fun ⟨u, _, h2⟩ => ⟨u, h2⟩, fun ⟨u, h2⟩ => ⟨u, hl _, h2⟩⟩
set_option maxRecDepth 100000 in
theorem RcL.step {f : Int → Option Nat} {left : Lit → Bool} {R : Nat} (h : RcL f left R) (x : Int) : RcL f (fun z => left z && !z.sameKey (kM x)) (R ||| (f x).getD 0) := by
  intro j
  rw [Nat.testBit_or, Bool.or_eq_true, h j]
  constructor
  · rintro (⟨u, h1, h2⟩ | h2)
    · exact ⟨u, by simp [h1], h2⟩
    · exact ⟨x, by simp [kM_same], h2⟩
  · rintro ⟨u, h1, h2⟩
    by_cases e : u = x
    · subst e; exact Or.inr h2
    · refine Or.inl ⟨u, ?_, h2⟩
      simpa [kM_same, e] using h1
set_option maxRecDepth 100000 in
set_option maxHeartbeats 6400000 in
theorem mreach_any (r s n : Int) (p : Option Addr) (c : Nat) (L : List Rw) (set : Int) (w : World) (hR : RdW w (· < w.heap.size) p c L) (hm : L.length ≤ 9223372036854775807) :
    Calls Tryz.prog 55 #[.agg #[.int .i64 r, .int .i64 s, .int .i64 n, .slice p L.length c], .int .i64 set] w fun e w' => ∃ R : Nat, e = .returned (.int .u64 (R : Int)) ∧ RcO (coF r s n L 0 set) R ∧ w.grownBy w' none := by
  have H0 := Lib.hid (bx_start (r := r) (s := s) (n := n) hR)
  clear hR
  go_enter Tryz.func55, Tryz.ntmps55
  go_upto_region 1 with fail
  generalize w.alloc _ = w1 at *
  obtain ⟨d0, d1, d2, d3⟩ := row4T H0.out.bx
  go_wp2_with fail
  refine (mcollect_any r s n p c L 0 set w1 H0.out.rd hm).mono ?_
  rintro e w4 ⟨rfl, ⟨N, hN, D, hown, hmf⟩, hg⟩
  have HG := Lib.hid (grown_trans H0.out.gr hg)
  have HW0 : Hid (w.heap.size ≤ w4.heap.size) := Lib.hid HG.out.size
  have HMF := Lib.hid hmf
  obtain ⟨f, hf⟩ : ∃ f, coF r s n L 0 set = f := ⟨_, rfl⟩
  have HF := Lib.hid hf
  have HOK : Hid (ColOk f) := Lib.hid (by rw [← hf]; exact coF_ok r s n L 0 set)
  rw [hf] at HMF hmf
  clear hg H0 d0 d1 d2 d3 hf
  generalize w1.heap.size + 1 = b at *
  have HL0 := Lib.hid (RcL.start hmf)
  clear hmf
  go_wp2_with (first
    | (at_range; refine wpList_range_own _ rfl _ 132 rfl 3 81 lawM Tryz.underlying132 _ b N _ rfl hown ?_; intro w5 hrg0 hg0 hs0)
    | fail)
  go_frame
  obtain ⟨q, hq⟩ : ∃ q, w4.heap.size = q := ⟨_, rfl⟩
  (try rw [hq] at hrg0)
  (try rw [hq])
  rw [hq] at HW0
  have HG5 := Lib.hid (grown_trans HG.out hg0)
  have HR0 := Lib.hid hrg0
  clear hrg0 hg0 hs0 hown HG hq
  go_loopw [5] (fun o wr => ∃ (left : Lit → Bool) (cn R : Nat), o = .int .u64 (R : Int) ∧ Hid (U64 R ∧ RcL f left R) ∧ Hid (wr.ranges Tryz.prog 3 (plainElem Tryz.prog 81) b q N D left cn) ∧ Hid (w.grownBy wr none)) (fun _ wr => wr.rangeLeft b q)
  case atStart => exact ⟨_, _, 0, rfl, Lib.hid ⟨u64_mk (by decide), HL0.out⟩, HR0, HG5⟩
  case round =>
  obtain ⟨w6, rfl⟩ : ∃ w6, w6 = wr := ⟨_, rfl⟩
  obtain ⟨left, cn, R, rfl, HL, HR, HG6⟩ := hrel
  clear HR0 HG5 HL0
  have hrg := HR.out
  have HUR := HL.out.1
  go_wp2_with (first
    | (at_next; refine wpList_next_ranges_ii _ rfl _ rfl 3 81 .i64 .u64 lawM Tryz.underlying3 Tryz.underlying81 b q N _ _ _ rfl hrg ?_ ?_)
    | fail)
  · intro hc0 hl0
    have HO := Lib.hid (HL.out.2.done hl0)
    clear hl0 hc0 hrg HR
    go_wp2_with fail
    go_ret
    exact ⟨R, rfl, by rw [HF.out]; exact HO.out, HG6.out⟩
  · intro x d w7 cnt1 hwx hwc hlx hat hrg1 hlt1 hg1 hs1 hen
    obtain rfl : d = (((f x).getD 0 : Nat) : Int) := by
      have h3 := HMF.out.at1_ x
      unfold kM at h3
      rw [hat] at h3
      injection h3 with h3
      injection h3 with _ h3
    have HU := HOK.out.getD x
    have HS := Lib.hid (And.intro (Nat.or_lt_two_pow (n := 64) HUR HU) (HL.out.2.step x))
    have HG7 := Lib.hid (grown_new HG6.out hg1 HW0.out)
    have hmeas : w7.rangeLeft b q < w6.rangeLeft b q := by rw [hrg1.left_eq, hrg.left_eq]; exact hlt1
    have HR7 := Lib.hid hrg1
    have HOR := Lib.hid (orU R ((f x).getD 0) HUR HU)
    clear hat hg1 hs1 hlx hrg hrg1 HR
    go_wp2_with fail
    exact ⟨⟨_, _, R ||| (f x).getD 0, congrArg _ HOR.out, HS, HR7, HG7⟩, hmeas⟩
set_option maxRecDepth 100000 in
theorem RcO_list {f : Int → Option Nat} {ts : List Int} (h : AscM f ts) : ∀ k R, (∀ j, R.testBit j = true ↔ ∃ u ∈ ts.take k, ((f u).getD 0).testBit j = true) → k = ts.length → RcO f R := by
  rintro k R hr rfl j
  rw [hr j, List.take_length]
  constructor
  · rintro ⟨u, -, h2⟩; exact ⟨u, h2⟩
  · rintro ⟨u, h2⟩
    refine ⟨u, (h.mem u).2 ?_, h2⟩
    cases hf : f u with
    | none => rw [hf] at h2; simp at h2
    | some d => rfl
set_option maxRecDepth 100000 in
set_option maxHeartbeats 6400000 in
theorem rreach_any (r s n : Int) (p : Option Addr) (c : Nat) (L : List Rw) (set : Int) (w : World) (hR : RdW w (· < w.heap.size) p c L) (hm : L.length ≤ 9223372036854775807) :
    Calls Tryz.prog 56 #[.agg #[.int .i64 r, .int .i64 s, .int .i64 n, .slice p L.length c], .int .i64 set] w fun e w' => ∃ R : Nat, e = .returned (.int .u64 (R : Int)) ∧ RcO (coF r s n L 0 set) R ∧ w.grownBy w' none := by
  have H0 := Lib.hid (bx_start (r := r) (s := s) (n := n) hR)
  clear hR
  go_enter Tryz.func56, Tryz.ntmps56
  go_upto_region 1 with fail
  generalize w.alloc _ = w1 at *
  obtain ⟨d0, d1, d2, d3⟩ := row4T H0.out.bx
  go_wp2_with fail
  refine (rall12_any r s n p c L 0 set w1 H0.out.rd hm).mono ?_
  rintro e w4 ⟨ts, po, co, rfl, hA, hown, hg⟩
  obtain ⟨f, hf⟩ : ∃ f, coF r s n L 0 set = f := ⟨_, rfl⟩
  have HF := Lib.hid hf
  have HOK : Hid (ColOk f) := Lib.hid (by rw [← hf]; exact coF_ok r s n L 0 set)
  rw [hf] at hA hown
  (try rw [hf])
  have hlen := ascM_len hA HOK.out
  have HA := Lib.hid hA
  have HR := Lib.hid (rdf_of_own hown)
  have HG := Lib.hid (grown_trans H0.out.gr hg)
  have HML : Hid ((mdL f ts).length = ts.length) := Lib.hid (mdL_len f ts)
  have hln : (mdL f ts).length ≤ 99 := by rw [HML.out]; exact hlen
  clear hf hA hown hg H0 d0 d1 d2 d3
  obtain ⟨M, hM⟩ : ∃ M, mdL f ts = M := ⟨_, rfl⟩
  have HM := Lib.hid hM
  rw [hM] at HR HML hln ⊢
  clear hM
  go_wp2_with fail
  go_loopw [6, 7] (fun o a wr => ∃ (k R : Nat), k ≤ M.length ∧ a = .int .i64 (k : Int) ∧ o = .int .u64 (R : Int) ∧ Hid (U64 R ∧ ∀ j, R.testBit j = true ↔ ∃ u ∈ ts.take k, ((f u).getD 0).testBit j = true) ∧ Hid (w4.grownBy wr none)) (fun _ a _ => M.length - (RowKit.intOf a).toNat)
  case atStart => exact ⟨0, 0, Nat.zero_le _, rfl, rfl, Lib.hid ⟨u64_mk (by decide), fun j => by simp⟩, Lib.hid (grown_refl _ _)⟩
  case round =>
  obtain ⟨k, R, hk, rfl, rfl, HB, G⟩ := hrel
  obtain ⟨w6, rfl⟩ : ∃ w6, w6 = wr := ⟨_, rfl⟩
  have HUR := HB.out.1
  by_cases hlt : k < M.length
  case neg =>
    obtain rfl : k = M.length := by omega
    have hnl : ¬ (M.length : Int) < (M.length : Int) := by omega
    have HO := Lib.hid (RcO_list HA.out _ R HB.out.2 HML.out)
    go_wp2_with fail
    go_ret
    exact ⟨R, rfl, by rw [HF.out]; exact HO.out, grown_trans HG.out G.out⟩
  have hlt' : (k : Int) < (M.length : Int) := by omega
  obtain ⟨u, hu⟩ : ∃ u, ts[k]? = some u := ⟨_, List.getElem?_eq_getElem (by rw [← HML.out]; exact hlt)⟩
  have hmk : M[k]? = some ⟨u, (f u).getD 0⟩ := by rw [← HM.out]; unfold mdL; rw [List.getElem?_map, hu]; rfl
  obtain ⟨-, b, off, rfl, -, hc⟩ := RdF.cells (f := mdC) (k := 2) (fun _ => rfl) (by decide) HR.out (by omega)
  have a1 := G.out.cell (hc k _ hmk 1 _ rfl) (by simp)
  have HU := HOK.out.getD u
  have HOR := Lib.hid (orU R ((f u).getD 0) HUR HU)
  have HB2 : Hid (U64 (R ||| (f u).getD 0) ∧ ∀ j, (R ||| (f u).getD 0).testBit j = true ↔ ∃ y ∈ ts.take (k + 1), ((f y).getD 0).testBit j = true) := Lib.hid ⟨Nat.or_lt_two_pow (n := 64) HUR HU, fun j => by
    rw [Nat.testBit_or, Bool.or_eq_true, HB.out.2 j, List.take_add_one, hu]
    simp only [Option.toList_some, List.mem_append, List.mem_singleton]
    constructor
    · rintro (⟨y, h1, h2⟩ | h2)
      · exact ⟨y, Or.inl h1, h2⟩
      · exact ⟨u, Or.inr rfl, h2⟩
    · rintro ⟨y, h1 | rfl, h2⟩
      · exact Or.inl ⟨y, h1, h2⟩
      · exact Or.inr h2⟩
  clear hc hu hmk HB
  go_wp2_with fail
  exact ⟨⟨k + 1, R ||| (f u).getD 0, by omega, congrArg _ (by omega), congrArg _ HOR.out, HB2, G⟩, by simp only [RowKit.intOf]; omega⟩
end Go.Proofs.YtgofadmncgmhoaaGreat
