/- Parts of the proof, packed: TaTpM, TaTap, MaPln, MaLay, MaSrt, MaAll, MaAwk, MaMsk, MaUsM, TaBnM. -/
import Derived.Test.YtahafijpcmphaaaGreatQc21
import Derived.Test.YtahafijpcmphaaaGreatQc22
import Derived.Test.YtahafijpcmphaaaGreatQc10
import Derived.Test.YtahafijpcmphaaaGreatQc15
import Derived.Deep.AppendLies
import Derived.Laws.StructEq
import Derived.Test.YtahafijpcmphaaaGreatQc18
import Derived.Test.YtahafijpcmphaaaGreatQc1
import Derived.Test.YtahafijpcmphaaaGreatQc17
/- tables: what the tape's Table keeps in memory. -/
namespace Go.Proofs.YtahafijpcmphaaaGreat
set_option maxRecDepth 100000
open Go.RowKit Bs
theorem tg_of_ownT {w : World} {base : Nat} {vR vL : Value} {R : List Rt} {L : List Lk} (hR : w.ownsRow base 92 2 vR R.length (R.flatMap rtC)) (hL : w.ownsRow base 94 5 vL L.length (L.flatMap lkC)) :
  ∃ pR cR pL cL, vR = .slice pR R.length cR ∧ vL = .slice pL L.length cL ∧ TgOk w (fun b => base ≤ b ∧ b < w.heap.size) ⟨R, L, pR, cR, pL, cL⟩ := by
 obtain ⟨pR, cR, rfl, h1, h2⟩ := own_shape hR
 obtain ⟨pL, cL, rfl, h3, h4⟩ := own_shape hL
 exact ⟨pR, cR, pL, cL, rfl, rfl, rdf_of_own2 hR, rdf_of_own2 hL, ⟨h1, h2⟩, ⟨h3, h4⟩⟩
structure TT (a : Nat) (W : World) (B : Nat) (T : Tg) (w : World) : Prop where
 rs : w.heap[W.heap.size]? = some (.cells #[.int .i64 0, .int .i64 0, .int .i64 0, .slice none 0 0] 25 (0, 0))
 bT : w.heap[B]? = some (.cells #[.slice T.pR T.R.length T.cR, .slice T.pL T.L.length T.cL] 45 (0, 0))
 t : TgOk w (fun b => W.heap.size + 1 ≤ b ∧ b < B) T
 st : St a W w
 lo : W.heap.size + 1 ≤ B ∧ B < w.heap.size
theorem TT.keep {a : Nat} {W : World} {B : Nat} {T : Tg} {w w1 : World} (h : TT a W B T w) (g : w.grownBy w1 none) : TT a W B T w1 :=
 ⟨kept_row h.rs g (by simp), kept_row h.bT g (by simp), h.t.keep g, h.st.none_ g, h.lo.1, Nat.lt_of_lt_of_le h.lo.2 g.size⟩
theorem TT.tape {a : Nat} {W : World} {B : Nat} {T : Tg} {w w1 : World} (h : TT a W B T w) (ha : a < W.heap.size) (k : St a w w1) : TT a W B T w1 := by
 have hlo := h.lo
 have hn : ∀ b, W.heap.size ≤ b → some b ≠ some a := fun b hb e => by have := Option.some.inj e; omega
 exact ⟨kept_row h.rs k.1 (hn _ (Nat.le_refl _)), kept_row h.bT k.1 (hn _ (by omega)), h.t.grown k.1 (fun b hb => hn _ (by omega)), h.st.trans k, h.lo.1, Nat.lt_of_lt_of_le h.lo.2 k.1.size⟩
structure TW (a : Nat) (W : World) (C : Nat) (v : Value) (Ts : List Tb) (w : World) : Prop where
 rs : w.heap[W.heap.size]? = some (.cells #[.int .i64 0, .int .i64 0, .int .i64 0, .slice none 0 0] 25 (0, 0))
 own : w.ownsRow C 25 4 v Ts.length (Ts.flatMap tbC)
 tabs : ∀ x ∈ Ts, TbX C w v x
 st : St a W w
 lo : W.heap.size + 1 ≤ C ∧ C ≤ w.heap.size
theorem TbX.tape {a lo : Nat} {w w1 : World} {v : Value} {x : Tb} (h : TbX lo w v x) (hl : a < lo) (g : w.grownBy w1 (some a)) : TbX lo w1 v x := h.over g (fun b hb e => by omega)
theorem TW.tape {a : Nat} {W : World} {C : Nat} {v : Value} {Ts : List Tb} {w w1 : World} (h : TW a W C v Ts w) (ha : a < W.heap.size) (k : St a w w1) : TW a W C v Ts w1 := by
 have hlo := h.lo
 exact ⟨kept_row h.rs k.1 (fun e => by have := Option.some.inj e; omega), own_otherL h.own k.1 (by omega), fun x hx => (h.tabs x hx).tape (by omega) k.1, h.st.trans k, h.lo.1, Nat.le_trans h.lo.2 k.1.size⟩
def TabPost0 (a : Nat) (w : World) (e : Ending) (w' : World) : Prop :=
 ∃ (r s n : Int) (L : List Rw) (p : Option Addr) (c : Nat), e = .returned (.agg #[.int .i64 r, .int .i64 s, .int .i64 n, .slice p L.length c]) ∧ OwnT w.heap.size w' (.slice p L.length c) L ∧ ckT r s n L = 0 ∧ St a w w'
def TabPost (a : Nat) (w : World) (e : Ending) (w' : World) : Prop :=
 ∃ (r s n : Int) (L : List Rw) (p : Option Addr) (c : Nat), e = .returned (.agg #[.int .i64 r, .int .i64 s, .int .i64 n, .slice p L.length c]) ∧ RdW w' (fun b => w.heap.size ≤ b ∧ b < w'.heap.size) p c L ∧ (p = none → c = 0) ∧ (L.length ≤ c ∧ c ≤ 9223372036854775807) ∧ (∀ y ∈ L, y.p = none → y.c = 0) ∧ I64 r ∧ L.length ≤ 200 ∧ (∀ y ∈ L, y.nx.length ≤ 200) ∧ St a w w'
theorem rows_len {s n : Int} {E : List Ed} (h : vPl s n E = true) : E.length ≤ 24 := by
 unfold vPl at h
 simp only [Bool.and_eq_true, decide_eq_true_eq] at h
 omega
end Go.Proofs.YtahafijpcmphaaaGreat

/- tables: the tape's Table without mistakes. -/
namespace Go.Proofs.YtahafijpcmphaaaGreat
set_option maxRecDepth 100000
open Go.RowKit Bs
set_option maxHeartbeats 6400000 in
theorem ttab0_any (a : Nat) (n0 : Int) (hn0 : n0 ≤ 0) (hn1 : I64 n0) (w : World) (hT : Tp w a) :
  Calls Tryz.prog 11 #[.pointer (some ⟨a, 0, none⟩), .int .i64 n0] w fun e w' => TabPost0 a w e w' := by
 have ha := hT.lt
 have HA := Lib.hid ha
 obtain ⟨k1, k2⟩ := tone_box w #[.int .i64 0, .int .i64 0, .int .i64 0, .slice none 0 0] 25
 have HB := Lib.hid (And.intro k1 (And.intro k2 (And.intro (hT.keep k2) (by simp : (w.alloc (.cells #[.int .i64 0, .int .i64 0, .int .i64 0, .slice none 0 0] 25)).heap.size = w.heap.size + 1))))
 clear k1 k2 hT ha
 go_enter Tryz.func11, Tryz.ntmps11
 go_upto_region 1 with fail
 generalize w.alloc _ = wa at *
 go_wp2_with fail
 refine (mixed_any a 6 (by omega) (by omega) wa HB.out.2.2.1).mono ?_
 rintro e w1 ⟨R0, R, L0, vR, vL, rfl, hR, hL, hO, hid, hs⟩
 obtain ⟨pR, cR, pL, cL, rfl, rfl, hTg⟩ := tg_of_ownT hR hL
 have hlen : R.length = R0.length := by have := congrArg List.length hid; simpa using this
 have hck := (hO.2.2.2.2 (Int.le_refl 0)).1
 have hR6 : R.length ≤ 6 := by have := (hO.2.2.2.2 (Int.le_refl 0)).2; omega
 have HOK : Hid (chk R L0 = 0) := Lib.hid (by rw [chk_idsT hid]; exact hck)
 obtain ⟨b1, g1⟩ := tone_box w1 #[.slice pR R.length cR, .slice pL L0.length cL] 45
 have H1 : Hid (TT a w w1.heap.size ⟨R, L0, pR, cR, pL, cL⟩ (w1.alloc (.cells #[.slice pR R.length cR, .slice pL L0.length cL] 45))) := Lib.hid (by
  have hh := HB.out
  have hz := hh.2.2.2
  have hsz := hs.1.size
  exact ⟨kept_row (kept_row hh.1 hs.1 (fun e => by have := Option.some.inj e; have := HA.out; omega)) g1 (by simp), b1, (hTg.keep g1).mono (fun b hb => ⟨by have := hb.1; omega, hb.2⟩), (show St a w w1 from ⟨grown_trans (grown_none hh.2.1 _) hs.1, hs.2⟩).none_ g1, by omega, by simp⟩)
 clear hR hL hO hid hs hTg hck hlen b1 g1 HB
 go_upto_region 2 with fail
 generalize w1.alloc _ = w2 at *
 generalize w1.heap.size = B at *
 obtain ⟨t0, t1⟩ := row_cells H1.out.bT
 go_wp2_with fail
 refine (tplan_any a 0 (by unfold I64; omega) R pR pL cR L0.length cL (by omega) w2 H1.out.st.2 (H1.out.t.r.mono (fun b hb => ⟨by have := hb.1; have := HA.out; omega, by have := hb.2; have := H1.out.lo; omega⟩))).mono ?_
 rintro e w3 ⟨sub, len, E, pE, cE, rfl, hE, -, hgood, hs⟩
 obtain ⟨hg1, hg2, O, i, id, hO, hP⟩ := hgood (Int.le_refl 0)
 have hsub : inV sub 0 7 = true := by unfold inV at hg1 ⊢; simp only [decide_eq_true_eq] at hg1 ⊢; omega
 have HVP := Lib.hid (hP.valid HOK.out hO hsub hg2).1
 obtain ⟨b3, g3⟩ := tone_box w3 #[.int .i64 sub, .int .i64 len, .slice pE E.length cE] 48
 have H3 := Lib.hid (And.intro ((H1.out.tape HA.out hs).keep g3) (And.intro (kept_row b3 (grown_refl _ none) (by simp)) ((rdf_of_own hE).keep g3)))
 clear hE hgood hg1 hg2 hO hP hsub hs b3 g3 t0 t1 H1
 go_upto_region 3 with fail
 generalize w3.alloc _ = w4 at *
 generalize w3.heap.size = Bp at *
 obtain ⟨t0, t1⟩ := row_cells H3.out.1.bT
 obtain ⟨q0, q1, q2⟩ := row3B H3.out.2.1
 have hE24 := rows_len HVP.out
 go_wp2_with fail
 refine (rall11_any ⟨R, L0, pR, cR, pL, cL⟩ sub len E pE cE _ _ w4 H3.out.1.t H3.out.2.2 (by omega)).mono ?_
 rintro e w5 ⟨Ts, p, c, er, rfl, hres, hown, htab, hg⟩
 have hT5 := H3.out.1.keep hg
 have hsz4 := H3.out.1.lo
 have K5 : Hid (TW a w w4.heap.size (.slice p Ts.length c) Ts w5) := Lib.hid ⟨hT5.rs, hown, htab, hT5.st, by omega, hg.size⟩
 have hok : okT R L0 = true := by unfold okT; simpa using HOK.out
 have HM : Hid (AllM R L0 sub len E R Ts) := Lib.hid (by
  rcases hres with h | h
  ·exact h.2.2.2
  ·exact absurd ⟨hok, HVP.out⟩ h.2.1)
 have hTl : Ts.length ≤ 6 := Nat.le_trans HM.out.len hR6
 have HOKT := Lib.hid hok
 clear hres hown htab hg hT5 hok H3 t0 t1 q0 q1 q2 hsz4 HOK
 simp only
 obtain ⟨C, hC⟩ : ∃ C, w4.heap.size = C := ⟨_, rfl⟩
 rw [hC] at K5
 clear hC
 by_cases h0 : Ts.length = 0
 case pos =>
  have h0' : ((Ts.length : Int) == 0) = true := by simpa using h0
  obtain ⟨z0, z1, z2, z3⟩ := row4T K5.out.rs
  have f0 := frozen_of_row _ _ 0 _ _ K5.out.rs
  have f1 := frozen_of_row _ _ 1 _ _ K5.out.rs
  have f2 := frozen_of_row _ _ 2 _ _ K5.out.rs
  have f3 := frozen_of_row _ _ 3 _ _ K5.out.rs
  have HT := Lib.hid (store4B (.int .i64 1) (.int .i64 0) (.int .i64 8) (.slice none 0 0) K5.out.rs)
  clear h0
  go_wp2_with fail
  refine bodyPost_ret (res_tabB rfl _ _ w.heap.size _ _ _ _ rfl HT.out.1) rfl ?_
  have hst := K5.out.st.storeT HT.out.2 (Nat.le_refl _) HA.out
  exact ⟨1, 0, 8, [], none, 0, rfl, OwnT.nil _ _, by decide, hst⟩
 have h0' : ((Ts.length : Int) == 0) = false := by simpa using h0
 clear h0'
 have h0'' : ¬ (Ts.length : Int) = 0 := by omega
 have h0' : ((Ts.length : Int) == 0) = false := by simpa using h0
 have hTl' : (Ts.length : Int) ≤ 6 := by omega
 clear h0
 go_wp2_with fail
 refine (next_any a (Ts.length : Int) (by unfold I64; omega) w5 K5.out.st.2).mono ?_
 rintro e w6 ⟨r, rfl, hr, hs⟩
 have K6 := Lib.hid (K5.out.tape HA.out hs)
 have hr2 : 0 ≤ r ∧ r < (Ts.length : Int) := by unfold CutOf at hr; omega
 clear hs hr K5
 obtain ⟨j, rfl⟩ : ∃ j : Nat, r = (j : Int) := ⟨r.toNat, by omega⟩
 have hj : j < Ts.length := by omega
 obtain ⟨x, hx⟩ : ∃ x, Ts[j]? = some x := ⟨_, List.getElem?_eq_getElem hj⟩
 obtain ⟨-, bt, ot, rfl, -, hc⟩ := tb_cells (rdf_of_own K6.out.own) (by omega)
 obtain ⟨a0, a1, a2, a3⟩ := hc j x hx
 have HX := Lib.hid (List.mem_of_getElem? hx)
 have hj1 : (j : Int) < (Ts.length : Int) := hr2.2
 have hj0 : (0 : Int) ≤ (j : Int) := hr2.1
 clear hc hx hr2 hj
 obtain ⟨HV1, HV2, HV3, -, HV5⟩ := all_valid HM.out HOKT.out HVP.out HX.out
 have HVB := Lib.hid (And.intro HV1 (And.intro HV2 (And.intro HV3 HV5)))
 have hxl : x.L.length ≤ 24 := by rw [HV5.1]; exact hE24
 have HXL := Lib.hid hxl
 have HNL : Hid (∀ y ∈ x.L, y.nx.length ≤ 24) := Lib.hid (by
  have hv := tab_valid HV5 HOKT.out (s := x.s) (n := x.n) (by rw [HV1, HV2]; exact HVP.out) HV3
  have h4 := (ck_ok hv).2.2.2.1
  intro y hy
  have := List.any_eq_false.1 h4 y hy
  unfold lgW at this
  simp only [decide_eq_true_eq] at this
  omega)
 clear HV1 HV2 HV3 HV5 hxl
 have hX := K6.out.tabs x HX.out
 go_wp2_with fail
 refine (copiedT_any x.r x.s x.n x.L x.p x.c _ w6 hX.rd hX.hy (by have := HXL.out; omega) (fun y hy => by have := HNL.out y hy; omega)).mono ?_
 rintro e w7 ⟨M, p2, c2, rfl, hO, hM, hg⟩
 have hM2 : ckT x.r x.s x.n M = 0 := tab_valid (bldM_congr HVB.out.2.2.2 hM) HOKT.out (by rw [HVB.out.1, HVB.out.2.1]; exact HVP.out) HVB.out.2.2.1
 have hro := ids_inT HOKT.out HVB.out.2.2.1
 have HM2 := Lib.hid (And.intro hM2 hro)
 have hMl : M.length ≤ 24 := by have := congrArg List.length hM; rw [List.length_map, List.length_map] at this; rw [this]; exact HXL.out
 have HML := Lib.hid hMl
 obtain ⟨b7, g7⟩ := tone_box w7 #[.int .i64 x.r, .int .i64 x.s, .int .i64 x.n, .slice p2 M.length c2] 25
 have hlo6 := K6.out.lo
 have K7 := Lib.hid (And.intro (kept_row (kept_row K6.out.rs hg (by simp)) g7 (by simp)) (And.intro b7 (And.intro ((hO.mono (lo2 := w.heap.size + 1) (by omega)).keep g7) (And.intro ((K6.out.st.none_ hg).none_ g7) (show w.heap.size + 1 ≤ w7.heap.size by have := hg.size; omega)))))
 have K7O := Lib.hid (And.intro (show ∀ b, (Value.slice p2 M.length c2).ownBlock = some b → b < w7.heap.size from fun b e => (hO.own.lt b e).2) (show ∀ y ∈ M, ∀ b, y.v.ownBlock = some b → b < w7.heap.size from fun y hy b e => ((hO.nx y hy).lt b e).2))
 clear hO hM hg hM2 hro hMl b7 g7 hlo6 hX K6 a0 a1 a2 a3 HX HVB HXL HNL HM hTl hTl' h0' h0'' hj0 hj1
 go_upto_region 7 with fail
 generalize w7.alloc _ = w8 at *
 generalize w7.heap.size = B9 at *
 generalize x.r = tr at *
 generalize x.s = ts at *
 generalize x.n = tn at *
 have hng : ¬ 0 < n0 := by omega
 obtain ⟨z0, z1, z2, z3⟩ := row4T K7.out.1
 obtain ⟨d0, d1, d2, d3⟩ := row4T K7.out.2.1
 have f0 := frozen_of_row _ _ 0 _ _ K7.out.1
 have f1 := frozen_of_row _ _ 1 _ _ K7.out.1
 have f2 := frozen_of_row _ _ 2 _ _ K7.out.1
 have f3 := frozen_of_row _ _ 3 _ _ K7.out.1
 have HT := Lib.hid (store4B (.int .i64 tr) (.int .i64 ts) (.int .i64 tn) (.slice p2 M.length c2) K7.out.1)
 go_wp2_with fail
 refine bodyPost_ret (res_tabB rfl _ _ w.heap.size _ _ _ _ rfl HT.out.1) rfl ?_
 have hst := K7.out.2.2.2.1.storeT HT.out.2 (Nat.le_refl _) HA.out
 exact ⟨tr, ts, tn, M, p2, c2, rfl, (K7.out.2.2.1.over HT.out.2 (by omega)).mono (by omega), HM2.out.1, hst⟩
end Go.Proofs.YtahafijpcmphaaaGreat

/- empty -/
namespace Go.Proofs.YtahafijpcmphaaaGreat
set_option maxRecDepth 100000
end Go.Proofs.YtahafijpcmphaaaGreat

/- empty -/
namespace Go.Proofs.YtahafijpcmphaaaGreat
set_option maxRecDepth 100000
end Go.Proofs.YtahafijpcmphaaaGreat

/- empty -/
namespace Go.Proofs.YtahafijpcmphaaaGreat
set_option maxRecDepth 100000
end Go.Proofs.YtahafijpcmphaaaGreat

/- empty -/
namespace Go.Proofs.YtahafijpcmphaaaGreat
set_option maxRecDepth 100000
end Go.Proofs.YtahafijpcmphaaaGreat

/- masks: the laws' example. -/
namespace Go.Proofs.YtahafijpcmphaaaGreat
set_option maxRecDepth 100000
open Go.RowKit Go.Maps Bs
theorem asc_same : ∀ {l m : List Int}, l.Pairwise (· < ·) → m.Pairwise (· < ·) → (∀ x, x ∈ l ↔ x ∈ m) → l = m
 | [], [], _, _, _ => rfl
 | [], b :: m, _, _, h => by have := (h b).2 (by simp); cases this
 | a :: l, [], _, _, h => by have := (h a).1 (by simp); cases this
 | a :: l, b :: m, hl, hm, h => by
  obtain ⟨h1, h2⟩ := List.pairwise_cons.1 hl
  obtain ⟨h3, h4⟩ := List.pairwise_cons.1 hm
  have e : a = b := by
   rcases List.mem_cons.1 ((h a).1 (by simp)) with e | e
   ·exact e
   ·rcases List.mem_cons.1 ((h b).2 (by simp)) with e2 | e2
    ·exact e2.symm
    ·have := h1 b e2; have := h3 a e; omega
  subst e
  refine congrArg _ (asc_same h2 h4 fun x => ⟨fun hx => ?_, fun hx => ?_⟩)
  ·rcases List.mem_cons.1 ((h x).1 (List.mem_cons_of_mem _ hx)) with e | e
   ·have := h1 x hx; omega
   ·exact e
  ·rcases List.mem_cons.1 ((h x).2 (List.mem_cons_of_mem _ hx)) with e | e
   ·have := h3 x hx; omega
   ·exact e
end Go.Proofs.YtahafijpcmphaaaGreat

/- empty -/
namespace Go.Proofs.YtahafijpcmphaaaGreat
set_option maxRecDepth 100000
end Go.Proofs.YtahafijpcmphaaaGreat

/- masks: what the laws over the tape's tables share. -/
namespace Go.Proofs.YtahafijpcmphaaaGreat
set_option maxRecDepth 100000
open Go.RowKit Bs
theorem own_rdw {lo : Nat} {w : World} {L : List Rw} {p : Option Addr} {c : Nat} (h : OwnT lo w (.slice p L.length c) L) : RdW w (· < w.heap.size) p c L ∧ (p = none → c = 0) ∧ (L.length ≤ c ∧ c ≤ 9223372036854775807) ∧ ∀ y ∈ L, y.p = none → y.c = 0 := by
 refine ⟨⟨(rdf_of_own2 h.own).mono (fun b hb => hb.2), fun x hx => ⟨(rd_of_own (h.nx x hx)).old, ?_⟩⟩, ?_, ?_, fun y hy hp => ?_⟩
 ·rcases own_formF (h.nx x hx) with ⟨e, h0⟩ | ⟨g, cap, e, h1, h2⟩
  ·unfold Rw.v at e; injection e with e1 e2 e3; exact ⟨by omega, by omega⟩
  ·unfold Rw.v at e; injection e with e1 e2 e3; exact ⟨by omega, by omega⟩
 ·intro hp
  rcases own_formF h.own with ⟨e, h0⟩ | ⟨g, cap, e, -⟩
  ·injection e
  ·injection e with e1; subst hp; cases e1
 ·rcases own_formF h.own with ⟨e, h0⟩ | ⟨g, cap, e, h1, h2⟩
  ·injection e with e1 e2 e3; subst e3; exact ⟨by omega, by omega⟩
  ·injection e with e1 e2 e3; subst e3; exact ⟨h1, h2⟩
 ·rcases own_formF (h.nx y hy) with ⟨e, h0⟩ | ⟨g, cap, e, -⟩
  ·unfold Rw.v at e; injection e
  ·unfold Rw.v at e; injection e with e1; rw [hp] at e1; cases e1
theorem own_rdw2 {lo : Nat} {w : World} {L : List Rw} {p : Option Addr} {c : Nat} (h : OwnT lo w (.slice p L.length c) L) : RdW w (fun b => lo ≤ b ∧ b < w.heap.size) p c L :=
 ⟨rdf_of_own2 h.own, fun x hx => ⟨(rd_and (rd_of_own (h.nx x hx))), ((own_rdw h).1.ok x hx).hc⟩⟩
theorem asc_ltI : ∀ E : List Int, ascB ltI E = true → E.Pairwise (· < ·)
 | [], _ => List.Pairwise.nil
 | [a], _ => List.pairwise_singleton _ _
 | a :: b :: t, h => by
  rw [ascB, Bool.and_eq_true] at h
  have ih := asc_ltI (b :: t) h.2
  have hab : a < b := of_decide_eq_true h.1
  refine List.pairwise_cons.2 ⟨fun y hy => ?_, ih⟩
  rcases List.mem_cons.1 hy with rfl | hy
  ·exact hab
  ·have := (List.pairwise_cons.1 ih).1 y hy; omega
theorem row_asc {r s n : Int} {L : List Rw} (h : ckT r s n L = 0) {x : Rw} (hx : x ∈ L) : x.nx.Pairwise (· < ·) ∧ x.nx.length ≤ 24 ∧ (∀ y ∈ x.nx, 1 ≤ y ∧ y ≤ 99) ∧ (1 ≤ x.id ∧ x.id ≤ 256) ∧ (1 < x.nx.length → r ∉ x.nx) := by
 obtain ⟨-, h2, -, h4, -, h6, h7⟩ := ck_ok h
 have a2 := List.any_eq_false.1 h2 x hx
 have a4 := List.any_eq_false.1 h4 x hx
 have a6 := List.any_eq_false.1 h6 x hx
 have a7 := List.any_eq_false.1 h7 x hx
 unfold wrW at a2
 simp only [Bool.not_eq_true, Bool.or_eq_false_iff, Bool.not_eq_false'] at a2
 unfold lgW at a4
 unfold dsW at a6
 simp only [Bool.not_eq_true, Bool.not_eq_false'] at a6
 unfold cfW at a7
 simp only [Bool.and_eq_true, decide_eq_true_eq, List.any_eq_true, not_and, not_exists] at a7
 simp only [decide_eq_true_eq] at a4
 refine ⟨asc_ltI x.nx a6, by omega, fun y hy => ?_, by have := a2.1; unfold inV at this; simpa using this, fun h1 hm => a7 h1 r hm rfl⟩
 have := List.any_eq_false.1 a2.2 y hy
 unfold inV at this
 simpa using this
end Go.Proofs.YtahafijpcmphaaaGreat

/- tables: a row that gets other next hops. -/
namespace Go.Proofs.YtahafijpcmphaaaGreat
set_option maxRecDepth 100000
open Go.RowKit Bs
theorem flat_setW : ∀ (M : List Rw) (k : Nat) (y x : Rw), M[k]? = some y → x.id = y.id → (M.flatMap rwC).set (k * 2 + 1) x.v = (M.set k x).flatMap rwC
 | [], k, _, _, h, _ => by simp at h
 | a :: t, 0, y, x, h, hi => by
  obtain rfl : a = y := by simpa using h
  simp [rwC, Rw.v, hi]
 | a :: t, k + 1, y, x, h, hi => by
  have ih := flat_setW t k y x (by simpa using h) hi
  rw [List.flatMap_cons, List.set_cons_succ, List.flatMap_cons, ← ih]
  rw [show rwC a = [Value.int .i64 a.id, .slice a.p a.nx.length a.c] from rfl]
  rw [show (k + 1) * 2 + 1 = k * 2 + 1 + 1 + 1 by omega]
  rfl
def InB (v : Value) (M : List Rw) (b : Nat) : Prop := v.ownBlock = some b ∨ ∃ y ∈ M, y.v.ownBlock = some b
theorem OwnT.ne {lo r : Nat} {w w1 : World} {v : Value} {M : List Rw} (h : OwnT lo w v M) (g : w.grownBy w1 (some r)) (hr : ¬ InB v M r) : OwnT lo w1 v M := by
 refine ⟨h.own.kept g ?_, fun x hx => (h.nx x hx).kept g ?_, h.ap, h.pw⟩
 ·cases hv : v.ownBlock with
  | none => exact .inl rfl
  | some b => exact .inr (fun e => hr (Or.inl (hv.trans e)))
 ·cases hv : x.v.ownBlock with
  | none => exact .inl rfl
  | some b => exact .inr (fun e => hr (Or.inr ⟨x, hx, hv.trans e⟩))
theorem OwnT.lt {lo : Nat} {w : World} {v : Value} {M : List Rw} (h : OwnT lo w v M) {b : Nat} (hb : InB v M b) : lo ≤ b ∧ b < w.heap.size := by
 rcases hb with hb | ⟨y, hy, hb⟩
 ·exact h.own.lt b hb
 ·exact (h.nx y hy).lt b hb
theorem OwnT.setR {lo k : Nat} {w w1 : World} {g c : Nat} {M : List Rw} {y x : Rw} (h : OwnT lo w (.slice (some ⟨g, 0, none⟩) M.length c) M) (hy : M[k]? = some y) (hi : x.id = y.id) (g1 : w.grownBy w1 y.v.ownBlock) (hx : w1.ownsRow lo 3 1 x.v x.nx.length (x.nx.map tv)) (hn : ∀ b, x.v.ownBlock = some b → y.v.ownBlock = some b ∨ w.heap.size ≤ b) :
  OwnT lo (w1.setCell ⟨g, k * 2 + 1, none⟩ x.v) (.slice (some ⟨g, 0, none⟩) M.length c) (M.set k x) := by
 have hk : k < M.length := (List.getElem?_eq_some_iff.1 hy).1
 have hym : y ∈ M := List.mem_of_getElem? hy
 have g2 : w1.grownBy (w1.setCell ⟨g, k * 2 + 1, none⟩ x.v) (some g) := grown_setCell _ _ _
 have hgo : (Value.slice (some ⟨g, 0, none⟩) M.length c).ownBlock = some g := rfl
 have hgl := (h.own.lt g hgo).2
 have hyl : ∀ z ∈ M, ∀ b, z.v.ownBlock = some b → b < w.heap.size := fun z hz b e => ((h.nx z hz).lt b e).2
 have hother : ∀ (j : Nat) (z : Rw), M[j]? = some z → j ≠ k → ∀ b, z.v.ownBlock = some b → y.v.ownBlock ≠ some b := fun j z hz hne b hb e => by
  obtain ⟨hj, hz2⟩ := List.getElem?_eq_some_iff.1 hz
  obtain ⟨hk2, hy2⟩ := List.getElem?_eq_some_iff.1 hy
  rcases Nat.lt_or_gt_of_ne hne with hlt | hlt
  ·have := List.pairwise_iff_getElem.1 h.pw j k hj hk hlt b (by rw [hz2]; exact hb)
   rw [hy2] at this; exact this e
  ·have := List.pairwise_iff_getElem.1 h.pw k j hk hj hlt b (by rw [hy2]; exact e)
   rw [hz2] at this; exact this hb
 have hxg : ∀ b, x.v.ownBlock = some b → b ≠ g := fun b hb e => by
  subst e
  rcases hn b hb with h1 | h1
  ·exact h.ap y hym b h1 hgo
  ·omega
 have hget : ∀ (j : Nat) (z : Rw), (M.set k x)[j]? = some z → (j = k ∧ z = x) ∨ (j ≠ k ∧ M[j]? = some z) := fun j z hz => by
  rw [List.getElem?_set] at hz
  by_cases e : k = j
  ·subst e
   rw [if_pos rfl, if_pos hk] at hz
   exact Or.inl ⟨rfl, (Option.some.inj hz).symm⟩
  ·rw [if_neg e] at hz
   exact Or.inr ⟨fun h => e h.symm, hz⟩
 have hown1 : w1.ownsRow lo 36 2 (.slice (some ⟨g, 0, none⟩) M.length c) M.length (M.flatMap rwC) := own_keptV h.own g1 (fun b hb e => h.ap y hym b e hb)
 refine ⟨?_, fun z hz => ?_, fun z hz b hb e => ?_, List.pairwise_iff_getElem.2 fun i j hi2 hj2 hij b hb e => ?_⟩
 ·have := (hown1.stored (k * 2 + 1) x.v).1
  rw [flat_setW M k y x hy hi] at this
  rw [List.length_set]
  exact this
 ·obtain ⟨j, hj, hz2⟩ := List.getElem_of_mem hz
  rcases hget j z (by rw [List.getElem?_eq_getElem hj, hz2]) with ⟨-, rfl⟩ | ⟨hne, hz3⟩
  ·exact hx.kept g2 (by
    cases hv : z.v.ownBlock with
    | none => exact .inl rfl
    | some b => exact .inr (fun e => hxg b hv (Option.some.inj e)))
  ·have hzm := List.mem_of_getElem? hz3
   exact (own_keptV (h.nx z hzm) g1 (hother j z hz3 hne)).kept g2 (by
    cases hv : z.v.ownBlock with
    | none => exact .inl rfl
    | some b => exact .inr (fun e => h.ap z hzm b hv (by rw [hgo, Option.some.inj e])))
 ·obtain ⟨j, hj, hz2⟩ := List.getElem_of_mem hz
  have hbg : g = b := Option.some.inj e
  rcases hget j z (by rw [List.getElem?_eq_getElem hj, hz2]) with ⟨-, rfl⟩ | ⟨hne, hz3⟩
  ·exact hxg b hb hbg.symm
  ·exact h.ap z (List.mem_of_getElem? hz3) b hb (by rw [hgo, hbg])
 ·have h1 := hget i _ (List.getElem?_eq_getElem hi2)
  have h2 := hget j _ (List.getElem?_eq_getElem hj2)
  rcases h1 with ⟨e1, e2⟩ | ⟨n1, m1⟩
  ·rcases h2 with ⟨e3, -⟩ | ⟨n2, m2⟩
   ·omega
   ·rw [e2] at hb
    rcases hn b hb with h3 | h3
    ·exact hother j _ m2 n2 b e h3
    ·have := hyl _ (List.mem_of_getElem? m2) b e; omega
  ·rcases h2 with ⟨e3, e4⟩ | ⟨n2, m2⟩
   ·rw [e4] at e
    rcases hn b e with h3 | h3
    ·exact hother i _ m1 n1 b hb h3
    ·have := hyl _ (List.mem_of_getElem? m1) b hb; omega
   ·obtain ⟨q1, z1⟩ := List.getElem?_eq_some_iff.1 m1
    obtain ⟨q2, z2⟩ := List.getElem?_eq_some_iff.1 m2
    exact List.pairwise_iff_getElem.1 h.pw i j q1 q2 hij b (by rw [z1]; exact hb) (by rw [z2]; exact e)
theorem inB_set {v : Value} {M : List Rw} {k b : Nat} {x : Rw} (h : InB v (M.set k x) b) : InB v M b ∨ x.v.ownBlock = some b := by
 rcases h with h | ⟨z, hz, h⟩
 ·exact Or.inl (Or.inl h)
 ·rcases List.mem_or_eq_of_mem_set hz with hz | rfl
  ·exact Or.inl (Or.inr ⟨z, hz, h⟩)
  ·exact Or.inr h
structure BN (a : Nat) (W : World) (lo C D : Nat) (od : Obj) (r s n : Int) (v : Value) (M : List Rw) (w : World) : Prop where
 bx : w.heap[C]? = some (.cells #[.int .i64 r, .int .i64 s, .int .i64 n, v] 25 (0, 0))
 rs : w.heap[C + 1]? = some (.cells #[.int .i64 0, .int .i64 0, .int .i64 0, .slice none 0 0] 25 (0, 0))
 own : OwnT lo w v M
 nb : ∀ b, InB v M b → b ≠ C ∧ b ≠ C + 1 ∧ b ≠ D
 ft : w.heap[D]? = some od
 dl : W.heap.size ≤ D ∧ D < C
 st : St a W w
 lo : a < W.heap.size ∧ W.heap.size ≤ lo ∧ lo ≤ C ∧ C + 1 < w.heap.size
theorem BN.keep {a lo C D : Nat} {od : Obj} {W : World} {r s n : Int} {v : Value} {M : List Rw} {w w1 : World} (h : BN a W lo C D od r s n v M w) (g : w.grownBy w1 none) : BN a W lo C D od r s n v M w1 :=
 ⟨kept_row h.bx g (by simp), kept_row h.rs g (by simp), h.own.keep g, h.nb, kept_row h.ft g (by simp), h.dl, h.st.none_ g, h.lo.1, h.lo.2.1, h.lo.2.2.1, Nat.lt_of_lt_of_le h.lo.2.2.2 g.size⟩
theorem BN.tape {a lo C D : Nat} {od : Obj} {W : World} {r s n : Int} {v : Value} {M : List Rw} {w w1 : World} (h : BN a W lo C D od r s n v M w) (k : St a w w1) : BN a W lo C D od r s n v M w1 := by
 have hl := h.lo
 have hd := h.dl
 exact ⟨kept_row h.bx k.1 (fun e => by have := Option.some.inj e; omega), kept_row h.rs k.1 (fun e => by have := Option.some.inj e; omega), h.own.over k.1 (by omega), h.nb, kept_row h.ft k.1 (fun e => by have := Option.some.inj e; omega), h.dl, h.st.trans k, hl.1, hl.2.1, hl.2.2.1, Nat.lt_of_lt_of_le hl.2.2.2 k.1.size⟩
theorem BN.box {a lo C D : Nat} {od : Obj} {W : World} {r s n r2 s2 n2 : Int} {v : Value} {M : List Rw} {w w1 : World} (h : BN a W lo C D od r s n v M w) (g : w.grownBy w1 (some C)) (hb : w1.heap[C]? = some (.cells #[.int .i64 r2, .int .i64 s2, .int .i64 n2, v] 25 (0, 0))) : BN a W lo C D od r2 s2 n2 v M w1 := by
 have hl := h.lo
 have hd := h.dl
 exact ⟨hb, kept_row h.rs g (fun e => by have := Option.some.inj e; omega), h.own.ne g (fun hi => (h.nb C hi).1 rfl), h.nb, kept_row h.ft g (fun e => by have := Option.some.inj e; omega), h.dl, h.st.storeT g (by omega) hl.1, hl.1, hl.2.1, hl.2.2.1, Nat.lt_of_lt_of_le hl.2.2.2 g.size⟩
end Go.Proofs.YtahafijpcmphaaaGreat
