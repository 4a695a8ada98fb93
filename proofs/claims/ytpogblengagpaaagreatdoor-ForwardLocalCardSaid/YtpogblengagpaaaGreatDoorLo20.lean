/- Parts of the proof, packed: TaTpM, TaTap, FwLoLaw. -/
import Derived.Test.YtpogblengagpaaaGreatDoorLo18
import Derived.Test.YtpogblengagpaaaGreatDoorLo19
import Derived.Test.YtpogblengagpaaaGreatDoorLo10
import Derived.Test.YtpogblengagpaaaGreatDoorLo15
import Derived.Test.YtpogblengagpaaaGreatDoorLo16
import Derived.Test.YtpogblengagpaaaGreatDoorLo7
/- tables: what the tape's Table keeps in memory. -/
namespace Go.Proofs.YtpogblengagpaaaGreatDoor
set_option maxRecDepth 100000
open Go.RowKit Bs
theorem tg_of_ownT {w : World} {base : Nat} {vR vL : Value} {R : List Rt} {L : List Lk} (hR : w.ownsRow base 105 2 vR R.length (R.flatMap rtC)) (hL : w.ownsRow base 135 5 vL L.length (L.flatMap lkC)) :
  ∃ pR cR pL cL, vR = .slice pR R.length cR ∧ vL = .slice pL L.length cL ∧ TgOk w (fun b => base ≤ b ∧ b < w.heap.size) ⟨R, L, pR, cR, pL, cL⟩ := by
 obtain ⟨pR, cR, rfl, h1, h2⟩ := own_shape hR
 obtain ⟨pL, cL, rfl, h3, h4⟩ := own_shape hL
 exact ⟨pR, cR, pL, cL, rfl, rfl, rdf_of_own2 hR, rdf_of_own2 hL, ⟨h1, h2⟩, ⟨h3, h4⟩⟩
structure TT (a : Nat) (W : World) (B : Nat) (T : Tg) (w : World) : Prop where
 rs : w.heap[W.heap.size]? = some (.cells #[.int .i64 0, .int .i64 0, .int .i64 0, .slice none 0 0] 25 (0, 0))
 bT : w.heap[B]? = some (.cells #[.slice T.pR T.R.length T.cR, .slice T.pL T.L.length T.cL] 68 (0, 0))
 t : TgOk w (fun b => W.heap.size + 1 ≤ b ∧ b < B) T
 st : St a W w
 lo : W.heap.size + 1 ≤ B ∧ B < w.heap.size
theorem TT.keep {a : Nat} {W : World} {B : Nat} {T : Tg} {w w1 : World} (h : TT a W B T w) (g : w.grownBy w1 none) : TT a W B T w1 :=
 ⟨kept_row h.rs g (by simp), kept_row h.bT g (by simp), h.t.keep g, h.st.none_ g, h.lo.1, Nat.lt_of_lt_of_le h.lo.2 g.size⟩
theorem TT.tape {a : Nat} {W : World} {B : Nat} {T : Tg} {w w1 : World} (h : TT a W B T w) (ha : a < W.heap.size) (k : St a w w1) : TT a W B T w1 := by
 have hlo := h.lo
 have hn : ∀ b, W.heap.size ≤ b → some b ≠ some a := fun b hb e => by have := Option.some.inj e; omega
 exact ⟨kept_row h.rs k.1 (hn _ (Nat.le_refl _)), kept_row h.bT k.1 (hn _ (by omega)), h.t.grown k.1 (fun b hb => hn _ (by omega)), h.st.trans k, h.lo.1, Nat.lt_of_lt_of_le h.lo.2 k.1.size⟩
structure TW (a : Nat) (W : World) (C : Nat) (v : Value) (Ts : List TbS) (w : World) : Prop where
 rs : w.heap[W.heap.size]? = some (.cells #[.int .i64 0, .int .i64 0, .int .i64 0, .slice none 0 0] 25 (0, 0))
 own : w.ownsRow C 25 4 v Ts.length (Ts.flatMap tbC)
 tabs : ∀ x ∈ Ts, TbX C w v x
 st : St a W w
 lo : W.heap.size + 1 ≤ C ∧ C ≤ w.heap.size
theorem TbX.tape {a lo : Nat} {w w1 : World} {v : Value} {x : TbS} (h : TbX lo w v x) (hl : a < lo) (g : w.grownBy w1 (some a)) : TbX lo w1 v x := h.over g (fun b hb e => by omega)
theorem TW.tape {a : Nat} {W : World} {C : Nat} {v : Value} {Ts : List TbS} {w w1 : World} (h : TW a W C v Ts w) (ha : a < W.heap.size) (k : St a w w1) : TW a W C v Ts w1 := by
 have hlo := h.lo
 exact ⟨kept_row h.rs k.1 (fun e => by have := Option.some.inj e; omega), own_otherL h.own k.1 (by omega), fun x hx => (h.tabs x hx).tape (by omega) k.1, h.st.trans k, h.lo.1, Nat.le_trans h.lo.2 k.1.size⟩
def TabPost0 (a : Nat) (w : World) (e : Ending) (w' : World) : Prop :=
 ∃ (r s n : Int) (L : List Rw) (p : Option Addr) (c : Nat), e = .returned (.agg #[.int .i64 r, .int .i64 s, .int .i64 n, .slice p L.length c]) ∧ OwnT w.heap.size w' (.slice p L.length c) L ∧ ckT r s n L = 0 ∧ St a w w'
theorem rows_len {s n : Int} {E : List Ed} (h : vPl s n E = true) : E.length ≤ 24 := by
 unfold vPl at h
 simp only [Bool.and_eq_true, decide_eq_true_eq] at h
 omega
end Go.Proofs.YtpogblengagpaaaGreatDoor

/- tables: the tape's Table without mistakes. -/
namespace Go.Proofs.YtpogblengagpaaaGreatDoor
set_option maxRecDepth 100000
open Go.RowKit Bs
set_option maxHeartbeats 6400000 in
theorem ttab0_any (a : Nat) (n0 : Int) (hn0 : n0 ≤ 0) (hn1 : I64 n0) (w : World) (hT : Tp w a) :
  Calls Tryz.prog 10 #[.pointer (some ⟨a, 0, none⟩), .int .i64 n0] w fun e w' => TabPost0 a w e w' := by
 have ha := hT.lt
 have HA := Lib.hid ha
 obtain ⟨k1, k2⟩ := tone_box w #[.int .i64 0, .int .i64 0, .int .i64 0, .slice none 0 0] 25
 have HB := Lib.hid (And.intro k1 (And.intro k2 (And.intro (hT.keep k2) (by simp : (w.alloc (.cells #[.int .i64 0, .int .i64 0, .int .i64 0, .slice none 0 0] 25)).heap.size = w.heap.size + 1))))
 clear k1 k2 hT ha
 go_enter Tryz.func10, Tryz.ntmps10
 go_upto_region 1 with fail
 generalize w.alloc _ = wa at *
 go_wp2_with fail
 refine (mixed_any a 6 (by omega) (by omega) wa HB.out.2.2.1).mono ?_
 rintro e w1 ⟨R0, R, L0, vR, vL, rfl, hR, hL, hO, hid, hs⟩
 obtain ⟨pR, cR, pL, cL, rfl, rfl, hTg⟩ := tg_of_ownT hR hL
 have hlen : R.length = R0.length := by have := congrArg List.length hid; simpa using this
 have hck := (hO.2.2.2.2 (Int.le_refl 0)).1
 have hR6 : R.length ≤ 6 := by have := (hO.2.2.2.2 (Int.le_refl 0)).2; omega
 have HOK : Hid (chk R L0 = 0) := Lib.hid (by rw [chk_idsT hid]; exact hck)
 obtain ⟨b1, g1⟩ := tone_box w1 #[.slice pR R.length cR, .slice pL L0.length cL] 68
 have H1 : Hid (TT a w w1.heap.size ⟨R, L0, pR, cR, pL, cL⟩ (w1.alloc (.cells #[.slice pR R.length cR, .slice pL L0.length cL] 68))) := Lib.hid (by
  have hh := HB.out
  have hz := hh.2.2.2
  have hsz := hs.1.size
  exact ⟨kept_row (kept_row hh.1 hs.1 (fun e => by have := Option.some.inj e; have := HA.out; omega)) g1 (by simp), b1, (hTg.keep g1).mono (fun b hb => ⟨by have := hb.1; omega, hb.2⟩), (show St a w w1 from ⟨grown_trans (grown_none hh.2.1 _) hs.1, hs.2⟩).none_ g1, by omega, by simp⟩)
 clear hR hL hO hid hs hTg hck hlen b1 g1 HB
 go_upto_region 2 with fail
 generalize w1.alloc _ = w2 at *
 generalize w1.heap.size = B at *
 obtain ⟨t0, t1⟩ := row_cells H1.out.bT
 go_wp2_with fail
 refine (tplan_any a 0 (by unfold I64; omega) R pR pL cR L0.length cL (by omega) w2 H1.out.st.2 (H1.out.t.r.mono (fun b hb => ⟨by have := hb.1; have := HA.out; omega, by have := hb.2; have := H1.out.lo; omega⟩))).mono ?_
 rintro e w3 ⟨sub, len, E, pE, cE, rfl, hE, -, hgood, hs⟩
 obtain ⟨hg1, hg2, O, i, id, hO, hP⟩ := hgood (Int.le_refl 0)
 have hsub : inV sub 0 7 = true := by unfold inV at hg1 ⊢; simp only [decide_eq_true_eq] at hg1 ⊢; omega
 have HVP := Lib.hid (hP.valid HOK.out hO hsub hg2).1
 obtain ⟨b3, g3⟩ := tone_box w3 #[.int .i64 sub, .int .i64 len, .slice pE E.length cE] 72
 have H3 := Lib.hid (And.intro ((H1.out.tape HA.out hs).keep g3) (And.intro (kept_row b3 (grown_refl _ none) (by simp)) ((rdf_of_own hE).keep g3)))
 clear hE hgood hg1 hg2 hO hP hsub hs b3 g3 t0 t1 H1
 go_upto_region 3 with fail
 generalize w3.alloc _ = w4 at *
 generalize w3.heap.size = Bp at *
 obtain ⟨t0, t1⟩ := row_cells H3.out.1.bT
 obtain ⟨q0, q1, q2⟩ := row3B H3.out.2.1
 have hE24 := rows_len HVP.out
 go_wp2_with fail
 refine (rall11_any ⟨R, L0, pR, cR, pL, cL⟩ sub len E pE cE _ _ w4 H3.out.1.t H3.out.2.2 (by omega)).mono ?_
 rintro e w5 ⟨Ts, p, c, er, rfl, hres, hown, htab, hg⟩
 have hT5 := H3.out.1.keep hg
 have hsz4 := H3.out.1.lo
 have K5 : Hid (TW a w w4.heap.size (.slice p Ts.length c) Ts w5) := Lib.hid ⟨hT5.rs, hown, htab, hT5.st, by omega, hg.size⟩
 have hok : okT R L0 = true := by unfold okT; simpa using HOK.out
 have HM : Hid (AllM R L0 sub len E R Ts) := Lib.hid (by
  rcases hres with h | h
  ·exact h.2.2.2
  ·exact absurd ⟨hok, HVP.out⟩ h.2.1)
 have hTl : Ts.length ≤ 6 := Nat.le_trans HM.out.len hR6
 have HOKT := Lib.hid hok
 clear hres hown htab hg hT5 hok H3 t0 t1 q0 q1 q2 hsz4 HOK
 simp only
 obtain ⟨C, hC⟩ : ∃ C, w4.heap.size = C := ⟨_, rfl⟩
 rw [hC] at K5
 clear hC
 by_cases h0 : Ts.length = 0
 case pos =>
  have h0' : ((Ts.length : Int) == 0) = true := by simpa using h0
  obtain ⟨z0, z1, z2, z3⟩ := row4T K5.out.rs
  have f0 := frozen_of_row _ _ 0 _ _ K5.out.rs
  have f1 := frozen_of_row _ _ 1 _ _ K5.out.rs
  have f2 := frozen_of_row _ _ 2 _ _ K5.out.rs
  have f3 := frozen_of_row _ _ 3 _ _ K5.out.rs
  have HT := Lib.hid (store4B (.int .i64 1) (.int .i64 0) (.int .i64 8) (.slice none 0 0) K5.out.rs)
  clear h0
  go_wp2_with fail
  refine bodyPost_ret (res_tabB rfl _ _ w.heap.size _ _ _ _ rfl HT.out.1) rfl ?_
  have hst := K5.out.st.storeT HT.out.2 (Nat.le_refl _) HA.out
  exact ⟨1, 0, 8, [], none, 0, rfl, OwnT.nil _ _, by decide, hst⟩
 have h0' : ((Ts.length : Int) == 0) = false := by simpa using h0
 clear h0'
 have h0'' : ¬ (Ts.length : Int) = 0 := by omega
 have h0' : ((Ts.length : Int) == 0) = false := by simpa using h0
 have hTl' : (Ts.length : Int) ≤ 6 := by omega
 clear h0
 go_wp2_with fail
 refine (next_any a (Ts.length : Int) (by unfold I64; omega) w5 K5.out.st.2).mono ?_
 rintro e w6 ⟨r, rfl, hr, hs⟩
 have K6 := Lib.hid (K5.out.tape HA.out hs)
 have hr2 : 0 ≤ r ∧ r < (Ts.length : Int) := by unfold CutOf at hr; omega
 clear hs hr K5
 obtain ⟨j, rfl⟩ : ∃ j : Nat, r = (j : Int) := ⟨r.toNat, by omega⟩
 have hj : j < Ts.length := by omega
 obtain ⟨x, hx⟩ : ∃ x, Ts[j]? = some x := ⟨_, List.getElem?_eq_getElem hj⟩
 obtain ⟨-, bt, ot, rfl, -, hc⟩ := tb_cells (rdf_of_own K6.out.own) (by omega)
 obtain ⟨a0, a1, a2, a3⟩ := hc j x hx
 have HX := Lib.hid (List.mem_of_getElem? hx)
 have hj1 : (j : Int) < (Ts.length : Int) := hr2.2
 have hj0 : (0 : Int) ≤ (j : Int) := hr2.1
 clear hc hx hr2 hj
 obtain ⟨HV1, HV2, HV3, -, HV5⟩ := all_valid HM.out HOKT.out HVP.out HX.out
 have HVB := Lib.hid (And.intro HV1 (And.intro HV2 (And.intro HV3 HV5)))
 have hxl : x.L.length ≤ 24 := by rw [HV5.1]; exact hE24
 have HXL := Lib.hid hxl
 have HNL : Hid (∀ y ∈ x.L, y.nx.length ≤ 24) := Lib.hid (by
  have hv := tab_valid HV5 HOKT.out (s := x.s) (n := x.n) (by rw [HV1, HV2]; exact HVP.out) HV3
  have h4 := (ck_ok hv).2.2.2.1
  intro y hy
  have := List.any_eq_false.1 h4 y hy
  unfold lgW at this
  simp only [decide_eq_true_eq] at this
  omega)
 clear HV1 HV2 HV3 HV5 hxl
 have hX := K6.out.tabs x HX.out
 go_wp2_with fail
 refine (copiedT_any x.r x.s x.n x.L x.p x.c _ w6 hX.rd hX.hy (by have := HXL.out; omega) (fun y hy => by have := HNL.out y hy; omega)).mono ?_
 rintro e w7 ⟨M, p2, c2, rfl, hO, hM, hg⟩
 have hM2 : ckT x.r x.s x.n M = 0 := tab_valid (bldM_congr HVB.out.2.2.2 hM) HOKT.out (by rw [HVB.out.1, HVB.out.2.1]; exact HVP.out) HVB.out.2.2.1
 have hro := ids_inT HOKT.out HVB.out.2.2.1
 have HM2 := Lib.hid (And.intro hM2 hro)
 have hMl : M.length ≤ 24 := by have := congrArg List.length hM; rw [List.length_map, List.length_map] at this; rw [this]; exact HXL.out
 have HML := Lib.hid hMl
 obtain ⟨b7, g7⟩ := tone_box w7 #[.int .i64 x.r, .int .i64 x.s, .int .i64 x.n, .slice p2 M.length c2] 25
 have hlo6 := K6.out.lo
 have K7 := Lib.hid (And.intro (kept_row (kept_row K6.out.rs hg (by simp)) g7 (by simp)) (And.intro b7 (And.intro ((hO.mono (lo2 := w.heap.size + 1) (by omega)).keep g7) (And.intro ((K6.out.st.none_ hg).none_ g7) (show w.heap.size + 1 ≤ w7.heap.size by have := hg.size; omega)))))
 have K7O := Lib.hid (And.intro (show ∀ b, (Value.slice p2 M.length c2).ownBlock = some b → b < w7.heap.size from fun b e => (hO.own.lt b e).2) (show ∀ y ∈ M, ∀ b, y.v.ownBlock = some b → b < w7.heap.size from fun y hy b e => ((hO.nx y hy).lt b e).2))
 clear hO hM hg hM2 hro hMl b7 g7 hlo6 hX K6 a0 a1 a2 a3 HX HVB HXL HNL HM hTl hTl' h0' h0'' hj0 hj1
 go_upto_region 7 with fail
 generalize w7.alloc _ = w8 at *
 generalize w7.heap.size = B9 at *
 generalize x.r = tr at *
 generalize x.s = ts at *
 generalize x.n = tn at *
 have hng : ¬ 0 < n0 := by omega
 obtain ⟨z0, z1, z2, z3⟩ := row4T K7.out.1
 obtain ⟨d0, d1, d2, d3⟩ := row4T K7.out.2.1
 have f0 := frozen_of_row _ _ 0 _ _ K7.out.1
 have f1 := frozen_of_row _ _ 1 _ _ K7.out.1
 have f2 := frozen_of_row _ _ 2 _ _ K7.out.1
 have f3 := frozen_of_row _ _ 3 _ _ K7.out.1
 have HT := Lib.hid (store4B (.int .i64 tr) (.int .i64 ts) (.int .i64 tn) (.slice p2 M.length c2) K7.out.1)
 go_wp2_with fail
 refine bodyPost_ret (res_tabB rfl _ _ w.heap.size _ _ _ _ rfl HT.out.1) rfl ?_
 have hst := K7.out.2.2.2.1.storeT HT.out.2 (Nat.le_refl _) HA.out
 exact ⟨tr, ts, tn, M, p2, c2, rfl, (K7.out.2.2.1.over HT.out.2 (by omega)).mono (by omega), HM2.out.1, hst⟩
end Go.Proofs.YtpogblengagpaaaGreatDoor

/- ForwardLocal: the law. -/
namespace Go.Proofs.YtpogblengagpaaaGreatDoor
set_option maxRecDepth 100000
open Go.RowKit Go.Maps Bs
theorem alloc_eqF {w w' : World} {o : Obj} (h : w.alloc o = w') : w'.heap[w.heap.size]? = some o ∧ w.grownBy w' none := by
 subst h
 exact ⟨heap_alloc_new w o, World.grownBy_alloc w o none⟩
structure LA (W : World) (a lo ls : Nat) (pc : Option Addr) (nc cc : Nat) (P : Pk) (Bq : Nat) (Q : Pk) (w : World) : Prop where
 ob : w.heap[W.heap.size]? = some (.cells #[.int .u64 (lo : Int), .int .u64 (ls : Int), .slice pc nc cc] 38 (0, 0))
 pb : w.heap[W.heap.size + 1]? = some (.cells (pcells P) 28 (0, 0))
 qb : w.heap[Bq]? = some (.cells (pcells Q) 28 (0, 0))
 tp : Tp w a
 tb : Tb w
 gr : W.grownBy w none
 lo_ : W.heap.size + 1 < a ∧ a < Bq ∧ 0 < W.heap.size
variable {W w w1 : World} {a lo ls : Nat} {pc : Option Addr} {nc cc : Nat} {P : Pk} {Bq : Nat} {Q : Pk}
theorem LA.over (h : LA W a lo ls pc nc cc P Bq Q w) {r : Nat} (g : w.grownBy w1 (some r)) (ht : Tp w1 a) (hr : r = a ∨ Bq < r) : LA W a lo ls pc nc cc P Bq Q w1 := by
 have hl := h.lo_
 have ne : ∀ k, k ≠ r → some k ≠ some r := fun k hk e => hk (Option.some.inj e)
 exact ⟨kept_row h.ob g (ne _ (by omega)), kept_row h.pb g (ne _ (by omega)), kept_row h.qb g (ne _ (by omega)), ht, h.tb.grown g (ne _ (by omega)).symm, grown_any h.gr g (fun b hb => ne b (by omega)), hl⟩
theorem LA.keep (h : LA W a lo ls pc nc cc P Bq Q w) (g : w.grownBy w1 none) : LA W a lo ls pc nc cc P Bq Q w1 :=
 ⟨kept_row h.ob g (by simp), kept_row h.pb g (by simp), kept_row h.qb g (by simp), h.tp.keep g, h.tb.keep g, grown_trans h.gr g, h.lo_⟩
theorem LA.lt (h : LA W a lo ls pc nc cc P Bq Q w) : Bq < w.heap.size := (Array.getElem?_eq_some_iff.1 h.qb).1
structure LX (W : World) (a lo ls : Nat) (pc : Option Addr) (nc cc : Nat) (P : Pk) (Bq : Nat) (Q : Pk) (Bx y : Nat) (w : World) : Prop where
 la : LA W a lo ls pc nc cc P Bq Q w
 xb : w.heap[Bx]? = some (.cells #[.int .u64 (y : Int), .int .u64 0, .slice none 0 0] 38 (0, 0))
 lt : Bq < Bx ∧ U64 y
theorem LX.tape {Bx y : Nat} (h : LX W a lo ls pc nc cc P Bq Q Bx y w) (g : w.grownBy w1 (some a)) (ht : Tp w1 a) : LX W a lo ls pc nc cc P Bq Q Bx y w1 :=
 ⟨h.la.over g ht (Or.inl rfl), kept_row h.xb g (fun e => by have := Option.some.inj e; have := h.lt.1; have := h.la.lo_; omega), h.lt⟩
abbrev DlR (a : Nat) (r : Int) (D : List Pk) (p : Option Addr) (c : Nat) (w : World) : Prop := RdF w (· ≠ a) (.slice p D.length c) D.length (D.flatMap (dlC r))
theorem dlr_of {r : Int} {D : List Pk} {p : Option Addr} {c B : Nat} (h : w.ownsRow B 53 11 (.slice p D.length c) D.length (D.flatMap (dlC r))) (hB : a < B) : DlR a r D p c w :=
 (rdf_of_own h).mono fun b hb => (show b ≠ a by have : B ≤ b := hb; omega)
theorem DlR.keep {r : Int} {D : List Pk} {p : Option Addr} {c : Nat} (h : DlR a r D p c w) (g : w.grownBy w1 none) : DlR a r D p c w1 := h.grown g (fun _ _ => by simp)
theorem DlR.at_ {r : Int} {D : List Pk} {p : Option Addr} {c : Nat} (h : DlR a r D p c w) {i : Nat} {X : Pk} (hi : D[i]? = some X) : ∃ g off, p = some ⟨g, off, none⟩ ∧ ∀ w1, w.grownBy w1 none → w1.cell? ⟨g, off + i * 11, none⟩ = some (.int .i64 r) ∧ w1.cell? ⟨g, off + i * 11 + 1, none⟩ = some (.int .i64 X.mode) ∧ w1.cell? ⟨g, off + i * 11 + 2, none⟩ = some (.int .i64 X.sub) ∧ w1.cell? ⟨g, off + i * 11 + 3, none⟩ = some (.int .i64 X.set) ∧ w1.cell? ⟨g, off + i * 11 + 4, none⟩ = some (.int .i64 X.len) ∧ w1.cell? ⟨g, off + i * 11 + 5, none⟩ = some (.int .i64 X.ttl) ∧ w1.cell? ⟨g, off + i * 11 + 6, none⟩ = some (.int .i64 X.ent) ∧ w1.cell? ⟨g, off + i * 11 + 7, none⟩ = some (.int .i64 X.ing) ∧ w1.cell? ⟨g, off + i * 11 + 8, none⟩ = some (.int .i64 X.pro) ∧ w1.cell? ⟨g, off + i * 11 + 9, none⟩ = some (.int .u64 (X.bits : Int)) ∧ w1.cell? ⟨g, off + i * 11 + 10, none⟩ = some (.string X.pay) := by
 have hl : 0 < D.length := by have := (List.getElem?_eq_some_iff.1 hi).1; omega
 obtain ⟨-, g, off, hp, -, hc⟩ := RdF.cells (f := dlC r) (k := 11) (fun _ => rfl) (by decide) h hl
 have hx := hc i X hi
 exact ⟨g, off, hp, fun w1 g1 => ⟨g1.cell (hx 0 _ rfl) (by simp), g1.cell (hx 1 _ rfl) (by simp), g1.cell (hx 2 _ rfl) (by simp), g1.cell (hx 3 _ rfl) (by simp), g1.cell (hx 4 _ rfl) (by simp), g1.cell (hx 5 _ rfl) (by simp), g1.cell (hx 6 _ rfl) (by simp), g1.cell (hx 7 _ rfl) (by simp), g1.cell (hx 8 _ rfl) (by simp), g1.cell (hx 9 _ rfl) (by simp), g1.cell (hx 10 _ rfl) (by simp)⟩⟩
set_option maxHeartbeats 6400000 in
theorem local_walk (v0 : Value) (lo ls : Nat) (hlo : U64 lo) (pc : Option Addr) (nc cc : Nat) (P : Pk) (hP : P.Wf) (r : Int) (w : World) (hv : IntsIn w v0) (hT : Tb w) :
  Calls Tryz.prog 4 #[v0, .agg #[.int .u64 (lo : Int), .int .u64 (ls : Int), .slice pc nc cc], P.val, .int .i64 r] w fun e w' => e = .returned (.bool true) ∧ w.grownBy w' none := by
 have hval : P.val = .agg #[.int .i64 P.mode, .int .i64 P.sub, .int .i64 P.set, .int .i64 P.len, .int .i64 P.ttl, .int .i64 P.ent, .int .i64 P.ing, .int .i64 P.pro, .int .u64 (P.bits : Int), .string P.pay] := rfl
 rw [hval]
 obtain ⟨k1, k2, k3, k4⟩ := two_boxes w #[.int .u64 (lo : Int), .int .u64 (ls : Int), .slice pc nc cc] (pcells P) 38 28
 have H0 := Lib.hid (And.intro k1 (And.intro k2 (And.intro k3 (And.intro k4 (And.intro (ints_keep hv k3) (hT.keep k3))))))
 have HTL := Lib.hid hT.lt
 have HP := Lib.hid hP
 have HLO := Lib.hid hlo
 unfold pcells at H0
 clear k1 k2 k3 k4 hv hT hval hP hlo
 go_enter Tryz.func4, Tryz.ntmps4
 go_upto_region 1 with fail
 generalize (w.alloc _).alloc _ = wa at *
 go_wp2_with fail
 refine (new_any v0 wa H0.out.2.2.2.2.1).mono ?_
 rintro e w2 ⟨rfl, hg1, hT1⟩
 obtain ⟨a, ha⟩ : ∃ a, wa.heap.size = a := ⟨_, rfl⟩
 rw [ha] at hT1 ⊢
 have H2 := Lib.hid (And.intro hg1 (And.intro hT1 (show w.heap.size + 1 < a by have := H0.out.2.2.2.1; omega)))
 clear ha hg1 hT1
 go_wp2_with fail
 refine (packetN_agg a 4 (by decide) (by decide) w2 H2.out.2.1).mono ?_
 rintro e w3 ⟨Q, rfl, hQ, hs⟩
 have hk3 : w.grownBy w3 none := grown_any (grown_trans H0.out.2.2.1 H2.out.1) hs.gr (fun b hb e => by have := Option.some.inj e; have := H2.out.2.2; omega)
 obtain ⟨k1, k2⟩ := one_box w3 (pcells Q) 28
 have ne : ∀ k, k ≠ a → some k ≠ some a := fun k hk e => hk (Option.some.inj e)
 have K4 : Hid (LA w a lo ls pc nc cc P w3.heap.size Q (w3.alloc (.cells (pcells Q) 28))) := Lib.hid (by
  have h := H0.out
  have hl := H2.out.2.2
  have hz := HTL.out
  exact ⟨kept_row (kept_row (kept_row h.1 H2.out.1 (by simp)) hs.gr (ne _ (by omega))) k2 (by simp), kept_row (kept_row (kept_row h.2.1 H2.out.1 (by simp)) hs.gr (ne _ (by omega))) k2 (by simp), k1, hs.tp.keep k2, ((h.2.2.2.2.2.keep H2.out.1).grown hs.gr (ne _ (by omega)).symm).keep k2, grown_trans hk3 k2, ⟨hl, hs.tp.lt, hz⟩⟩)
 have HQ := Lib.hid hQ
 unfold pcells at K4
 clear k1 k2 ne hk3 hs hQ H0 H2
 go_upto_region 3 with fail
 generalize w3.alloc _ = w4 at *
 generalize w3.heap.size = Bq at *
 change Hid (LA w a lo ls pc nc cc P Bq Q w4) at K4
 have a8 := (p_facts K4.out.qb).2.2.2.2.2.2.2.2.1
 go_cut [11] from 19 to 24 (fun v wx => ∃ (y Bx : Nat), v = .pointer (some ⟨Bx, 0, none⟩) ∧ Hid (LX w a lo ls pc nc cc P Bq Q Bx y wx))
 case first =>
  refine region_until (S := fun w' => Tp w' a ∧ Hid (w4.grownBy w' (some a))) (fun j => j == 7) (by kernel_rfl) (⟨K4.out.tp.drew, Lib.hid (grown_drew (grown_refl _ _))⟩) (fun hHeld => ?_)
  refine zU (i := 0) (v := ?_) rfl ?_ hHeld ?_
  rotate_left 1
  ·intro u hSu
   go_simp
   first | done | with_reducible rfl
  try simp only [Act.put, zA, zB, zC]
  refine zU (i := 1) (v := ?_) rfl ?_ hHeld ?_
  rotate_left 1
  ·intro u hSu
   have a8u := hSu.2.out.cell a8 (fun e => by have e2 : some Bq = some a := e; have := Option.some.inj e2; have := K4.out.lo_; omega)
   go_simp
   first | done | with_reducible rfl
  try simp only [Act.put, zA, zB, zC]
  refine zU (i := 2) (v := ?_) rfl ?_ hHeld ?_
  rotate_left 1
  ·intro u hSu
   go_simp
   first | done | with_reducible rfl
  try simp only [Act.put, zA, zB, zC]
  refine anyU_ready (rs := [3, 6]) (by kernel_rfl) (by simp) ?_
  refine EachU.cons (o := ⟨_, _, _, _, _, _⟩) rfl (fun Kz hK => ?_) (EachU.cons (o := ⟨_, _, _, _, _, _⟩) rfl (fun Kz hK => ?_) EachU.nil)
  ·go_simp
   go_at_call 17
   refine (bits_any a 64 rfl _ hHeld.1).mono ?_
   rintro e' w7 ⟨x, rfl, hx, -, hs⟩
   (first | replace HBX := Lib.hid (And.intro (kept_row HBX.out.1 hs.gr (fun e => by have := Option.some.inj e; have := HBX.out.2.1; omega)) HBX.out.2) | replace HBX := Lib.hid (And.intro (kept_row HBX.out.1 (grown_undrew_some hs.gr) (fun e => by have := Option.some.inj e; have := HBX.out.2.1; omega)) HBX.out.2) | skip)
   have HN := And.intro hs.tp (Lib.hid (grown_trans hHeld.2.out hs.gr))
   have hand := andU Q.bits x HQ.out.bits hx
   have HY := Lib.hid (u64_andl Q.bits x HQ.out.bits)
   clear hs hx
   simp only
   refine hK.out _ _ (fun _ => HN) (fun hH2 => ?_)
   clear hK Kz hHeld
   have hHeld := hH2 rfl
   clear hH2
   try simp only [Act.put, zA, zB, zC]
   refine zU (i := 4) (v := .int .u64 ((Q.bits &&& x : Nat) : Int)) rfl ?_ hHeld ?_
   ·intro u hSu
    go_simp
    first | done | exact hand | simp_all
   try simp only [Act.put, zA, zB, zC]
   refine zU (i := 5) (v := ?_) rfl ?_ hHeld ?_
   rotate_left 1
   ·intro u hSu
    have a8u := hSu.2.out.cell a8 (fun e => by have e2 : some Bq = some a := e; have := Option.some.inj e2; have := K4.out.lo_; omega)
    go_simp
    first | done | with_reducible rfl
   try simp only [Act.put, zA, zB, zC]
   refine anyU_ready (rs := [6]) (by kernel_rfl) (by simp) ?_
   refine EachU.cons (o := ⟨_, _, _, _, _, _⟩) rfl (fun Kz hK => ?_) EachU.nil
   go_simp
   generalize hwB : World.alloc _ _ = wB
   obtain ⟨hb1, hb2⟩ := alloc_eqF hwB
   have hla := hHeld.1.lt
   have hlz := hHeld.2.out.size
   try change a < w4.heap.size at hla
   try change w4.heap.size ≤ w4.heap.size at hlz
   have HBX := Lib.hid (And.intro hb1 (And.intro hla hlz))
   clear hwB hb1 hla hlz
   refine hK.out _ _ (fun _ => (by first | exact ⟨hHeld.1.keep hb2, Lib.hid (grown_trans hHeld.2.out (grown_none hb2 _))⟩ | exact ⟨(K4.out.tp.keep hb2).drew, Lib.hid (grown_drew (grown_none hb2 _))⟩)) (fun hH2 => ?_)
   clear hK Kz hHeld
   have hHeld := hH2 rfl
   clear hH2
   try simp only [Act.put, zA, zB, zC]
   refine anyU_ready (rs := [7]) (by kernel_rfl) (by simp) ?_
   refine EachU.cons (o := ⟨_, _, _, _, _, _⟩) rfl (fun Kz hK => ?_) EachU.nil
   obtain ⟨⟨o0x, o1x, o2x⟩, f0x, f1x, f2x⟩ := row3f HBX.out.1
   go_simp
   refine hK.out _ _ (fun h => by cases h) (fun _ => ?_)
   clear hK Kz
   try simp only [Act.put, zA, zB, zC]
   refine anyU_done (by kernel_rfl) ?_ _
   have HX8 := ob_put (.int .u64 ((Q.bits &&& x : Nat) : Int)) (.int .u64 0) (.slice none 0 0) HBX.out.1
   have jx := fun (wq : World) (gq : Nat) => ob_grown wq gq (.int .u64 ((Q.bits &&& x : Nat) : Int)) (.int .u64 0) (.slice none 0 0)
   go_wp2_with fail
   go_meet
   exact ⟨Q.bits &&& x, _, rfl, Lib.hid ⟨((K4.out.over hHeld.2.out hHeld.1 (Or.inl rfl)).over (jx _ _) (tp_store hHeld.1 (jx _ _) HBX.out.2.1) (Or.inr (by have := HBX.out.2.2; have := K4.out.lt; omega))), HX8, ⟨by have := HBX.out.2.2; have := K4.out.lt; omega, HY.out⟩⟩⟩
  ·go_simp
   generalize hwB : World.alloc _ _ = wB
   obtain ⟨hb1, hb2⟩ := alloc_eqF hwB
   have hla := hHeld.1.lt
   have hlz := hHeld.2.out.size
   try change a < w4.heap.size at hla
   try change w4.heap.size ≤ w4.heap.size at hlz
   have HBX := Lib.hid (And.intro hb1 (And.intro hla hlz))
   clear hwB hb1 hla hlz
   refine hK.out _ _ (fun _ => (by first | exact ⟨hHeld.1.keep hb2, Lib.hid (grown_trans hHeld.2.out (grown_none hb2 _))⟩ | exact ⟨(K4.out.tp.keep hb2).drew, Lib.hid (grown_drew (grown_none hb2 _))⟩)) (fun hH2 => ?_)
   clear hK Kz hHeld
   have hHeld := hH2 rfl
   clear hH2
   try simp only [Act.put, zA, zB, zC]
   refine anyU_ready (rs := [3]) (by kernel_rfl) (by simp) ?_
   refine EachU.cons (o := ⟨_, _, _, _, _, _⟩) rfl (fun Kz hK => ?_) EachU.nil
   go_simp
   go_at_call 17
   refine (bits_any a 64 rfl _ hHeld.1).mono ?_
   rintro e' w7 ⟨x, rfl, hx, -, hs⟩
   (first | replace HBX := Lib.hid (And.intro (kept_row HBX.out.1 hs.gr (fun e => by have := Option.some.inj e; have := HBX.out.2.1; omega)) HBX.out.2) | replace HBX := Lib.hid (And.intro (kept_row HBX.out.1 (grown_undrew_some hs.gr) (fun e => by have := Option.some.inj e; have := HBX.out.2.1; omega)) HBX.out.2) | skip)
   have HN := And.intro hs.tp (Lib.hid (grown_trans hHeld.2.out hs.gr))
   have hand := andU Q.bits x HQ.out.bits hx
   have HY := Lib.hid (u64_andl Q.bits x HQ.out.bits)
   clear hs hx
   simp only
   refine hK.out _ _ (fun _ => HN) (fun hH2 => ?_)
   clear hK Kz hHeld
   have hHeld := hH2 rfl
   clear hH2
   try simp only [Act.put, zA, zB, zC]
   refine zU (i := 4) (v := .int .u64 ((Q.bits &&& x : Nat) : Int)) rfl ?_ hHeld ?_
   ·intro u hSu
    go_simp
    first | done | exact hand | simp_all
   try simp only [Act.put, zA, zB, zC]
   refine zU (i := 5) (v := ?_) rfl ?_ hHeld ?_
   rotate_left 1
   ·intro u hSu
    have a8u := hSu.2.out.cell a8 (fun e => by have e2 : some Bq = some a := e; have := Option.some.inj e2; have := K4.out.lo_; omega)
    go_simp
    first | done | with_reducible rfl
   try simp only [Act.put, zA, zB, zC]
   refine anyU_ready (rs := [7]) (by kernel_rfl) (by simp) ?_
   refine EachU.cons (o := ⟨_, _, _, _, _, _⟩) rfl (fun Kz hK => ?_) EachU.nil
   obtain ⟨⟨o0x, o1x, o2x⟩, f0x, f1x, f2x⟩ := row3f HBX.out.1
   go_simp
   refine hK.out _ _ (fun h => by cases h) (fun _ => ?_)
   clear hK Kz
   try simp only [Act.put, zA, zB, zC]
   refine anyU_done (by kernel_rfl) ?_ _
   have HX8 := ob_put (.int .u64 ((Q.bits &&& x : Nat) : Int)) (.int .u64 0) (.slice none 0 0) HBX.out.1
   have jx := fun (wq : World) (gq : Nat) => ob_grown wq gq (.int .u64 ((Q.bits &&& x : Nat) : Int)) (.int .u64 0) (.slice none 0 0)
   go_wp2_with fail
   go_meet
   exact ⟨Q.bits &&& x, _, rfl, Lib.hid ⟨((K4.out.over hHeld.2.out hHeld.1 (Or.inl rfl)).over (jx _ _) (tp_store hHeld.1 (jx _ _) HBX.out.2.1) (Or.inr (by have := HBX.out.2.2; have := K4.out.lt; omega))), HX8, ⟨by have := HBX.out.2.2; have := K4.out.lt; omega, HY.out⟩⟩⟩
 case rest =>
 obtain ⟨y, Bx, rfl, K5⟩ := hcut
 clear K4 a8
 go_upto_region 4 with fail
 obtain ⟨w8, hw8⟩ : ∃ w8, w8 = wc := ⟨_, rfl⟩
 rw [← hw8] at K5 ⊢
 clear hw8
 obtain ⟨x0, x1, x2⟩ := row3f K5.out.xb |>.1
 obtain ⟨o0, o1, o2⟩ := (row3f K5.out.la.ob).1
 obtain ⟨a0, a1, a2, a3, a4, a5, a6, a7, a8, a9⟩ := p_facts K5.out.la.pb
 obtain ⟨q0, q1, q2, q3, q4, q5, q6, q7, q8, q9⟩ := p_facts K5.out.la.qb
 refine wp_region_held_drew (S := fun w' => Tp w' a ∧ Hid (w8.grownBy w' (some a))) (by kernel_rfl) (⟨K5.out.la.tp.drew, Lib.hid (grown_drew (grown_refl _ _))⟩) (fun hHeld => ?_)
 refine zT (i := 0) (v := ?_) rfl ?_ hHeld ?_
 rotate_left 1
 ·intro u hSu
  have K5u := K5.out.tape hSu.2.out hSu.1
  obtain ⟨x0u, x1u, x2u⟩ := (row3f K5u.xb).1
  obtain ⟨o0u, o1u, o2u⟩ := (row3f K5u.la.ob).1
  obtain ⟨a0u, a1u, a2u, a3u, a4u, a5u, a6u, a7u, a8u, a9u⟩ := p_facts K5u.la.pb
  obtain ⟨q0u, q1u, q2u, q3u, q4u, q5u, q6u, q7u, q8u, q9u⟩ := p_facts K5u.la.qb
  go_simp
  first | done | with_reducible rfl
 try simp only [Act.put, zA, zB, zC]
 refine zT (i := 2) (v := ?_) rfl ?_ hHeld ?_
 rotate_left 1
 ·intro u hSu
  have K5u := K5.out.tape hSu.2.out hSu.1
  obtain ⟨x0u, x1u, x2u⟩ := (row3f K5u.xb).1
  obtain ⟨o0u, o1u, o2u⟩ := (row3f K5u.la.ob).1
  obtain ⟨a0u, a1u, a2u, a3u, a4u, a5u, a6u, a7u, a8u, a9u⟩ := p_facts K5u.la.pb
  obtain ⟨q0u, q1u, q2u, q3u, q4u, q5u, q6u, q7u, q8u, q9u⟩ := p_facts K5u.la.qb
  go_simp
  first | done | with_reducible rfl
 try simp only [Act.put, zA, zB, zC]
 refine zT (i := 3) (v := ?_) rfl ?_ hHeld ?_
 rotate_left 1
 ·intro u hSu
  have K5u := K5.out.tape hSu.2.out hSu.1
  obtain ⟨x0u, x1u, x2u⟩ := (row3f K5u.xb).1
  obtain ⟨o0u, o1u, o2u⟩ := (row3f K5u.la.ob).1
  obtain ⟨a0u, a1u, a2u, a3u, a4u, a5u, a6u, a7u, a8u, a9u⟩ := p_facts K5u.la.pb
  obtain ⟨q0u, q1u, q2u, q3u, q4u, q5u, q6u, q7u, q8u, q9u⟩ := p_facts K5u.la.qb
  go_simp
  first | done | with_reducible rfl
 try simp only [Act.put, zA, zB, zC]
 refine zT (i := 4) (v := ?_) rfl ?_ hHeld ?_
 rotate_left 1
 ·intro u hSu
  have K5u := K5.out.tape hSu.2.out hSu.1
  obtain ⟨x0u, x1u, x2u⟩ := (row3f K5u.xb).1
  obtain ⟨o0u, o1u, o2u⟩ := (row3f K5u.la.ob).1
  obtain ⟨a0u, a1u, a2u, a3u, a4u, a5u, a6u, a7u, a8u, a9u⟩ := p_facts K5u.la.pb
  obtain ⟨q0u, q1u, q2u, q3u, q4u, q5u, q6u, q7u, q8u, q9u⟩ := p_facts K5u.la.qb
  go_simp
  first | done | with_reducible rfl
 try simp only [Act.put, zA, zB, zC]
 refine zT (i := 6) (v := ?_) rfl ?_ hHeld ?_
 rotate_left 1
 ·intro u hSu
  have K5u := K5.out.tape hSu.2.out hSu.1
  obtain ⟨x0u, x1u, x2u⟩ := (row3f K5u.xb).1
  obtain ⟨o0u, o1u, o2u⟩ := (row3f K5u.la.ob).1
  obtain ⟨a0u, a1u, a2u, a3u, a4u, a5u, a6u, a7u, a8u, a9u⟩ := p_facts K5u.la.pb
  obtain ⟨q0u, q1u, q2u, q3u, q4u, q5u, q6u, q7u, q8u, q9u⟩ := p_facts K5u.la.qb
  go_simp
  first | done | with_reducible rfl
 try simp only [Act.put, zA, zB, zC]
 refine zT (i := 7) (v := ?_) rfl ?_ hHeld ?_
 rotate_left 1
 ·intro u hSu
  have K5u := K5.out.tape hSu.2.out hSu.1
  obtain ⟨x0u, x1u, x2u⟩ := (row3f K5u.xb).1
  obtain ⟨o0u, o1u, o2u⟩ := (row3f K5u.la.ob).1
  obtain ⟨a0u, a1u, a2u, a3u, a4u, a5u, a6u, a7u, a8u, a9u⟩ := p_facts K5u.la.pb
  obtain ⟨q0u, q1u, q2u, q3u, q4u, q5u, q6u, q7u, q8u, q9u⟩ := p_facts K5u.la.qb
  go_simp
  first | done | with_reducible rfl
 try simp only [Act.put, zA, zB, zC]
 refine zT (i := 8) (v := ?_) rfl ?_ hHeld ?_
 rotate_left 1
 ·intro u hSu
  have K5u := K5.out.tape hSu.2.out hSu.1
  obtain ⟨x0u, x1u, x2u⟩ := (row3f K5u.xb).1
  obtain ⟨o0u, o1u, o2u⟩ := (row3f K5u.la.ob).1
  obtain ⟨a0u, a1u, a2u, a3u, a4u, a5u, a6u, a7u, a8u, a9u⟩ := p_facts K5u.la.pb
  obtain ⟨q0u, q1u, q2u, q3u, q4u, q5u, q6u, q7u, q8u, q9u⟩ := p_facts K5u.la.qb
  go_simp
  first | done | with_reducible rfl
 try simp only [Act.put, zA, zB, zC]
 refine zT (i := 11) (v := ?_) rfl ?_ hHeld ?_
 rotate_left 1
 ·intro u hSu
  have K5u := K5.out.tape hSu.2.out hSu.1
  obtain ⟨x0u, x1u, x2u⟩ := (row3f K5u.xb).1
  obtain ⟨o0u, o1u, o2u⟩ := (row3f K5u.la.ob).1
  obtain ⟨a0u, a1u, a2u, a3u, a4u, a5u, a6u, a7u, a8u, a9u⟩ := p_facts K5u.la.pb
  obtain ⟨q0u, q1u, q2u, q3u, q4u, q5u, q6u, q7u, q8u, q9u⟩ := p_facts K5u.la.qb
  go_simp
  first | done | with_reducible rfl
 try simp only [Act.put, zA, zB, zC]
 refine zT (i := 12) (v := ?_) rfl ?_ hHeld ?_
 rotate_left 1
 ·intro u hSu
  have K5u := K5.out.tape hSu.2.out hSu.1
  obtain ⟨x0u, x1u, x2u⟩ := (row3f K5u.xb).1
  obtain ⟨o0u, o1u, o2u⟩ := (row3f K5u.la.ob).1
  obtain ⟨a0u, a1u, a2u, a3u, a4u, a5u, a6u, a7u, a8u, a9u⟩ := p_facts K5u.la.pb
  obtain ⟨q0u, q1u, q2u, q3u, q4u, q5u, q6u, q7u, q8u, q9u⟩ := p_facts K5u.la.qb
  go_simp
  first | done | with_reducible rfl
 try simp only [Act.put, zA, zB, zC]
 refine zT (i := 13) (v := ?_) rfl ?_ hHeld ?_
 rotate_left 1
 ·intro u hSu
  have K5u := K5.out.tape hSu.2.out hSu.1
  obtain ⟨x0u, x1u, x2u⟩ := (row3f K5u.xb).1
  obtain ⟨o0u, o1u, o2u⟩ := (row3f K5u.la.ob).1
  obtain ⟨a0u, a1u, a2u, a3u, a4u, a5u, a6u, a7u, a8u, a9u⟩ := p_facts K5u.la.pb
  obtain ⟨q0u, q1u, q2u, q3u, q4u, q5u, q6u, q7u, q8u, q9u⟩ := p_facts K5u.la.qb
  go_simp
  first | done | with_reducible rfl
 try simp only [Act.put, zA, zB, zC]
 refine zT (i := 14) (v := ?_) rfl ?_ hHeld ?_
 rotate_left 1
 ·intro u hSu
  have K5u := K5.out.tape hSu.2.out hSu.1
  obtain ⟨x0u, x1u, x2u⟩ := (row3f K5u.xb).1
  obtain ⟨o0u, o1u, o2u⟩ := (row3f K5u.la.ob).1
  obtain ⟨a0u, a1u, a2u, a3u, a4u, a5u, a6u, a7u, a8u, a9u⟩ := p_facts K5u.la.pb
  obtain ⟨q0u, q1u, q2u, q3u, q4u, q5u, q6u, q7u, q8u, q9u⟩ := p_facts K5u.la.qb
  go_simp
  first | done | with_reducible rfl
 try simp only [Act.put, zA, zB, zC]
 refine zT (i := 16) (v := ?_) rfl ?_ hHeld ?_
 rotate_left 1
 ·intro u hSu
  have K5u := K5.out.tape hSu.2.out hSu.1
  obtain ⟨x0u, x1u, x2u⟩ := (row3f K5u.xb).1
  obtain ⟨o0u, o1u, o2u⟩ := (row3f K5u.la.ob).1
  obtain ⟨a0u, a1u, a2u, a3u, a4u, a5u, a6u, a7u, a8u, a9u⟩ := p_facts K5u.la.pb
  obtain ⟨q0u, q1u, q2u, q3u, q4u, q5u, q6u, q7u, q8u, q9u⟩ := p_facts K5u.la.qb
  go_simp
  first | done | with_reducible rfl
 try simp only [Act.put, zA, zB, zC]
 refine zT (i := 17) (v := ?_) rfl ?_ hHeld ?_
 rotate_left 1
 ·intro u hSu
  have K5u := K5.out.tape hSu.2.out hSu.1
  obtain ⟨x0u, x1u, x2u⟩ := (row3f K5u.xb).1
  obtain ⟨o0u, o1u, o2u⟩ := (row3f K5u.la.ob).1
  obtain ⟨a0u, a1u, a2u, a3u, a4u, a5u, a6u, a7u, a8u, a9u⟩ := p_facts K5u.la.pb
  obtain ⟨q0u, q1u, q2u, q3u, q4u, q5u, q6u, q7u, q8u, q9u⟩ := p_facts K5u.la.qb
  go_simp
  first | done | with_reducible rfl
 try simp only [Act.put, zA, zB, zC]
 refine zT (i := 18) (v := ?_) rfl ?_ hHeld ?_
 rotate_left 1
 ·intro u hSu
  have K5u := K5.out.tape hSu.2.out hSu.1
  obtain ⟨x0u, x1u, x2u⟩ := (row3f K5u.xb).1
  obtain ⟨o0u, o1u, o2u⟩ := (row3f K5u.la.ob).1
  obtain ⟨a0u, a1u, a2u, a3u, a4u, a5u, a6u, a7u, a8u, a9u⟩ := p_facts K5u.la.pb
  obtain ⟨q0u, q1u, q2u, q3u, q4u, q5u, q6u, q7u, q8u, q9u⟩ := p_facts K5u.la.qb
  go_simp
  first | done | with_reducible rfl
 try simp only [Act.put, zA, zB, zC]
 refine wpAnyH_ready (rs := [1]) (by kernel_rfl) (by simp) ?_
 refine AllReadyH.cons (o := ⟨_, _, _, _, _, _⟩) rfl (fun Kz hK => ?_) AllReadyH.nil
 go_simp
 go_at_call 10
 refine (ttab0_any a 0 (Int.le_refl 0) (by unfold I64; omega) _ hHeld.1).mono ?_
 rintro e' w9 ⟨tr, ts, tn, tL, tp, tc, rfl, -, -, hs⟩
 have HN := And.intro hs.tp (Lib.hid (grown_trans hHeld.2.out hs.gr))
 clear hs
 simp only
 refine hK.out _ _ (HN) (fun hH2 => ?_)
 clear hK Kz hHeld
 have hHeld := hH2
 clear hH2
 try simp only [Act.put, zA, zB, zC]
 refine wpAnyH_ready (rs := [5]) (by kernel_rfl) (by simp) ?_
 refine AllReadyH.cons (o := ⟨_, _, _, _, _, _⟩) rfl (fun Kz hK => ?_) AllReadyH.nil
 go_simp
 go_at_call 18
 refine (fwloc_any _ ⟨_, _, _, _, _, _, rfl⟩ r y 0 K5.out.lt.2 none 0 0 Q HQ.out _ (K5.out.tape hHeld.2.out hHeld.1).la.tb).mono ?_
 rintro e' w11 ⟨p1, c1, rfl, hO, hg⟩
 have HL1 := Lib.hid (dlr_of hO hHeld.1.lt)
 have HN := And.intro (hHeld.1.keep hg) (Lib.hid (grown_trans hHeld.2.out (grown_none hg _)))
 clear hO hg
 simp only
 refine hK.out _ _ (HN) (fun hH2 => ?_)
 clear hK Kz hHeld
 have hHeld := hH2
 clear hH2
 try simp only [Act.put, zA, zB, zC]
 refine wpAnyH_ready (rs := [9]) (by kernel_rfl) (by simp) ?_
 refine AllReadyH.cons (o := ⟨_, _, _, _, _, _⟩) rfl (fun Kz hK => ?_) AllReadyH.nil
 go_simp
 go_at_call 19
 refine (rfloc_any r y 0 K5.out.lt.2 none 0 0 Q HQ.out _).mono ?_
 rintro e' w12 ⟨p2, c2, rfl, hO, hg⟩
 replace HL1 := Lib.hid (HL1.out.keep hg)
 have HL2 := Lib.hid (dlr_of hO hHeld.1.lt)
 have HN := And.intro (hHeld.1.keep hg) (Lib.hid (grown_trans hHeld.2.out (grown_none hg _)))
 clear hO hg
 simp only
 refine hK.out _ _ (HN) (fun hH2 => ?_)
 clear hK Kz hHeld
 have hHeld := hH2
 clear hH2
 try simp only [Act.put, zA, zB, zC]
 refine zT (i := 10) (v := ?_) rfl ?_ hHeld ?_
 rotate_left 1
 ·intro u hSu
  have K5u := K5.out.tape hSu.2.out hSu.1
  obtain ⟨x0u, x1u, x2u⟩ := (row3f K5u.xb).1
  obtain ⟨o0u, o1u, o2u⟩ := (row3f K5u.la.ob).1
  obtain ⟨a0u, a1u, a2u, a3u, a4u, a5u, a6u, a7u, a8u, a9u⟩ := p_facts K5u.la.pb
  obtain ⟨q0u, q1u, q2u, q3u, q4u, q5u, q6u, q7u, q8u, q9u⟩ := p_facts K5u.la.qb
  go_simp
  first | done | with_reducible rfl
 try simp only [Act.put, zA, zB, zC]
 refine wpAnyH_ready (rs := [15]) (by kernel_rfl) (by simp) ?_
 refine AllReadyH.cons (o := ⟨_, _, _, _, _, _⟩) rfl (fun Kz hK => ?_) AllReadyH.nil
 go_simp
 go_at_call 18
 refine (fwloc_any _ ⟨_, _, _, _, _, _, rfl⟩ r lo ls HLO.out pc nc cc P HP.out _ (K5.out.tape hHeld.2.out hHeld.1).la.tb).mono ?_
 rintro e' w13 ⟨p3, c3, rfl, hO, hg⟩
 replace HL1 := Lib.hid (HL1.out.keep hg)
 replace HL2 := Lib.hid (HL2.out.keep hg)
 have HL3 := Lib.hid (dlr_of hO hHeld.1.lt)
 have HN := And.intro (hHeld.1.keep hg) (Lib.hid (grown_trans hHeld.2.out (grown_none hg _)))
 clear hO hg
 simp only
 refine hK.out _ _ (HN) (fun hH2 => ?_)
 clear hK Kz hHeld
 have hHeld := hH2
 clear hH2
 try simp only [Act.put, zA, zB, zC]
 refine wpAnyH_ready (rs := [19]) (by kernel_rfl) (by simp) ?_
 refine AllReadyH.cons (o := ⟨_, _, _, _, _, _⟩) rfl (fun Kz hK => ?_) AllReadyH.nil
 go_simp
 go_at_call 19
 refine (rfloc_any r lo ls HLO.out pc nc cc P HP.out _).mono ?_
 rintro e' w14 ⟨p4, c4, rfl, hO, hg⟩
 replace HL1 := Lib.hid (HL1.out.keep hg)
 replace HL2 := Lib.hid (HL2.out.keep hg)
 replace HL3 := Lib.hid (HL3.out.keep hg)
 have HL4 := Lib.hid (dlr_of hO hHeld.1.lt)
 have HN := And.intro (hHeld.1.keep hg) (Lib.hid (grown_trans hHeld.2.out (grown_none hg _)))
 clear hO hg
 simp only
 refine hK.out _ _ (HN) (fun hH2 => ?_)
 clear hK Kz hHeld
 have hHeld := hH2
 clear hH2
 try simp only [Act.put, zA, zB, zC]
 refine zT (i := 20) (v := ?_) rfl ?_ hHeld ?_
 rotate_left 1
 ·intro u hSu
  have K5u := K5.out.tape hSu.2.out hSu.1
  obtain ⟨x0u, x1u, x2u⟩ := (row3f K5u.xb).1
  obtain ⟨o0u, o1u, o2u⟩ := (row3f K5u.la.ob).1
  obtain ⟨a0u, a1u, a2u, a3u, a4u, a5u, a6u, a7u, a8u, a9u⟩ := p_facts K5u.la.pb
  obtain ⟨q0u, q1u, q2u, q3u, q4u, q5u, q6u, q7u, q8u, q9u⟩ := p_facts K5u.la.qb
  go_simp
  first | done | with_reducible rfl
 try simp only [Act.put, zA, zB, zC]
 refine wpAnyH_ready (rs := [21]) (by kernel_rfl) (by simp) ?_
 refine AllReadyH.cons (o := ⟨_, _, _, _, _, _⟩) rfl (fun Kz hK => ?_) AllReadyH.nil
 go_simp
 generalize hwB : World.alloc _ _ = wB
 obtain ⟨hb1, hb2⟩ := alloc_eqF hwB
 replace HL1 := Lib.hid (HL1.out.keep hb2)
 replace HL2 := Lib.hid (HL2.out.keep hb2)
 replace HL3 := Lib.hid (HL3.out.keep hb2)
 replace HL4 := Lib.hid (HL4.out.keep hb2)
 have HBS := Lib.hid hb1
 clear hwB hb1
 refine hK.out _ _ (⟨hHeld.1.keep hb2, Lib.hid (grown_trans hHeld.2.out (grown_none hb2 _))⟩) (fun hH2 => ?_)
 clear hK Kz hHeld
 have hHeld := hH2
 clear hH2
 try simp only [Act.put, zA, zB, zC]
 refine zT (i := 22) (v := ?_) rfl ?_ hHeld ?_
 rotate_left 1
 ·intro u hSu
  have K5u := K5.out.tape hSu.2.out hSu.1
  obtain ⟨x0u, x1u, x2u⟩ := (row3f K5u.xb).1
  obtain ⟨o0u, o1u, o2u⟩ := (row3f K5u.la.ob).1
  obtain ⟨a0u, a1u, a2u, a3u, a4u, a5u, a6u, a7u, a8u, a9u⟩ := p_facts K5u.la.pb
  obtain ⟨q0u, q1u, q2u, q3u, q4u, q5u, q6u, q7u, q8u, q9u⟩ := p_facts K5u.la.qb
  go_simp
  first | done | with_reducible rfl
 try simp only [Act.put, zA, zB, zC]
 refine wpAnyH_done (by kernel_rfl) ?_ _
 have HG : Hid (w.grownBy wB none) := Lib.hid (grown_any K5.out.la.gr hHeld.2.out (fun b hb e => by have := Option.some.inj e; have := K5.out.la.lo_; omega))
 have HTB := Lib.hid (K5.out.tape hHeld.2.out hHeld.1).la.tb
 generalize w14.heap.size = BS at *
 have HALL : Hid (∀ i : Nat, i < 2 → ∃ (pa pb : Option Addr) (ca cb : Nat) (D : List Pk), D.length ≤ 64 ∧ wB.cell? ⟨BS, i * 2, none⟩ = some (.slice pa D.length ca) ∧ wB.cell? ⟨BS, i * 2 + 1, none⟩ = some (.slice pb D.length cb) ∧ DlR a r D pa ca wB ∧ DlR a r D pb cb wB) := Lib.hid (fun i hi => by
  rcases (show i = 0 ∨ i = 1 by omega) with rfl | rfl
  ·exact ⟨p1, p2, c1, c2, locD Q y, locD_le _ _, cell_of_row _ _ _ _ _ _ HBS.out, cell_of_row _ _ _ _ _ _ HBS.out, HL1.out, HL2.out⟩
  ·exact ⟨p3, p4, c3, c4, locD P lo, locD_le _ _, cell_of_row _ _ _ _ _ _ HBS.out, cell_of_row _ _ _ _ _ _ HBS.out, HL3.out, HL4.out⟩)
 generalize (locD Q y).length = n1 at *
 generalize (locD P lo).length = n2 at *
 clear HL1 HL2 HL3 HL4 HBS hHeld K5 x0 x1 x2 o0 o1 o2 a0 a1 a2 a3 a4 a5 a6 a7 a8 a9 q0 q1 q2 q3 q4 q5 q6 q7 q8 q9 hb2 HN
 go_wp2_with fail
 go_loopw [13] (fun u wr => ∃ i : Nat, i ≤ 2 ∧ u = .int .i64 (i : Int) ∧ Hid (wB.grownBy wr none)) (fun u _ => 2 - (RowKit.intOf u).toNat)
 case atStart => exact ⟨0, by omega, rfl, Lib.hid (grown_refl _ _)⟩
 case round =>
 obtain ⟨i, hi, rfl, G⟩ := hrel
 obtain ⟨w6, hw6⟩ : ∃ w6, w6 = wr := ⟨_, rfl⟩
 rw [← hw6] at G ⊢
 clear hw6
 by_cases hlt : i < 2
 case neg =>
  obtain rfl : i = 2 := by omega
  have hnl : ¬ (((2 : Nat) : Int) < 2) := by omega
  go_wp2_with fail
  refine (awk13_any w6 (HTB.out.keep G.out)).mono ?_
  rintro e w7 ⟨rfl, hz⟩
  have GF := Lib.hid (grown_trans HG.out (grown_trans G.out hz))
  clear hz
  go_wp2_with fail
  go_ret
  exact ⟨rfl, GF.out⟩
 have hlt' : (i : Int) < 2 := by omega
 have hi0 : (0 : Int) ≤ (i : Int) := by omega
 obtain ⟨pa, pb, ca, cb, D, hD, c1, c2, R1, R2⟩ := HALL.out i hlt
 have HC := Lib.hid (And.intro c1 (And.intro c2 (And.intro R1 R2)))
 clear c1 c2 R1 R2
 have c1 := G.out.cell HC.out.1 (by simp)
 have c2 := G.out.cell HC.out.2.1 (by simp)
 go_upto_region 8 with fail
 refine wp_region_held_drew (S := fun w' => Hid (w6.grownBy w' none)) (by kernel_rfl) (Lib.hid (grown_drew (grown_refl _ none))) (fun hHeld => ?_)
 refine zT (i := 0) (v := ?_) rfl ?_ hHeld ?_
 rotate_left 1
 ·intro u hSu
  go_simp
  first | done | with_reducible rfl
 try simp only [Act.put, zA, zB, zC]
 refine zT (i := 1) (v := ?_) rfl ?_ hHeld ?_
 rotate_left 1
 ·intro u hSu
  go_simp
  first | done | with_reducible rfl
 try simp only [Act.put, zA, zB, zC]
 refine zT (i := 2) (v := ?_) rfl ?_ hHeld ?_
 rotate_left 1
 ·intro u hSu
  go_simp
  first | done | with_reducible rfl
 try simp only [Act.put, zA, zB, zC]
 refine zT (i := 3) (v := ?_) rfl ?_ hHeld ?_
 rotate_left 1
 ·intro u hSu
  go_simp
  first | done | with_reducible rfl
 try simp only [Act.put, zA, zB, zC]
 refine zT (i := 4) (v := ?_) rfl ?_ hHeld ?_
 rotate_left 1
 ·intro u hSu
  have c1u := hSu.out.cell c1 (by simp)
  have c2u := hSu.out.cell c2 (by simp)
  go_simp
  first | done | with_reducible rfl
 try simp only [Act.put, zA, zB, zC]
 refine zT (i := 5) (v := ?_) rfl ?_ hHeld ?_
 rotate_left 1
 ·intro u hSu
  have c1u := hSu.out.cell c1 (by simp)
  have c2u := hSu.out.cell c2 (by simp)
  go_simp
  first | done | with_reducible rfl
 try simp only [Act.put, zA, zB, zC]
 refine zT (i := 6) (v := ?_) rfl ?_ hHeld ?_
 rotate_left 1
 ·intro u hSu
  go_simp
  first | done | with_reducible rfl
 try simp only [Act.put, zA, zB, zC]
 refine zT (i := 7) (v := ?_) rfl ?_ hHeld ?_
 rotate_left 1
 ·intro u hSu
  go_simp
  first | done | with_reducible rfl
 try simp only [Act.put, zA, zB, zC]
 refine zT (i := 8) (v := ?_) rfl ?_ hHeld ?_
 rotate_left 1
 ·intro u hSu
  go_simp
  first | done | with_reducible rfl
 try simp only [Act.put, zA, zB, zC]
 refine zT (i := 9) (v := ?_) rfl ?_ hHeld ?_
 rotate_left 1
 ·intro u hSu
  go_simp
  first | done | with_reducible rfl
 try simp only [Act.put, zA, zB, zC]
 refine zT (i := 10) (v := ?_) rfl ?_ hHeld ?_
 rotate_left 1
 ·intro u hSu
  have c1u := hSu.out.cell c1 (by simp)
  have c2u := hSu.out.cell c2 (by simp)
  go_simp
  first | done | with_reducible rfl
 try simp only [Act.put, zA, zB, zC]
 refine zT (i := 11) (v := ?_) rfl ?_ hHeld ?_
 rotate_left 1
 ·intro u hSu
  have c1u := hSu.out.cell c1 (by simp)
  have c2u := hSu.out.cell c2 (by simp)
  go_simp
  first | done | with_reducible rfl
 try simp only [Act.put, zA, zB, zC]
 refine zT (i := 12) (v := .bool false) rfl ?_ hHeld ?_
 ·intro u hSu
  go_simp
  first | done | rfl | simp
 try simp only [Act.put, zA, zB, zC]
 refine wpAnyH_done (by kernel_rfl) ?_ _
 have G8 := Lib.hid (grown_trans G.out hHeld.out)
 clear hHeld c1 c2 G
 go_wp2_with fail
 go_loopw [14] (fun u wr => ∃ k : Nat, k ≤ D.length ∧ u = .int .i64 (k : Int) ∧ Hid (wB.grownBy wr none)) (fun u _ => D.length - (RowKit.intOf u).toNat)
 case atStart => exact ⟨0, by omega, rfl, G8⟩
 case round =>
 clear G8
 obtain ⟨k, hk, rfl, G⟩ := hrel
 obtain ⟨w7, hw7⟩ : ∃ w7, w7 = wr := ⟨_, rfl⟩
 rw [← hw7] at G ⊢
 clear hw7
 have c1 := G.out.cell HC.out.1 (by simp)
 have c2 := G.out.cell HC.out.2.1 (by simp)
 by_cases hltk : k < D.length
 case neg =>
  obtain rfl : k = D.length := by omega
  have hnl : ¬ (D.length : Int) < (D.length : Int) := by omega
  go_wp2_with fail
  exact ⟨⟨i + 1, by omega, congrArg _ (by omega), G⟩, by simp only [RowKit.intOf]; omega⟩
 have hltk' : (k : Int) < (D.length : Int) := by omega
 have hk0 : (0 : Int) ≤ (k : Int) := by omega
 obtain ⟨X, hX⟩ : ∃ X, D[k]? = some X := ⟨_, List.getElem?_eq_getElem hltk⟩
 obtain ⟨ga, oa, rfl, ha⟩ := HC.out.2.2.1.at_ hX
 obtain ⟨gb, ob, rfl, hb⟩ := HC.out.2.2.2.at_ hX
 have HAB := Lib.hid (And.intro ha hb)
 clear ha hb hX
 go_upto_region 13 with fail
 refine wp_region_held_drew (S := fun w' => Hid (w7.grownBy w' none)) (by kernel_rfl) (Lib.hid (grown_drew (grown_refl _ none))) (fun hHeld => ?_)
 refine zT (i := 0) (v := ?_) rfl ?_ hHeld ?_
 rotate_left 1
 ·intro u hSu
  go_simp
  first | done | with_reducible rfl
 try simp only [Act.put, zA, zB, zC]
 refine zT (i := 1) (v := ?_) rfl ?_ hHeld ?_
 rotate_left 1
 ·intro u hSu
  go_simp
  first | done | with_reducible rfl
 try simp only [Act.put, zA, zB, zC]
 refine zT (i := 2) (v := ?_) rfl ?_ hHeld ?_
 rotate_left 1
 ·intro u hSu
  go_simp
  first | done | with_reducible rfl
 try simp only [Act.put, zA, zB, zC]
 refine zT (i := 3) (v := ?_) rfl ?_ hHeld ?_
 rotate_left 1
 ·intro u hSu
  go_simp
  first | done | with_reducible rfl
 try simp only [Act.put, zA, zB, zC]
 refine zT (i := 4) (v := ?_) rfl ?_ hHeld ?_
 rotate_left 1
 ·intro u hSu
  have c1u := hSu.out.cell c1 (by simp)
  have c2u := hSu.out.cell c2 (by simp)
  obtain ⟨m0u, m1u, m2u, m3u, m4u, m5u, m6u, m7u, m8u, m9u, m10u⟩ := HAB.out.1 u (grown_trans G.out hSu.out)
  obtain ⟨n0u, n1u, n2u, n3u, n4u, n5u, n6u, n7u, n8u, n9u, n10u⟩ := HAB.out.2 u (grown_trans G.out hSu.out)
  go_simp
  first | done | with_reducible rfl
 try simp only [Act.put, zA, zB, zC]
 refine zT (i := 5) (v := ?_) rfl ?_ hHeld ?_
 rotate_left 1
 ·intro u hSu
  go_simp
  first | done | with_reducible rfl
 try simp only [Act.put, zA, zB, zC]
 refine zT (i := 6) (v := ?_) rfl ?_ hHeld ?_
 rotate_left 1
 ·intro u hSu
  go_simp
  first | done | with_reducible rfl
 try simp only [Act.put, zA, zB, zC]
 refine zT (i := 7) (v := ?_) rfl ?_ hHeld ?_
 rotate_left 1
 ·intro u hSu
  have c1u := hSu.out.cell c1 (by simp)
  have c2u := hSu.out.cell c2 (by simp)
  obtain ⟨m0u, m1u, m2u, m3u, m4u, m5u, m6u, m7u, m8u, m9u, m10u⟩ := HAB.out.1 u (grown_trans G.out hSu.out)
  obtain ⟨n0u, n1u, n2u, n3u, n4u, n5u, n6u, n7u, n8u, n9u, n10u⟩ := HAB.out.2 u (grown_trans G.out hSu.out)
  go_simp
  first | done | with_reducible rfl
 try simp only [Act.put, zA, zB, zC]
 refine zT (i := 8) (v := ?_) rfl ?_ hHeld ?_
 rotate_left 1
 ·intro u hSu
  go_simp
  first | done | with_reducible rfl
 try simp only [Act.put, zA, zB, zC]
 refine zT (i := 9) (v := ?_) rfl ?_ hHeld ?_
 rotate_left 1
 ·intro u hSu
  go_simp
  first | done | with_reducible rfl
 try simp only [Act.put, zA, zB, zC]
 refine zT (i := 10) (v := ?_) rfl ?_ hHeld ?_
 rotate_left 1
 ·intro u hSu
  go_simp
  first | done | with_reducible rfl
 try simp only [Act.put, zA, zB, zC]
 refine zT (i := 11) (v := ?_) rfl ?_ hHeld ?_
 rotate_left 1
 ·intro u hSu
  go_simp
  first | done | with_reducible rfl
 try simp only [Act.put, zA, zB, zC]
 refine zT (i := 12) (v := ?_) rfl ?_ hHeld ?_
 rotate_left 1
 ·intro u hSu
  have c1u := hSu.out.cell c1 (by simp)
  have c2u := hSu.out.cell c2 (by simp)
  obtain ⟨m0u, m1u, m2u, m3u, m4u, m5u, m6u, m7u, m8u, m9u, m10u⟩ := HAB.out.1 u (grown_trans G.out hSu.out)
  obtain ⟨n0u, n1u, n2u, n3u, n4u, n5u, n6u, n7u, n8u, n9u, n10u⟩ := HAB.out.2 u (grown_trans G.out hSu.out)
  go_simp
  first | done | with_reducible rfl
 try simp only [Act.put, zA, zB, zC]
 refine zT (i := 13) (v := ?_) rfl ?_ hHeld ?_
 rotate_left 1
 ·intro u hSu
  go_simp
  first | done | with_reducible rfl
 try simp only [Act.put, zA, zB, zC]
 refine zT (i := 14) (v := ?_) rfl ?_ hHeld ?_
 rotate_left 1
 ·intro u hSu
  go_simp
  first | done | with_reducible rfl
 try simp only [Act.put, zA, zB, zC]
 refine zT (i := 15) (v := ?_) rfl ?_ hHeld ?_
 rotate_left 1
 ·intro u hSu
  have c1u := hSu.out.cell c1 (by simp)
  have c2u := hSu.out.cell c2 (by simp)
  obtain ⟨m0u, m1u, m2u, m3u, m4u, m5u, m6u, m7u, m8u, m9u, m10u⟩ := HAB.out.1 u (grown_trans G.out hSu.out)
  obtain ⟨n0u, n1u, n2u, n3u, n4u, n5u, n6u, n7u, n8u, n9u, n10u⟩ := HAB.out.2 u (grown_trans G.out hSu.out)
  go_simp
  first | done | with_reducible rfl
 try simp only [Act.put, zA, zB, zC]
 refine zT (i := 16) (v := .bool false) rfl ?_ hHeld ?_
 ·intro u hSu
  go_simp
  first | done | rfl | simp
 try simp only [Act.put, zA, zB, zC]
 refine wpAnyH_done (by kernel_rfl) ?_ _
 have G9 := Lib.hid (grown_trans G.out hHeld.out)
 clear hHeld c1 c2 G
 go_wp2_with fail
 exact ⟨⟨k + 1, by omega, congrArg _ (by omega), G9⟩, by simp only [RowKit.intOf]; omega⟩
end Go.Proofs.YtpogblengagpaaaGreatDoor
