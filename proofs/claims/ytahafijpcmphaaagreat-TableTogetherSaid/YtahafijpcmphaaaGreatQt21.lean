/- Parts of the proof, packed: TaTpM, TaGx, TaToC, TaDoM, TaDom, TaBdM, TaCaM. -/
import Derived.Test.YtahafijpcmphaaaGreatQt18
import Derived.Test.YtahafijpcmphaaaGreatQt20
import Derived.Test.YtahafijpcmphaaaGreatQt9
import Derived.Test.YtahafijpcmphaaaGreatQt19
import Derived.Test.YtahafijpcmphaaaGreatQt14
import Derived.Test.YtahafijpcmphaaaGreatQt11
import Derived.Test.YtahafijpcmphaaaGreatQt16
import Derived.Test.YtahafijpcmphaaaGreatQt10
import Derived.Test.YtahafijpcmphaaaGreatQt15
import Derived.Test.YtahafijpcmphaaaGreatQt4
/- tables: what the tape's Table keeps in memory. -/
namespace Go.Proofs.YtahafijpcmphaaaGreat
set_option maxRecDepth 100000
open Go.RowKit Bs
theorem tg_of_ownT {w : World} {base : Nat} {vR vL : Value} {R : List Rt} {L : List Lk} (hR : w.ownsRow base 92 2 vR R.length (R.flatMap rtC)) (hL : w.ownsRow base 94 5 vL L.length (L.flatMap lkC)) :
  ∃ pR cR pL cL, vR = .slice pR R.length cR ∧ vL = .slice pL L.length cL ∧ TgOk w (fun b => base ≤ b ∧ b < w.heap.size) ⟨R, L, pR, cR, pL, cL⟩ := by
 obtain ⟨pR, cR, rfl, h1, h2⟩ := own_shape hR
 obtain ⟨pL, cL, rfl, h3, h4⟩ := own_shape hL
 exact ⟨pR, cR, pL, cL, rfl, rfl, rdf_of_own2 hR, rdf_of_own2 hL, ⟨h1, h2⟩, ⟨h3, h4⟩⟩
structure TT (a : Nat) (W : World) (B : Nat) (T : Tg) (w : World) : Prop where
 rs : w.heap[W.heap.size]? = some (.cells #[.int .i64 0, .int .i64 0, .int .i64 0, .slice none 0 0] 25 (0, 0))
 bT : w.heap[B]? = some (.cells #[.slice T.pR T.R.length T.cR, .slice T.pL T.L.length T.cL] 45 (0, 0))
 t : TgOk w (fun b => W.heap.size + 1 ≤ b ∧ b < B) T
 st : St a W w
 lo : W.heap.size + 1 ≤ B ∧ B < w.heap.size
theorem TT.keep {a : Nat} {W : World} {B : Nat} {T : Tg} {w w1 : World} (h : TT a W B T w) (g : w.grownBy w1 none) : TT a W B T w1 :=
 ⟨kept_row h.rs g (by simp), kept_row h.bT g (by simp), h.t.keep g, h.st.none_ g, h.lo.1, Nat.lt_of_lt_of_le h.lo.2 g.size⟩
theorem TT.tape {a : Nat} {W : World} {B : Nat} {T : Tg} {w w1 : World} (h : TT a W B T w) (ha : a < W.heap.size) (k : St a w w1) : TT a W B T w1 := by
 have hlo := h.lo
 have hn : ∀ b, W.heap.size ≤ b → some b ≠ some a := fun b hb e => by have := Option.some.inj e; omega
 exact ⟨kept_row h.rs k.1 (hn _ (Nat.le_refl _)), kept_row h.bT k.1 (hn _ (by omega)), h.t.grown k.1 (fun b hb => hn _ (by omega)), h.st.trans k, h.lo.1, Nat.lt_of_lt_of_le h.lo.2 k.1.size⟩
structure TW (a : Nat) (W : World) (C : Nat) (v : Value) (Ts : List Tb) (w : World) : Prop where
 rs : w.heap[W.heap.size]? = some (.cells #[.int .i64 0, .int .i64 0, .int .i64 0, .slice none 0 0] 25 (0, 0))
 own : w.ownsRow C 25 4 v Ts.length (Ts.flatMap tbC)
 tabs : ∀ x ∈ Ts, TbX C w v x
 st : St a W w
 lo : W.heap.size + 1 ≤ C ∧ C ≤ w.heap.size
theorem TbX.tape {a lo : Nat} {w w1 : World} {v : Value} {x : Tb} (h : TbX lo w v x) (hl : a < lo) (g : w.grownBy w1 (some a)) : TbX lo w1 v x := h.over g (fun b hb e => by omega)
theorem TW.tape {a : Nat} {W : World} {C : Nat} {v : Value} {Ts : List Tb} {w w1 : World} (h : TW a W C v Ts w) (ha : a < W.heap.size) (k : St a w w1) : TW a W C v Ts w1 := by
 have hlo := h.lo
 exact ⟨kept_row h.rs k.1 (fun e => by have := Option.some.inj e; omega), own_otherL h.own k.1 (by omega), fun x hx => (h.tabs x hx).tape (by omega) k.1, h.st.trans k, h.lo.1, Nat.le_trans h.lo.2 k.1.size⟩
def TabPost (a : Nat) (w : World) (e : Ending) (w' : World) : Prop :=
 ∃ (r s n : Int) (L : List Rw) (p : Option Addr) (c : Nat), e = .returned (.agg #[.int .i64 r, .int .i64 s, .int .i64 n, .slice p L.length c]) ∧ RdW w' (fun b => w.heap.size ≤ b ∧ b < w'.heap.size) p c L ∧ (p = none → c = 0) ∧ (L.length ≤ c ∧ c ≤ 9223372036854775807) ∧ (∀ y ∈ L, y.p = none → y.c = 0) ∧ I64 r ∧ L.length ≤ 200 ∧ (∀ y ∈ L, y.nx.length ≤ 200) ∧ St a w w'
theorem rows_len {s n : Int} {E : List Ed} (h : vPl s n E = true) : E.length ≤ 24 := by
 unfold vPl at h
 simp only [Bool.and_eq_true, decide_eq_true_eq] at h
 omega
end Go.Proofs.YtahafijpcmphaaaGreat

/- tables: what the laws keep behind the draws of a topology. -/
namespace Go.Proofs.YtahafijpcmphaaaGreat
set_option maxRecDepth 100000
open Go.RowKit Bs
end Go.Proofs.YtahafijpcmphaaaGreat

/- tables: a drawn topology whose routers are all capable. -/
namespace Go.Proofs.YtahafijpcmphaaaGreat
set_option maxRecDepth 100000
open Go.RowKit Bs
theorem stopoC_any (a most : Nat) (hm1 : 1 ≤ most) (hm8 : most ≤ 8) (w : World) (hT : Tp w a) :
  Calls Tryz.prog 29 #[.pointer (some ⟨a, 0, none⟩), .int .i64 (most : Int), .int .i64 0] w fun e w' => ∃ T : Tg, e = .returned (.agg #[.slice T.pR T.R.length T.cR, .slice T.pL T.L.length T.cL]) ∧ TgOk w' (fun b => w.heap.size ≤ b ∧ b < w'.heap.size) T ∧ TopOf most 0 T.R T.L ∧ (T.pL = none → T.cL = 0) ∧ (∀ r ∈ T.R, r.cap = true) ∧ St a w w' := by
 refine (topoJ_any a most 0 hm1 hm8 (by unfold I64; omega) w hT).mono ?_
 rintro e w' ⟨R, L, vR, vL, rfl, hR, hL, _, hO, hs⟩
 have fL := own_formS hL
 obtain ⟨pR, cR, pL, cL, rfl, rfl, hT⟩ := tg_of_own hR hL
 refine ⟨⟨R, L, pR, cR, pL, cL⟩, rfl, hT, hO.1, fun h => ?_, hO.2.2 (Int.le_refl 0), hs⟩
 rcases fL with e1 | ⟨g, cap, e1⟩
 ·injection e1
 ·injection e1 with e2
  rw [show pL = none from h] at e2
  cases e2
end Go.Proofs.YtahafijpcmphaaaGreat

/- tables: what the tape's Domain keeps in memory. -/
namespace Go.Proofs.YtahafijpcmphaaaGreat
set_option maxRecDepth 100000
open Go.RowKit Bs
structure DomM (most : Nat) (T : Tg) (s n : Int) (E : List Ed) (Ts : List Tb) : Prop where
 ck : chk T.R T.L = 0
 len : 1 ≤ T.R.length ∧ T.R.length ≤ most
 l60 : T.L.length ≤ 60
 pl : T.pL = none → T.cL = 0
 cap : ∀ r ∈ T.R, r.cap = true
 sub : inV s 0 2 = true
 vp : vPl s n E = true
 vl : vl n = true
 all : AllM T.R T.L s n E T.R Ts
structure DX (W : World) (a B C : Nat) (T : Tg) (s n : Int) (E : List Ed) (pE : Option Addr) (cE : Nat) (w : World) : Prop where
 bT : w.heap[B]? = some (.cells #[.slice T.pR T.R.length T.cR, .slice T.pL T.L.length T.cL] 45 (0, 0))
 bP : w.heap[C]? = some (.cells #[.int .i64 s, .int .i64 n, .slice pE E.length cE] 48 (0, 0))
 t : TgOk w (fun b => W.heap.size + 2 ≤ b ∧ b < w.heap.size) T
 e : RdF w (fun b => W.heap.size + 2 ≤ b ∧ b < w.heap.size) (.slice pE E.length cE) E.length (E.flatMap edC)
 st : St a W w
 lo : W.heap.size + 2 ≤ B ∧ B < w.heap.size ∧ W.heap.size + 2 ≤ C ∧ C < w.heap.size
theorem DX.keep {W : World} {a B C : Nat} {T : Tg} {s n : Int} {E : List Ed} {pE : Option Addr} {cE : Nat} {w w1 : World} (h : DX W a B C T s n E pE cE w) (g : w.grownBy w1 none) : DX W a B C T s n E pE cE w1 :=
 ⟨kept_row h.bT g (by simp), kept_row h.bP g (by simp), (h.t.keep g).mono (fun b hb => ⟨hb.1, Nat.lt_of_lt_of_le hb.2 g.size⟩), (h.e.keep g).mono (fun b hb => ⟨hb.1, Nat.lt_of_lt_of_le hb.2 g.size⟩), h.st.none_ g, h.lo.1, Nat.lt_of_lt_of_le h.lo.2.1 g.size, h.lo.2.2.1, Nat.lt_of_lt_of_le h.lo.2.2.2 g.size⟩
theorem DX.put {W : World} {a B C r : Nat} {T : Tg} {s n : Int} {E : List Ed} {pE : Option Addr} {cE : Nat} {w w1 : World} (h : DX W a B C T s n E pE cE w) (g : w.grownBy w1 (some r)) (hr : W.heap.size ≤ r ∧ r < W.heap.size + 2) (ha : a < W.heap.size) : DX W a B C T s n E pE cE w1 := by
 have hlo := h.lo
 have hn : ∀ b, W.heap.size + 2 ≤ b → some b ≠ some r := fun b hb e => by have := Option.some.inj e; omega
 exact ⟨kept_row h.bT g (hn _ hlo.1), kept_row h.bP g (hn _ hlo.2.2.1), (h.t.grown g (fun b hb => hn b hb.1)).mono (fun b hb => ⟨hb.1, Nat.lt_of_lt_of_le hb.2 g.size⟩), (h.e.grown g (fun b hb => hn b hb.1)).mono (fun b hb => ⟨hb.1, Nat.lt_of_lt_of_le hb.2 g.size⟩), h.st.storeT g hr.1 ha, hlo.1, Nat.lt_of_lt_of_le hlo.2.1 g.size, hlo.2.2.1, Nat.lt_of_lt_of_le hlo.2.2.2 g.size⟩
structure DY (W : World) (a B C : Nat) (T : Tg) (s n : Int) (E : List Ed) (pE : Option Addr) (cE : Nat) (v : Value) (Ts : List Tb) (w : World) : Prop where
 x : DX W a B C T s n E pE cE w
 own : w.ownsRow (W.heap.size + 2) 25 4 v Ts.length (Ts.flatMap tbC)
 tabs : ∀ y ∈ Ts, TbX (W.heap.size + 2) w v y
theorem DY.keep {W : World} {a B C : Nat} {T : Tg} {s n : Int} {E : List Ed} {pE : Option Addr} {cE : Nat} {v : Value} {Ts : List Tb} {w w1 : World} (h : DY W a B C T s n E pE cE v Ts w) (g : w.grownBy w1 none) : DY W a B C T s n E pE cE v Ts w1 :=
 ⟨h.x.keep g, h.own.kept g (by cases v.ownBlock <;> simp), fun y hy => (h.tabs y hy).keep g⟩
theorem DY.put {W : World} {a B C r : Nat} {T : Tg} {s n : Int} {E : List Ed} {pE : Option Addr} {cE : Nat} {v : Value} {Ts : List Tb} {w w1 : World} (h : DY W a B C T s n E pE cE v Ts w) (g : w.grownBy w1 (some r)) (hr : W.heap.size ≤ r ∧ r < W.heap.size + 2) (ha : a < W.heap.size) : DY W a B C T s n E pE cE v Ts w1 :=
 ⟨h.x.put g hr ha, own_otherL h.own g (by omega), fun y hy => (h.tabs y hy).over g (fun b hb => by omega)⟩
def DomPost (a most : Nat) (w : World) (e : Ending) (w' : World) : Prop :=
 ∃ (T : Tg) (s n : Int) (E : List Ed) (pE : Option Addr) (cE : Nat) (Ts : List Tb) (p : Option Addr) (c : Nat), e = .returned (.tuple #[.agg #[.slice T.pR T.R.length T.cR, .slice T.pL T.L.length T.cL], .agg #[.int .i64 s, .int .i64 n, .slice pE E.length cE], .slice p Ts.length c]) ∧ DomM most T s n E Ts ∧ TgOk w' (fun b => w.heap.size ≤ b ∧ b < w'.heap.size) T ∧ RdF w' (fun b => w.heap.size ≤ b ∧ b < w'.heap.size) (.slice pE E.length cE) E.length (E.flatMap edC) ∧ w'.ownsRow w.heap.size 25 4 (.slice p Ts.length c) Ts.length (Ts.flatMap tbC) ∧ (∀ y ∈ Ts, TbX w.heap.size w' (.slice p Ts.length c) y) ∧ St a w w'
theorem res_dom {fn : Func} {p q u : Tmp} (h : fn.results = #[.cell p 45, .cell q 48, .tmp u]) (tmps : Array Value) (w : World) (g1 g2 : Nat) (x y x2 y2 z2 : Value) (hp : tmps.getD p undef = .pointer (some ⟨g1, 0, none⟩)) (hq : tmps.getD q undef = .pointer (some ⟨g2, 0, none⟩)) (hg1 : w.heap[g1]? = some (.cells #[x, y] 45 (0, 0))) (hg2 : w.heap[g2]? = some (.cells #[x2, y2, z2] 48 (0, 0))) :
  (results fn tmps).run Tryz.prog w = .ok (.tuple #[.agg #[x, y], .agg #[x2, y2, z2], tmps.getD u undef]) w := by
 have hp' : tmps[p]?.getD undef = .pointer (some ⟨g1, 0, none⟩) := by simpa using hp
 have hq' : tmps[q]?.getD undef = .pointer (some ⟨g2, 0, none⟩) := by simpa using hq
 simp [results, h, hp', hq', asAddr, run_loadVar_row w g1 45 45 #[x, y] (0, 0) _ hg1 Tryz.underlying45 rfl (by kernel_rfl), run_loadVar_row w g2 48 48 #[x2, y2, z2] (0, 0) _ hg2 Tryz.underlying48 rfl (by kernel_rfl)]
end Go.Proofs.YtahafijpcmphaaaGreat

/- tables: the tape's Domain. -/
namespace Go.Proofs.YtahafijpcmphaaaGreat
set_option maxRecDepth 100000
open Go.RowKit Bs
theorem store3T {w : World} {b : Nat} {t : TypeId} {z0 z1 z2 : Value} (u0 u1 u2 : Value) (h : w.heap[b]? = some (.cells #[z0, z1, z2] t (0, 0))) :
  (((w.setCell ⟨b, 0, none⟩ u0).setCell ⟨b, 1, none⟩ u1).setCell ⟨b, 2, none⟩ u2).heap[b]? = some (.cells #[u0, u1, u2] t (0, 0)) ∧ w.grownBy (((w.setCell ⟨b, 0, none⟩ u0).setCell ⟨b, 1, none⟩ u1).setCell ⟨b, 2, none⟩ u2) (some b) := by
 have h1 := heap_setCell_same w b 0 _ _ u0 h
 have h2 := heap_setCell_same _ b 1 _ _ u1 h1
 have h3 := heap_setCell_same _ b 2 _ _ u2 h2
 exact ⟨h3, grown_trans (grown_trans (grown_setCell w ⟨b, 0, none⟩ u0) (grown_setCell _ ⟨b, 1, none⟩ u1)) (grown_setCell _ ⟨b, 2, none⟩ u2)⟩
set_option maxHeartbeats 6400000 in
theorem tdom_any (a most : Nat) (hm1 : 1 ≤ most) (hm8 : most ≤ 8) (w : World) (hT : Tp w a) :
  Calls Tryz.prog 22 #[.pointer (some ⟨a, 0, none⟩), .int .i64 (most : Int)] w fun e w' => DomPost a most w e w' := by
 have ha := hT.lt
 have HA := Lib.hid ha
 obtain ⟨k1, k2, k3, k4⟩ := two_boxes w #[.slice none 0 0, .slice none 0 0] #[.int .i64 0, .int .i64 0, .slice none 0 0] 45 48
 have HB := Lib.hid (And.intro k1 (And.intro k2 (And.intro k3 (And.intro (hT.keep k3) (by simp : ((w.alloc (.cells #[.slice none 0 0, .slice none 0 0] 45)).alloc (.cells #[.int .i64 0, .int .i64 0, .slice none 0 0] 48)).heap.size = w.heap.size + 1 + 1)))))
 clear k1 k2 k3 k4 hT ha
 go_enter Tryz.func22, Tryz.ntmps22
 go_upto_region 1 with fail
 generalize (w.alloc _).alloc _ = wa at *
 go_wp2_with fail
 refine (stopoC_any a most hm1 hm8 wa HB.out.2.2.2.1).mono ?_
 rintro e w1 ⟨T, rfl, hTg, hO, hpl, hcap, hs⟩
 obtain ⟨R, L0, pR, cR, pL, cL⟩ := T
 (try simp only at hTg hO hpl hcap ⊢)
 have HO : Hid ((chk R L0 = 0 ∧ R.length ≤ most) ∧ 1 ≤ R.length ∧ L0.length ≤ 60 ∧ (pL = none → cL = 0) ∧ ∀ r ∈ R, r.cap = true) := Lib.hid ⟨hO.2.2.2.2 (Int.le_refl 0), hO.1, hO.2.2.2.1, hpl, hcap⟩
 obtain ⟨b1, g1⟩ := tone_box w1 #[.slice pR R.length cR, .slice pL L0.length cL] 45
 have HZ := Lib.hid (And.intro (kept_row (kept_row HB.out.1 hs.1 (fun e => by have := Option.some.inj e; have := HA.out; omega)) g1 (by simp)) (kept_row (kept_row HB.out.2.1 hs.1 (fun e => by have := Option.some.inj e; have := HA.out; omega)) g1 (by simp)))
 have H1 : Hid (w.heap.size + 2 ≤ w1.heap.size ∧ (w1.alloc (.cells #[.slice pR R.length cR, .slice pL L0.length cL] 45)).heap[w1.heap.size]? = some (.cells #[.slice pR R.length cR, .slice pL L0.length cL] 45 (0, 0)) ∧ TgOk (w1.alloc (.cells #[.slice pR R.length cR, .slice pL L0.length cL] 45)) (fun b => w.heap.size + 2 ≤ b ∧ b < w1.heap.size) ⟨R, L0, pR, cR, pL, cL⟩ ∧ St a w (w1.alloc (.cells #[.slice pR R.length cR, .slice pL L0.length cL] 45)) ∧ (w1.alloc (.cells #[.slice pR R.length cR, .slice pL L0.length cL] 45)).heap.size = w1.heap.size + 1) := Lib.hid (by
  have hh := HB.out
  have hz := hh.2.2.2.2
  have hsz := hs.1.size
  exact ⟨by omega, b1, (hTg.keep g1).mono (fun b hb => ⟨by have := hb.1; omega, hb.2⟩), (show St a w w1 from ⟨grown_trans (grown_none hh.2.2.1 _) hs.1, hs.2⟩).none_ g1, by simp⟩)
 clear hTg hO hpl hcap hs b1 g1 HB
 go_upto_region 2 with fail
 generalize w1.alloc _ = w2 at *
 generalize w1.heap.size = B at *
 obtain ⟨t0, t1⟩ := row_cells H1.out.2.1
 have hR8 : R.length ≤ 8 := by have := HO.out.1.2; omega
 go_wp2_with fail
 refine (tplan_any a 0 (by unfold I64; omega) R pR pL cR L0.length cL (by omega) w2 H1.out.2.2.2.1.2 (H1.out.2.2.1.r.mono (fun b hb => ⟨by have := hb.1; have := HA.out; omega, by have := hb.2; have := H1.out.2.2.2.2; omega⟩))).mono ?_
 rintro e w3 ⟨sub, len, E, pE, cE, rfl, hE, -, hgood, hs⟩
 obtain ⟨hg1, hg2, O, i, id, hO, hP⟩ := hgood (Int.le_refl 0)
 have hsub : inV sub 0 7 = true := by unfold inV at hg1 ⊢; simp only [decide_eq_true_eq] at hg1 ⊢; omega
 have HVP := Lib.hid (And.intro (hP.valid HO.out.1.1 hO hsub hg2).1 (And.intro hg1 hg2))
 obtain ⟨b3, g3⟩ := tone_box w3 #[.int .i64 sub, .int .i64 len, .slice pE E.length cE] 48
 have hne : ∀ b, w.heap.size ≤ b → some b ≠ some a := fun b hb e => by have := Option.some.inj e; have := HA.out; omega
 have HZ3 := Lib.hid (And.intro (kept_row (kept_row HZ.out.1 hs.1 (hne _ (Nat.le_refl _))) g3 (by simp)) (kept_row (kept_row HZ.out.2 hs.1 (hne _ (by omega))) g3 (by simp)))
 have H3 : Hid (DX w a B w3.heap.size ⟨R, L0, pR, cR, pL, cL⟩ sub len E pE cE (w3.alloc (.cells #[.int .i64 sub, .int .i64 len, .slice pE E.length cE] 48))) := Lib.hid (by
  have h := H1.out
  have hsz := hs.1.size
  refine ⟨kept_row (kept_row h.2.1 hs.1 (hne _ (by omega))) g3 (by simp), b3, ((h.2.2.1.grown hs.1 (fun b hb => hne b (by omega))).keep g3).mono (fun b hb => ⟨hb.1, by have := hb.2; have := g3.size; omega⟩), ((rdf_of_own2 hE).keep g3).mono (fun b hb => ⟨by have := hb.1; omega, Nat.lt_of_lt_of_le hb.2 g3.size⟩), (h.2.2.2.1.trans hs).none_ g3, h.1, by have := g3.size; omega, by omega, by simp⟩)
 clear hE hgood hg1 hg2 hO hP hsub hs b3 g3 t0 t1 H1 hne HZ
 go_upto_region 3 with fail
 generalize w3.alloc _ = w4 at *
 generalize w3.heap.size = C at *
 obtain ⟨t0, t1⟩ := row_cells H3.out.bT
 obtain ⟨q0, q1, q2⟩ := row3B H3.out.bP
 have hE24 := rows_len HVP.out.1
 go_wp2_with fail
 refine (rall11_any ⟨R, L0, pR, cR, pL, cL⟩ sub len E pE cE _ _ w4 H3.out.t H3.out.e (by omega)).mono ?_
 rintro e w5 ⟨Ts, p, c, er, rfl, hres, hown, htab, hg⟩
 have hlo := H3.out.lo
 have HM : Hid (AllM R L0 sub len E R Ts) := Lib.hid (by
  rcases hres with h | h
  ·exact h.2.2.2
  ·exact absurd ⟨by unfold okT; rw [HO.out.1.1]; rfl, HVP.out.1⟩ h.2.1)
 have K5 : Hid (DY w a B C ⟨R, L0, pR, cR, pL, cL⟩ sub len E pE cE (.slice p Ts.length c) Ts w5) := Lib.hid ⟨H3.out.keep hg, hown.mono (by omega), fun y hy => by
  have h := htab y hy
  exact ⟨h.rd.mono (fun b hb => ⟨by have := hb.1; omega, hb.2⟩), h.hn, h.hc, h.hy⟩⟩
 have HZ5 := Lib.hid (And.intro (kept_row HZ3.out.1 hg (by simp)) (kept_row HZ3.out.2 hg (by simp)))
 clear hres hown htab hg H3 t0 t1 q0 q1 q2 HZ3 hlo
 simp only
 go_upto_region 4 with fail
 refine wp_region_held_drew (S := fun w' => Hid (DY w a B C ⟨R, L0, pR, cR, pL, cL⟩ sub len E pE cE (.slice p Ts.length c) Ts w')) (by kernel_rfl) (Lib.hid (K5.out.keep (grown_drew (grown_refl _ none)))) (fun hHeld => ?_)
 refine zT (i := 0) (v := ?_) rfl ?_ hHeld ?_
 rotate_left 1
 ·intro u hSu
  obtain ⟨t0u, t1u⟩ := row_cells hSu.out.x.bT
  obtain ⟨q0u, q1u, q2u⟩ := row3B hSu.out.x.bP
  go_simp
  first | done | with_reducible rfl
 try simp only [Act.put, zA, zB, zC]
 refine zT (i := 1) (v := ?_) rfl ?_ hHeld ?_
 rotate_left 1
 ·intro u hSu
  obtain ⟨t0u, t1u⟩ := row_cells hSu.out.x.bT
  obtain ⟨q0u, q1u, q2u⟩ := row3B hSu.out.x.bP
  go_simp
  first | done | with_reducible rfl
 try simp only [Act.put, zA, zB, zC]
 refine zT (i := 2) (v := ?_) rfl ?_ hHeld ?_
 rotate_left 1
 ·intro u hSu
  go_simp
  first | done | with_reducible rfl
 try simp only [Act.put, zA, zB, zC]
 refine wpAnyH_ready (rs := [3]) (by kernel_rfl) (by simp) ?_
 refine AllReadyH.cons (o := ⟨_, _, _, _, _, _⟩) rfl (fun Kz hK => ?_) AllReadyH.nil
 obtain ⟨z0, z1⟩ := row_cells HZ5.out.1
 have f0 := frozen_of_row _ _ 0 _ _ HZ5.out.1
 have f1 := frozen_of_row _ _ 1 _ _ HZ5.out.1
 go_simp
 have HT3 : Hid (((w5.setCell ⟨w.heap.size, 0, none⟩ (.slice pR R.length cR)).setCell ⟨w.heap.size, 1, none⟩ (.slice pL L0.length cL)).drew.heap[w.heap.size]? = some (.cells #[.slice pR R.length cR, .slice pL L0.length cL] 45 (0, 0)) ∧ w5.drew.grownBy ((w5.setCell ⟨w.heap.size, 0, none⟩ (.slice pR R.length cR)).setCell ⟨w.heap.size, 1, none⟩ (.slice pL L0.length cL)).drew (some w.heap.size)) := Lib.hid (And.intro (store2 (u := .slice pR R.length cR) (z := .slice pL L0.length cL) HZ5.out.1) (grown_store2 w5.drew w.heap.size (.slice pR R.length cR) (.slice pL L0.length cL)))
 have HZ1 := Lib.hid (kept_row (w := w5.drew) HZ5.out.2 HT3.out.2 (fun e => by have := Option.some.inj e; omega))
 refine hK.out _ _ (Lib.hid (hHeld.out.put HT3.out.2 (by omega) HA.out)) (fun hH2 => ?_)
 clear hK Kz hHeld
 have hHeld := hH2
 clear hH2
 try simp only [Act.put, zA, zB, zC]
 refine wpAnyH_ready (rs := [4]) (by kernel_rfl) (by simp) ?_
 refine AllReadyH.cons (o := ⟨_, _, _, _, _, _⟩) rfl (fun Kz hK => ?_) AllReadyH.nil
 clear z0 z1 f0 f1
 generalize ((w5.setCell ⟨w.heap.size, 0, none⟩ (.slice pR R.length cR)).setCell ⟨w.heap.size, 1, none⟩ (.slice pL L0.length cL)).drew = wX at *
 obtain ⟨z0, z1, z2⟩ := row3B HZ1.out
 have f0 := frozen_of_row _ _ 0 _ _ HZ1.out
 have f1 := frozen_of_row _ _ 1 _ _ HZ1.out
 have f2 := frozen_of_row _ _ 2 _ _ HZ1.out
 go_simp
 have HT4 := Lib.hid (And.intro (store3T (.int .i64 sub) (.int .i64 len) (.slice pE E.length cE) HZ1.out).1 (And.intro (store3T (.int .i64 sub) (.int .i64 len) (.slice pE E.length cE) HZ1.out).2 (kept_row HT3.out.1 (store3T (.int .i64 sub) (.int .i64 len) (.slice pE E.length cE) HZ1.out).2 (fun e => by have := Option.some.inj e; omega))))
 refine hK.out _ _ (Lib.hid (hHeld.out.put HT4.out.2.1 (by omega) HA.out)) (fun hH2 => ?_)
 clear hK Kz hHeld
 have hHeld := hH2
 clear hH2
 try simp only [Act.put, zA, zB, zC]
 refine zT (i := 5) (v := ?_) rfl ?_ hHeld ?_
 rotate_left 1
 ·intro u hSu
  go_simp
  first | done | with_reducible rfl
 try simp only [Act.put, zA, zB, zC]
 refine wpAnyH_done (by kernel_rfl) ?_ _
 clear z0 z1 z2 f0 f1 f2
 have HF := hHeld
 clear hHeld K5
 go_wp2_with fail
 refine bodyPost_ret (res_dom rfl _ _ w.heap.size (w.heap.size + 1) _ _ _ _ _ rfl rfl HT4.out.2.2 HT4.out.1) rfl ?_
 exact ⟨⟨R, L0, pR, cR, pL, cL⟩, sub, len, E, pE, cE, Ts, p, c, rfl, ⟨HO.out.1.1, ⟨HO.out.2.1, HO.out.1.2⟩, HO.out.2.2.1, HO.out.2.2.2.1, HO.out.2.2.2.2, HVP.out.2.1, HVP.out.1, HVP.out.2.2, HM.out⟩, HF.out.x.t.mono (fun b hb => ⟨by have := hb.1; omega, hb.2⟩), HF.out.x.e.mono (fun b hb => ⟨by have := hb.1; omega, hb.2⟩), HF.out.own.mono (by omega), fun y hy => by
  have h := HF.out.tabs y hy
  exact ⟨h.rd.mono (fun b hb => ⟨by have := hb.1; omega, hb.2⟩), h.hn, h.hc, h.hy⟩, HF.out.x.st⟩
end Go.Proofs.YtahafijpcmphaaaGreat

/- tables: what Build gives. -/
namespace Go.Proofs.YtahafijpcmphaaaGreat
set_option maxRecDepth 100000
open Go.RowKit Bs
def buE (R : List Rt) (L0 : List Lk) (s n : Int) (E : List Ed) (ro : Int) : Int :=
 if okT R L0 = true ∧ vPl s n E = true then (if hasV R L0 ro = true then (if capV R L0 ro = true then 0 else 26) else 4) else 1
theorem bu_inv {R : List Rt} {L0 : List Lk} {s n : Int} {E : List Ed} {ro : Int} (h : ¬ (okT R L0 = true ∧ vPl s n E = true)) : buE R L0 s n E ro = 1 := by unfold buE; rw [if_neg h]
theorem bu_unk {R : List Rt} {L0 : List Lk} {s n : Int} {E : List Ed} {ro : Int} (h : okT R L0 = true ∧ vPl s n E = true) (h1 : hasV R L0 ro = false) : buE R L0 s n E ro = 4 := by unfold buE; rw [if_pos h, if_neg (by rw [h1]; decide)]
theorem bu_cap {R : List Rt} {L0 : List Lk} {s n : Int} {E : List Ed} {ro : Int} (h : okT R L0 = true ∧ vPl s n E = true) (h1 : hasV R L0 ro = true) (h2 : capV R L0 ro = false) : buE R L0 s n E ro = 26 := by unfold buE; rw [if_pos h, if_pos h1, if_neg (by rw [h2]; decide)]
theorem bu_ok {R : List Rt} {L0 : List Lk} {s n : Int} {E : List Ed} {ro : Int} (h : okT R L0 = true ∧ vPl s n E = true) (h1 : hasV R L0 ro = true) (h2 : capV R L0 ro = true) : buE R L0 s n E ro = 0 := by unfold buE; rw [if_pos h, if_pos h1, if_pos h2]
def TBdPost (R : List Rt) (L0 : List Lk) (ro s n : Int) (E : List Ed) (w : World) (e : Ending) (w' : World) : Prop :=
 ∃ (r1 s1 n1 : Int) (L : List Rw) (p : Option Addr) (c : Nat) (er : Int), e = .returned (.tuple #[.agg #[.int .i64 r1, .int .i64 s1, .int .i64 n1, .slice p L.length c], .int .i64 er]) ∧ er = buE R L0 s n E ro ∧ w'.ownsRow w.heap.size 36 2 (.slice p L.length c) L.length (L.flatMap rwC) ∧ (∀ x ∈ L, RdX w.heap.size w' (.slice p L.length c) x.p x.c x.nx) ∧ ((er = 0 ∧ r1 = ro ∧ s1 = s ∧ n1 = n ∧ BldM R L0 ro E L) ∨ (er ≠ 0 ∧ r1 = 0 ∧ s1 = 0 ∧ n1 = 0 ∧ L = [])) ∧ w.grownBy w' none
theorem tbd_zero {R : List Rt} {L0 : List Lk} {ro s n er : Int} {E : List Ed} {w w' : World} (h : buE R L0 s n E ro = er) (h0 : er ≠ 0) (g : w.grownBy w' none) : TBdPost R L0 ro s n E w (.returned (.tuple #[.agg #[.int .i64 0, .int .i64 0, .int .i64 0, .slice none 0 0], .int .i64 er])) w' :=
 ⟨0, 0, 0, [], none, 0, er, rfl, h.symm, World.ownsRow_nil _ _ _ _, fun x hx => (by cases hx), Or.inr ⟨h0, rfl, rfl, rfl, rfl⟩, g⟩
structure B3 (W : World) (T : Tg) (s n : Int) (E : List Ed) (pE : Option Addr) (cE : Nat) (w : World) : Prop where
 bT : w.heap[W.heap.size]? = some (.cells #[.slice T.pR T.R.length T.cR, .slice T.pL T.L.length T.cL] 45 (0, 0))
 bP : w.heap[W.heap.size + 1]? = some (.cells #[.int .i64 s, .int .i64 n, .slice pE E.length cE] 48 (0, 0))
 bR : w.heap[W.heap.size + 1 + 1]? = some (.cells #[.int .i64 0, .int .i64 0, .int .i64 0, .slice none 0 0] 25 (0, 0))
 t : TgOk w (· < W.heap.size) T
 e : RdF w (· < W.heap.size) (.slice pE E.length cE) E.length (E.flatMap edC)
 gr : W.grownBy w none
 lo : W.heap.size + 3 ≤ w.heap.size
theorem B3.keep {W : World} {T : Tg} {s n : Int} {E : List Ed} {pE : Option Addr} {cE : Nat} {w w1 : World} (h : B3 W T s n E pE cE w) (g : w.grownBy w1 none) : B3 W T s n E pE cE w1 :=
 ⟨kept_row h.bT g (by simp), kept_row h.bP g (by simp), kept_row h.bR g (by simp), h.t.keep g, h.e.keep g, grown_trans h.gr g, Nat.le_trans h.lo g.size⟩
theorem b3_start {w : World} {T : Tg} {q q2 : Nat → Prop} (s n : Int) {E : List Ed} {pE : Option Addr} {cE : Nat} (hT : TgOk w q T) (hE : RdF w q2 (.slice pE E.length cE) E.length (E.flatMap edC)) :
  B3 w T s n E pE cE (((w.alloc (.cells #[.slice T.pR T.R.length T.cR, .slice T.pL T.L.length T.cL] 45)).alloc (.cells #[.int .i64 s, .int .i64 n, .slice pE E.length cE] 48)).alloc (.cells #[.int .i64 0, .int .i64 0, .int .i64 0, .slice none 0 0] 25)) := by
 obtain ⟨a1, g1, z1⟩ := alloc_row (w := w) #[.slice T.pR T.R.length T.cR, .slice T.pL T.L.length T.cL] 45 rfl
 generalize w.alloc _ = w1 at *
 obtain ⟨a2, g2, z2⟩ := alloc_row (w := w1) #[.int .i64 s, .int .i64 n, .slice pE E.length cE] 48 z1
 generalize w1.alloc _ = w2 at *
 obtain ⟨a3, g3, z3⟩ := alloc_row (w := w2) #[.int .i64 0, .int .i64 0, .int .i64 0, .slice none 0 0] 25 z2
 generalize w2.alloc _ = w3 at *
 have gg := grown_trans (grown_trans g1 g2) g3
 exact ⟨kept_row (kept_row a1 g2 (by simp)) g3 (by simp), kept_row a2 g3 (by simp), a3, hT.old.keep gg, hE.old.keep gg, gg, by omega⟩
theorem res_tab_e {fn : Func} {p u : Tmp} (h : fn.results = #[.cell p 25, .tmp u]) (tmps : Array Value) (w : World) (g : Nat) (x y z v : Value) (hp : tmps.getD p undef = .pointer (some ⟨g, 0, none⟩)) (hg : w.heap[g]? = some (.cells #[x, y, z, v] 25 (0, 0))) :
  (results fn tmps).run Tryz.prog w = .ok (.tuple #[.agg #[x, y, z, v], tmps.getD u undef]) w := by
 have hp' : tmps[p]?.getD undef = .pointer (some ⟨g, 0, none⟩) := by simpa using hp
 rw [results_cell_tmp h]
 simp [hp', asAddr, run_loadVar_row w g _ _ _ _ _ hg Tryz.underlying25 rfl tab_sizeB, Result.andThen]
theorem B3.out {W : World} {T : Tg} {s n : Int} {E : List Ed} {pE : Option Addr} {cE : Nat} {w w2 : World} {base : Nat} {v : Value} {L : List Rw} (h : B3 W T s n E pE cE w) (hown : w.ownsRow base 36 2 v L.length (L.flatMap rwC)) (hrows : ∀ x ∈ L, RdX base w v x.p x.c x.nx) (hb : W.heap.size + 3 ≤ base) (g : w.grownBy w2 (some (W.heap.size + 1 + 1))) :
  w2.ownsRow W.heap.size 36 2 v L.length (L.flatMap rwC) ∧ (∀ x ∈ L, RdX W.heap.size w2 v x.p x.c x.nx) ∧ W.grownBy w2 none := by
 have hne : ∀ b, base ≤ b → b ≠ W.heap.size + 1 + 1 := fun b hb => by omega
 refine ⟨(hown.kept g (by
   cases hvo : v.ownBlock with
   | none => exact Or.inl rfl
   | some b => exact Or.inr (fun e => by have := (hown.lt b hvo).1; have := Option.some.inj e; omega))).mono (by omega), fun x hx => ?_, grown_new h.gr g (by omega)⟩
 have h2 := (hrows x hx).over g hne
 exact ⟨h2.1.mono (fun b hb => ⟨by have := hb.1; omega, hb.2⟩), h2.2⟩
end Go.Proofs.YtahafijpcmphaaaGreat

/- tables: slices of tables that are searched; CheckAll's closures. -/
namespace Go.Proofs.YtahafijpcmphaaaGreat
set_option maxRecDepth 100000
open Go.RowKit Bs
set_option maxHeartbeats 1600000 in
theorem tidxT_any (g : Nat) (lb : Array Value) (P : Tb → Bool) (eg : EnterF g) (R : List Tb) (p : Option Addr) (c : Nat) (q : Nat → Prop) (w : World) (hR : RdF w q (.slice p R.length c) R.length (R.flatMap tbC)) (hm : R.length ≤ 9223372036854775807)
  (hP : ∀ (r : Tb) (w' : World), r ∈ R → w.grownBy w' none → Calls Tryz.prog g (#[.agg #[.int .i64 r.r, .int .i64 r.s, .int .i64 r.n, .slice r.p r.L.length r.c]] ++ lb) w' fun e w2 => e = .returned (.bool (P r)) ∧ w'.grownBy w2 none) :
  Calls Tryz.prog 69 #[.slice p R.length c, .func (.func g) #[] lb] w fun e w' => ∃ i : Int, e = .returned (.int .i64 i) ∧ decide (0 ≤ i) = R.any P ∧ w.grownBy w' none := by
 have HR := Lib.hid hR
 have HP := Lib.hid hP
 clear hR hP
 go_enter Tryz.func69, Tryz.ntmps69
 go_wp2_with fail
 go_loopw [8] (fun a wr => ∃ k : Nat, k ≤ R.length ∧ a = .int .i64 (k : Int) ∧ Hid (w.grownBy wr none) ∧ Hid ((R.take k).any P = false)) (fun a _ => R.length - (RowKit.intOf a).toNat)
 case atStart => exact ⟨0, Nat.zero_le _, rfl, Lib.hid (grown_refl _ _), Lib.hid rfl⟩
 case round =>
  obtain ⟨k, hk, rfl, G, HN⟩ := hrel
  by_cases hlt : k < R.length
  ·obtain ⟨x, hx⟩ : ∃ x, R[k]? = some x := ⟨_, List.getElem?_eq_getElem hlt⟩
   obtain ⟨-, b, off, rfl, hq, hc⟩ := tb_cells (HR.out.keep G.out) (by omega)
   obtain ⟨a0, a1, a2, a3⟩ := hc k x hx
   have HX := Lib.hid hx
   clear hc hx
   have hcall := HP.out x wr (List.mem_of_getElem? HX.out) G.out
   cases hp : P x
   ·rw [hp] at hcall
    have HY := Lib.hid hp
    clear hp
    go_wp2_with (go_at_fn g; refine hcall.mono ?_; rintro e w' ⟨rfl, hg⟩; have HG := Lib.hid (grown_trans G.out hg); clear hg)
    exact ⟨⟨k + 1, by omega, congrArg _ (by omega), HG, Lib.hid (any_take HN.out HX.out HY.out)⟩, by simp only [RowKit.intOf]; omega⟩
   ·rw [hp] at hcall
    have HY := Lib.hid hp
    clear hp
    go_wp2_with (go_at_fn g; refine hcall.mono ?_; rintro e w' ⟨rfl, hg⟩; have HG := Lib.hid (grown_trans G.out hg); clear hg)
    go_ret
    refine ⟨_, rfl, ?_, HG.out⟩
    rw [any_at HX.out HY.out, decide_eq_true_eq]; omega
  ·obtain rfl : k = R.length := by omega
   go_wp2_with fail
   go_ret
   refine ⟨_, rfl, ?_, G.out⟩
   rw [any_end HN.out (Nat.le_refl _)]; decide
set_option maxHeartbeats 1600000 in
theorem tcontT_any (g : Nat) (lb : Array Value) (P : Tb → Bool) (eg : EnterF g) (R : List Tb) (p : Option Addr) (c : Nat) (q : Nat → Prop) (w : World) (hR : RdF w q (.slice p R.length c) R.length (R.flatMap tbC)) (hm : R.length ≤ 9223372036854775807)
  (hP : ∀ (r : Tb) (w' : World), r ∈ R → w.grownBy w' none → Calls Tryz.prog g (#[.agg #[.int .i64 r.r, .int .i64 r.s, .int .i64 r.n, .slice r.p r.L.length r.c]] ++ lb) w' fun e w2 => e = .returned (.bool (P r)) ∧ w'.grownBy w2 none) :
  Calls Tryz.prog 64 #[.slice p R.length c, .func (.func g) #[] lb] w fun e w' => e = .returned (.bool (R.any P)) ∧ w.grownBy w' none := by
 have HR := Lib.hid hR
 have HP := Lib.hid hP
 clear hR hP
 go_enter Tryz.func64, Tryz.ntmps64
 go_wp2_with (go_at_call 69; refine (tidxT_any g lb P eg R p c q w HR.out hm HP.out).mono ?_; rintro e w' ⟨i, rfl, hi, hg⟩; have HI := Lib.hid (And.intro hi hg); clear hi hg)
 go_ret
 rw [← HI.out.1]
 exact ⟨rfl, HI.out.2⟩
def ltTb (x y : Tb) : Bool := decide (x.r < y.r)
def caW (x : Tb) : Bool := ckT x.r x.s x.n x.L != 0
def cfTb (s n : Int) (x : Tb) : Bool := x.s != s || x.n != n
def caT (Ts : List Tb) : Int :=
 if 24 < Ts.length then 3 else if Ts.any caW = true then 1 else if ascB ltTb Ts = false then 25 else if Ts.any (cfTb ((Ts.head?.map Tb.s).getD 0) ((Ts.head?.map Tb.n).getD 0)) = true then 8 else 0
set_option maxHeartbeats 1600000 in
theorem tca1_any (x : Tb) (q : Nat → Prop) (w : World) (hx : RdW w q x.p x.c x.L) (hm : x.L.length ≤ 9223372036854775807) :
  Calls Tryz.prog 65 #[.agg #[.int .i64 x.r, .int .i64 x.s, .int .i64 x.n, .slice x.p x.L.length x.c]] w fun e w' => e = .returned (.bool (caW x)) ∧ w.grownBy w' none := by
 obtain ⟨k1, k2⟩ := tone_box w #[.int .i64 x.r, .int .i64 x.s, .int .i64 x.n, .slice x.p x.L.length x.c] 25
 have HB := Lib.hid (And.intro k1 (And.intro k2 (hx.keep k2)))
 clear k1 k2 hx
 go_enter Tryz.func65, Tryz.ntmps65
 go_upto_region 1 with fail
 generalize w.alloc _ = w1 at *
 obtain ⟨d0, d1, d2, d3⟩ := row4T HB.out.1
 go_wp2_with fail
 refine (tcheckT_any x.r x.s x.n x.p x.c x.L _ w1 HB.out.2.2 hm).mono ?_
 rintro e w2 ⟨rfl, hg⟩
 have G := Lib.hid (grown_trans HB.out.2.1 hg)
 clear hg d0 d1 d2 d3
 simp only
 obtain ⟨z, hz⟩ : ∃ z, ckT x.r x.s x.n x.L = z := ⟨_, rfl⟩
 have HZ : Hid (caW x = (z != 0)) := Lib.hid (by unfold caW; rw [hz])
 rw [hz]
 clear hz
 go_wp2_with fail
 go_ret
 exact ⟨by rw [HZ.out]; rfl, G.out⟩
set_option maxHeartbeats 1600000 in
theorem tca2_any (x : Tb) (w : World) :
  Calls Tryz.prog 67 #[.agg #[.int .i64 x.r, .int .i64 x.s, .int .i64 x.n, .slice x.p x.L.length x.c]] w fun e w' => e = .returned (.int .i64 x.r) ∧ w.grownBy w' none := by
 obtain ⟨k1, k2⟩ := tone_box w #[.int .i64 x.r, .int .i64 x.s, .int .i64 x.n, .slice x.p x.L.length x.c] 25
 have HB := Lib.hid (And.intro k1 k2)
 clear k1 k2
 go_enter Tryz.func67, Tryz.ntmps67
 go_upto_region 1 with fail
 generalize w.alloc _ = w1 at *
 obtain ⟨d0, d1, d2, d3⟩ := row4T HB.out.1
 go_wp2_with fail
 go_ret
 exact ⟨rfl, HB.out.2⟩
set_option maxHeartbeats 3200000 in
theorem tca3_any (x : Tb) (g b off : Nat) (n c : Nat) (s0 n0 : Int) (w : World) (hg : w.heap[g]? = some (.cells #[.slice (some ⟨b, off, none⟩) n c] 29 (0, 0))) (hn : 0 < n) (h1 : w.cell? ⟨b, off + 1, none⟩ = some (.int .i64 s0)) (h2 : w.cell? ⟨b, off + 2, none⟩ = some (.int .i64 n0)) :
  Calls Tryz.prog 68 #[.agg #[.int .i64 x.r, .int .i64 x.s, .int .i64 x.n, .slice x.p x.L.length x.c], .pointer (some ⟨g, 0, none⟩)] w fun e w' => e = .returned (.bool (cfTb s0 n0 x)) ∧ w.grownBy w' none := by
 obtain ⟨k1, k2⟩ := tone_box w #[.int .i64 x.r, .int .i64 x.s, .int .i64 x.n, .slice x.p x.L.length x.c] 25
 have HB := Lib.hid (And.intro k1 (And.intro k2 (And.intro (kept_row hg k2 (by simp)) (And.intro (k2.cell h1 (by simp)) (k2.cell h2 (by simp))))))
 clear k1 k2 hg h1 h2
 go_enter Tryz.func68, Tryz.ntmps68
 go_upto_region 1 with fail
 generalize w.alloc _ = w1 at *
 have hn' : (0 : Int) < (n : Int) := by omega
 by_cases es : x.s = s0
 case neg =>
  have es' : (x.s != s0) = true := by simpa using es
  have HO : Hid (cfTb s0 n0 x = true) := Lib.hid (by unfold cfTb; rw [es']; rfl)
  clear es
  refine wp_region_held_drew (S := fun w' => Hid (w1.grownBy w' none)) (by kernel_rfl) (Lib.hid (grown_drew (grown_refl _ none))) (fun hHeld => ?_)
  refine zT (i := 0) (v := ?_) rfl ?_ hHeld ?_
  rotate_left 1
  ·intro u hSu
   go_simp
   first | done | with_reducible rfl
  try simp only [Act.put, zA, zB, zC]
  refine zT (i := 1) (v := ?_) rfl ?_ hHeld ?_
  rotate_left 1
  ·intro u hSu
   obtain ⟨d0u, d1u, d2u, d3u⟩ := row4T (kept_row HB.out.1 hSu.out (by simp))
   have g0u : u.cell? ⟨g, 0, none⟩ = some (.slice (some ⟨b, off, none⟩) n c) := cell_of_row _ _ _ _ _ _ (kept_row HB.out.2.2.1 hSu.out (by simp))
   have c1u := hSu.out.cell HB.out.2.2.2.1 (by simp)
   have c2u := hSu.out.cell HB.out.2.2.2.2 (by simp)
   go_simp
   first | done | with_reducible rfl
  try simp only [Act.put, zA, zB, zC]
  refine zT (i := 2) (v := ?_) rfl ?_ hHeld ?_
  rotate_left 1
  ·intro u hSu
   obtain ⟨d0u, d1u, d2u, d3u⟩ := row4T (kept_row HB.out.1 hSu.out (by simp))
   have g0u : u.cell? ⟨g, 0, none⟩ = some (.slice (some ⟨b, off, none⟩) n c) := cell_of_row _ _ _ _ _ _ (kept_row HB.out.2.2.1 hSu.out (by simp))
   have c1u := hSu.out.cell HB.out.2.2.2.1 (by simp)
   have c2u := hSu.out.cell HB.out.2.2.2.2 (by simp)
   go_simp
   first | done | with_reducible rfl
  try simp only [Act.put, zA, zB, zC]
  refine zT (i := 3) (v := ?_) rfl ?_ hHeld ?_
  rotate_left 1
  ·intro u hSu
   go_simp
   first | done | with_reducible rfl
  try simp only [Act.put, zA, zB, zC]
  refine zT (i := 4) (v := ?_) rfl ?_ hHeld ?_
  rotate_left 1
  ·intro u hSu
   go_simp
   first | done | with_reducible rfl
  try simp only [Act.put, zA, zB, zC]
  refine zT (i := 5) (v := ?_) rfl ?_ hHeld ?_
  rotate_left 1
  ·intro u hSu
   obtain ⟨d0u, d1u, d2u, d3u⟩ := row4T (kept_row HB.out.1 hSu.out (by simp))
   have g0u : u.cell? ⟨g, 0, none⟩ = some (.slice (some ⟨b, off, none⟩) n c) := cell_of_row _ _ _ _ _ _ (kept_row HB.out.2.2.1 hSu.out (by simp))
   have c1u := hSu.out.cell HB.out.2.2.2.1 (by simp)
   have c2u := hSu.out.cell HB.out.2.2.2.2 (by simp)
   go_simp
   first | done | with_reducible rfl
  try simp only [Act.put, zA, zB, zC]
  refine zT (i := 6) (v := ?_) rfl ?_ hHeld ?_
  rotate_left 1
  ·intro u hSu
   go_simp
   first | done | with_reducible rfl
  try simp only [Act.put, zA, zB, zC]
  refine zT (i := 7) (v := ?_) rfl ?_ hHeld ?_
  rotate_left 1
  ·intro u hSu
   go_simp
   first | done | with_reducible rfl
  try simp only [Act.put, zA, zB, zC]
  refine zS (i := 8) rfl hHeld ?_
  try simp only [Act.put, zA, zB, zC]
  refine zS (i := 9) rfl hHeld ?_
  try simp only [Act.put, zA, zB, zC]
  refine zS (i := 10) rfl hHeld ?_
  try simp only [Act.put, zA, zB, zC]
  refine zS (i := 11) rfl hHeld ?_
  try simp only [Act.put, zA, zB, zC]
  refine zS (i := 12) rfl hHeld ?_
  try simp only [Act.put, zA, zB, zC]
  refine zS (i := 13) rfl hHeld ?_
  try simp only [Act.put, zA, zB, zC]
  refine zS (i := 14) rfl hHeld ?_
  try simp only [Act.put, zA, zB, zC]
  refine zT (i := 15) (v := ?_) rfl ?_ hHeld ?_
  rotate_left 1
  ·intro u hSu
   go_simp
   first | done | with_reducible rfl
  try simp only [Act.put, zA, zB, zC]
  refine zT (i := 16) (v := ?_) rfl ?_ hHeld ?_
  rotate_left 1
  ·intro u hSu
   go_simp
   first | done | with_reducible rfl
  try simp only [Act.put, zA, zB, zC]
  refine wpAnyH_done (by kernel_rfl) ?_ _
  have G := Lib.hid (grown_trans HB.out.2.1 hHeld.out)
  clear hHeld
  go_wp2_with fail
  go_ret
  exact ⟨by rw [HO.out]; rfl, G.out⟩
 have es' : (x.s != s0) = false := by simpa using es
 have HO : Hid (cfTb s0 n0 x = (x.n != n0)) := Lib.hid (by unfold cfTb; rw [es', Bool.false_or])
 clear es
 refine wp_region_held_drew (S := fun w' => Hid (w1.grownBy w' none)) (by kernel_rfl) (Lib.hid (grown_drew (grown_refl _ none))) (fun hHeld => ?_)
 refine zT (i := 0) (v := ?_) rfl ?_ hHeld ?_
 rotate_left 1
 ·intro u hSu
  go_simp
  first | done | with_reducible rfl
 try simp only [Act.put, zA, zB, zC]
 refine zT (i := 1) (v := ?_) rfl ?_ hHeld ?_
 rotate_left 1
 ·intro u hSu
  obtain ⟨d0u, d1u, d2u, d3u⟩ := row4T (kept_row HB.out.1 hSu.out (by simp))
  have g0u : u.cell? ⟨g, 0, none⟩ = some (.slice (some ⟨b, off, none⟩) n c) := cell_of_row _ _ _ _ _ _ (kept_row HB.out.2.2.1 hSu.out (by simp))
  have c1u := hSu.out.cell HB.out.2.2.2.1 (by simp)
  have c2u := hSu.out.cell HB.out.2.2.2.2 (by simp)
  go_simp
  first | done | with_reducible rfl
 try simp only [Act.put, zA, zB, zC]
 refine zT (i := 2) (v := ?_) rfl ?_ hHeld ?_
 rotate_left 1
 ·intro u hSu
  obtain ⟨d0u, d1u, d2u, d3u⟩ := row4T (kept_row HB.out.1 hSu.out (by simp))
  have g0u : u.cell? ⟨g, 0, none⟩ = some (.slice (some ⟨b, off, none⟩) n c) := cell_of_row _ _ _ _ _ _ (kept_row HB.out.2.2.1 hSu.out (by simp))
  have c1u := hSu.out.cell HB.out.2.2.2.1 (by simp)
  have c2u := hSu.out.cell HB.out.2.2.2.2 (by simp)
  go_simp
  first | done | with_reducible rfl
 try simp only [Act.put, zA, zB, zC]
 refine zT (i := 3) (v := ?_) rfl ?_ hHeld ?_
 rotate_left 1
 ·intro u hSu
  go_simp
  first | done | with_reducible rfl
 try simp only [Act.put, zA, zB, zC]
 refine zT (i := 4) (v := ?_) rfl ?_ hHeld ?_
 rotate_left 1
 ·intro u hSu
  go_simp
  first | done | with_reducible rfl
 try simp only [Act.put, zA, zB, zC]
 refine zT (i := 5) (v := ?_) rfl ?_ hHeld ?_
 rotate_left 1
 ·intro u hSu
  obtain ⟨d0u, d1u, d2u, d3u⟩ := row4T (kept_row HB.out.1 hSu.out (by simp))
  have g0u : u.cell? ⟨g, 0, none⟩ = some (.slice (some ⟨b, off, none⟩) n c) := cell_of_row _ _ _ _ _ _ (kept_row HB.out.2.2.1 hSu.out (by simp))
  have c1u := hSu.out.cell HB.out.2.2.2.1 (by simp)
  have c2u := hSu.out.cell HB.out.2.2.2.2 (by simp)
  go_simp
  first | done | with_reducible rfl
 try simp only [Act.put, zA, zB, zC]
 refine zT (i := 6) (v := ?_) rfl ?_ hHeld ?_
 rotate_left 1
 ·intro u hSu
  go_simp
  first | done | with_reducible rfl
 try simp only [Act.put, zA, zB, zC]
 refine zT (i := 7) (v := ?_) rfl ?_ hHeld ?_
 rotate_left 1
 ·intro u hSu
  go_simp
  first | done | with_reducible rfl
 try simp only [Act.put, zA, zB, zC]
 refine zT (i := 8) (v := ?_) rfl ?_ hHeld ?_
 rotate_left 1
 ·intro u hSu
  go_simp
  first | done | with_reducible rfl
 try simp only [Act.put, zA, zB, zC]
 refine zT (i := 9) (v := ?_) rfl ?_ hHeld ?_
 rotate_left 1
 ·intro u hSu
  obtain ⟨d0u, d1u, d2u, d3u⟩ := row4T (kept_row HB.out.1 hSu.out (by simp))
  have g0u : u.cell? ⟨g, 0, none⟩ = some (.slice (some ⟨b, off, none⟩) n c) := cell_of_row _ _ _ _ _ _ (kept_row HB.out.2.2.1 hSu.out (by simp))
  have c1u := hSu.out.cell HB.out.2.2.2.1 (by simp)
  have c2u := hSu.out.cell HB.out.2.2.2.2 (by simp)
  go_simp
  first | done | with_reducible rfl
 try simp only [Act.put, zA, zB, zC]
 refine zT (i := 10) (v := ?_) rfl ?_ hHeld ?_
 rotate_left 1
 ·intro u hSu
  obtain ⟨d0u, d1u, d2u, d3u⟩ := row4T (kept_row HB.out.1 hSu.out (by simp))
  have g0u : u.cell? ⟨g, 0, none⟩ = some (.slice (some ⟨b, off, none⟩) n c) := cell_of_row _ _ _ _ _ _ (kept_row HB.out.2.2.1 hSu.out (by simp))
  have c1u := hSu.out.cell HB.out.2.2.2.1 (by simp)
  have c2u := hSu.out.cell HB.out.2.2.2.2 (by simp)
  go_simp
  first | done | with_reducible rfl
 try simp only [Act.put, zA, zB, zC]
 refine zT (i := 11) (v := ?_) rfl ?_ hHeld ?_
 rotate_left 1
 ·intro u hSu
  go_simp
  first | done | with_reducible rfl
 try simp only [Act.put, zA, zB, zC]
 refine zT (i := 12) (v := ?_) rfl ?_ hHeld ?_
 rotate_left 1
 ·intro u hSu
  go_simp
  first | done | with_reducible rfl
 try simp only [Act.put, zA, zB, zC]
 refine zT (i := 13) (v := ?_) rfl ?_ hHeld ?_
 rotate_left 1
 ·intro u hSu
  obtain ⟨d0u, d1u, d2u, d3u⟩ := row4T (kept_row HB.out.1 hSu.out (by simp))
  have g0u : u.cell? ⟨g, 0, none⟩ = some (.slice (some ⟨b, off, none⟩) n c) := cell_of_row _ _ _ _ _ _ (kept_row HB.out.2.2.1 hSu.out (by simp))
  have c1u := hSu.out.cell HB.out.2.2.2.1 (by simp)
  have c2u := hSu.out.cell HB.out.2.2.2.2 (by simp)
  go_simp
  first | done | with_reducible rfl
 try simp only [Act.put, zA, zB, zC]
 refine zT (i := 14) (v := ?_) rfl ?_ hHeld ?_
 rotate_left 1
 ·intro u hSu
  go_simp
  first | done | with_reducible rfl
 try simp only [Act.put, zA, zB, zC]
 refine zT (i := 15) (v := ?_) rfl ?_ hHeld ?_
 rotate_left 1
 ·intro u hSu
  go_simp
  first | done | with_reducible rfl
 try simp only [Act.put, zA, zB, zC]
 refine zT (i := 16) (v := ?_) rfl ?_ hHeld ?_
 rotate_left 1
 ·intro u hSu
  go_simp
  first | done | with_reducible rfl
 try simp only [Act.put, zA, zB, zC]
 refine wpAnyH_done (by kernel_rfl) ?_ _
 have G := Lib.hid (grown_trans HB.out.2.1 hHeld.out)
 clear hHeld
 go_wp2_with fail
 go_ret
 exact ⟨by rw [HO.out]; rfl, G.out⟩
theorem ascT_end {R : List Tb} (h : ∀ i x y, i + 1 < R.length → R[i]? = some x → R[i + 1]? = some y → ltTb x y = true) : ascB ltTb R = true :=
 (ascB_iff _ _).2 fun i x y hx hy => h i x y ((List.getElem?_eq_some_iff.1 hy).1) hx hy
theorem ascT_hit {R : List Tb} {i : Nat} {x y : Tb} (hx : R[i]? = some x) (hy : R[i + 1]? = some y) (h : ltTb x y = false) : ascB ltTb R = false := by
 rw [Bool.eq_false_iff]
 intro h2
 have := (ascB_iff _ _).1 h2 i x y hx hy
 rw [h] at this; cases this
set_option maxHeartbeats 3200000 in
theorem tascT_any (R : List Tb) (p : Option Addr) (c : Nat) (q : Nat → Prop) (w : World) (hR : RdF w q (.slice p R.length c) R.length (R.flatMap tbC)) (hm : R.length ≤ 9223372036854775807) :
  Calls Tryz.prog 66 #[.slice p R.length c, .func (.func 67) #[] #[]] w fun e w' => e = .returned (.bool (ascB ltTb R)) ∧ w.grownBy w' none := by
 have eg : EnterF 67 := enters_of Tryz.func67 (by kernel_rfl) rfl
 have EG := Lib.hid eg
 have HR := Lib.hid hR
 clear hR eg
 go_enter Tryz.func66, Tryz.ntmps66
 go_wp2_with fail
 go_loopw [5] (fun a wr => ∃ k : Nat, 1 ≤ k ∧ (k ≤ R.length ∨ k = 1) ∧ a = .int .i64 (k : Int) ∧ Hid (w.grownBy wr none) ∧ Hid (∀ i x y, i + 1 < k → R[i]? = some x → R[i + 1]? = some y → ltTb x y = true)) (fun a _ => R.length - (RowKit.intOf a).toNat)
 case atStart => exact ⟨1, by omega, Or.inr rfl, rfl, Lib.hid (grown_refl _ _), Lib.hid (fun i x y h => by omega)⟩
 case round =>
 obtain ⟨k, hk1, hk, rfl, G, HN⟩ := hrel
 obtain ⟨w5, hw5⟩ : ∃ w5, w5 = wr := ⟨_, rfl⟩
 rw [← hw5] at G ⊢
 clear hw5
 by_cases hlt : k < R.length
 case neg =>
  have h1 : ¬ (k : Int) < (R.length : Int) := by omega
  have HO := Lib.hid (ascT_end (R := R) fun i x y hi hx hy => HN.out i x y (by omega) hx hy)
  go_wp2_with fail
  go_ret
  rw [HO.out]
  exact ⟨rfl, G.out⟩
 obtain ⟨j, rfl⟩ : ∃ j, k = j + 1 := ⟨k - 1, by omega⟩
 obtain ⟨x, hx⟩ : ∃ x, R[j]? = some x := ⟨_, List.getElem?_eq_getElem (by omega)⟩
 obtain ⟨y, hy⟩ : ∃ y, R[j + 1]? = some y := ⟨_, List.getElem?_eq_getElem hlt⟩
 obtain ⟨-, b, off, rfl, hq, hc⟩ := tb_cells (HR.out.keep G.out) (by omega)
 have HA := Lib.hid (And.intro (hc j x hx) (hc (j + 1) y hy))
 have HXY := Lib.hid (And.intro hx hy)
 clear hc hx hy
 have ew1 : ((j : Int) + 1 - 1) = (j : Int) := by omega
 have ew2 : IntKind.i64.wrap ((j : Int) + 1 - 1) = (j : Int) := by rw [ew1, IntWalk.i64_in _ (by omega)]
 have ew3 : IntKind.i64.wrap (j : Int) = (j : Int) := IntWalk.i64_in _ (by omega)
 have j0 : (0 : Int) ≤ (j : Int) := by omega
 have j1 : (0 : Int) ≤ (j : Int) + 1 := by omega
 have j2 : (j : Int) < (R.length : Int) := by omega
 have j3 : (j : Int) + 1 < (R.length : Int) := by omega
 have j4 : ((j : Int) + 1).toNat = j + 1 := by omega
 have hcast : ((j + 1 : Nat) : Int) = (j : Int) + 1 := by omega
 rw [hcast]
 go_upto_region 4 with fail
 obtain ⟨v, hv⟩ : ∃ v, ltTb x y = v := ⟨_, rfl⟩
 have HV : Hid (decide (y.r ≤ x.r) = !v) := Lib.hid (by rw [← hv]; unfold ltTb; rw [← decide_not, decide_eq_decide]; omega)
 have HL := Lib.hid hv
 clear hv
 refine wp_region_held_drew (S := fun w' => Hid (w5.grownBy w' none)) (by kernel_rfl) (Lib.hid (grown_drew (grown_refl _ none))) (fun hHeld => ?_)
 refine zT (i := 0) (v := ?_) rfl ?_ hHeld ?_
 rotate_left 1
 ·intro u hSu
  obtain ⟨x0, x1, x2, x3⟩ := HA.out.1
  obtain ⟨y0, y1, y2, y3⟩ := HA.out.2
  have x0u := hSu.out.cell x0 (by simp)
  have x1u := hSu.out.cell x1 (by simp)
  have x2u := hSu.out.cell x2 (by simp)
  have x3u := hSu.out.cell x3 (by simp)
  have y0u := hSu.out.cell y0 (by simp)
  have y1u := hSu.out.cell y1 (by simp)
  have y2u := hSu.out.cell y2 (by simp)
  have y3u := hSu.out.cell y3 (by simp)
  go_simp
  first | done | with_reducible rfl
 try simp only [Act.put, zA, zB, zC]
 refine zT (i := 1) (v := ?_) rfl ?_ hHeld ?_
 rotate_left 1
 ·intro u hSu
  obtain ⟨x0, x1, x2, x3⟩ := HA.out.1
  obtain ⟨y0, y1, y2, y3⟩ := HA.out.2
  have x0u := hSu.out.cell x0 (by simp)
  have x1u := hSu.out.cell x1 (by simp)
  have x2u := hSu.out.cell x2 (by simp)
  have x3u := hSu.out.cell x3 (by simp)
  have y0u := hSu.out.cell y0 (by simp)
  have y1u := hSu.out.cell y1 (by simp)
  have y2u := hSu.out.cell y2 (by simp)
  have y3u := hSu.out.cell y3 (by simp)
  go_simp
  first | done | with_reducible rfl
 try simp only [Act.put, zA, zB, zC]
 refine zT (i := 2) (v := ?_) rfl ?_ hHeld ?_
 rotate_left 1
 ·intro u hSu
  obtain ⟨x0, x1, x2, x3⟩ := HA.out.1
  obtain ⟨y0, y1, y2, y3⟩ := HA.out.2
  have x0u := hSu.out.cell x0 (by simp)
  have x1u := hSu.out.cell x1 (by simp)
  have x2u := hSu.out.cell x2 (by simp)
  have x3u := hSu.out.cell x3 (by simp)
  have y0u := hSu.out.cell y0 (by simp)
  have y1u := hSu.out.cell y1 (by simp)
  have y2u := hSu.out.cell y2 (by simp)
  have y3u := hSu.out.cell y3 (by simp)
  go_simp
  first | done | with_reducible rfl
 try simp only [Act.put, zA, zB, zC]
 refine zT (i := 3) (v := ?_) rfl ?_ hHeld ?_
 rotate_left 1
 ·intro u hSu
  obtain ⟨x0, x1, x2, x3⟩ := HA.out.1
  obtain ⟨y0, y1, y2, y3⟩ := HA.out.2
  have x0u := hSu.out.cell x0 (by simp)
  have x1u := hSu.out.cell x1 (by simp)
  have x2u := hSu.out.cell x2 (by simp)
  have x3u := hSu.out.cell x3 (by simp)
  have y0u := hSu.out.cell y0 (by simp)
  have y1u := hSu.out.cell y1 (by simp)
  have y2u := hSu.out.cell y2 (by simp)
  have y3u := hSu.out.cell y3 (by simp)
  go_simp
  first | done | with_reducible rfl
 try simp only [Act.put, zA, zB, zC]
 refine zT (i := 4) (v := ?_) rfl ?_ hHeld ?_
 rotate_left 1
 ·intro u hSu
  obtain ⟨x0, x1, x2, x3⟩ := HA.out.1
  obtain ⟨y0, y1, y2, y3⟩ := HA.out.2
  have x0u := hSu.out.cell x0 (by simp)
  have x1u := hSu.out.cell x1 (by simp)
  have x2u := hSu.out.cell x2 (by simp)
  have x3u := hSu.out.cell x3 (by simp)
  have y0u := hSu.out.cell y0 (by simp)
  have y1u := hSu.out.cell y1 (by simp)
  have y2u := hSu.out.cell y2 (by simp)
  have y3u := hSu.out.cell y3 (by simp)
  go_simp
  first | done | with_reducible rfl
 try simp only [Act.put, zA, zB, zC]
 refine zT (i := 5) (v := ?_) rfl ?_ hHeld ?_
 rotate_left 1
 ·intro u hSu
  obtain ⟨x0, x1, x2, x3⟩ := HA.out.1
  obtain ⟨y0, y1, y2, y3⟩ := HA.out.2
  have x0u := hSu.out.cell x0 (by simp)
  have x1u := hSu.out.cell x1 (by simp)
  have x2u := hSu.out.cell x2 (by simp)
  have x3u := hSu.out.cell x3 (by simp)
  have y0u := hSu.out.cell y0 (by simp)
  have y1u := hSu.out.cell y1 (by simp)
  have y2u := hSu.out.cell y2 (by simp)
  have y3u := hSu.out.cell y3 (by simp)
  go_simp
  first | done | with_reducible rfl
 try simp only [Act.put, zA, zB, zC]
 refine zT (i := 7) (v := ?_) rfl ?_ hHeld ?_
 rotate_left 1
 ·intro u hSu
  obtain ⟨x0, x1, x2, x3⟩ := HA.out.1
  obtain ⟨y0, y1, y2, y3⟩ := HA.out.2
  have x0u := hSu.out.cell x0 (by simp)
  have x1u := hSu.out.cell x1 (by simp)
  have x2u := hSu.out.cell x2 (by simp)
  have x3u := hSu.out.cell x3 (by simp)
  have y0u := hSu.out.cell y0 (by simp)
  have y1u := hSu.out.cell y1 (by simp)
  have y2u := hSu.out.cell y2 (by simp)
  have y3u := hSu.out.cell y3 (by simp)
  go_simp
  first | done | with_reducible rfl
 try simp only [Act.put, zA, zB, zC]
 refine zT (i := 8) (v := ?_) rfl ?_ hHeld ?_
 rotate_left 1
 ·intro u hSu
  obtain ⟨x0, x1, x2, x3⟩ := HA.out.1
  obtain ⟨y0, y1, y2, y3⟩ := HA.out.2
  have x0u := hSu.out.cell x0 (by simp)
  have x1u := hSu.out.cell x1 (by simp)
  have x2u := hSu.out.cell x2 (by simp)
  have x3u := hSu.out.cell x3 (by simp)
  have y0u := hSu.out.cell y0 (by simp)
  have y1u := hSu.out.cell y1 (by simp)
  have y2u := hSu.out.cell y2 (by simp)
  have y3u := hSu.out.cell y3 (by simp)
  go_simp
  first | done | with_reducible rfl
 try simp only [Act.put, zA, zB, zC]
 refine zT (i := 9) (v := ?_) rfl ?_ hHeld ?_
 rotate_left 1
 ·intro u hSu
  obtain ⟨x0, x1, x2, x3⟩ := HA.out.1
  obtain ⟨y0, y1, y2, y3⟩ := HA.out.2
  have x0u := hSu.out.cell x0 (by simp)
  have x1u := hSu.out.cell x1 (by simp)
  have x2u := hSu.out.cell x2 (by simp)
  have x3u := hSu.out.cell x3 (by simp)
  have y0u := hSu.out.cell y0 (by simp)
  have y1u := hSu.out.cell y1 (by simp)
  have y2u := hSu.out.cell y2 (by simp)
  have y3u := hSu.out.cell y3 (by simp)
  go_simp
  first | done | with_reducible rfl
 try simp only [Act.put, zA, zB, zC]
 refine zT (i := 10) (v := ?_) rfl ?_ hHeld ?_
 rotate_left 1
 ·intro u hSu
  obtain ⟨x0, x1, x2, x3⟩ := HA.out.1
  obtain ⟨y0, y1, y2, y3⟩ := HA.out.2
  have x0u := hSu.out.cell x0 (by simp)
  have x1u := hSu.out.cell x1 (by simp)
  have x2u := hSu.out.cell x2 (by simp)
  have x3u := hSu.out.cell x3 (by simp)
  have y0u := hSu.out.cell y0 (by simp)
  have y1u := hSu.out.cell y1 (by simp)
  have y2u := hSu.out.cell y2 (by simp)
  have y3u := hSu.out.cell y3 (by simp)
  go_simp
  first | done | with_reducible rfl
 try simp only [Act.put, zA, zB, zC]
 refine zT (i := 11) (v := ?_) rfl ?_ hHeld ?_
 rotate_left 1
 ·intro u hSu
  obtain ⟨x0, x1, x2, x3⟩ := HA.out.1
  obtain ⟨y0, y1, y2, y3⟩ := HA.out.2
  have x0u := hSu.out.cell x0 (by simp)
  have x1u := hSu.out.cell x1 (by simp)
  have x2u := hSu.out.cell x2 (by simp)
  have x3u := hSu.out.cell x3 (by simp)
  have y0u := hSu.out.cell y0 (by simp)
  have y1u := hSu.out.cell y1 (by simp)
  have y2u := hSu.out.cell y2 (by simp)
  have y3u := hSu.out.cell y3 (by simp)
  go_simp
  first | done | with_reducible rfl
 try simp only [Act.put, zA, zB, zC]
 refine wpAnyH_ready (rs := [6]) (by kernel_rfl) (by simp) ?_
 refine AllReadyH.cons (o := ⟨_, _, _, _, _, _⟩) rfl (fun Kz hK => ?_) AllReadyH.nil
 go_simp
 have e1 := EG.out
 go_at_call 67
 refine (tca2_any x _).mono ?_
 rintro e wx ⟨rfl, hg⟩
 have HN2 := Lib.hid (grown_trans hHeld.out hg)
 clear hg e1
 simp only
 refine hK.out _ _ (HN2) (fun hH2 => ?_)
 clear hK Kz hHeld
 have hHeld := hH2
 clear hH2
 try simp only [Act.put, zA, zB, zC]
 refine wpAnyH_ready (rs := [12]) (by kernel_rfl) (by simp) ?_
 refine AllReadyH.cons (o := ⟨_, _, _, _, _, _⟩) rfl (fun Kz hK => ?_) AllReadyH.nil
 go_simp
 have e1 := EG.out
 go_at_call 67
 refine (tca2_any y _).mono ?_
 rintro e wx ⟨rfl, hg⟩
 have HN2 := Lib.hid (grown_trans hHeld.out hg)
 clear hg e1
 simp only
 refine hK.out _ _ (HN2) (fun hH2 => ?_)
 clear hK Kz hHeld
 have hHeld := hH2
 clear hH2
 try simp only [Act.put, zA, zB, zC]
 refine zT (i := 13) (v := .bool (!v)) rfl ?_ hHeld ?_
 ·intro u hSu
  obtain ⟨x0, x1, x2, x3⟩ := HA.out.1
  obtain ⟨y0, y1, y2, y3⟩ := HA.out.2
  have x0u := hSu.out.cell x0 (by simp)
  have x1u := hSu.out.cell x1 (by simp)
  have x2u := hSu.out.cell x2 (by simp)
  have x3u := hSu.out.cell x3 (by simp)
  have y0u := hSu.out.cell y0 (by simp)
  have y1u := hSu.out.cell y1 (by simp)
  have y2u := hSu.out.cell y2 (by simp)
  have y3u := hSu.out.cell y3 (by simp)
  rw [← HV.out]
  go_simp
  first | done | with_reducible rfl
 try simp only [Act.put, zA, zB, zC]
 refine wpAnyH_done (by kernel_rfl) ?_ _
 have GW := Lib.hid (grown_trans G.out hHeld.out)
 clear hHeld
 cases v
 case false =>
  go_wp2_with fail
  go_ret
  rw [ascT_hit HXY.out.1 HXY.out.2 HL.out]
  exact ⟨rfl, GW.out⟩
 go_wp2_with fail
 refine ⟨⟨j + 1 + 1, by omega, Or.inl (by omega), congrArg _ (by omega), GW, Lib.hid fun i x2 y2 hi hx2 hy2 => ?_⟩, by simp only [RowKit.intOf]; omega⟩
 by_cases hij : i = j
 ·subst hij
  have e1 := HXY.out.1.symm.trans hx2
  have e2 := HXY.out.2.symm.trans hy2
  injection e1 with e1
  injection e2 with e2
  subst e1
  subst e2
  exact HL.out
 ·exact HN.out i x2 y2 (by omega) hx2 hy2
end Go.Proofs.YtahafijpcmphaaaGreat
