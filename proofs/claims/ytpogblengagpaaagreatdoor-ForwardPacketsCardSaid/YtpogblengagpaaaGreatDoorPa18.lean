/- Parts of the proof, packed: TaBld, TaTb, IdRsM, IdCnt, IdSeek, IdChk, IdFre, IdCon, IdLen, IdLay, IdSrt, IdEdg, IdRes, IdRsW, IdRtw, IdPln, IdVpl, IdRck, IdRcn, IdAwk, IdInt, IdRep. -/
import Derived.Test.YtpogblengagpaaaGreatDoorPa15
import Derived.Test.YtpogblengagpaaaGreatDoorPa5
import Derived.Test.YtpogblengagpaaaGreatDoorPa3
import Derived.Test.YtpogblengagpaaaGreatDoorPa2
import Derived.Lib.SliceRun
import Derived.Deep.CutRange
import Derived.Test.YtpogblengagpaaaGreatDoorPa4
import Derived.Laws.StructEq
/- tables, the reference's functions: build. -/
namespace Go.Proofs.YtpogblengagpaaaGreatDoor
set_option maxRecDepth 100000
open Go.RowKit Bs
theorem row3B {w : World} {b : Nat} {x y z : Value} {t : TypeId} (h : w.heap[b]? = some (.cells #[x, y, z] t (0, 0))) : w.cell? ⟨b, 0, none⟩ = some x ∧ w.cell? ⟨b, 1, none⟩ = some y ∧ w.cell? ⟨b, 2, none⟩ = some z :=
 ⟨cell_of_row _ _ _ _ _ _ h, cell_of_row _ _ _ _ _ _ h, cell_of_row _ _ _ _ _ _ h⟩
theorem RdX.over {lo : Nat} {w w1 : World} {v : Value} {p : Option Addr} {c : Nat} {X : List Int} {r : Nat} (h : RdX lo w v p c X) (g : w.grownBy w1 (some r)) (hr : ∀ b, lo ≤ b → b ≠ r) : RdX lo w1 v p c X :=
 ⟨(h.1.grown g (fun b hb e => hr b hb.1 (Option.some.inj e))).mono (fun b hb => ⟨hb.1, Nat.lt_of_lt_of_le hb.2.1 g.size, hb.2.2⟩), h.2⟩
structure BD (W : World) (T : Tg) (s n ro : Int) (E : List Ed) (pE : Option Addr) (cE : Nat) (v : Value) (L : List Rw) (w : World) : Prop where
 bT : w.heap[W.heap.size]? = some (.cells #[.slice T.pR T.R.length T.cR, .slice T.pL T.L.length T.cL] 68 (0, 0))
 bP : w.heap[W.heap.size + 1]? = some (.cells #[.int .i64 s, .int .i64 n, .slice pE E.length cE] 72 (0, 0))
 bR : w.heap[W.heap.size + 1 + 1]? = some (.cells #[.int .i64 0, .int .i64 0, .int .i64 0, .slice none 0 0] 25 (0, 0))
 bB : w.heap[W.heap.size + 1 + 1 + 1]? = some (.cells #[.int .i64 ro, .int .i64 s, .int .i64 n, v] 25 (0, 0))
 t : TgOk w (· < W.heap.size) T
 e : RdF w (· < W.heap.size) (.slice pE E.length cE) E.length (E.flatMap edC)
 own : w.ownsRow (W.heap.size + 4) 80 2 v L.length (L.flatMap rwC)
 rows : ∀ x ∈ L, RdX (W.heap.size + 4) w v x.p x.c x.nx
 gr : W.grownBy w none
 lo : W.heap.size + 4 ≤ w.heap.size
theorem BD.keep {W : World} {T : Tg} {s n ro : Int} {E : List Ed} {pE : Option Addr} {cE : Nat} {v : Value} {L : List Rw} {w w1 : World} (h : BD W T s n ro E pE cE v L w) (g : w.grownBy w1 none) : BD W T s n ro E pE cE v L w1 :=
 ⟨kept_row h.bT g (by simp), kept_row h.bP g (by simp), kept_row h.bR g (by simp), kept_row h.bB g (by simp), h.t.keep g, h.e.keep g, h.own.kept g (by cases v.ownBlock <;> simp), fun x hx => (h.rows x hx).keep g, grown_trans h.gr g, Nat.le_trans h.lo g.size⟩
theorem edT_cells {w : World} {q : Nat → Prop} {p : Option Addr} {n c : Nat} {E : List Ed} (h : RdF w q (.slice p n c) E.length (E.flatMap edC)) (hn : 0 < E.length) :
  ∃ b off, p = some ⟨b, off, none⟩ ∧ ∀ i x, E[i]? = some x → w.cell? ⟨b, off + i * 2, none⟩ = some (.int .i64 x.r) ∧ w.cell? ⟨b, off + i * 2 + 1, none⟩ = some (.int .i64 x.i) := by
 obtain ⟨-, b, off, hp, -, hc⟩ := RdF.cells (f := edC) (k := 2) (fun _ => rfl) (by decide) h hn
 exact ⟨b, off, hp, fun i x hi => ⟨hc i x hi 0 _ rfl, hc i x hi 1 _ rfl⟩⟩
theorem alloc_row {w : World} (A : Array Value) (t : TypeId) {n : Nat} (hn : w.heap.size = n) : (w.alloc (.cells A t)).heap[n]? = some (.cells A t (0, 0)) ∧ w.grownBy (w.alloc (.cells A t)) none ∧ (w.alloc (.cells A t)).heap.size = n + 1 := by
 subst hn
 exact ⟨heap_alloc_new w _, World.grownBy_alloc w _ _, by simp⟩
theorem bd_start {w : World} {T : Tg} {q q2 : Nat → Prop} (s n ro : Int) {E : List Ed} {pE : Option Addr} {cE : Nat} (hT : TgOk w q T) (hE : RdF w q2 (.slice pE E.length cE) E.length (E.flatMap edC)) :
  BD w T s n ro E pE cE (.slice none 0 0) [] ((((w.alloc (.cells #[.slice T.pR T.R.length T.cR, .slice T.pL T.L.length T.cL] 68)).alloc (.cells #[.int .i64 s, .int .i64 n, .slice pE E.length cE] 72)).alloc (.cells #[.int .i64 0, .int .i64 0, .int .i64 0, .slice none 0 0] 25)).alloc (.cells #[.int .i64 ro, .int .i64 s, .int .i64 n, .slice none 0 0] 25)) := by
 obtain ⟨a1, g1, z1⟩ := alloc_row (w := w) #[.slice T.pR T.R.length T.cR, .slice T.pL T.L.length T.cL] 68 rfl
 generalize w.alloc _ = w1 at *
 obtain ⟨a2, g2, z2⟩ := alloc_row (w := w1) #[.int .i64 s, .int .i64 n, .slice pE E.length cE] 72 z1
 generalize w1.alloc _ = w2 at *
 obtain ⟨a3, g3, z3⟩ := alloc_row (w := w2) #[.int .i64 0, .int .i64 0, .int .i64 0, .slice none 0 0] 25 z2
 generalize w2.alloc _ = w3 at *
 obtain ⟨a4, g4, z4⟩ := alloc_row (w := w3) #[.int .i64 ro, .int .i64 s, .int .i64 n, .slice none 0 0] 25 z3
 generalize w3.alloc _ = w4 at *
 have gg := grown_trans (grown_trans (grown_trans g1 g2) g3) g4
 exact ⟨kept_row (kept_row (kept_row a1 g2 (by simp)) g3 (by simp)) g4 (by simp), kept_row (kept_row a2 g3 (by simp)) g4 (by simp), kept_row a3 g4 (by simp), a4, hT.old.keep gg, hE.old.keep gg, World.ownsRow_nil _ _ _ _, fun x hx => (by cases hx), gg, by omega⟩
theorem store4B {w : World} {b : Nat} {t : TypeId} {z0 z1 z2 z3 : Value} (u0 u1 u2 u3 : Value) (h : w.heap[b]? = some (.cells #[z0, z1, z2, z3] t (0, 0))) :
  ((((w.setCell ⟨b, 0, none⟩ u0).setCell ⟨b, 1, none⟩ u1).setCell ⟨b, 2, none⟩ u2).setCell ⟨b, 3, none⟩ u3).heap[b]? = some (.cells #[u0, u1, u2, u3] t (0, 0)) ∧ w.grownBy ((((w.setCell ⟨b, 0, none⟩ u0).setCell ⟨b, 1, none⟩ u1).setCell ⟨b, 2, none⟩ u2).setCell ⟨b, 3, none⟩ u3) (some b) := by
 have h1 := heap_setCell_same w b 0 _ _ u0 h
 have h2 := heap_setCell_same _ b 1 _ _ u1 h1
 have h3 := heap_setCell_same _ b 2 _ _ u2 h2
 have h4 := heap_setCell_same _ b 3 _ _ u3 h3
 exact ⟨h4, grown_trans (grown_trans (grown_trans (grown_setCell w ⟨b, 0, none⟩ u0) (grown_setCell _ ⟨b, 1, none⟩ u1)) (grown_setCell _ ⟨b, 2, none⟩ u2)) (grown_setCell _ ⟨b, 3, none⟩ u3)⟩
theorem tab_sizeB : (Tryz.prog.info? 25).map (·.size) = some 4 := by kernel_rfl
theorem res_tabB {fn : Func} {p : Tmp} (h : fn.results = #[.cell p 25]) (tmps : Array Value) (w : World) (g : Nat) (x y z u : Value) (hp : tmps.getD p undef = .pointer (some ⟨g, 0, none⟩)) (hg : w.heap[g]? = some (.cells #[x, y, z, u] 25 (0, 0))) :
  (results fn tmps).run Tryz.prog w = .ok (.agg #[x, y, z, u]) w :=
 results_cell_row h tmps w g _ _ _ _ hp hg Tryz.underlying25 rfl tab_sizeB
theorem BD.push {W : World} {T : Tg} {s n ro : Int} {E : List Ed} {pE : Option Addr} {cE : Nat} {v v' : Value} {L : List Rw} {w w1 : World} {x : Rw} (h : BD W T s n ro E pE cE v L w) (hx : RdX (W.heap.size + 4) w v x.p x.c x.nx) (hown : w1.ownsRow (W.heap.size + 4) 80 2 v' (L ++ [x]).length ((L ++ [x]).flatMap rwC)) (g : w.grownBy w1 v.ownBlock) (hv : v'.ownBlock = v.ownBlock ∨ ∀ b, some b = v'.ownBlock → w.heap.size ≤ b) :
  w1.heap[W.heap.size + 1 + 1 + 1]? = some (.cells #[.int .i64 ro, .int .i64 s, .int .i64 n, v] 25 (0, 0)) ∧ BD W T s n ro E pE cE v' (L ++ [x]) (w1.setCell ⟨W.heap.size + 1 + 1 + 1, 3, none⟩ v') := by
 have hne : ∀ b, b < W.heap.size + 4 → some b ≠ v.ownBlock := fun b hb e => by have := (h.own.lt b e.symm).1; omega
 have hB := kept_row h.bB g (hne _ (by omega))
 have g2 : w1.grownBy (w1.setCell ⟨W.heap.size + 1 + 1 + 1, 3, none⟩ v') (some (W.heap.size + 1 + 1 + 1)) := grown_setCell w1 ⟨W.heap.size + 1 + 1 + 1, 3, none⟩ v'
 have hn2 : ∀ b, b ≠ W.heap.size + 1 + 1 + 1 → some b ≠ some (W.heap.size + 1 + 1 + 1) := fun b hb e => hb (Option.some.inj e)
 refine ⟨hB, kept_row (kept_row h.bT g (hne _ (by omega))) g2 (hn2 _ (by omega)), kept_row (kept_row h.bP g (hne _ (by omega))) g2 (hn2 _ (by omega)), kept_row (kept_row h.bR g (hne _ (by omega))) g2 (hn2 _ (by omega)), heap_setCell_same w1 _ 3 _ _ v' hB, (h.t.grown g (fun b hb => hne b (by omega))).grown g2 (fun b hb => hn2 b (by omega)), (h.e.grown g (fun b hb => hne b (by omega))).grown g2 (fun b hb => hn2 b (by omega)), hown.kept g2 ?_, fun y hy => ?_, grown_any (grown_any h.gr g (fun b hb => hne b (by omega))) g2 (fun b hb => hn2 b (by omega)), Nat.le_trans (Nat.le_trans h.lo g.size) g2.size⟩
 ·cases hvo : v'.ownBlock with
  | none => exact Or.inl rfl
  | some b => exact Or.inr (fun e => by have := (hown.lt b hvo).1; have := Option.some.inj e; omega)
 ·have hy1 : RdX (W.heap.size + 4) w v y.p y.c y.nx := by
   rcases List.mem_append.1 hy with hm | hm
   ·exact h.rows y hm
   ·rw [List.mem_singleton.1 hm]; exact hx
  exact (hy1.put g hv).over g2 (fun b hb => by omega)
theorem rwB_row (w : World) (x : Rw) (t : TypeId) : ∀ j u, (rwC x)[j]? = some u → (w.alloc (.cells #[.int .i64 x.id, .slice x.p x.nx.length x.c] t)).cell? ((⟨w.heap.size, 0, none⟩ : Addr).add j) = some u := by
 intro j u hu
 rw [add_plain]
 have hb := heap_alloc_new w (.cells #[.int .i64 x.id, .slice x.p x.nx.length x.c] t)
 rcases j with _ | _ | j
 ·cases hu; exact cell_of_row _ _ _ _ _ _ hb
 ·cases hu; exact cell_of_row _ _ _ _ _ _ hb
 ·simp [rwC] at hu
theorem lt_rowB {w : World} {b : Nat} {o : Obj} (h : w.heap[b]? = some o) : b < w.heap.size := by
 rcases Nat.lt_or_ge b w.heap.size with hz | hz
 ·exact hz
 ·rw [Array.getElem?_eq_none hz] at h; cases h
def NxB (R : List Rt) (L0 : List Lk) (ro r : Int) (X : List Int) : Prop := if r = ro then X = [ro] else if capV R L0 r = true then (X.Pairwise (· < ·) ∧ (∀ y ∈ X, y ∈ ids R) ∧ HopsIs R L0 ro r X) else X = []
def BldM (R : List Rt) (L0 : List Lk) (ro : Int) (E : List Ed) (L : List Rw) : Prop := L.length = E.length ∧ ∀ (i : Nat) (e : Ed) (x : Rw), E[i]? = some e → L[i]? = some x → x.id = e.i ∧ NxB R L0 ro e.r x.nx
theorem BldM.push {R : List Rt} {L0 : List Lk} {ro : Int} {E : List Ed} {L : List Rw} {k : Nat} {e : Ed} (h : BldM R L0 ro (E.take k) L) (he : E[k]? = some e) {X : List Int} (hx : NxB R L0 ro e.r X) (p : Option Addr) (c : Nat) : BldM R L0 ro (E.take (k + 1)) (L ++ [⟨e.i, X, p, c⟩]) := by
 have hk : k < E.length := (List.getElem?_eq_some_iff.1 he).1
 have hl : L.length = k := by rw [h.1, List.length_take]; omega
 refine ⟨by rw [List.length_append, List.length_take, hl]; show k + 1 = _; omega, fun i f x hi hx2 => ?_⟩
 rcases Nat.lt_or_ge i k with hlt | hge
 ·rw [List.getElem?_append_left (by omega)] at hx2
  rw [List.getElem?_take_of_lt (by omega)] at hi
  exact h.2 i f x (by rw [List.getElem?_take_of_lt hlt]; exact hi) hx2
 ·have hik : i = k := by
   have := (List.getElem?_eq_some_iff.1 hx2).1
   rw [List.length_append, hl] at this
   have h1 : ([⟨e.i, X, p, c⟩] : List Rw).length = 1 := rfl
   omega
  subst hik
  rw [List.getElem?_take_of_lt (by omega), he] at hi
  obtain rfl := Option.some.inj hi
  rw [List.getElem?_append_right (by omega), hl, Nat.sub_self] at hx2
  obtain rfl := Option.some.inj hx2
  exact ⟨rfl, hx⟩
def BldPost (R : List Rt) (L0 : List Lk) (ro s n : Int) (E : List Ed) (w : World) (e : Ending) (w' : World) : Prop :=
 ∃ (L : List Rw) (p : Option Addr) (c : Nat), e = .returned (.agg #[.int .i64 ro, .int .i64 s, .int .i64 n, .slice p L.length c]) ∧ w'.ownsRow w.heap.size 80 2 (.slice p L.length c) L.length (L.flatMap rwC) ∧ (∀ x ∈ L, RdX w.heap.size w' (.slice p L.length c) x.p x.c x.nx) ∧ BldM R L0 ro E L ∧ w.grownBy w' none
theorem info_rowT : (Tryz.prog.info? 80).map (fun i => (i.zero, i.size, i.bytes)) = some (some (.agg #[.int .i64 0, .slice none 0 0]), 2, 32) := by kernel_rfl
set_option maxHeartbeats 12800000 in
theorem rbuild_any (T : Tg) (s n ro : Int) (E : List Ed) (pE : Option Addr) (cE : Nat) (q q2 : Nat → Prop) (w : World) (hT : TgOk w q T) (hE : RdF w q2 (.slice pE E.length cE) E.length (E.flatMap edC)) (hm : E.length ≤ 1000) :
  Calls Tryz.prog 63 #[.agg #[.slice T.pR T.R.length T.cR, .slice T.pL T.L.length T.cL], .agg #[.int .i64 s, .int .i64 n, .slice pE E.length cE], .int .i64 ro] w fun e w' => BldPost T.R T.L ro s n E w e w' := by
 obtain ⟨R, L0, pR, cR, pL, cL⟩ := T
 simp only
 obtain ⟨ii, hii, hi0, hi1, hi2⟩ := info_parts info_rowT
 have H0 := Lib.hid (bd_start s n ro hT hE)
 clear hT hE
 go_enter Tryz.func63, Tryz.ntmps63
 go_upto_region 2 with fail
 generalize (((w.alloc _).alloc _).alloc _).alloc _ = wa at *
 go_wp2_with fail
 go_loopw [8] (fun a wr => ∃ (k : Nat) (L : List Rw) (p : Option Addr) (c : Nat), k ≤ E.length ∧ a = .int .i64 (k : Int) ∧ Hid (BldM R L0 ro (E.take k) L) ∧ Hid (BD w ⟨R, L0, pR, cR, pL, cL⟩ s n ro E pE cE (.slice p L.length c) L wr)) (fun a _ => E.length - (RowKit.intOf a).toNat)
 case atStart => exact ⟨0, [], none, 0, Nat.zero_le _, rfl, Lib.hid ⟨by rw [List.take_zero]; rfl, fun i e x hi => by rw [List.take_zero] at hi; simp at hi⟩, H0⟩
 case round =>
 clear H0
 obtain ⟨k, L, p, c, hk, rfl, HB, K⟩ := hrel
 obtain ⟨w5, hw5⟩ : ∃ w5, w5 = wr := ⟨_, rfl⟩
 rw [← hw5] at K ⊢
 clear hw5
 obtain ⟨q0, q1, q2⟩ := row3B K.out.bP
 by_cases hlt : k < E.length
 case neg =>
  obtain rfl : k = E.length := by omega
  have hnl : ¬ (E.length : Int) < (E.length : Int) := by omega
  rw [List.take_length] at HB
  obtain ⟨d0, d1, d2, d3⟩ := row4T K.out.bB
  obtain ⟨z0, z1, z2, z3⟩ := row4T K.out.bR
  have f0 := frozen_of_row _ _ 0 _ _ K.out.bR
  have f1 := frozen_of_row _ _ 1 _ _ K.out.bR
  have f2 := frozen_of_row _ _ 2 _ _ K.out.bR
  have f3 := frozen_of_row _ _ 3 _ _ K.out.bR
  have HT := Lib.hid (store4B (.int .i64 ro) (.int .i64 s) (.int .i64 n) (.slice p L.length c) K.out.bR)
  have HK := Lib.hid K.out
  clear K
  go_wp2_with fail
  refine bodyPost_ret (res_tabB rfl _ _ (w.heap.size + 1 + 1) _ _ _ _ rfl HT.out.1) rfl ?_
  have hne : ∀ b, w.heap.size + 4 ≤ b → b ≠ w.heap.size + 1 + 1 := fun b hb => by omega
  exact ⟨L, p, c, rfl, (HK.out.own.kept HT.out.2 (by
   cases hvo : (Value.slice p L.length c).ownBlock with
   | none => exact Or.inl rfl
   | some b => exact Or.inr (fun e => by have := (HK.out.own.lt b hvo).1; have := Option.some.inj e; omega))).mono (by omega), fun x hx => by
    have h := (HK.out.rows x hx).over HT.out.2 hne
    exact ⟨h.1.mono (fun b hb => ⟨by have := hb.1; omega, hb.2⟩), h.2⟩, HB.out, grown_new HK.out.gr HT.out.2 (by omega)⟩
 have hlt' : (k : Int) < (E.length : Int) := by omega
 obtain ⟨e, he⟩ : ∃ e, E[k]? = some e := ⟨_, List.getElem?_eq_getElem hlt⟩
 obtain ⟨b, off, rfl, hc⟩ := edT_cells K.out.e (by omega)
 obtain ⟨a0, a1⟩ := hc k e he
 have HE := Lib.hid he
 have hB5 := alloc_row (w := w5) #[.int .i64 e.i, .slice none 0 0] 80 rfl
 have H5 := Lib.hid (And.intro hB5.1 hB5.2.1)
 clear hc he hB5
 go_upto_region 6 with fail
 clear a0 a1
 have KG := Lib.hid K.out.own
 have hLE : Hid (L.length ≤ 1000) := Lib.hid (by have := HB.out.1; rw [List.length_take] at this; omega)
 generalize w5.alloc _ = w6 at *
 obtain ⟨g, hg⟩ : ∃ g, w5.heap.size = g := ⟨_, rfl⟩
 have HGE := Lib.hid hg
 rw [hg] at H5 ⊢
 clear hg
 have K6 := Lib.hid (K.out.keep H5.out.2)
 obtain ⟨q0, q1, q2⟩ := row3B K6.out.bP
 obtain ⟨b', off', hpe, hc⟩ := edT_cells K6.out.e (by omega)
 injection hpe with hpe
 injection hpe with e1 e2
 subst e1
 subst e2
 obtain ⟨a0, a1⟩ := hc k e HE.out
 clear hc
 by_cases her : e.r = ro
 case pos =>
  have her' : (e.r == ro) = true := by simpa using her
  have HER := Lib.hid her
  clear her
  obtain ⟨m0, m1⟩ := rowR2 (kept_row H5.out.1 (World.grownBy_alloc w6 (.cells #[.int .i64 ro] 3) none) (by simp))
  have f1 := frozen_of_row _ _ 1 _ _ (kept_row H5.out.1 (World.grownBy_alloc w6 (.cells #[.int .i64 ro] 3) none) (by simp))
  have hb6 := alloc_row (w := w6) #[.int .i64 ro] 3 rfl
  have HB6 := Lib.hid (And.intro hb6.1 hb6.2.1)
  clear hb6
  go_upto_region 10 with fail
  clear m0 m1 f1
  have hg6 : g < w6.heap.size := lt_rowB H5.out.1
  have hset := heap_setCell_same (w6.alloc (.cells #[.int .i64 ro] 3)) g 1 _ _ (.slice (some ⟨w6.heap.size, 0, none⟩) 1 1) (kept_row H5.out.1 HB6.out.2 (by simp))
  have gset : (w6.alloc (.cells #[.int .i64 ro] 3)).grownBy ((w6.alloc (.cells #[.int .i64 ro] 3)).setCell ⟨g, 1, none⟩ (.slice (some ⟨w6.heap.size, 0, none⟩) 1 1)) (some g) := grown_setCell _ _ _
  have hlit := kept_row HB6.out.1 gset (fun e => by have := Option.some.inj e; omega)
  have KX := Lib.hid (K.out.keep (grown_new (grown_trans H5.out.2 HB6.out.2) gset (by rw [HGE.out]; exact Nat.le_refl _)))
  have HG : Hid (_ = some (Obj.cells #[.int .i64 e.i, .slice (some ⟨w6.heap.size, 0, none⟩) ([ro] : List Int).length 1] 80 (0, 0))) := Lib.hid hset
  have HX : Hid (RdX (w.heap.size + 4) _ (.slice p L.length c) (some ⟨w6.heap.size, 0, none⟩) 1 [ro]) := Lib.hid ⟨⟨_, 1, rfl, fun _ => ⟨_, _, rfl, ⟨by have := K6.out.lo; omega, lt_rowB hlit, fun e => by have := (K.out.own.lt _ e.symm).2; have := H5.out.2.size; omega⟩, fun i u hi => by
   rw [Nat.zero_add, cell_of_row _ _ _ _ _ _ hlit]
   simpa [tv] using hi⟩⟩, fun h => (by cases h), by show 1 ≤ 1; decide, by show 1 ≤ 9223372036854775807; decide⟩
  obtain ⟨X, hX⟩ : ∃ X, X = [ro] := ⟨_, rfl⟩
  rw [← hX] at HG HX
  have HXM : Hid (NxB R L0 ro e.r X) := Lib.hid (by unfold NxB; rw [if_pos HER.out]; exact hX)
  generalize ((w6.alloc _).setCell _ _) = wx at *
  generalize (some (⟨w6.heap.size, 0, none⟩ : Addr)) = p1 at *
  clear hset gset hlit K6 q0 q1 q2 a0 a1 HB6 hX
  obtain ⟨d0, d1, d2, d3⟩ := row4T KX.out.bB
  obtain ⟨m0, m1⟩ := rowR2 HG.out
  have hLl := hLE.out
  have hlo := KX.out.lo
  have hXl := HX.out.2.2
  go_wp2_with (at_builtin; refine hold_on ?_)
  refine Lib.hid ?_
  refine wpList_append_lies _ rfl _ _ 23 rfl (w.heap.size + 4) 80 ii (.agg #[.int .i64 0, .slice none 0 0]) 2 32 Tryz.underlying23 hii hi0 hi1 hi2 rfl (by decide) (.slice p L.length c) L.length (L.flatMap rwC) rfl (KX.out.own.alloc _) ⟨wx.heap.size, 0, none⟩ 1 1 (rwC ⟨e.i, X, p1, 1⟩) rfl rfl (rwB_row wx ⟨e.i, X, p1, 1⟩ _) (rw_one ⟨e.i, X, p1, 1⟩) (by decide) (by unfold maxLen; omega) (by omega) (by simp; omega) _ rfl ?_
  intro g2 cap w8 hown hgrow hat hlt8
  have ga := World.grownBy_alloc wx (.cells #[.int .i64 e.i, .slice p1 X.length 1] 80) none
  have hv : (Value.slice (some ⟨g2, 0, none⟩) (L.length + 1) cap).ownBlock = (Value.slice p L.length c).ownBlock ∨ ∀ b, some b = (Value.slice (some ⟨g2, 0, none⟩) (L.length + 1) cap).ownBlock → (wx.alloc (.cells #[.int .i64 e.i, .slice p1 X.length 1] 80)).heap.size ≤ b := by
   rcases hat with h | h
   ·exact Or.inl h.symm
   ·refine Or.inr fun b e => ?_
    have e2 : some b = some g2 := e
    have := Option.some.inj e2
    rw [this, h]
    exact Nat.le_refl _
  obtain ⟨hB8, hBD⟩ := (KX.out.keep ga).push (x := ⟨e.i, X, p1, 1⟩) (v' := .slice (some ⟨g2, 0, none⟩) (L.length + 1) cap) (HX.out.keep ga) (by rw [List.length_append, List.flatMap_append]; simpa [rwC] using hown) hgrow hv
  obtain ⟨y0, y1, y2, y3⟩ := row4T hB8
  have f3 := frozen_of_row _ _ 3 _ _ hB8
  have HBD := Lib.hid hBD
  have HBM : Hid (BldM R L0 ro (E.take (k + 1)) (L ++ [⟨e.i, X, p1, 1⟩])) := Lib.hid (HB.out.push HE.out HXM.out p1 1)
  have HLL : Hid ((L ++ [(⟨e.i, X, p1, 1⟩ : Rw)]).length = L.length + 1) := Lib.hid (by rw [List.length_append]; rfl)
  clear hown hgrow hat hlt8 ga hv hBD m0 m1 d0 d1 d2 d3 HX HG HXM KX
  go_wp2_with fail
  exact ⟨⟨k + 1, L ++ [⟨e.i, X, p1, 1⟩], some ⟨g2, 0, none⟩, cap, by omega, congrArg _ (by omega), HBM, by rw [HLL.out]; exact HBD⟩, by simp only [RowKit.intOf]; omega⟩
 have her' : (e.r == ro) = false := by simpa using her
 have HER := Lib.hid her
 clear her
 go_upto_region 8 with fail
 refine wp_region_held_drew (S := fun w' => Hid (w6.grownBy w' none)) (by kernel_rfl) (Lib.hid (grown_drew (grown_refl _ none))) (fun hHeld => ?_)
 refine zT (i := 0) (v := ?_) rfl ?_ hHeld ?_
 rotate_left 1
 ·intro u hSu
  obtain ⟨t0u, t1u⟩ := row_cells (kept_row K6.out.bT hSu.out (by simp))
  have q2u := hSu.out.cell q2 (by simp)
  have a0u := hSu.out.cell a0 (by simp)
  go_simp
  first | done | with_reducible rfl
 try simp only [Act.put, zA, zB, zC]
 refine zT (i := 1) (v := ?_) rfl ?_ hHeld ?_
 rotate_left 1
 ·intro u hSu
  go_simp
  first | done | with_reducible rfl
 try simp only [Act.put, zA, zB, zC]
 refine zT (i := 2) (v := ?_) rfl ?_ hHeld ?_
 rotate_left 1
 ·intro u hSu
  obtain ⟨t0u, t1u⟩ := row_cells (kept_row K6.out.bT hSu.out (by simp))
  have q2u := hSu.out.cell q2 (by simp)
  have a0u := hSu.out.cell a0 (by simp)
  go_simp
  first | done | with_reducible rfl
 try simp only [Act.put, zA, zB, zC]
 refine zT (i := 3) (v := ?_) rfl ?_ hHeld ?_
 rotate_left 1
 ·intro u hSu
  go_simp
  first | done | with_reducible rfl
 try simp only [Act.put, zA, zB, zC]
 refine zT (i := 4) (v := ?_) rfl ?_ hHeld ?_
 rotate_left 1
 ·intro u hSu
  go_simp
  first | done | with_reducible rfl
 try simp only [Act.put, zA, zB, zC]
 refine zT (i := 5) (v := ?_) rfl ?_ hHeld ?_
 rotate_left 1
 ·intro u hSu
  go_simp
  first | done | with_reducible rfl
 try simp only [Act.put, zA, zB, zC]
 refine zT (i := 6) (v := ?_) rfl ?_ hHeld ?_
 rotate_left 1
 ·intro u hSu
  obtain ⟨t0u, t1u⟩ := row_cells (kept_row K6.out.bT hSu.out (by simp))
  have q2u := hSu.out.cell q2 (by simp)
  have a0u := hSu.out.cell a0 (by simp)
  go_simp
  first | done | with_reducible rfl
 try simp only [Act.put, zA, zB, zC]
 refine wpAnyH_ready (rs := [7]) (by kernel_rfl) (by simp) ?_
 refine AllReadyH.cons (o := ⟨_, _, _, _, _, _⟩) rfl (fun Kz hK => ?_) AllReadyH.nil
 go_simp
 go_at_call 90
 refine (rcap_any ⟨R, L0, pR, cR, pL, cL⟩ e.r _ _ (K6.out.keep hHeld.out).t).mono ?_
 rintro e' w7 ⟨rfl, hg⟩
 have HN := Lib.hid (grown_trans hHeld.out hg)
 clear hg
 simp only
 refine hK.out _ _ (HN) (fun hH2 => ?_)
 clear hK Kz hHeld
 have hHeld := hH2
 clear hH2
 try simp only [Act.put, zA, zB, zC]
 refine wpAnyH_done (by kernel_rfl) ?_ _
 have K7 := Lib.hid (K.out.keep (grown_trans H5.out.2 hHeld.out))
 have G7 := Lib.hid (And.intro (grown_trans H5.out.2 hHeld.out) (kept_row H5.out.1 hHeld.out (by simp)))
 clear hHeld K6 q0 q1 q2 a0 a1
 cases hcp : capV R L0 e.r
 case false =>
  have HCP := Lib.hid hcp
  have KX := K7
  obtain ⟨X, hX⟩ : ∃ X : List Int, X = [] := ⟨_, rfl⟩
  obtain ⟨p1, hp1⟩ : ∃ p1 : Option Addr, p1 = none := ⟨_, rfl⟩
  have HG : Hid (w7.heap[g]? = some (Obj.cells #[.int .i64 e.i, .slice p1 X.length 0] 80 (0, 0))) := Lib.hid (by rw [hX, hp1]; exact G7.out.2)
  have HX : Hid (RdX (w.heap.size + 4) w7 (.slice p L.length c) p1 0 X) := Lib.hid (by rw [hX, hp1]; exact ⟨⟨none, 0, rfl, fun h => absurd rfl h⟩, fun _ => rfl, Nat.le_refl _, by show (0 : Nat) ≤ _; omega⟩)
  have HXM : Hid (NxB R L0 ro e.r X) := Lib.hid (by unfold NxB; rw [if_neg HER.out, if_neg (by rw [HCP.out]; decide)]; exact hX)
  obtain ⟨wx, hwx⟩ : ∃ wx, wx = w7 := ⟨_, rfl⟩
  rw [← hwx] at KX HG HX ⊢
  clear hX hp1 K7 G7 hcp hwx
  obtain ⟨d0, d1, d2, d3⟩ := row4T KX.out.bB
  obtain ⟨m0, m1⟩ := rowR2 HG.out
  have hLl := hLE.out
  have hlo := KX.out.lo
  have hXl := HX.out.2.2
  go_wp2_with (at_builtin; refine hold_on ?_)
  refine Lib.hid ?_
  refine wpList_append_lies _ rfl _ _ 23 rfl (w.heap.size + 4) 80 ii (.agg #[.int .i64 0, .slice none 0 0]) 2 32 Tryz.underlying23 hii hi0 hi1 hi2 rfl (by decide) (.slice p L.length c) L.length (L.flatMap rwC) rfl (KX.out.own.alloc _) ⟨wx.heap.size, 0, none⟩ 1 1 (rwC ⟨e.i, X, p1, 0⟩) rfl rfl (rwB_row wx ⟨e.i, X, p1, 0⟩ _) (rw_one ⟨e.i, X, p1, 0⟩) (by decide) (by unfold maxLen; omega) (by omega) (by simp; omega) _ rfl ?_
  intro g2 cap w8 hown hgrow hat hlt8
  have ga := World.grownBy_alloc wx (.cells #[.int .i64 e.i, .slice p1 X.length 0] 80) none
  have hv : (Value.slice (some ⟨g2, 0, none⟩) (L.length + 1) cap).ownBlock = (Value.slice p L.length c).ownBlock ∨ ∀ b, some b = (Value.slice (some ⟨g2, 0, none⟩) (L.length + 1) cap).ownBlock → (wx.alloc (.cells #[.int .i64 e.i, .slice p1 X.length 0] 80)).heap.size ≤ b := by
   rcases hat with h | h
   ·exact Or.inl h.symm
   ·refine Or.inr fun b e => ?_
    have e2 : some b = some g2 := e
    have := Option.some.inj e2
    rw [this, h]
    exact Nat.le_refl _
  obtain ⟨hB8, hBD⟩ := (KX.out.keep ga).push (x := ⟨e.i, X, p1, 0⟩) (v' := .slice (some ⟨g2, 0, none⟩) (L.length + 1) cap) (HX.out.keep ga) (by rw [List.length_append, List.flatMap_append]; simpa [rwC] using hown) hgrow hv
  obtain ⟨y0, y1, y2, y3⟩ := row4T hB8
  have f3 := frozen_of_row _ _ 3 _ _ hB8
  have HBD := Lib.hid hBD
  have HBM : Hid (BldM R L0 ro (E.take (k + 1)) (L ++ [⟨e.i, X, p1, 0⟩])) := Lib.hid (HB.out.push HE.out HXM.out p1 0)
  have HLL : Hid ((L ++ [(⟨e.i, X, p1, 0⟩ : Rw)]).length = L.length + 1) := Lib.hid (by rw [List.length_append]; rfl)
  clear hown hgrow hat hlt8 ga hv hBD m0 m1 d0 d1 d2 d3 HX HG HXM KX
  go_wp2_with fail
  exact ⟨⟨k + 1, L ++ [⟨e.i, X, p1, 0⟩], some ⟨g2, 0, none⟩, cap, by omega, congrArg _ (by omega), HBM, by rw [HLL.out]; exact HBD⟩, by simp only [RowKit.intOf]; omega⟩
 have HCP := Lib.hid hcp
 clear hcp
 obtain ⟨q0, q1, q2⟩ := row3B K7.out.bP
 obtain ⟨b', off', hpe, hc⟩ := edT_cells K7.out.e (by omega)
 injection hpe with hpe
 injection hpe with e1 e2
 subst e1
 subst e2
 obtain ⟨a0, a1⟩ := hc k e HE.out
 clear hc
 go_upto_region 9 with fail
 refine region_until (S := fun w' => Hid (w7.grownBy w' none)) (fun j => j == 10) (by kernel_rfl) (Lib.hid (grown_drew (grown_refl _ none))) (fun hHeld => ?_)
 refine zU (i := 0) (v := ?_) rfl ?_ hHeld ?_
 rotate_left 1
 ·intro u hSu
  obtain ⟨t0u, t1u⟩ := row_cells (kept_row K7.out.bT hSu.out (by simp))
  have q2u := hSu.out.cell q2 (by simp)
  have a0u := hSu.out.cell a0 (by simp)
  go_simp
  first | done | with_reducible rfl
 try simp only [Act.put, zA, zB, zC]
 refine zU (i := 1) (v := ?_) rfl ?_ hHeld ?_
 rotate_left 1
 ·intro u hSu
  go_simp
  first | done | with_reducible rfl
 try simp only [Act.put, zA, zB, zC]
 refine zU (i := 2) (v := ?_) rfl ?_ hHeld ?_
 rotate_left 1
 ·intro u hSu
  go_simp
  first | done | with_reducible rfl
 try simp only [Act.put, zA, zB, zC]
 refine zU (i := 3) (v := ?_) rfl ?_ hHeld ?_
 rotate_left 1
 ·intro u hSu
  obtain ⟨t0u, t1u⟩ := row_cells (kept_row K7.out.bT hSu.out (by simp))
  have q2u := hSu.out.cell q2 (by simp)
  have a0u := hSu.out.cell a0 (by simp)
  go_simp
  first | done | with_reducible rfl
 try simp only [Act.put, zA, zB, zC]
 refine zU (i := 4) (v := ?_) rfl ?_ hHeld ?_
 rotate_left 1
 ·intro u hSu
  go_simp
  first | done | with_reducible rfl
 try simp only [Act.put, zA, zB, zC]
 refine zU (i := 5) (v := ?_) rfl ?_ hHeld ?_
 rotate_left 1
 ·intro u hSu
  go_simp
  first | done | with_reducible rfl
 try simp only [Act.put, zA, zB, zC]
 refine zU (i := 6) (v := ?_) rfl ?_ hHeld ?_
 rotate_left 1
 ·intro u hSu
  go_simp
  first | done | with_reducible rfl
 try simp only [Act.put, zA, zB, zC]
 refine zU (i := 7) (v := ?_) rfl ?_ hHeld ?_
 rotate_left 1
 ·intro u hSu
  obtain ⟨t0u, t1u⟩ := row_cells (kept_row K7.out.bT hSu.out (by simp))
  have q2u := hSu.out.cell q2 (by simp)
  have a0u := hSu.out.cell a0 (by simp)
  go_simp
  first | done | with_reducible rfl
 try simp only [Act.put, zA, zB, zC]
 refine anyU_ready (rs := [8]) (by kernel_rfl) (by simp) ?_
 refine EachU.cons (o := ⟨_, _, _, _, _, _⟩) rfl (fun Kz hK => ?_) EachU.nil
 go_simp
 go_at_call 91
 refine (rhops_any ⟨R, L0, pR, cR, pL, cL⟩ ro e.r _ _ (K7.out.keep hHeld.out).t).mono ?_
 rintro e' w8 ⟨X, p1, c1, rfl, hr, hn, hc, hA, hI, hIs, hg⟩
 have hr := And.intro (hr.mono (q' := fun b => w7.heap.size ≤ b) (fun b hb => Nat.le_trans hHeld.out.size hb)) (And.intro hn (And.intro hc (And.intro hA (And.intro hI hIs))))
 have HN := Lib.hid (grown_trans hHeld.out hg)
 clear hn hc hA hI hIs hg
 simp only
 refine hK.out _ _ (fun _ => HN) (fun hH2 => ?_)
 clear hK Kz hHeld
 have hHeld := hH2 rfl
 clear hH2
 try simp only [Act.put, zA, zB, zC]
 refine zU (i := 9) (v := ?_) rfl ?_ hHeld ?_
 rotate_left 1
 ·intro u hSu
  go_simp
  first | done | with_reducible rfl
 try simp only [Act.put, zA, zB, zC]
 refine anyU_ready (rs := [10]) (by kernel_rfl) (by simp) ?_
 refine EachU.cons (o := ⟨_, _, _, _, _, _⟩) rfl (fun Kz hK => ?_) EachU.nil
 have H9 := Lib.hid (And.intro hHeld.out (kept_row G7.out.2 hHeld.out (by simp)))
 obtain ⟨z0, z1⟩ := rowR2 H9.out.2
 have f1 := frozen_of_row _ _ 1 _ _ H9.out.2
 go_simp
 refine hK.out _ _ (fun h => by cases h) (fun _ => ?_)
 clear hK Kz
 try simp only [Act.put, zA, zB, zC]
 refine anyU_done (by kernel_rfl) ?_ _
 have HGW := Lib.hid hr
 have hg7 : g < w7.heap.size := lt_rowB G7.out.2
 clear z0 z1 f1 hr
 have hset := heap_setCell_same w8 g 1 _ _ (.slice p1 X.length c1) H9.out.2
 have gset : w8.grownBy (w8.setCell ⟨g, 1, none⟩ (.slice p1 X.length c1)) (some g) := grown_setCell _ _ _
 have KX := Lib.hid (K.out.keep (grown_new (grown_trans G7.out.1 H9.out.1) gset (by rw [HGE.out]; exact Nat.le_refl _)))
 have HG : Hid (_ = some (Obj.cells #[.int .i64 e.i, .slice p1 X.length c1] 80 (0, 0))) := Lib.hid hset
 have HX : Hid (RdX (w.heap.size + 4) _ (.slice p L.length c) p1 c1 X) := Lib.hid ⟨((rd_and HGW.out.1).grown gset (fun b hb e => by have := Option.some.inj e; have := hb.1; omega)).mono (fun b hb => ⟨by have := hb.1; have := K7.out.lo; omega, Nat.lt_of_lt_of_le hb.2 gset.size, fun e => by have := (K7.out.own.lt _ e.symm).2; have := hb.1; omega⟩), HGW.out.2.1, HGW.out.2.2.1⟩
 have HXM : Hid (NxB R L0 ro e.r X) := Lib.hid (by unfold NxB; rw [if_neg HER.out, if_pos HCP.out]; exact HGW.out.2.2.2)
 generalize (w8.setCell _ _) = wx at *
 clear hset gset K7 q0 q1 q2 a0 a1 H9 HGW
 obtain ⟨d0, d1, d2, d3⟩ := row4T KX.out.bB
 obtain ⟨m0, m1⟩ := rowR2 HG.out
 have hLl := hLE.out
 have hlo := KX.out.lo
 have hXl := HX.out.2.2
 go_wp2_with (at_builtin; refine hold_on ?_)
 refine Lib.hid ?_
 refine wpList_append_lies _ rfl _ _ 23 rfl (w.heap.size + 4) 80 ii (.agg #[.int .i64 0, .slice none 0 0]) 2 32 Tryz.underlying23 hii hi0 hi1 hi2 rfl (by decide) (.slice p L.length c) L.length (L.flatMap rwC) rfl (KX.out.own.alloc _) ⟨wx.heap.size, 0, none⟩ 1 1 (rwC ⟨e.i, X, p1, c1⟩) rfl rfl (rwB_row wx ⟨e.i, X, p1, c1⟩ _) (rw_one ⟨e.i, X, p1, c1⟩) (by decide) (by unfold maxLen; omega) (by omega) (by simp; omega) _ rfl ?_
 intro g2 cap w8 hown hgrow hat hlt8
 have ga := World.grownBy_alloc wx (.cells #[.int .i64 e.i, .slice p1 X.length c1] 80) none
 have hv : (Value.slice (some ⟨g2, 0, none⟩) (L.length + 1) cap).ownBlock = (Value.slice p L.length c).ownBlock ∨ ∀ b, some b = (Value.slice (some ⟨g2, 0, none⟩) (L.length + 1) cap).ownBlock → (wx.alloc (.cells #[.int .i64 e.i, .slice p1 X.length c1] 80)).heap.size ≤ b := by
  rcases hat with h | h
  ·exact Or.inl h.symm
  ·refine Or.inr fun b e => ?_
   have e2 : some b = some g2 := e
   have := Option.some.inj e2
   rw [this, h]
   exact Nat.le_refl _
 obtain ⟨hB8, hBD⟩ := (KX.out.keep ga).push (x := ⟨e.i, X, p1, c1⟩) (v' := .slice (some ⟨g2, 0, none⟩) (L.length + 1) cap) (HX.out.keep ga) (by rw [List.length_append, List.flatMap_append]; simpa [rwC] using hown) hgrow hv
 obtain ⟨y0, y1, y2, y3⟩ := row4T hB8
 have f3 := frozen_of_row _ _ 3 _ _ hB8
 have HBD := Lib.hid hBD
 have HBM : Hid (BldM R L0 ro (E.take (k + 1)) (L ++ [⟨e.i, X, p1, c1⟩])) := Lib.hid (HB.out.push HE.out HXM.out p1 c1)
 have HLL : Hid ((L ++ [(⟨e.i, X, p1, c1⟩ : Rw)]).length = L.length + 1) := Lib.hid (by rw [List.length_append]; rfl)
 clear hown hgrow hat hlt8 ga hv hBD m0 m1 d0 d1 d2 d3 HX HG HXM KX
 go_wp2_with fail
 exact ⟨⟨k + 1, L ++ [⟨e.i, X, p1, c1⟩], some ⟨g2, 0, none⟩, cap, by omega, congrArg _ (by omega), HBM, by rw [HLL.out]; exact HBD⟩, by simp only [RowKit.intOf]; omega⟩
end Go.Proofs.YtpogblengagpaaaGreatDoor

/- tables: lists of tables in memory. -/
namespace Go.Proofs.YtpogblengagpaaaGreatDoor
set_option maxRecDepth 100000
open Go.RowKit Bs
structure TbS where
 r : Int
 s : Int
 n : Int
 L : List Rw
 p : Option Addr
 c : Nat
def tbC (x : TbS) : List Value := [.int .i64 x.r, .int .i64 x.s, .int .i64 x.n, .slice x.p x.L.length x.c]
theorem tb_one (x : TbS) : ∀ u ∈ tbC x, u.oneCell' = true := by
 intro u hu
 simp [tbC] at hu
 rcases hu with rfl | rfl | rfl | rfl <;> rfl
structure TbX (lo : Nat) (w : World) (v : Value) (x : TbS) : Prop where
 rd : RdW w (fun b => lo ≤ b ∧ b < w.heap.size ∧ some b ≠ v.ownBlock) x.p x.c x.L
 hn : x.p = none → x.c = 0
 hc : x.L.length ≤ x.c ∧ x.c ≤ 9223372036854775807
 hy : ∀ y ∈ x.L, y.p = none → y.c = 0
theorem TbX.keep {lo : Nat} {w w1 : World} {v : Value} {x : TbS} (h : TbX lo w v x) (g : w.grownBy w1 none) : TbX lo w1 v x :=
 ⟨(h.rd.keep g).mono (fun b hb => ⟨hb.1, Nat.lt_of_lt_of_le hb.2.1 g.size, hb.2.2⟩), h.hn, h.hc, h.hy⟩
theorem TbX.put {lo : Nat} {w w1 : World} {v v' : Value} {x : TbS} (h : TbX lo w v x) (g : w.grownBy w1 v.ownBlock) (hv : v'.ownBlock = v.ownBlock ∨ ∀ b, some b = v'.ownBlock → w.heap.size ≤ b) : TbX lo w1 v' x :=
 ⟨(h.rd.grown g (fun b hb => hb.2.2)).mono (fun b hb => ⟨hb.1, Nat.lt_of_lt_of_le hb.2.1 g.size, fun e => by
  rcases hv with hv | hv
  ·rw [hv] at e; exact hb.2.2 e
  ·have := hv b e; have := hb.2.1; omega⟩), h.hn, h.hc, h.hy⟩
theorem TbX.over {lo : Nat} {w w1 : World} {v : Value} {x : TbS} {r : Nat} (h : TbX lo w v x) (g : w.grownBy w1 (some r)) (hr : ∀ b, lo ≤ b → b ≠ r) : TbX lo w1 v x :=
 ⟨(h.rd.grown g (fun b hb e => hr b hb.1 (Option.some.inj e))).mono (fun b hb => ⟨hb.1, Nat.lt_of_lt_of_le hb.2.1 g.size, hb.2.2⟩), h.hn, h.hc, h.hy⟩
theorem tbx_of_bld {lo base : Nat} {w : World} {v : Value} {L : List Rw} {p : Option Addr} {c : Nat} (r s n : Int) (hown : w.ownsRow base 80 2 (.slice p L.length c) L.length (L.flatMap rwC)) (hr : ∀ x ∈ L, RdX base w (.slice p L.length c) x.p x.c x.nx) (hv : ∀ b, v.ownBlock = some b → b < base) (hlo : lo ≤ base) : TbX lo w v ⟨r, s, n, L, p, c⟩ := by
 have hq : ∀ b, base ≤ b → some b ≠ v.ownBlock := fun b hb e => by have := hv b e.symm; omega
 refine ⟨⟨(rdf_of_own2 hown).mono (fun b hb => ⟨by omega, hb.2, hq b hb.1⟩), fun x hx => ⟨(hr x hx).1.mono (fun b hb => ⟨by have := hb.1; omega, hb.2.1, hq b hb.1⟩), (hr x hx).2.2⟩⟩, ?_, ?_, fun x hx => (hr x hx).2.1⟩
 ·intro hp
  rcases own_formF hown with ⟨e, h0⟩ | ⟨g, cap, e, -⟩
  ·injection e
  ·injection e with e1; subst hp; cases e1
 ·rcases own_formF hown with ⟨e, h0⟩ | ⟨g, cap, e, h1, h2⟩
  ·injection e with e1 e2 e3; subst e3; exact ⟨by show L.length ≤ 0; omega, by show (0 : Nat) ≤ _; omega⟩
  ·injection e with e1 e2 e3; subst e3; exact ⟨h1, h2⟩
theorem tb_cells {w : World} {q : Nat → Prop} {p : Option Addr} {n c : Nat} {Ts : List TbS} (h : RdF w q (.slice p n c) Ts.length (Ts.flatMap tbC)) (hn : 0 < Ts.length) :
  n = Ts.length ∧ ∃ b off, p = some ⟨b, off, none⟩ ∧ q b ∧ ∀ i x, Ts[i]? = some x → w.cell? ⟨b, off + i * 4, none⟩ = some (.int .i64 x.r) ∧ w.cell? ⟨b, off + i * 4 + 1, none⟩ = some (.int .i64 x.s) ∧ w.cell? ⟨b, off + i * 4 + 2, none⟩ = some (.int .i64 x.n) ∧ w.cell? ⟨b, off + i * 4 + 3, none⟩ = some (.slice x.p x.L.length x.c) := by
 obtain ⟨h0, b, off, hp, hq, hc⟩ := RdF.cells (f := tbC) (k := 4) (fun _ => rfl) (by decide) h hn
 exact ⟨h0, b, off, hp, hq, fun i x hi => ⟨hc i x hi 0 _ rfl, hc i x hi 1 _ rfl, hc i x hi 2 _ rfl, hc i x hi 3 _ rfl⟩⟩
structure AlT (W : World) (T : Tg) (s n : Int) (E : List Ed) (pE : Option Addr) (cE : Nat) (v : Value) (Ts : List TbS) (w : World) : Prop where
 bT : w.heap[W.heap.size]? = some (.cells #[.slice T.pR T.R.length T.cR, .slice T.pL T.L.length T.cL] 68 (0, 0))
 bP : w.heap[W.heap.size + 1]? = some (.cells #[.int .i64 s, .int .i64 n, .slice pE E.length cE] 72 (0, 0))
 t : TgOk w (· < W.heap.size) T
 e : RdF w (· < W.heap.size) (.slice pE E.length cE) E.length (E.flatMap edC)
 own : w.ownsRow (W.heap.size + 2) 25 4 v Ts.length (Ts.flatMap tbC)
 tabs : ∀ x ∈ Ts, TbX (W.heap.size + 2) w v x
 gr : W.grownBy w none
 lo : W.heap.size + 2 ≤ w.heap.size
theorem AlT.keep {W : World} {T : Tg} {s n : Int} {E : List Ed} {pE : Option Addr} {cE : Nat} {v : Value} {Ts : List TbS} {w w1 : World} (h : AlT W T s n E pE cE v Ts w) (g : w.grownBy w1 none) : AlT W T s n E pE cE v Ts w1 :=
 ⟨kept_row h.bT g (by simp), kept_row h.bP g (by simp), h.t.keep g, h.e.keep g, h.own.kept g (by cases v.ownBlock <;> simp), fun x hx => (h.tabs x hx).keep g, grown_trans h.gr g, Nat.le_trans h.lo g.size⟩
theorem AlT.push {W : World} {T : Tg} {s n : Int} {E : List Ed} {pE : Option Addr} {cE : Nat} {v v' : Value} {Ts : List TbS} {x : TbS} {w w1 : World} (h : AlT W T s n E pE cE v Ts w) (hx : TbX (W.heap.size + 2) w v x) (hown : w1.ownsRow (W.heap.size + 2) 25 4 v' (Ts ++ [x]).length ((Ts ++ [x]).flatMap tbC)) (g : w.grownBy w1 v.ownBlock) (hv : v'.ownBlock = v.ownBlock ∨ ∀ b, some b = v'.ownBlock → w.heap.size ≤ b) : AlT W T s n E pE cE v' (Ts ++ [x]) w1 := by
 have hne : ∀ b, b < W.heap.size + 2 → some b ≠ v.ownBlock := fun b hb e => by have := (h.own.lt b e.symm).1; omega
 refine ⟨kept_row h.bT g (hne _ (by omega)), kept_row h.bP g (hne _ (by omega)), h.t.grown g (fun b hb => hne b (by omega)), h.e.grown g (fun b hb => hne b (by omega)), hown, fun y hy => ?_, grown_any h.gr g (fun b hb => hne b (by omega)), Nat.le_trans h.lo g.size⟩
 rcases List.mem_append.1 hy with hm | hm
 ·exact (h.tabs y hm).put g hv
 ·rw [List.mem_singleton.1 hm]; exact hx.put g hv
theorem alT_start {w : World} {T : Tg} {q q2 : Nat → Prop} (s n : Int) {E : List Ed} {pE : Option Addr} {cE : Nat} (hT : TgOk w q T) (hE : RdF w q2 (.slice pE E.length cE) E.length (E.flatMap edC)) :
  AlT w T s n E pE cE (.slice none 0 0) [] ((w.alloc (.cells #[.slice T.pR T.R.length T.cR, .slice T.pL T.L.length T.cL] 68)).alloc (.cells #[.int .i64 s, .int .i64 n, .slice pE E.length cE] 72)) := by
 obtain ⟨a1, g1, z1⟩ := alloc_row (w := w) #[.slice T.pR T.R.length T.cR, .slice T.pL T.L.length T.cL] 68 rfl
 generalize w.alloc _ = w1 at *
 obtain ⟨a2, g2, z2⟩ := alloc_row (w := w1) #[.int .i64 s, .int .i64 n, .slice pE E.length cE] 72 z1
 generalize w1.alloc _ = w2 at *
 have gg := grown_trans g1 g2
 exact ⟨kept_row a1 g2 (by simp), a2, hT.old.keep gg, hE.old.keep gg, World.ownsRow_nil _ _ _ _, fun x hx => (by cases hx), gg, by omega⟩
theorem tb_row (w : World) (x : TbS) (t : TypeId) : ∀ j u, (tbC x)[j]? = some u → (w.alloc (.cells #[.int .i64 x.r, .int .i64 x.s, .int .i64 x.n, .slice x.p x.L.length x.c] t)).cell? ((⟨w.heap.size, 0, none⟩ : Addr).add j) = some u := by
 intro j u hu
 rw [add_plain]
 have hb := heap_alloc_new w (.cells #[.int .i64 x.r, .int .i64 x.s, .int .i64 x.n, .slice x.p x.L.length x.c] t)
 rcases j with _ | _ | _ | _ | j
 ·cases hu; exact cell_of_row _ _ _ _ _ _ hb
 ·cases hu; exact cell_of_row _ _ _ _ _ _ hb
 ·cases hu; exact cell_of_row _ _ _ _ _ _ hb
 ·cases hu; exact cell_of_row _ _ _ _ _ _ hb
 ·simp [tbC] at hu
def AllM (R : List Rt) (Lk0 : List Lk) (s n : Int) (E : List Ed) (rs : List Rt) (Ts : List TbS) : Prop := Ts.map (·.r) = (rs.filter (·.cap)).map (·.id) ∧ ∀ x ∈ Ts, x.s = s ∧ x.n = n ∧ BldM R Lk0 x.r E x.L
theorem AllM.nil {R : List Rt} {Lk0 : List Lk} {s n : Int} {E : List Ed} : AllM R Lk0 s n E [] [] := ⟨rfl, fun x hx => (by cases hx)⟩
theorem AllM.skip {R : List Rt} {Lk0 : List Lk} {s n : Int} {E : List Ed} {k : Nat} {y : Rt} {Ts : List TbS} (h : AllM R Lk0 s n E (R.take k) Ts) (hy : R[k]? = some y) (hc : y.cap = false) : AllM R Lk0 s n E (R.take (k + 1)) Ts := by
 refine ⟨?_, h.2⟩
 rw [List.take_add_one, hy, List.filter_append, List.map_append, ← h.1]
 simp [hc]
theorem AllM.push {R : List Rt} {Lk0 : List Lk} {s n : Int} {E : List Ed} {k : Nat} {y : Rt} {Ts : List TbS} (h : AllM R Lk0 s n E (R.take k) Ts) (hy : R[k]? = some y) (hc : y.cap = true) {L : List Rw} (hL : BldM R Lk0 y.id E L) (p : Option Addr) (c : Nat) : AllM R Lk0 s n E (R.take (k + 1)) (Ts ++ [⟨y.id, s, n, L, p, c⟩]) := by
 refine ⟨?_, fun x hx => ?_⟩
 ·rw [List.take_add_one, hy, List.filter_append, List.map_append, List.map_append, ← h.1]
  simp [hc]
 ·rcases List.mem_append.1 hx with hx | hx
  ·exact h.2 x hx
  ·rw [List.mem_singleton.1 hx]; exact ⟨rfl, rfl, hL⟩
theorem AllM.len {R : List Rt} {Lk0 : List Lk} {s n : Int} {E : List Ed} {rs : List Rt} {Ts : List TbS} (h : AllM R Lk0 s n E rs Ts) : Ts.length ≤ rs.length := by
 have := congrArg List.length h.1
 rw [List.length_map, List.length_map] at this
 rw [this]
 exact List.length_filter_le _ _
def RAllPost (R : List Rt) (Lk0 : List Lk) (s n : Int) (E : List Ed) (w : World) (e : Ending) (w' : World) : Prop :=
 ∃ (Ts : List TbS) (p : Option Addr) (c : Nat) (er : Int), e = .returned (.tuple #[.slice p Ts.length c, .int .i64 er]) ∧ ((er = 0 ∧ okT R Lk0 = true ∧ vPl s n E = true ∧ AllM R Lk0 s n E R Ts) ∨ (er = 1 ∧ ¬ (okT R Lk0 = true ∧ vPl s n E = true) ∧ Ts = [])) ∧ w'.ownsRow w.heap.size 25 4 (.slice p Ts.length c) Ts.length (Ts.flatMap tbC) ∧ (∀ x ∈ Ts, TbX w.heap.size w' (.slice p Ts.length c) x) ∧ w.grownBy w' none
theorem info_tabT : (Tryz.prog.info? 25).map (fun i => (i.zero, i.size, i.bytes)) = some (some (.agg #[.int .i64 0, .int .i64 0, .int .i64 0, .slice none 0 0]), 4, 48) := by kernel_rfl
end Go.Proofs.YtpogblengagpaaaGreatDoor

/- empty -/
namespace Go.Proofs.YtpogblengagpaaaGreatDoor
set_option maxRecDepth 100000
end Go.Proofs.YtpogblengagpaaaGreatDoor

/- empty -/
namespace Go.Proofs.YtpogblengagpaaaGreatDoor
set_option maxRecDepth 100000
end Go.Proofs.YtpogblengagpaaaGreatDoor

/- empty -/
namespace Go.Proofs.YtpogblengagpaaaGreatDoor
set_option maxRecDepth 100000
end Go.Proofs.YtpogblengagpaaaGreatDoor

/- empty -/
namespace Go.Proofs.YtpogblengagpaaaGreatDoor
set_option maxRecDepth 100000
end Go.Proofs.YtpogblengagpaaaGreatDoor

/- empty -/
namespace Go.Proofs.YtpogblengagpaaaGreatDoor
set_option maxRecDepth 100000
end Go.Proofs.YtpogblengagpaaaGreatDoor

/- identify: Conflicts, Length, Free. -/
namespace Go.Proofs.YtpogblengagpaaaGreatDoor
set_option maxRecDepth 100000
open Go.RowKit Bs
def ivC (z : Int) : List Value := [.int .i64 z]
theorem ivC_one (z : Int) : ∀ u ∈ ivC z, u.oneCell' = true := by
 intro u hu
 simp [ivC] at hu
 subst hu
 rfl
theorem flat_iv : ∀ X : List Int, X.flatMap ivC = X.map (fun z => Value.int .i64 z)
 | [] => rfl
 | a :: t => by rw [List.flatMap_cons, flat_iv t]; rfl
theorem iv_rowI (w : World) (z : Int) (t : TypeId) (j : Nat) (u : Value) (hu : ([z].flatMap ivC)[j]? = some u) : (w.alloc (.cells #[.int .i64 z] t)).cell? ((⟨w.heap.size, 0, none⟩ : Addr).add j) = some u :=
 cell_one w (.int .i64 z) t j u (by simpa [ivC] using hu)
end Go.Proofs.YtpogblengagpaaaGreatDoor

/- empty -/
namespace Go.Proofs.YtpogblengagpaaaGreatDoor
set_option maxRecDepth 100000
end Go.Proofs.YtpogblengagpaaaGreatDoor

/- empty -/
namespace Go.Proofs.YtpogblengagpaaaGreatDoor
set_option maxRecDepth 100000
end Go.Proofs.YtpogblengagpaaaGreatDoor

/- empty -/
namespace Go.Proofs.YtpogblengagpaaaGreatDoor
set_option maxRecDepth 100000
end Go.Proofs.YtpogblengagpaaaGreatDoor

/- empty -/
namespace Go.Proofs.YtpogblengagpaaaGreatDoor
set_option maxRecDepth 100000
end Go.Proofs.YtpogblengagpaaaGreatDoor

/- empty -/
namespace Go.Proofs.YtpogblengagpaaaGreatDoor
set_option maxRecDepth 100000
end Go.Proofs.YtpogblengagpaaaGreatDoor

/- empty -/
namespace Go.Proofs.YtpogblengagpaaaGreatDoor
set_option maxRecDepth 100000
end Go.Proofs.YtpogblengagpaaaGreatDoor

/- identify: routerTwice. -/
namespace Go.Proofs.YtpogblengagpaaaGreatDoor
set_option maxRecDepth 100000
open Go.RowKit Bs
section
variable {W w w1 : World} {E : List Ed} {p : Option Addr} {c B : Nat} {kf : Nat → Bool}
end
def rsE (E : List Ed) : List Int := E.map Ed.r
end Go.Proofs.YtpogblengagpaaaGreatDoor

/- identify: Plan. -/
namespace Go.Proofs.YtpogblengagpaaaGreatDoor
set_option maxRecDepth 100000
open Go.RowKit Bs
theorem row3i {w : World} {b : Nat} {t : TypeId} {x y z : Value} (h : w.heap[b]? = some (.cells #[x, y, z] t (0, 0))) : (w.cell? ⟨b, 0, none⟩ = some x ∧ w.cell? ⟨b, 1, none⟩ = some y ∧ w.cell? ⟨b, 2, none⟩ = some z) ∧ ∀ o, w.frozen? ⟨b, o, none⟩ = false :=
 ⟨⟨cell_of_row _ _ _ _ _ _ h, cell_of_row _ _ _ _ _ _ h, cell_of_row _ _ _ _ _ _ h⟩, fun o => frozen_of_row _ _ o _ _ h⟩
end Go.Proofs.YtpogblengagpaaaGreatDoor

/- empty -/
namespace Go.Proofs.YtpogblengagpaaaGreatDoor
set_option maxRecDepth 100000
end Go.Proofs.YtpogblengagpaaaGreatDoor

/- empty -/
namespace Go.Proofs.YtpogblengagpaaaGreatDoor
set_option maxRecDepth 100000
end Go.Proofs.YtpogblengagpaaaGreatDoor

/- empty -/
namespace Go.Proofs.YtpogblengagpaaaGreatDoor
set_option maxRecDepth 100000
end Go.Proofs.YtpogblengagpaaaGreatDoor

/- empty -/
namespace Go.Proofs.YtpogblengagpaaaGreatDoor
set_option maxRecDepth 100000
end Go.Proofs.YtpogblengagpaaaGreatDoor

/- empty -/
namespace Go.Proofs.YtpogblengagpaaaGreatDoor
set_option maxRecDepth 100000
end Go.Proofs.YtpogblengagpaaaGreatDoor

/- The reference's Repeats. -/
namespace Go.Proofs.YtpogblengagpaaaGreatDoor
set_option maxRecDepth 100000
open Go.RowKit Bs
theorem rdi_cellsI {w : World} {q : Nat → Prop} {p : Option Addr} {n c : Nat} {r : List Int} (h : Rd w q (.slice p n c) (r.map fun z => Value.int .i64 z)) (hn : 0 < r.length) :
  ∃ b off, p = some ⟨b, off, none⟩ ∧ q b ∧ ∀ i, i < r.length → w.cell? ⟨b, off + i, none⟩ = some (.int .i64 (r.getD i 0)) := by
 obtain ⟨p1, c1, e1, hx⟩ := h
 injection e1 with a1 a2 a3
 subst a1
 obtain ⟨b, off, hp, hq, hc⟩ := hx (by intro e; have := congrArg List.length e; simp only [List.length_map, List.length_nil] at this; omega)
 refine ⟨b, off, hp, hq, fun i hi => hc i _ ?_⟩
 rw [List.getElem?_map, List.getElem?_eq_getElem hi, List.getD_eq_getElem?_getD, List.getElem?_eq_getElem hi]; rfl
theorem rep_hitI {r : List Int} {k : Nat} {y : Int} (hk : k < r.length) (hy : r.getD k 0 = y) (h : (r.take k).contains y = true) : repI r = true := by
 refine List.any_eq_true.2 ⟨k, List.mem_range.2 hk, ?_⟩
 rw [hy]; exact h
theorem rep_missI {r : List Int} (h : ∀ j, j < r.length → (r.take j).contains (r.getD j 0) = false) : repI r = false := by
 rw [Bool.eq_false_iff]
 intro hr
 obtain ⟨k, hk, h2⟩ := List.any_eq_true.1 hr
 rw [h k (List.mem_range.1 hk)] at h2
 cases h2
set_option maxHeartbeats 3200000 in
theorem irep_any (r : List Int) (p : Option Addr) (c : Nat) (q : Nat → Prop) (w : World) (hR : Rd w q (.slice p r.length c) (r.map fun z => Value.int .i64 z)) (hm : r.length ≤ 9223372036854775807) :
  Calls Tryz.prog 89 #[.slice p r.length c] w fun e w' => e = .returned (.bool (repI r)) ∧ w.grownBy w' none := by
 have HR := Lib.hid hR
 clear hR
 go_enter Tryz.func89, Tryz.ntmps89
 go_wp2_with fail
 go_loopw [3] (fun a wr => ∃ k : Nat, k ≤ r.length ∧ a = .int .i64 (k : Int) ∧ Hid (w.grownBy wr none) ∧ Hid (∀ j, j < k → (r.take j).contains (r.getD j 0) = false)) (fun a _ => r.length - (RowKit.intOf a).toNat)
 case atStart => exact ⟨0, Nat.zero_le _, rfl, Lib.hid (grown_refl _ _), Lib.hid fun j hj => absurd hj (Nat.not_lt_zero _)⟩
 case round =>
  obtain ⟨k, hk, rfl, hG, hN⟩ := hrel
  by_cases hlt : k < r.length
  ·obtain ⟨y, hy⟩ : ∃ y, r.getD k 0 = y := ⟨_, rfl⟩
   have HY := Lib.hid hy
   clear hy
   go_wp2_with fail
   go_loopw [4] (fun a wi => ∃ m : Nat, m ≤ k ∧ a = .int .i64 (m : Int) ∧ Hid (w.grownBy wi none) ∧ Hid (∀ j, j < m → r.getD j 0 ≠ y)) (fun a _ => k - (RowKit.intOf a).toNat)
   case atStart => exact ⟨0, Nat.zero_le _, rfl, hG, Lib.hid fun j hj => absurd hj (Nat.not_lt_zero _)⟩
   case round =>
    obtain ⟨m, hmk, rfl, hG2, hN2⟩ := hrel
    by_cases hm2 : m < k
    ·obtain ⟨b, off, rfl, _, hc⟩ := rdi_cellsI (HR.out.keep hG2.out) (by omega)
     have c0 := hc k hlt
     have c1 := hc m (by omega)
     rw [HY.out] at c0
     obtain ⟨z, hz⟩ : ∃ z, r.getD m 0 = z := ⟨_, rfl⟩
     rw [hz] at c1
     have HZ := Lib.hid hz
     have hml : m < r.length := by omega
     clear hc hz
     by_cases e : y = z
     ·subst e
      go_wp2_with fail
      go_region
      change Exit.then _ _ _ _ wr.drew
      have HG3 := Lib.hid (grown_drew hG2.out)
      clear c0 c1 hG2 hG
      generalize wr.drew = w2 at *
      go_wp2_with fail
      go_ret
      rw [rep_hitI hlt HY.out (by
       rw [List.contains_iff_mem]
       have h3 := HZ.out
       rw [List.getD_eq_getElem?_getD, List.getElem?_eq_getElem hml] at h3
       rw [← show r[m] = y from h3]
       exact List.mem_of_getElem? (i := m) (by rw [List.getElem?_take, if_pos hm2, List.getElem?_eq_getElem hml]))]
      exact ⟨rfl, HG3.out⟩
     ·have eb : (y == z) = false := by simpa using e
      go_wp2_with fail
      go_region
      change Exit.then _ _ _ _ wr.drew
      have HG3 := Lib.hid (grown_drew hG2.out)
      clear c0 c1 hG2 hG
      generalize wr.drew = w2 at *
      go_wp2_with fail
      refine ⟨⟨m + 1, by omega, by go_num, HG3, Lib.hid fun j hj => ?_⟩, by simp [RowKit.intOf]; omega⟩
      by_cases h2 : j = m
      ·subst h2
       rw [HZ.out]
       exact fun h => e h.symm
      ·exact hN2.out j (by omega)
    ·obtain rfl : m = k := by omega
     go_wp2_with fail
     refine ⟨⟨m + 1, by omega, by go_num, hG2, Lib.hid fun j hj => ?_⟩, by simp [RowKit.intOf]; omega⟩
     by_cases h2 : j = m
     ·subst h2
      rw [HY.out, Bool.eq_false_iff]
      intro hcn
      rw [List.contains_iff_mem] at hcn
      obtain ⟨i, hi, he⟩ := List.getElem_of_mem hcn
      rw [List.length_take] at hi
      refine hN2.out i (by omega) ?_
      rw [List.getD_eq_getElem?_getD, List.getElem?_eq_getElem (by omega)]
      rw [List.getElem_take] at he
      exact he
     ·exact hN.out j (by omega)
  ·obtain rfl : k = r.length := by omega
   go_wp2_with fail
   go_ret
   rw [rep_missI hN.out]
   exact ⟨rfl, hG.out⟩
end Go.Proofs.YtpogblengagpaaaGreatDoor
