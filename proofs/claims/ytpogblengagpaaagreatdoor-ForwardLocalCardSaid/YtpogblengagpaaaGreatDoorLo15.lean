/- Parts of the proof, packed: TaBld, FwL, MaRBt, TaRck, MaRMk, FwN. -/
import Derived.Test.YtpogblengagpaaaGreatDoorLo13
import Derived.Test.YtpogblengagpaaaGreatDoorLo6
import Derived.Test.YtpogblengagpaaaGreatDoorLo3
import Derived.Test.YtpogblengagpaaaGreatDoorLo14
/- tables, the reference's functions: build. -/
namespace Go.Proofs.YtpogblengagpaaaGreatDoor
set_option maxRecDepth 100000
open Go.RowKit Bs
theorem row3B {w : World} {b : Nat} {x y z : Value} {t : TypeId} (h : w.heap[b]? = some (.cells #[x, y, z] t (0, 0))) : w.cell? ⟨b, 0, none⟩ = some x ∧ w.cell? ⟨b, 1, none⟩ = some y ∧ w.cell? ⟨b, 2, none⟩ = some z :=
 ⟨cell_of_row _ _ _ _ _ _ h, cell_of_row _ _ _ _ _ _ h, cell_of_row _ _ _ _ _ _ h⟩
theorem RdX.over {lo : Nat} {w w1 : World} {v : Value} {p : Option Addr} {c : Nat} {X : List Int} {r : Nat} (h : RdX lo w v p c X) (g : w.grownBy w1 (some r)) (hr : ∀ b, lo ≤ b → b ≠ r) : RdX lo w1 v p c X :=
 ⟨(h.1.grown g (fun b hb e => hr b hb.1 (Option.some.inj e))).mono (fun b hb => ⟨hb.1, Nat.lt_of_lt_of_le hb.2.1 g.size, hb.2.2⟩), h.2⟩
structure BD (W : World) (T : Tg) (s n ro : Int) (E : List Ed) (pE : Option Addr) (cE : Nat) (v : Value) (L : List Rw) (w : World) : Prop where
 bT : w.heap[W.heap.size]? = some (.cells #[.slice T.pR T.R.length T.cR, .slice T.pL T.L.length T.cL] 68 (0, 0))
 bP : w.heap[W.heap.size + 1]? = some (.cells #[.int .i64 s, .int .i64 n, .slice pE E.length cE] 72 (0, 0))
 bR : w.heap[W.heap.size + 1 + 1]? = some (.cells #[.int .i64 0, .int .i64 0, .int .i64 0, .slice none 0 0] 25 (0, 0))
 bB : w.heap[W.heap.size + 1 + 1 + 1]? = some (.cells #[.int .i64 ro, .int .i64 s, .int .i64 n, v] 25 (0, 0))
 t : TgOk w (· < W.heap.size) T
 e : RdF w (· < W.heap.size) (.slice pE E.length cE) E.length (E.flatMap edC)
 own : w.ownsRow (W.heap.size + 4) 80 2 v L.length (L.flatMap rwC)
 rows : ∀ x ∈ L, RdX (W.heap.size + 4) w v x.p x.c x.nx
 gr : W.grownBy w none
 lo : W.heap.size + 4 ≤ w.heap.size
theorem BD.keep {W : World} {T : Tg} {s n ro : Int} {E : List Ed} {pE : Option Addr} {cE : Nat} {v : Value} {L : List Rw} {w w1 : World} (h : BD W T s n ro E pE cE v L w) (g : w.grownBy w1 none) : BD W T s n ro E pE cE v L w1 :=
 ⟨kept_row h.bT g (by simp), kept_row h.bP g (by simp), kept_row h.bR g (by simp), kept_row h.bB g (by simp), h.t.keep g, h.e.keep g, h.own.kept g (by cases v.ownBlock <;> simp), fun x hx => (h.rows x hx).keep g, grown_trans h.gr g, Nat.le_trans h.lo g.size⟩
theorem edT_cells {w : World} {q : Nat → Prop} {p : Option Addr} {n c : Nat} {E : List Ed} (h : RdF w q (.slice p n c) E.length (E.flatMap edC)) (hn : 0 < E.length) :
  ∃ b off, p = some ⟨b, off, none⟩ ∧ ∀ i x, E[i]? = some x → w.cell? ⟨b, off + i * 2, none⟩ = some (.int .i64 x.r) ∧ w.cell? ⟨b, off + i * 2 + 1, none⟩ = some (.int .i64 x.i) := by
 obtain ⟨-, b, off, hp, -, hc⟩ := RdF.cells (f := edC) (k := 2) (fun _ => rfl) (by decide) h hn
 exact ⟨b, off, hp, fun i x hi => ⟨hc i x hi 0 _ rfl, hc i x hi 1 _ rfl⟩⟩
theorem alloc_row {w : World} (A : Array Value) (t : TypeId) {n : Nat} (hn : w.heap.size = n) : (w.alloc (.cells A t)).heap[n]? = some (.cells A t (0, 0)) ∧ w.grownBy (w.alloc (.cells A t)) none ∧ (w.alloc (.cells A t)).heap.size = n + 1 := by
 subst hn
 exact ⟨heap_alloc_new w _, World.grownBy_alloc w _ _, by simp⟩
theorem bd_start {w : World} {T : Tg} {q q2 : Nat → Prop} (s n ro : Int) {E : List Ed} {pE : Option Addr} {cE : Nat} (hT : TgOk w q T) (hE : RdF w q2 (.slice pE E.length cE) E.length (E.flatMap edC)) :
  BD w T s n ro E pE cE (.slice none 0 0) [] ((((w.alloc (.cells #[.slice T.pR T.R.length T.cR, .slice T.pL T.L.length T.cL] 68)).alloc (.cells #[.int .i64 s, .int .i64 n, .slice pE E.length cE] 72)).alloc (.cells #[.int .i64 0, .int .i64 0, .int .i64 0, .slice none 0 0] 25)).alloc (.cells #[.int .i64 ro, .int .i64 s, .int .i64 n, .slice none 0 0] 25)) := by
 obtain ⟨a1, g1, z1⟩ := alloc_row (w := w) #[.slice T.pR T.R.length T.cR, .slice T.pL T.L.length T.cL] 68 rfl
 generalize w.alloc _ = w1 at *
 obtain ⟨a2, g2, z2⟩ := alloc_row (w := w1) #[.int .i64 s, .int .i64 n, .slice pE E.length cE] 72 z1
 generalize w1.alloc _ = w2 at *
 obtain ⟨a3, g3, z3⟩ := alloc_row (w := w2) #[.int .i64 0, .int .i64 0, .int .i64 0, .slice none 0 0] 25 z2
 generalize w2.alloc _ = w3 at *
 obtain ⟨a4, g4, z4⟩ := alloc_row (w := w3) #[.int .i64 ro, .int .i64 s, .int .i64 n, .slice none 0 0] 25 z3
 generalize w3.alloc _ = w4 at *
 have gg := grown_trans (grown_trans (grown_trans g1 g2) g3) g4
 exact ⟨kept_row (kept_row (kept_row a1 g2 (by simp)) g3 (by simp)) g4 (by simp), kept_row (kept_row a2 g3 (by simp)) g4 (by simp), kept_row a3 g4 (by simp), a4, hT.old.keep gg, hE.old.keep gg, World.ownsRow_nil _ _ _ _, fun x hx => (by cases hx), gg, by omega⟩
theorem store4B {w : World} {b : Nat} {t : TypeId} {z0 z1 z2 z3 : Value} (u0 u1 u2 u3 : Value) (h : w.heap[b]? = some (.cells #[z0, z1, z2, z3] t (0, 0))) :
  ((((w.setCell ⟨b, 0, none⟩ u0).setCell ⟨b, 1, none⟩ u1).setCell ⟨b, 2, none⟩ u2).setCell ⟨b, 3, none⟩ u3).heap[b]? = some (.cells #[u0, u1, u2, u3] t (0, 0)) ∧ w.grownBy ((((w.setCell ⟨b, 0, none⟩ u0).setCell ⟨b, 1, none⟩ u1).setCell ⟨b, 2, none⟩ u2).setCell ⟨b, 3, none⟩ u3) (some b) := by
 have h1 := heap_setCell_same w b 0 _ _ u0 h
 have h2 := heap_setCell_same _ b 1 _ _ u1 h1
 have h3 := heap_setCell_same _ b 2 _ _ u2 h2
 have h4 := heap_setCell_same _ b 3 _ _ u3 h3
 exact ⟨h4, grown_trans (grown_trans (grown_trans (grown_setCell w ⟨b, 0, none⟩ u0) (grown_setCell _ ⟨b, 1, none⟩ u1)) (grown_setCell _ ⟨b, 2, none⟩ u2)) (grown_setCell _ ⟨b, 3, none⟩ u3)⟩
theorem tab_sizeB : (Tryz.prog.info? 25).map (·.size) = some 4 := by kernel_rfl
theorem res_tabB {fn : Func} {p : Tmp} (h : fn.results = #[.cell p 25]) (tmps : Array Value) (w : World) (g : Nat) (x y z u : Value) (hp : tmps.getD p undef = .pointer (some ⟨g, 0, none⟩)) (hg : w.heap[g]? = some (.cells #[x, y, z, u] 25 (0, 0))) :
  (results fn tmps).run Tryz.prog w = .ok (.agg #[x, y, z, u]) w :=
 results_cell_row h tmps w g _ _ _ _ hp hg Tryz.underlying25 rfl tab_sizeB
theorem BD.push {W : World} {T : Tg} {s n ro : Int} {E : List Ed} {pE : Option Addr} {cE : Nat} {v v' : Value} {L : List Rw} {w w1 : World} {x : Rw} (h : BD W T s n ro E pE cE v L w) (hx : RdX (W.heap.size + 4) w v x.p x.c x.nx) (hown : w1.ownsRow (W.heap.size + 4) 80 2 v' (L ++ [x]).length ((L ++ [x]).flatMap rwC)) (g : w.grownBy w1 v.ownBlock) (hv : v'.ownBlock = v.ownBlock ∨ ∀ b, some b = v'.ownBlock → w.heap.size ≤ b) :
  w1.heap[W.heap.size + 1 + 1 + 1]? = some (.cells #[.int .i64 ro, .int .i64 s, .int .i64 n, v] 25 (0, 0)) ∧ BD W T s n ro E pE cE v' (L ++ [x]) (w1.setCell ⟨W.heap.size + 1 + 1 + 1, 3, none⟩ v') := by
 have hne : ∀ b, b < W.heap.size + 4 → some b ≠ v.ownBlock := fun b hb e => by have := (h.own.lt b e.symm).1; omega
 have hB := kept_row h.bB g (hne _ (by omega))
 have g2 : w1.grownBy (w1.setCell ⟨W.heap.size + 1 + 1 + 1, 3, none⟩ v') (some (W.heap.size + 1 + 1 + 1)) := grown_setCell w1 ⟨W.heap.size + 1 + 1 + 1, 3, none⟩ v'
 have hn2 : ∀ b, b ≠ W.heap.size + 1 + 1 + 1 → some b ≠ some (W.heap.size + 1 + 1 + 1) := fun b hb e => hb (Option.some.inj e)
 refine ⟨hB, kept_row (kept_row h.bT g (hne _ (by omega))) g2 (hn2 _ (by omega)), kept_row (kept_row h.bP g (hne _ (by omega))) g2 (hn2 _ (by omega)), kept_row (kept_row h.bR g (hne _ (by omega))) g2 (hn2 _ (by omega)), heap_setCell_same w1 _ 3 _ _ v' hB, (h.t.grown g (fun b hb => hne b (by omega))).grown g2 (fun b hb => hn2 b (by omega)), (h.e.grown g (fun b hb => hne b (by omega))).grown g2 (fun b hb => hn2 b (by omega)), hown.kept g2 ?_, fun y hy => ?_, grown_any (grown_any h.gr g (fun b hb => hne b (by omega))) g2 (fun b hb => hn2 b (by omega)), Nat.le_trans (Nat.le_trans h.lo g.size) g2.size⟩
 ·cases hvo : v'.ownBlock with
  | none => exact Or.inl rfl
  | some b => exact Or.inr (fun e => by have := (hown.lt b hvo).1; have := Option.some.inj e; omega)
 ·have hy1 : RdX (W.heap.size + 4) w v y.p y.c y.nx := by
   rcases List.mem_append.1 hy with hm | hm
   ·exact h.rows y hm
   ·rw [List.mem_singleton.1 hm]; exact hx
  exact (hy1.put g hv).over g2 (fun b hb => by omega)
theorem rwB_row (w : World) (x : Rw) (t : TypeId) : ∀ j u, (rwC x)[j]? = some u → (w.alloc (.cells #[.int .i64 x.id, .slice x.p x.nx.length x.c] t)).cell? ((⟨w.heap.size, 0, none⟩ : Addr).add j) = some u := by
 intro j u hu
 rw [add_plain]
 have hb := heap_alloc_new w (.cells #[.int .i64 x.id, .slice x.p x.nx.length x.c] t)
 rcases j with _ | _ | j
 ·cases hu; exact cell_of_row _ _ _ _ _ _ hb
 ·cases hu; exact cell_of_row _ _ _ _ _ _ hb
 ·simp [rwC] at hu
theorem lt_rowB {w : World} {b : Nat} {o : Obj} (h : w.heap[b]? = some o) : b < w.heap.size := by
 rcases Nat.lt_or_ge b w.heap.size with hz | hz
 ·exact hz
 ·rw [Array.getElem?_eq_none hz] at h; cases h
def NxB (R : List Rt) (L0 : List Lk) (ro r : Int) (X : List Int) : Prop := if r = ro then X = [ro] else if capV R L0 r = true then (X.Pairwise (· < ·) ∧ (∀ y ∈ X, y ∈ ids R) ∧ HopsIs R L0 ro r X) else X = []
def BldM (R : List Rt) (L0 : List Lk) (ro : Int) (E : List Ed) (L : List Rw) : Prop := L.length = E.length ∧ ∀ (i : Nat) (e : Ed) (x : Rw), E[i]? = some e → L[i]? = some x → x.id = e.i ∧ NxB R L0 ro e.r x.nx
theorem BldM.push {R : List Rt} {L0 : List Lk} {ro : Int} {E : List Ed} {L : List Rw} {k : Nat} {e : Ed} (h : BldM R L0 ro (E.take k) L) (he : E[k]? = some e) {X : List Int} (hx : NxB R L0 ro e.r X) (p : Option Addr) (c : Nat) : BldM R L0 ro (E.take (k + 1)) (L ++ [⟨e.i, X, p, c⟩]) := by
 have hk : k < E.length := (List.getElem?_eq_some_iff.1 he).1
 have hl : L.length = k := by rw [h.1, List.length_take]; omega
 refine ⟨by rw [List.length_append, List.length_take, hl]; show k + 1 = _; omega, fun i f x hi hx2 => ?_⟩
 rcases Nat.lt_or_ge i k with hlt | hge
 ·rw [List.getElem?_append_left (by omega)] at hx2
  rw [List.getElem?_take_of_lt (by omega)] at hi
  exact h.2 i f x (by rw [List.getElem?_take_of_lt hlt]; exact hi) hx2
 ·have hik : i = k := by
   have := (List.getElem?_eq_some_iff.1 hx2).1
   rw [List.length_append, hl] at this
   have h1 : ([⟨e.i, X, p, c⟩] : List Rw).length = 1 := rfl
   omega
  subst hik
  rw [List.getElem?_take_of_lt (by omega), he] at hi
  obtain rfl := Option.some.inj hi
  rw [List.getElem?_append_right (by omega), hl, Nat.sub_self] at hx2
  obtain rfl := Option.some.inj hx2
  exact ⟨rfl, hx⟩
def BldPost (R : List Rt) (L0 : List Lk) (ro s n : Int) (E : List Ed) (w : World) (e : Ending) (w' : World) : Prop :=
 ∃ (L : List Rw) (p : Option Addr) (c : Nat), e = .returned (.agg #[.int .i64 ro, .int .i64 s, .int .i64 n, .slice p L.length c]) ∧ w'.ownsRow w.heap.size 80 2 (.slice p L.length c) L.length (L.flatMap rwC) ∧ (∀ x ∈ L, RdX w.heap.size w' (.slice p L.length c) x.p x.c x.nx) ∧ BldM R L0 ro E L ∧ w.grownBy w' none
theorem info_rowT : (Tryz.prog.info? 80).map (fun i => (i.zero, i.size, i.bytes)) = some (some (.agg #[.int .i64 0, .slice none 0 0]), 2, 32) := by kernel_rfl
set_option maxHeartbeats 12800000 in
theorem rbuild_any (T : Tg) (s n ro : Int) (E : List Ed) (pE : Option Addr) (cE : Nat) (q q2 : Nat → Prop) (w : World) (hT : TgOk w q T) (hE : RdF w q2 (.slice pE E.length cE) E.length (E.flatMap edC)) (hm : E.length ≤ 1000) :
  Calls Tryz.prog 63 #[.agg #[.slice T.pR T.R.length T.cR, .slice T.pL T.L.length T.cL], .agg #[.int .i64 s, .int .i64 n, .slice pE E.length cE], .int .i64 ro] w fun e w' => BldPost T.R T.L ro s n E w e w' := by
 obtain ⟨R, L0, pR, cR, pL, cL⟩ := T
 simp only
 obtain ⟨ii, hii, hi0, hi1, hi2⟩ := info_parts info_rowT
 have H0 := Lib.hid (bd_start s n ro hT hE)
 clear hT hE
 go_enter Tryz.func63, Tryz.ntmps63
 go_upto_region 2 with fail
 generalize (((w.alloc _).alloc _).alloc _).alloc _ = wa at *
 go_wp2_with fail
 go_loopw [8] (fun a wr => ∃ (k : Nat) (L : List Rw) (p : Option Addr) (c : Nat), k ≤ E.length ∧ a = .int .i64 (k : Int) ∧ Hid (BldM R L0 ro (E.take k) L) ∧ Hid (BD w ⟨R, L0, pR, cR, pL, cL⟩ s n ro E pE cE (.slice p L.length c) L wr)) (fun a _ => E.length - (RowKit.intOf a).toNat)
 case atStart => exact ⟨0, [], none, 0, Nat.zero_le _, rfl, Lib.hid ⟨by rw [List.take_zero]; rfl, fun i e x hi => by rw [List.take_zero] at hi; simp at hi⟩, H0⟩
 case round =>
 clear H0
 obtain ⟨k, L, p, c, hk, rfl, HB, K⟩ := hrel
 obtain ⟨w5, hw5⟩ : ∃ w5, w5 = wr := ⟨_, rfl⟩
 rw [← hw5] at K ⊢
 clear hw5
 obtain ⟨q0, q1, q2⟩ := row3B K.out.bP
 by_cases hlt : k < E.length
 case neg =>
  obtain rfl : k = E.length := by omega
  have hnl : ¬ (E.length : Int) < (E.length : Int) := by omega
  rw [List.take_length] at HB
  obtain ⟨d0, d1, d2, d3⟩ := row4T K.out.bB
  obtain ⟨z0, z1, z2, z3⟩ := row4T K.out.bR
  have f0 := frozen_of_row _ _ 0 _ _ K.out.bR
  have f1 := frozen_of_row _ _ 1 _ _ K.out.bR
  have f2 := frozen_of_row _ _ 2 _ _ K.out.bR
  have f3 := frozen_of_row _ _ 3 _ _ K.out.bR
  have HT := Lib.hid (store4B (.int .i64 ro) (.int .i64 s) (.int .i64 n) (.slice p L.length c) K.out.bR)
  have HK := Lib.hid K.out
  clear K
  go_wp2_with fail
  refine bodyPost_ret (res_tabB rfl _ _ (w.heap.size + 1 + 1) _ _ _ _ rfl HT.out.1) rfl ?_
  have hne : ∀ b, w.heap.size + 4 ≤ b → b ≠ w.heap.size + 1 + 1 := fun b hb => by omega
  exact ⟨L, p, c, rfl, (HK.out.own.kept HT.out.2 (by
   cases hvo : (Value.slice p L.length c).ownBlock with
   | none => exact Or.inl rfl
   | some b => exact Or.inr (fun e => by have := (HK.out.own.lt b hvo).1; have := Option.some.inj e; omega))).mono (by omega), fun x hx => by
    have h := (HK.out.rows x hx).over HT.out.2 hne
    exact ⟨h.1.mono (fun b hb => ⟨by have := hb.1; omega, hb.2⟩), h.2⟩, HB.out, grown_new HK.out.gr HT.out.2 (by omega)⟩
 have hlt' : (k : Int) < (E.length : Int) := by omega
 obtain ⟨e, he⟩ : ∃ e, E[k]? = some e := ⟨_, List.getElem?_eq_getElem hlt⟩
 obtain ⟨b, off, rfl, hc⟩ := edT_cells K.out.e (by omega)
 obtain ⟨a0, a1⟩ := hc k e he
 have HE := Lib.hid he
 have hB5 := alloc_row (w := w5) #[.int .i64 e.i, .slice none 0 0] 80 rfl
 have H5 := Lib.hid (And.intro hB5.1 hB5.2.1)
 clear hc he hB5
 go_upto_region 6 with fail
 clear a0 a1
 have KG := Lib.hid K.out.own
 have hLE : Hid (L.length ≤ 1000) := Lib.hid (by have := HB.out.1; rw [List.length_take] at this; omega)
 generalize w5.alloc _ = w6 at *
 obtain ⟨g, hg⟩ : ∃ g, w5.heap.size = g := ⟨_, rfl⟩
 have HGE := Lib.hid hg
 rw [hg] at H5 ⊢
 clear hg
 have K6 := Lib.hid (K.out.keep H5.out.2)
 obtain ⟨q0, q1, q2⟩ := row3B K6.out.bP
 obtain ⟨b', off', hpe, hc⟩ := edT_cells K6.out.e (by omega)
 injection hpe with hpe
 injection hpe with e1 e2
 subst e1
 subst e2
 obtain ⟨a0, a1⟩ := hc k e HE.out
 clear hc
 by_cases her : e.r = ro
 case pos =>
  have her' : (e.r == ro) = true := by simpa using her
  have HER := Lib.hid her
  clear her
  obtain ⟨m0, m1⟩ := rowR2 (kept_row H5.out.1 (World.grownBy_alloc w6 (.cells #[.int .i64 ro] 3) none) (by simp))
  have f1 := frozen_of_row _ _ 1 _ _ (kept_row H5.out.1 (World.grownBy_alloc w6 (.cells #[.int .i64 ro] 3) none) (by simp))
  have hb6 := alloc_row (w := w6) #[.int .i64 ro] 3 rfl
  have HB6 := Lib.hid (And.intro hb6.1 hb6.2.1)
  clear hb6
  go_upto_region 10 with fail
  clear m0 m1 f1
  have hg6 : g < w6.heap.size := lt_rowB H5.out.1
  have hset := heap_setCell_same (w6.alloc (.cells #[.int .i64 ro] 3)) g 1 _ _ (.slice (some ⟨w6.heap.size, 0, none⟩) 1 1) (kept_row H5.out.1 HB6.out.2 (by simp))
  have gset : (w6.alloc (.cells #[.int .i64 ro] 3)).grownBy ((w6.alloc (.cells #[.int .i64 ro] 3)).setCell ⟨g, 1, none⟩ (.slice (some ⟨w6.heap.size, 0, none⟩) 1 1)) (some g) := grown_setCell _ _ _
  have hlit := kept_row HB6.out.1 gset (fun e => by have := Option.some.inj e; omega)
  have KX := Lib.hid (K.out.keep (grown_new (grown_trans H5.out.2 HB6.out.2) gset (by rw [HGE.out]; exact Nat.le_refl _)))
  have HG : Hid (_ = some (Obj.cells #[.int .i64 e.i, .slice (some ⟨w6.heap.size, 0, none⟩) ([ro] : List Int).length 1] 80 (0, 0))) := Lib.hid hset
  have HX : Hid (RdX (w.heap.size + 4) _ (.slice p L.length c) (some ⟨w6.heap.size, 0, none⟩) 1 [ro]) := Lib.hid ⟨⟨_, 1, rfl, fun _ => ⟨_, _, rfl, ⟨by have := K6.out.lo; omega, lt_rowB hlit, fun e => by have := (K.out.own.lt _ e.symm).2; have := H5.out.2.size; omega⟩, fun i u hi => by
   rw [Nat.zero_add, cell_of_row _ _ _ _ _ _ hlit]
   simpa [tv] using hi⟩⟩, fun h => (by cases h), by show 1 ≤ 1; decide, by show 1 ≤ 9223372036854775807; decide⟩
  obtain ⟨X, hX⟩ : ∃ X, X = [ro] := ⟨_, rfl⟩
  rw [← hX] at HG HX
  have HXM : Hid (NxB R L0 ro e.r X) := Lib.hid (by unfold NxB; rw [if_pos HER.out]; exact hX)
  generalize ((w6.alloc _).setCell _ _) = wx at *
  generalize (some (⟨w6.heap.size, 0, none⟩ : Addr)) = p1 at *
  clear hset gset hlit K6 q0 q1 q2 a0 a1 HB6 hX
  obtain ⟨d0, d1, d2, d3⟩ := row4T KX.out.bB
  obtain ⟨m0, m1⟩ := rowR2 HG.out
  have hLl := hLE.out
  have hlo := KX.out.lo
  have hXl := HX.out.2.2
  go_wp2_with (at_builtin; refine hold_on ?_)
  refine Lib.hid ?_
  refine wpList_append_lies _ rfl _ _ 23 rfl (w.heap.size + 4) 80 ii (.agg #[.int .i64 0, .slice none 0 0]) 2 32 Tryz.underlying23 hii hi0 hi1 hi2 rfl (by decide) (.slice p L.length c) L.length (L.flatMap rwC) rfl (KX.out.own.alloc _) ⟨wx.heap.size, 0, none⟩ 1 1 (rwC ⟨e.i, X, p1, 1⟩) rfl rfl (rwB_row wx ⟨e.i, X, p1, 1⟩ _) (rw_one ⟨e.i, X, p1, 1⟩) (by decide) (by unfold maxLen; omega) (by omega) (by simp; omega) _ rfl ?_
  intro g2 cap w8 hown hgrow hat hlt8
  have ga := World.grownBy_alloc wx (.cells #[.int .i64 e.i, .slice p1 X.length 1] 80) none
  have hv : (Value.slice (some ⟨g2, 0, none⟩) (L.length + 1) cap).ownBlock = (Value.slice p L.length c).ownBlock ∨ ∀ b, some b = (Value.slice (some ⟨g2, 0, none⟩) (L.length + 1) cap).ownBlock → (wx.alloc (.cells #[.int .i64 e.i, .slice p1 X.length 1] 80)).heap.size ≤ b := by
   rcases hat with h | h
   ·exact Or.inl h.symm
   ·refine Or.inr fun b e => ?_
    have e2 : some b = some g2 := e
    have := Option.some.inj e2
    rw [this, h]
    exact Nat.le_refl _
  obtain ⟨hB8, hBD⟩ := (KX.out.keep ga).push (x := ⟨e.i, X, p1, 1⟩) (v' := .slice (some ⟨g2, 0, none⟩) (L.length + 1) cap) (HX.out.keep ga) (by rw [List.length_append, List.flatMap_append]; simpa [rwC] using hown) hgrow hv
  obtain ⟨y0, y1, y2, y3⟩ := row4T hB8
  have f3 := frozen_of_row _ _ 3 _ _ hB8
  have HBD := Lib.hid hBD
  have HBM : Hid (BldM R L0 ro (E.take (k + 1)) (L ++ [⟨e.i, X, p1, 1⟩])) := Lib.hid (HB.out.push HE.out HXM.out p1 1)
  have HLL : Hid ((L ++ [(⟨e.i, X, p1, 1⟩ : Rw)]).length = L.length + 1) := Lib.hid (by rw [List.length_append]; rfl)
  clear hown hgrow hat hlt8 ga hv hBD m0 m1 d0 d1 d2 d3 HX HG HXM KX
  go_wp2_with fail
  exact ⟨⟨k + 1, L ++ [⟨e.i, X, p1, 1⟩], some ⟨g2, 0, none⟩, cap, by omega, congrArg _ (by omega), HBM, by rw [HLL.out]; exact HBD⟩, by simp only [RowKit.intOf]; omega⟩
 have her' : (e.r == ro) = false := by simpa using her
 have HER := Lib.hid her
 clear her
 go_upto_region 8 with fail
 refine wp_region_held_drew (S := fun w' => Hid (w6.grownBy w' none)) (by kernel_rfl) (Lib.hid (grown_drew (grown_refl _ none))) (fun hHeld => ?_)
 refine zT (i := 0) (v := ?_) rfl ?_ hHeld ?_
 rotate_left 1
 ·intro u hSu
  obtain ⟨t0u, t1u⟩ := row_cells (kept_row K6.out.bT hSu.out (by simp))
  have q2u := hSu.out.cell q2 (by simp)
  have a0u := hSu.out.cell a0 (by simp)
  go_simp
  first | done | with_reducible rfl
 try simp only [Act.put, zA, zB, zC]
 refine zT (i := 1) (v := ?_) rfl ?_ hHeld ?_
 rotate_left 1
 ·intro u hSu
  go_simp
  first | done | with_reducible rfl
 try simp only [Act.put, zA, zB, zC]
 refine zT (i := 2) (v := ?_) rfl ?_ hHeld ?_
 rotate_left 1
 ·intro u hSu
  obtain ⟨t0u, t1u⟩ := row_cells (kept_row K6.out.bT hSu.out (by simp))
  have q2u := hSu.out.cell q2 (by simp)
  have a0u := hSu.out.cell a0 (by simp)
  go_simp
  first | done | with_reducible rfl
 try simp only [Act.put, zA, zB, zC]
 refine zT (i := 3) (v := ?_) rfl ?_ hHeld ?_
 rotate_left 1
 ·intro u hSu
  go_simp
  first | done | with_reducible rfl
 try simp only [Act.put, zA, zB, zC]
 refine zT (i := 4) (v := ?_) rfl ?_ hHeld ?_
 rotate_left 1
 ·intro u hSu
  go_simp
  first | done | with_reducible rfl
 try simp only [Act.put, zA, zB, zC]
 refine zT (i := 5) (v := ?_) rfl ?_ hHeld ?_
 rotate_left 1
 ·intro u hSu
  go_simp
  first | done | with_reducible rfl
 try simp only [Act.put, zA, zB, zC]
 refine zT (i := 6) (v := ?_) rfl ?_ hHeld ?_
 rotate_left 1
 ·intro u hSu
  obtain ⟨t0u, t1u⟩ := row_cells (kept_row K6.out.bT hSu.out (by simp))
  have q2u := hSu.out.cell q2 (by simp)
  have a0u := hSu.out.cell a0 (by simp)
  go_simp
  first | done | with_reducible rfl
 try simp only [Act.put, zA, zB, zC]
 refine wpAnyH_ready (rs := [7]) (by kernel_rfl) (by simp) ?_
 refine AllReadyH.cons (o := ⟨_, _, _, _, _, _⟩) rfl (fun Kz hK => ?_) AllReadyH.nil
 go_simp
 go_at_call 90
 refine (rcap_any ⟨R, L0, pR, cR, pL, cL⟩ e.r _ _ (K6.out.keep hHeld.out).t).mono ?_
 rintro e' w7 ⟨rfl, hg⟩
 have HN := Lib.hid (grown_trans hHeld.out hg)
 clear hg
 simp only
 refine hK.out _ _ (HN) (fun hH2 => ?_)
 clear hK Kz hHeld
 have hHeld := hH2
 clear hH2
 try simp only [Act.put, zA, zB, zC]
 refine wpAnyH_done (by kernel_rfl) ?_ _
 have K7 := Lib.hid (K.out.keep (grown_trans H5.out.2 hHeld.out))
 have G7 := Lib.hid (And.intro (grown_trans H5.out.2 hHeld.out) (kept_row H5.out.1 hHeld.out (by simp)))
 clear hHeld K6 q0 q1 q2 a0 a1
 cases hcp : capV R L0 e.r
 case false =>
  have HCP := Lib.hid hcp
  have KX := K7
  obtain ⟨X, hX⟩ : ∃ X : List Int, X = [] := ⟨_, rfl⟩
  obtain ⟨p1, hp1⟩ : ∃ p1 : Option Addr, p1 = none := ⟨_, rfl⟩
  have HG : Hid (w7.heap[g]? = some (Obj.cells #[.int .i64 e.i, .slice p1 X.length 0] 80 (0, 0))) := Lib.hid (by rw [hX, hp1]; exact G7.out.2)
  have HX : Hid (RdX (w.heap.size + 4) w7 (.slice p L.length c) p1 0 X) := Lib.hid (by rw [hX, hp1]; exact ⟨⟨none, 0, rfl, fun h => absurd rfl h⟩, fun _ => rfl, Nat.le_refl _, by show (0 : Nat) ≤ _; omega⟩)
  have HXM : Hid (NxB R L0 ro e.r X) := Lib.hid (by unfold NxB; rw [if_neg HER.out, if_neg (by rw [HCP.out]; decide)]; exact hX)
  obtain ⟨wx, hwx⟩ : ∃ wx, wx = w7 := ⟨_, rfl⟩
  rw [← hwx] at KX HG HX ⊢
  clear hX hp1 K7 G7 hcp hwx
  obtain ⟨d0, d1, d2, d3⟩ := row4T KX.out.bB
  obtain ⟨m0, m1⟩ := rowR2 HG.out
  have hLl := hLE.out
  have hlo := KX.out.lo
  have hXl := HX.out.2.2
  go_wp2_with (at_builtin; refine hold_on ?_)
  refine Lib.hid ?_
  refine wpList_append_lies _ rfl _ _ 23 rfl (w.heap.size + 4) 80 ii (.agg #[.int .i64 0, .slice none 0 0]) 2 32 Tryz.underlying23 hii hi0 hi1 hi2 rfl (by decide) (.slice p L.length c) L.length (L.flatMap rwC) rfl (KX.out.own.alloc _) ⟨wx.heap.size, 0, none⟩ 1 1 (rwC ⟨e.i, X, p1, 0⟩) rfl rfl (rwB_row wx ⟨e.i, X, p1, 0⟩ _) (rw_one ⟨e.i, X, p1, 0⟩) (by decide) (by unfold maxLen; omega) (by omega) (by simp; omega) _ rfl ?_
  intro g2 cap w8 hown hgrow hat hlt8
  have ga := World.grownBy_alloc wx (.cells #[.int .i64 e.i, .slice p1 X.length 0] 80) none
  have hv : (Value.slice (some ⟨g2, 0, none⟩) (L.length + 1) cap).ownBlock = (Value.slice p L.length c).ownBlock ∨ ∀ b, some b = (Value.slice (some ⟨g2, 0, none⟩) (L.length + 1) cap).ownBlock → (wx.alloc (.cells #[.int .i64 e.i, .slice p1 X.length 0] 80)).heap.size ≤ b := by
   rcases hat with h | h
   ·exact Or.inl h.symm
   ·refine Or.inr fun b e => ?_
    have e2 : some b = some g2 := e
    have := Option.some.inj e2
    rw [this, h]
    exact Nat.le_refl _
  obtain ⟨hB8, hBD⟩ := (KX.out.keep ga).push (x := ⟨e.i, X, p1, 0⟩) (v' := .slice (some ⟨g2, 0, none⟩) (L.length + 1) cap) (HX.out.keep ga) (by rw [List.length_append, List.flatMap_append]; simpa [rwC] using hown) hgrow hv
  obtain ⟨y0, y1, y2, y3⟩ := row4T hB8
  have f3 := frozen_of_row _ _ 3 _ _ hB8
  have HBD := Lib.hid hBD
  have HBM : Hid (BldM R L0 ro (E.take (k + 1)) (L ++ [⟨e.i, X, p1, 0⟩])) := Lib.hid (HB.out.push HE.out HXM.out p1 0)
  have HLL : Hid ((L ++ [(⟨e.i, X, p1, 0⟩ : Rw)]).length = L.length + 1) := Lib.hid (by rw [List.length_append]; rfl)
  clear hown hgrow hat hlt8 ga hv hBD m0 m1 d0 d1 d2 d3 HX HG HXM KX
  go_wp2_with fail
  exact ⟨⟨k + 1, L ++ [⟨e.i, X, p1, 0⟩], some ⟨g2, 0, none⟩, cap, by omega, congrArg _ (by omega), HBM, by rw [HLL.out]; exact HBD⟩, by simp only [RowKit.intOf]; omega⟩
 have HCP := Lib.hid hcp
 clear hcp
 obtain ⟨q0, q1, q2⟩ := row3B K7.out.bP
 obtain ⟨b', off', hpe, hc⟩ := edT_cells K7.out.e (by omega)
 injection hpe with hpe
 injection hpe with e1 e2
 subst e1
 subst e2
 obtain ⟨a0, a1⟩ := hc k e HE.out
 clear hc
 go_upto_region 9 with fail
 refine region_until (S := fun w' => Hid (w7.grownBy w' none)) (fun j => j == 10) (by kernel_rfl) (Lib.hid (grown_drew (grown_refl _ none))) (fun hHeld => ?_)
 refine zU (i := 0) (v := ?_) rfl ?_ hHeld ?_
 rotate_left 1
 ·intro u hSu
  obtain ⟨t0u, t1u⟩ := row_cells (kept_row K7.out.bT hSu.out (by simp))
  have q2u := hSu.out.cell q2 (by simp)
  have a0u := hSu.out.cell a0 (by simp)
  go_simp
  first | done | with_reducible rfl
 try simp only [Act.put, zA, zB, zC]
 refine zU (i := 1) (v := ?_) rfl ?_ hHeld ?_
 rotate_left 1
 ·intro u hSu
  go_simp
  first | done | with_reducible rfl
 try simp only [Act.put, zA, zB, zC]
 refine zU (i := 2) (v := ?_) rfl ?_ hHeld ?_
 rotate_left 1
 ·intro u hSu
  go_simp
  first | done | with_reducible rfl
 try simp only [Act.put, zA, zB, zC]
 refine zU (i := 3) (v := ?_) rfl ?_ hHeld ?_
 rotate_left 1
 ·intro u hSu
  obtain ⟨t0u, t1u⟩ := row_cells (kept_row K7.out.bT hSu.out (by simp))
  have q2u := hSu.out.cell q2 (by simp)
  have a0u := hSu.out.cell a0 (by simp)
  go_simp
  first | done | with_reducible rfl
 try simp only [Act.put, zA, zB, zC]
 refine zU (i := 4) (v := ?_) rfl ?_ hHeld ?_
 rotate_left 1
 ·intro u hSu
  go_simp
  first | done | with_reducible rfl
 try simp only [Act.put, zA, zB, zC]
 refine zU (i := 5) (v := ?_) rfl ?_ hHeld ?_
 rotate_left 1
 ·intro u hSu
  go_simp
  first | done | with_reducible rfl
 try simp only [Act.put, zA, zB, zC]
 refine zU (i := 6) (v := ?_) rfl ?_ hHeld ?_
 rotate_left 1
 ·intro u hSu
  go_simp
  first | done | with_reducible rfl
 try simp only [Act.put, zA, zB, zC]
 refine zU (i := 7) (v := ?_) rfl ?_ hHeld ?_
 rotate_left 1
 ·intro u hSu
  obtain ⟨t0u, t1u⟩ := row_cells (kept_row K7.out.bT hSu.out (by simp))
  have q2u := hSu.out.cell q2 (by simp)
  have a0u := hSu.out.cell a0 (by simp)
  go_simp
  first | done | with_reducible rfl
 try simp only [Act.put, zA, zB, zC]
 refine anyU_ready (rs := [8]) (by kernel_rfl) (by simp) ?_
 refine EachU.cons (o := ⟨_, _, _, _, _, _⟩) rfl (fun Kz hK => ?_) EachU.nil
 go_simp
 go_at_call 91
 refine (rhops_any ⟨R, L0, pR, cR, pL, cL⟩ ro e.r _ _ (K7.out.keep hHeld.out).t).mono ?_
 rintro e' w8 ⟨X, p1, c1, rfl, hr, hn, hc, hA, hI, hIs, hg⟩
 have hr := And.intro (hr.mono (q' := fun b => w7.heap.size ≤ b) (fun b hb => Nat.le_trans hHeld.out.size hb)) (And.intro hn (And.intro hc (And.intro hA (And.intro hI hIs))))
 have HN := Lib.hid (grown_trans hHeld.out hg)
 clear hn hc hA hI hIs hg
 simp only
 refine hK.out _ _ (fun _ => HN) (fun hH2 => ?_)
 clear hK Kz hHeld
 have hHeld := hH2 rfl
 clear hH2
 try simp only [Act.put, zA, zB, zC]
 refine zU (i := 9) (v := ?_) rfl ?_ hHeld ?_
 rotate_left 1
 ·intro u hSu
  go_simp
  first | done | with_reducible rfl
 try simp only [Act.put, zA, zB, zC]
 refine anyU_ready (rs := [10]) (by kernel_rfl) (by simp) ?_
 refine EachU.cons (o := ⟨_, _, _, _, _, _⟩) rfl (fun Kz hK => ?_) EachU.nil
 have H9 := Lib.hid (And.intro hHeld.out (kept_row G7.out.2 hHeld.out (by simp)))
 obtain ⟨z0, z1⟩ := rowR2 H9.out.2
 have f1 := frozen_of_row _ _ 1 _ _ H9.out.2
 go_simp
 refine hK.out _ _ (fun h => by cases h) (fun _ => ?_)
 clear hK Kz
 try simp only [Act.put, zA, zB, zC]
 refine anyU_done (by kernel_rfl) ?_ _
 have HGW := Lib.hid hr
 have hg7 : g < w7.heap.size := lt_rowB G7.out.2
 clear z0 z1 f1 hr
 have hset := heap_setCell_same w8 g 1 _ _ (.slice p1 X.length c1) H9.out.2
 have gset : w8.grownBy (w8.setCell ⟨g, 1, none⟩ (.slice p1 X.length c1)) (some g) := grown_setCell _ _ _
 have KX := Lib.hid (K.out.keep (grown_new (grown_trans G7.out.1 H9.out.1) gset (by rw [HGE.out]; exact Nat.le_refl _)))
 have HG : Hid (_ = some (Obj.cells #[.int .i64 e.i, .slice p1 X.length c1] 80 (0, 0))) := Lib.hid hset
 have HX : Hid (RdX (w.heap.size + 4) _ (.slice p L.length c) p1 c1 X) := Lib.hid ⟨((rd_and HGW.out.1).grown gset (fun b hb e => by have := Option.some.inj e; have := hb.1; omega)).mono (fun b hb => ⟨by have := hb.1; have := K7.out.lo; omega, Nat.lt_of_lt_of_le hb.2 gset.size, fun e => by have := (K7.out.own.lt _ e.symm).2; have := hb.1; omega⟩), HGW.out.2.1, HGW.out.2.2.1⟩
 have HXM : Hid (NxB R L0 ro e.r X) := Lib.hid (by unfold NxB; rw [if_neg HER.out, if_pos HCP.out]; exact HGW.out.2.2.2)
 generalize (w8.setCell _ _) = wx at *
 clear hset gset K7 q0 q1 q2 a0 a1 H9 HGW
 obtain ⟨d0, d1, d2, d3⟩ := row4T KX.out.bB
 obtain ⟨m0, m1⟩ := rowR2 HG.out
 have hLl := hLE.out
 have hlo := KX.out.lo
 have hXl := HX.out.2.2
 go_wp2_with (at_builtin; refine hold_on ?_)
 refine Lib.hid ?_
 refine wpList_append_lies _ rfl _ _ 23 rfl (w.heap.size + 4) 80 ii (.agg #[.int .i64 0, .slice none 0 0]) 2 32 Tryz.underlying23 hii hi0 hi1 hi2 rfl (by decide) (.slice p L.length c) L.length (L.flatMap rwC) rfl (KX.out.own.alloc _) ⟨wx.heap.size, 0, none⟩ 1 1 (rwC ⟨e.i, X, p1, c1⟩) rfl rfl (rwB_row wx ⟨e.i, X, p1, c1⟩ _) (rw_one ⟨e.i, X, p1, c1⟩) (by decide) (by unfold maxLen; omega) (by omega) (by simp; omega) _ rfl ?_
 intro g2 cap w8 hown hgrow hat hlt8
 have ga := World.grownBy_alloc wx (.cells #[.int .i64 e.i, .slice p1 X.length c1] 80) none
 have hv : (Value.slice (some ⟨g2, 0, none⟩) (L.length + 1) cap).ownBlock = (Value.slice p L.length c).ownBlock ∨ ∀ b, some b = (Value.slice (some ⟨g2, 0, none⟩) (L.length + 1) cap).ownBlock → (wx.alloc (.cells #[.int .i64 e.i, .slice p1 X.length c1] 80)).heap.size ≤ b := by
  rcases hat with h | h
  ·exact Or.inl h.symm
  ·refine Or.inr fun b e => ?_
   have e2 : some b = some g2 := e
   have := Option.some.inj e2
   rw [this, h]
   exact Nat.le_refl _
 obtain ⟨hB8, hBD⟩ := (KX.out.keep ga).push (x := ⟨e.i, X, p1, c1⟩) (v' := .slice (some ⟨g2, 0, none⟩) (L.length + 1) cap) (HX.out.keep ga) (by rw [List.length_append, List.flatMap_append]; simpa [rwC] using hown) hgrow hv
 obtain ⟨y0, y1, y2, y3⟩ := row4T hB8
 have f3 := frozen_of_row _ _ 3 _ _ hB8
 have HBD := Lib.hid hBD
 have HBM : Hid (BldM R L0 ro (E.take (k + 1)) (L ++ [⟨e.i, X, p1, c1⟩])) := Lib.hid (HB.out.push HE.out HXM.out p1 c1)
 have HLL : Hid ((L ++ [(⟨e.i, X, p1, c1⟩ : Rw)]).length = L.length + 1) := Lib.hid (by rw [List.length_append]; rfl)
 clear hown hgrow hat hlt8 ga hv hBD m0 m1 d0 d1 d2 d3 HX HG HXM KX
 go_wp2_with fail
 exact ⟨⟨k + 1, L ++ [⟨e.i, X, p1, c1⟩], some ⟨g2, 0, none⟩, cap, by omega, congrArg _ (by omega), HBM, by rw [HLL.out]; exact HBD⟩, by simp only [RowKit.intOf]; omega⟩
end Go.Proofs.YtpogblengagpaaaGreatDoor

/- forward: Local, of the program and of the reference. -/
namespace Go.Proofs.YtpogblengagpaaaGreatDoor
set_option maxRecDepth 100000
open Go.RowKit Go.Maps Bs
def dlC (ro : Int) (Q : Pk) : List Value := [.int .i64 ro, .int .i64 Q.mode, .int .i64 Q.sub, .int .i64 Q.set, .int .i64 Q.len, .int .i64 Q.ttl, .int .i64 Q.ent, .int .i64 Q.ing, .int .i64 Q.pro, .int .u64 (Q.bits : Int), .string Q.pay]
theorem dl_one (ro : Int) (Q : Pk) : ∀ u ∈ dlC ro Q, u.oneCell' = true := by
 intro u hu
 simp [dlC] at hu
 rcases hu with rfl | rfl | rfl | rfl | rfl | rfl | rfl | rfl | rfl | rfl | rfl <;> rfl
theorem info_dl : (Tryz.prog.info? 53).map (fun i => (i.zero, i.size, i.bytes)) = some (some (.agg #[.int .i64 0, .int .i64 0, .int .i64 0, .int .i64 0, .int .i64 0, .int .i64 0, .int .i64 0, .int .i64 0, .int .i64 0, .int .u64 0, .string ⟨#[]⟩]), 11, 96) := by kernel_rfl
theorem dl_row (w : World) (ro : Int) (Q : Pk) (t : TypeId) : ∀ j u, (dlC ro Q)[j]? = some u → (w.alloc (.cells #[.int .i64 ro, .int .i64 Q.mode, .int .i64 Q.sub, .int .i64 Q.set, .int .i64 Q.len, .int .i64 Q.ttl, .int .i64 Q.ent, .int .i64 Q.ing, .int .i64 Q.pro, .int .u64 (Q.bits : Int), .string Q.pay] t)).cell? ((⟨w.heap.size, 0, none⟩ : Addr).add j) = some u := by
 intro j u hu
 rw [add_plain, cell_of_row _ _ _ _ _ _ (heap_alloc_new w _), Nat.zero_add]
 simpa [dlC] using hu
def locD (P : Pk) (b : Nat) : List Pk := (bl b).map fun k : Nat => onlyP P (k : Int)
theorem locD_len (P : Pk) (b : Nat) : (locD P b).length = (bl b).length := by unfold locD; rw [List.length_map]
theorem locD_le (P : Pk) (b : Nat) : (locD P b).length ≤ 64 := by rw [locD_len]; exact bl_length_le b
theorem locD_next {P : Pk} {b i k : Nat} (h : (bl b)[i]? = some k) : (locD P b).take (i + 1) = (locD P b).take i ++ [onlyP P (k : Int)] := by
 unfold locD
 rw [List.take_add_one, List.getElem?_map, h]; rfl
structure LO (W : World) (Bp C : Nat) (P : Pk) (ro : Int) (b : Nat) (pl : Option Addr) (cl : Nat) (v : Value) (M : List Pk) (w : World) : Prop where
 pb : w.heap[Bp]? = some (.cells (pcells P) 28 (0, 0))
 ls : Rd w (· < C) (.slice pl (bl b).length cl) ((bl b).map ival)
 own : w.ownsRow C 53 11 v M.length (M.flatMap (dlC ro))
 gr : W.grownBy w none
 lo : Bp < C ∧ C ≤ w.heap.size ∧ W.heap.size ≤ C
variable {W w w1 : World} {Bp C : Nat} {P : Pk} {ro : Int} {b : Nat} {pl : Option Addr} {cl : Nat} {v : Value} {M : List Pk}
theorem LO.keep (h : LO W Bp C P ro b pl cl v M w) (g : w.grownBy w1 none) : LO W Bp C P ro b pl cl v M w1 :=
 ⟨kept_row h.pb g (by simp), h.ls.keep g, h.own.kept g (by cases v.ownBlock <;> simp), grown_trans h.gr g, h.lo.1, Nat.le_trans h.lo.2.1 g.size, h.lo.2.2⟩
theorem LO.put {v' : Value} {M2 : List Pk} (h : LO W Bp C P ro b pl cl v M w) (hown : w1.ownsRow C 53 11 v' M2.length (M2.flatMap (dlC ro))) (g : w.grownBy w1 v.ownBlock) : LO W Bp C P ro b pl cl v' M2 w1 := by
 have hlo := h.lo
 have hne : ∀ b, b < C → some b ≠ v.ownBlock := fun b hb e => by have := (h.own.lt b e.symm).1; omega
 exact ⟨kept_row h.pb g (hne _ hlo.1), h.ls.grown g hne, hown, grown_any h.gr g (fun b hb => hne b (by omega)), h.lo.1, Nat.le_trans h.lo.2.1 g.size, h.lo.2.2⟩
theorem LO.at_ (h : LO W Bp C P ro b pl cl v M w) {i k : Nat} (hi : (bl b)[i]? = some k) : ∃ g off, pl = some ⟨g, off, none⟩ ∧ ∀ w1, w.grownBy w1 none → w1.cell? ⟨g, off + i, none⟩ = some (.int .i64 (k : Int)) := by
 obtain ⟨p, c, e, hc⟩ := h.ls
 injection e with e1 e2 e3
 have hv : ((bl b).map ival)[i]? = some (ival k) := by rw [List.getElem?_map, hi]; rfl
 obtain ⟨g, off, hp, -, hx⟩ := hc (fun e => by rw [e] at hv; simp at hv)
 exact ⟨g, off, e1.trans hp, fun w1 g1 => g1.cell (hx i _ hv) (by simp)⟩
def LocPost (P : Pk) (ro : Int) (b : Nat) (w : World) (e : Ending) (w' : World) : Prop :=
 ∃ (p : Option Addr) (c : Nat), e = .returned (.slice p (locD P b).length c) ∧ w'.ownsRow w.heap.size 53 11 (.slice p (locD P b).length c) (locD P b).length ((locD P b).flatMap (dlC ro)) ∧ w.grownBy w' none
theorem only_agp (P : Pk) (hP : P.Wf) (k : Int) (Q : Pk) (hQ : Hid (onlyP P k = Q)) (w : World) :
  Calls Tryz.prog 51 #[P.val, .int .i64 k] w fun e w' => e = .returned (.agg #[.int .i64 Q.mode, .int .i64 Q.sub, .int .i64 Q.set, .int .i64 Q.len, .int .i64 Q.ttl, .int .i64 Q.ent, .int .i64 Q.ing, .int .i64 Q.pro, .int .u64 (Q.bits : Int), .string Q.pay]) ∧ w.grownBy w' none := by
 refine (onlyp_any P hP k w).mono ?_
 rintro e w' ⟨rfl, h⟩
 rw [hQ.out]
 exact ⟨rfl, h⟩
theorem only_agr (P : Pk) (hP : P.Wf) (k : Int) (Q : Pk) (hQ : Hid (onlyP P k = Q)) (w : World) :
  Calls Tryz.prog 53 #[P.val, .int .i64 k] w fun e w' => e = .returned (.agg #[.int .i64 Q.mode, .int .i64 Q.sub, .int .i64 Q.set, .int .i64 Q.len, .int .i64 Q.ttl, .int .i64 Q.ent, .int .i64 Q.ing, .int .i64 Q.pro, .int .u64 (Q.bits : Int), .string Q.pay]) ∧ w.grownBy w' none := by
 refine (onlyr_any P hP k w).mono ?_
 rintro e w' ⟨rfl, h⟩
 rw [hQ.out]
 exact ⟨rfl, h⟩
theorem three_newF (w : World) (A B C : Obj) : (((w.alloc A).alloc B).alloc C).heap[w.heap.size]? = some A ∧ (((w.alloc A).alloc B).alloc C).heap[w.heap.size + 1]? = some B ∧ (((w.alloc A).alloc B).alloc C).heap[w.heap.size + 1 + 1]? = some C ∧ w.grownBy (((w.alloc A).alloc B).alloc C) none ∧ (((w.alloc A).alloc B).alloc C).heap.size = w.heap.size + 3 := by
 have st : ∀ (wx : World) (b : Nat) (o o2 : Obj), wx.heap[b]? = some o → (wx.alloc o2).heap[b]? = some o := fun wx b o o2 h => kept_row h (World.grownBy_alloc wx o2 none) (by simp)
 have n1 := heap_alloc_new w A
 have n2 := heap_alloc_new (w.alloc A) B
 have n3 := heap_alloc_new ((w.alloc A).alloc B) C
 rw [show (w.alloc A).heap.size = w.heap.size + 1 by simp] at n2
 rw [show ((w.alloc A).alloc B).heap.size = w.heap.size + 1 + 1 by simp] at n3
 exact ⟨st _ _ _ _ (st _ _ _ _ n1), st _ _ _ _ n2, n3, grown_trans (World.grownBy_alloc _ _ _) (grown_trans (World.grownBy_alloc _ _ _) (World.grownBy_alloc _ _ _)), by simp⟩
set_option maxHeartbeats 6400000 in
theorem fwloc_any (tv : Value) (htv : ∃ r s n p m c, tv = .agg #[.int .i64 r, .int .i64 s, .int .i64 n, .slice p m c]) (ro : Int) (b lost : Nat) (hb : U64 b) (pc : Option Addr) (nc cc : Nat) (P : Pk) (hP : P.Wf) (w : World) (hT : Tb w) :
  Calls Tryz.prog 18 #[tv, .int .i64 ro, .agg #[.int .u64 (b : Int), .int .u64 (lost : Int), .slice pc nc cc], P.val] w fun e w' => LocPost P ro b w e w' := by
 obtain ⟨r, s, n, p, m, c, rfl⟩ := htv
 obtain ⟨ie, hie, he0, he1, he2⟩ := info_parts info_dl
 have hval : P.val = .agg #[.int .i64 P.mode, .int .i64 P.sub, .int .i64 P.set, .int .i64 P.len, .int .i64 P.ttl, .int .i64 P.ent, .int .i64 P.ing, .int .i64 P.pro, .int .u64 (P.bits : Int), .string P.pay] := rfl
 rw [hval]
 obtain ⟨k1, k2, k3, k4, k5⟩ := three_newF w (.cells #[.int .i64 r, .int .i64 s, .int .i64 n, .slice p m c] 25) (.cells #[.int .u64 (b : Int), .int .u64 (lost : Int), .slice pc nc cc] 38) (.cells (pcells P) 28)
 have H0 := Lib.hid (And.intro k2 (And.intro k3 (And.intro k4 (And.intro k5 (hT.keep k4)))))
 unfold pcells at H0
 clear k1 k2 k3 k4 k5 hT hval
 go_enter Tryz.func18, Tryz.ntmps18
 go_upto_region 1 with fail
 generalize ((w.alloc _).alloc _).alloc _ = wa at *
 obtain ⟨o0, o1, o2⟩ := row3B H0.out.1
 go_wp2_with fail
 refine (listp_any b hb wa H0.out.2.2.2.2).mono ?_
 rintro e w1 ⟨vl, rfl, hL, hg⟩
 obtain ⟨pl, cl, rfl⟩ := hL.form (by rw [List.length_map] : ((bl b).map ival).length = (bl b).length)
 have hsz := H0.out.2.2.2.1
 have K0 : Hid (LO w (w.heap.size + 1 + 1) w1.heap.size P ro b pl cl (.slice none 0 0) ((locD P b).take 0) w1) := Lib.hid ⟨kept_row H0.out.2.1 hg (by simp), hL.old, by rw [List.take_zero]; exact World.ownsRow_nil _ _ _ _, grown_trans H0.out.2.2.1 hg, by have := hg.size; omega, Nat.le_refl _, by have := hg.size; omega⟩
 have hD := locD_le P b
 have hB := bl_length_le b
 clear hL hg H0 o0 o1 o2 hsz
 generalize w1.heap.size = C at *
 go_wp2_with fail
 go_loopw [9, 16] (fun vo a wr => ∃ (k : Nat) (po : Option Addr) (co : Nat), k ≤ (bl b).length ∧ a = .int .i64 (k : Int) ∧ vo = .slice po k co ∧ Hid (LO w (w.heap.size + 1 + 1) C P ro b pl cl (.slice po k co) ((locD P b).take k) wr)) (fun _ a _ => (bl b).length - (RowKit.intOf a).toNat)
 case atStart => exact ⟨0, none, 0, Nat.zero_le _, rfl, rfl, K0⟩
 case round =>
 clear K0
 obtain ⟨k, po, co, hk, rfl, rfl, K⟩ := hrel
 obtain ⟨w6, hw6⟩ : ∃ w6, w6 = wr := ⟨_, rfl⟩
 rw [← hw6] at K ⊢
 clear hw6
 by_cases hlt : k < (bl b).length
 case neg =>
  obtain rfl : k = (bl b).length := by omega
  have hnl : ¬ ((bl b).length : Int) < ((bl b).length : Int) := by omega
  have HF : Hid (w6.ownsRow w.heap.size 53 11 (.slice po (locD P b).length co) (locD P b).length ((locD P b).flatMap (dlC ro))) := Lib.hid (by
   have h := K.out.own.mono K.out.lo.2.2
   rw [← locD_len P b, List.take_length] at h
   exact h)
  have HL := Lib.hid (locD_len P b)
  clear hD hB
  go_wp2_with fail
  go_ret
  exact ⟨po, co, by rw [HL.out]; rfl, HF.out, K.out.gr⟩
 have hlt' : (k : Int) < ((bl b).length : Int) := by omega
 have hk0 : (0 : Int) ≤ (k : Int) := by omega
 obtain ⟨x, hx⟩ : ∃ x, (bl b)[k]? = some x := ⟨_, List.getElem?_eq_getElem hlt⟩
 obtain ⟨g, off, rfl, hc⟩ := K.out.at_ hx
 have d0 := hc w6 (grown_refl _ _)
 obtain ⟨Q, hQ⟩ : ∃ Q, onlyP P (x : Int) = Q := ⟨_, rfl⟩
 have HQ := Lib.hid hQ
 have HS : Hid ((locD P b).take (k + 1) = (locD P b).take k ++ [Q]) := Lib.hid (by rw [locD_next hx, hQ])
 have hMl : ((locD P b).take k).length = k := by rw [List.length_take, locD_len]; omega
 obtain ⟨M, hM⟩ : ∃ M, (locD P b).take k = M := ⟨_, rfl⟩
 obtain ⟨M2, hM2⟩ : ∃ M2, (locD P b).take (k + 1) = M2 := ⟨_, rfl⟩
 rw [hM] at K HS hMl
 rw [hM2] at HS
 have HM2 := Lib.hid hM2
 obtain ⟨a0, a1, a2, a3, a4, a5, a6, a7, a8, a9⟩ := p_facts K.out.pb
 clear hc hx hQ hM hM2
 go_wp2_with fail
 refine (only_agp P hP x Q HQ w6).mono ?_
 rintro e w7 ⟨rfl, hg⟩
 have K7 := Lib.hid (K.out.keep hg)
 have hown := K7.out.own
 rw [hMl] at hown
 have hsz : C ≤ w7.heap.size := K7.out.lo.2.1
 have HML := Lib.hid hMl
 clear hg K d0 a0 a1 a2 a3 a4 a5 a6 a7 a8 a9 hMl
 go_wp2_with (at_builtin; refine hold_on ?_)
 refine wpList_append_lies _ rfl _ _ 47 rfl C 53 ie (.agg #[.int .i64 0, .int .i64 0, .int .i64 0, .int .i64 0, .int .i64 0, .int .i64 0, .int .i64 0, .int .i64 0, .int .i64 0, .int .u64 0, .string ⟨#[]⟩]) 11 96 Tryz.underlying47 hie he0 he1 he2 rfl (by decide) (.slice po k co) k (M.flatMap (dlC ro)) rfl (hown.alloc _) ⟨w7.heap.size, 0, none⟩ 1 1 (dlC ro Q) rfl rfl (dl_row w7 ro Q _) (dl_one ro Q) (by decide) (by unfold maxLen; omega) (by omega) (by simp; omega) _ rfl ?_
 intro g2 cap w8 hown8 hgrow hat hlt8
 have K8 := Lib.hid ((K7.out.keep (World.grownBy_alloc _ _ none)).put (v' := .slice (some ⟨g2, 0, none⟩) (k + 1) cap) (M2 := M2) (by rw [HS.out, List.length_append, List.flatMap_append, HML.out]; simpa [dlC] using hown8) hgrow)
 clear hown8 hgrow hat hlt8 hown hsz K7
 go_wp2_with fail
 exact ⟨⟨k + 1, some ⟨g2, 0, none⟩, cap, by omega, congrArg _ (by omega), rfl, by rw [HM2.out]; exact K8⟩, by simp only [RowKit.intOf]; omega⟩
set_option maxHeartbeats 6400000 in
theorem rfloc_any (ro : Int) (b lost : Nat) (hb : U64 b) (pc : Option Addr) (nc cc : Nat) (P : Pk) (hP : P.Wf) (w : World) :
  Calls Tryz.prog 19 #[.int .i64 ro, .agg #[.int .u64 (b : Int), .int .u64 (lost : Int), .slice pc nc cc], P.val] w fun e w' => LocPost P ro b w e w' := by
 obtain ⟨ie, hie, he0, he1, he2⟩ := info_parts info_dl
 have hval : P.val = .agg #[.int .i64 P.mode, .int .i64 P.sub, .int .i64 P.set, .int .i64 P.len, .int .i64 P.ttl, .int .i64 P.ent, .int .i64 P.ing, .int .i64 P.pro, .int .u64 (P.bits : Int), .string P.pay] := rfl
 rw [hval]
 obtain ⟨k1, k2, k3, k4⟩ := two_boxes w #[.int .u64 (b : Int), .int .u64 (lost : Int), .slice pc nc cc] (pcells P) 38 28
 have H0 := Lib.hid (And.intro k1 (And.intro k2 (And.intro k3 k4)))
 unfold pcells at H0
 clear k1 k2 k3 k4 hval
 go_enter Tryz.func19, Tryz.ntmps19
 go_upto_region 1 with fail
 generalize (w.alloc _).alloc _ = wa at *
 obtain ⟨o0, o1, o2⟩ := row3B H0.out.1
 go_wp2_with fail
 refine (listr_any b hb wa).mono ?_
 rintro e w1 ⟨vl, rfl, hL, hg⟩
 obtain ⟨pl, cl, rfl⟩ := hL.form (by rw [List.length_map] : ((bl b).map ival).length = (bl b).length)
 have hsz := H0.out.2.2.2
 have K0 : Hid (LO w (w.heap.size + 1) w1.heap.size P ro b pl cl (.slice none 0 0) ((locD P b).take 0) w1) := Lib.hid ⟨kept_row H0.out.2.1 hg (by simp), hL.old, by rw [List.take_zero]; exact World.ownsRow_nil _ _ _ _, grown_trans H0.out.2.2.1 hg, by have := hg.size; omega, Nat.le_refl _, by have := hg.size; omega⟩
 have hD := locD_le P b
 have hB := bl_length_le b
 clear hL hg H0 o0 o1 o2 hsz
 generalize w1.heap.size = C at *
 go_wp2_with fail
 go_loopw [8, 9] (fun vo a wr => ∃ (k : Nat) (po : Option Addr) (co : Nat), k ≤ (bl b).length ∧ a = .int .i64 (k : Int) ∧ vo = .slice po k co ∧ Hid (LO w (w.heap.size + 1) C P ro b pl cl (.slice po k co) ((locD P b).take k) wr)) (fun _ a _ => (bl b).length - (RowKit.intOf a).toNat)
 case atStart => exact ⟨0, none, 0, Nat.zero_le _, rfl, rfl, K0⟩
 case round =>
 clear K0
 obtain ⟨k, po, co, hk, rfl, rfl, K⟩ := hrel
 obtain ⟨w6, hw6⟩ : ∃ w6, w6 = wr := ⟨_, rfl⟩
 rw [← hw6] at K ⊢
 clear hw6
 by_cases hlt : k < (bl b).length
 case neg =>
  obtain rfl : k = (bl b).length := by omega
  have hnl : ¬ ((bl b).length : Int) < ((bl b).length : Int) := by omega
  have HF : Hid (w6.ownsRow w.heap.size 53 11 (.slice po (locD P b).length co) (locD P b).length ((locD P b).flatMap (dlC ro))) := Lib.hid (by
   have h := K.out.own.mono K.out.lo.2.2
   rw [← locD_len P b, List.take_length] at h
   exact h)
  have HL := Lib.hid (locD_len P b)
  clear hD hB
  go_wp2_with fail
  go_ret
  exact ⟨po, co, by rw [HL.out]; rfl, HF.out, K.out.gr⟩
 have hlt' : (k : Int) < ((bl b).length : Int) := by omega
 have hk0 : (0 : Int) ≤ (k : Int) := by omega
 obtain ⟨x, hx⟩ : ∃ x, (bl b)[k]? = some x := ⟨_, List.getElem?_eq_getElem hlt⟩
 obtain ⟨g, off, rfl, hc⟩ := K.out.at_ hx
 have d0 := hc w6 (grown_refl _ _)
 obtain ⟨Q, hQ⟩ : ∃ Q, onlyP P (x : Int) = Q := ⟨_, rfl⟩
 have HQ := Lib.hid hQ
 have HS : Hid ((locD P b).take (k + 1) = (locD P b).take k ++ [Q]) := Lib.hid (by rw [locD_next hx, hQ])
 have hMl : ((locD P b).take k).length = k := by rw [List.length_take, locD_len]; omega
 obtain ⟨M, hM⟩ : ∃ M, (locD P b).take k = M := ⟨_, rfl⟩
 obtain ⟨M2, hM2⟩ : ∃ M2, (locD P b).take (k + 1) = M2 := ⟨_, rfl⟩
 rw [hM] at K HS hMl
 rw [hM2] at HS
 have HM2 := Lib.hid hM2
 have HML := Lib.hid hMl
 clear hc hx hQ hM hM2 hMl
 go_upto_region 6 with fail
 refine region_until (S := fun w' => Hid (w6.grownBy w' none)) (fun j => j == 10 || j == 11) (by kernel_rfl) (Lib.hid (grown_drew (grown_refl _ none))) (fun hHeld => ?_)
 refine zU (i := 0) (v := ?_) rfl ?_ hHeld ?_
 rotate_left 1
 ·intro u hSu
  go_simp
  first | done | with_reducible rfl
 try simp only [Act.put, zA, zB, zC]
 refine zU (i := 1) (v := ?_) rfl ?_ hHeld ?_
 rotate_left 1
 ·intro u hSu
  go_simp
  first | done | with_reducible rfl
 try simp only [Act.put, zA, zB, zC]
 refine zU (i := 2) (v := ?_) rfl ?_ hHeld ?_
 rotate_left 1
 ·intro u hSu
  obtain ⟨a0u, a1u, a2u, a3u, a4u, a5u, a6u, a7u, a8u, a9u⟩ := p_facts (K.out.keep hSu.out).pb
  have d0u := hSu.out.cell d0 (by simp)
  go_simp
  first | done | with_reducible rfl
 try simp only [Act.put, zA, zB, zC]
 refine zU (i := 3) (v := ?_) rfl ?_ hHeld ?_
 rotate_left 1
 ·intro u hSu
  go_simp
  first | done | with_reducible rfl
 try simp only [Act.put, zA, zB, zC]
 refine zU (i := 4) (v := ?_) rfl ?_ hHeld ?_
 rotate_left 1
 ·intro u hSu
  go_simp
  first | done | with_reducible rfl
 try simp only [Act.put, zA, zB, zC]
 refine zU (i := 5) (v := ?_) rfl ?_ hHeld ?_
 rotate_left 1
 ·intro u hSu
  go_simp
  first | done | with_reducible rfl
 try simp only [Act.put, zA, zB, zC]
 refine zU (i := 6) (v := ?_) rfl ?_ hHeld ?_
 rotate_left 1
 ·intro u hSu
  obtain ⟨a0u, a1u, a2u, a3u, a4u, a5u, a6u, a7u, a8u, a9u⟩ := p_facts (K.out.keep hSu.out).pb
  have d0u := hSu.out.cell d0 (by simp)
  go_simp
  first | done | with_reducible rfl
 try simp only [Act.put, zA, zB, zC]
 refine anyU_ready (rs := [7]) (by kernel_rfl) (by simp) ?_
 refine EachU.cons (o := ⟨_, _, _, _, _, _⟩) rfl (fun Kz hK => ?_) EachU.nil
 go_simp
 go_at_call 53
 refine (only_agr P hP x Q HQ _).mono ?_
 rintro e' w7 ⟨rfl, hg⟩
 have HN := Lib.hid (grown_trans hHeld.out hg)
 clear hg
 simp only
 refine hK.out _ _ (fun _ => HN) (fun hH2 => ?_)
 clear hK Kz hHeld
 have hHeld := hH2 rfl
 clear hH2
 try simp only [Act.put, zA, zB, zC]
 refine zU (i := 8) (v := ?_) rfl ?_ hHeld ?_
 rotate_left 1
 ·intro u hSu
  obtain ⟨a0u, a1u, a2u, a3u, a4u, a5u, a6u, a7u, a8u, a9u⟩ := p_facts (K.out.keep hSu.out).pb
  have d0u := hSu.out.cell d0 (by simp)
  go_simp
  first | done | with_reducible rfl
 try simp only [Act.put, zA, zB, zC]
 refine anyU_ready (rs := [9]) (by kernel_rfl) (by simp) ?_
 refine EachU.cons (o := ⟨_, _, _, _, _, _⟩) rfl (fun Kz hK => ?_) EachU.nil
 have K7 := Lib.hid (K.out.keep hHeld.out)
 have hown := K7.out.own
 rw [HML.out] at hown
 have hsz : C ≤ w7.heap.size := K7.out.lo.2.1
 go_simp
 refine hK.out _ _ (fun _ => hid_more hHeld (World.grownBy_alloc _ _ _)) (fun hH2 => ?_)
 clear hK Kz hHeld
 have hHeld := hH2 rfl
 clear hH2
 try simp only [Act.put, zA, zB, zC]
 refine anyU_ready (rs := [10]) (by kernel_rfl) (by simp) ?_
 refine EachU.cons (o := ⟨_, _, _, _, _, _⟩) rfl (fun Kz hK => ?_) EachU.nil
 refine step_append_lies _ (by rfl) _ _ 47 (by rfl) C 53 ie (.agg #[.int .i64 0, .int .i64 0, .int .i64 0, .int .i64 0, .int .i64 0, .int .i64 0, .int .i64 0, .int .i64 0, .int .i64 0, .int .u64 0, .string ⟨#[]⟩]) 11 96 Tryz.underlying47 hie he0 he1 he2 rfl (by decide) (.slice po k co) k (M.flatMap (dlC ro)) (by rfl) (hown.alloc _) ⟨w7.heap.size, 0, none⟩ 1 1 (dlC ro Q) (by rfl) (by rfl) (dl_row w7 ro Q _) (dl_one ro Q) (by decide) (by unfold maxLen; omega) (by omega) (by simp; omega) _ rfl ?_
 intro g2 cap w8 hown8 hgrow hat hlt8
 have K8 := Lib.hid ((K7.out.keep (World.grownBy_alloc _ _ none)).put (v' := .slice (some ⟨g2, 0, none⟩) (k + 1) cap) (M2 := M2) (by rw [HS.out, List.length_append, List.flatMap_append, HML.out]; simpa [dlC] using hown8) hgrow)
 clear hown8 hgrow hat hlt8 hown hsz K7
 refine hK.out _ _ (fun h => by cases h) (fun _ => ?_)
 clear hK Kz
 try simp only [Act.put, zA, zB, zC]
 refine anyU_ready (rs := [11]) (by kernel_rfl) (by simp) ?_
 refine EachU.cons (o := ⟨_, _, _, _, _, _⟩) rfl (fun Kz hK => ?_) EachU.nil
 go_simp
 refine hK.out _ _ (fun h => by cases h) (fun _ => ?_)
 clear hK Kz
 try simp only [Act.put, zA, zB, zC]
 refine anyU_done (by kernel_rfl) ?_ _
 clear hHeld d0
 go_wp2_with fail
 exact ⟨⟨k + 1, some ⟨g2, 0, none⟩, cap, by omega, congrArg _ (by omega), rfl, by rw [HM2.out]; exact K8⟩, by simp only [RowKit.intOf]; omega⟩
end Go.Proofs.YtpogblengagpaaaGreatDoor

/- masks, the reference's functions: Bits. -/
namespace Go.Proofs.YtpogblengagpaaaGreatDoor
set_option maxRecDepth 100000
open Go.RowKit Go.Maps Bs
end Go.Proofs.YtpogblengagpaaaGreatDoor

/- tables, the reference's functions: Check. -/
namespace Go.Proofs.YtpogblengagpaaaGreatDoor
set_option maxRecDepth 100000
open Go.RowKit Go.Maps Bs
end Go.Proofs.YtpogblengagpaaaGreatDoor

/- masks, the reference's functions: Mask, Next, Local. -/
namespace Go.Proofs.YtpogblengagpaaaGreatDoor
set_option maxRecDepth 100000
open Go.RowKit Go.Maps Bs
theorem coF_in {r s n : Int} {L : List Rw} {k : Nat} {set u : Int} (hk : k < 8) (h : ckT r s n L = 0) : coF r s n L (k : Int) set u = colL n set k L u := by
 unfold coF
 rw [if_pos ⟨⟨by omega, by omega⟩, h⟩, Int.toNat_natCast]
end Go.Proofs.YtpogblengagpaaaGreatDoor

/- forward: what the walk over the masks asks. -/
namespace Go.Proofs.YtpogblengagpaaaGreatDoor
set_option maxRecDepth 100000
open Go.RowKit Go.Maps Bs
theorem planeV_in (P : Pk) : 0 ≤ planeV P ∧ planeV P < 8 := by
 unfold planeV
 split <;> omega
theorem coF_fw {r s n : Int} {L : List Rw} {P : Pk} (h : ckT r s n L = 0) (u : Int) : (coF r s n L (planeV P) P.set u) = colL n P.set (planeV P).toNat L u := by
 obtain ⟨h1, h2⟩ := planeV_in P
 obtain ⟨k, hk⟩ := Int.eq_ofNat_of_zero_le h1
 rw [hk] at h2 ⊢
 rw [coF_in (by omega) h, Int.toNat_natCast]
structure MdF (n : Int) (L : List Rw) (P : Pk) (M : List Md) : Prop where
 b : ∀ y ∈ M, y.b = fwM n L P y.x ∧ 1 ≤ y.x ∧ U64 y.b
 all : ∀ u j, (fwM n L P u).testBit j = true → ∃ y ∈ M, y.x = u
 len : M.length ≤ 99
theorem mdF_of {r s n : Int} {L : List Rw} {P : Pk} {ts : List Int} (h : ckT r s n L = 0) (hA : AscM (coF r s n L (planeV P) P.set) ts) : MdF n L P (mdL (coF r s n L (planeV P) P.set) ts) := by
 have ho := coF_ok r s n L (planeV P) P.set
 refine ⟨fun y hy => ?_, fun u j hj => ?_, by rw [mdL_len]; exact ascM_len hA ho⟩
 ·obtain ⟨x, hx, rfl⟩ := List.mem_map.1 hy
  obtain ⟨d, hd⟩ := Option.isSome_iff_exists.1 ((hA.mem x).1 hx)
  refine ⟨?_, (ho.u x d hd).2.1, ho.getD x⟩
  show (coF r s n L (planeV P) P.set x).getD 0 = (colL n P.set (planeV P).toNat L x).getD 0
  rw [coF_fw h]
 ·unfold fwM at hj
  rw [← coF_fw (r := r) (s := s) h] at hj
  refine ⟨⟨u, (coF r s n L (planeV P) P.set u).getD 0⟩, List.mem_map.2 ⟨u, (hA.mem u).2 ?_, rfl⟩, rfl⟩
  cases hc : coF r s n L (planeV P) P.set u with
  | none =>
   rw [hc] at hj
   simp at hj
  | some d => rfl
theorem ck_rtF {r s n : Int} {L : List Rw} (h : ckT r s n L = 0) : 1 ≤ r ∧ r ≤ 99 := by
 have := (ck_ok h).1
 unfold hdT at this
 simp only [Bool.not_eq_false', Bool.and_eq_true] at this
 have h1 := this.1.1
 unfold inV at h1
 simpa using h1
end Go.Proofs.YtpogblengagpaaaGreatDoor
