/- Parts of the proof, packed: TaBnd. -/
import Derived.Test.YtpogblengagpaaaGreatDoorPa24
import Derived.Test.YtpogblengagpaaaGreatDoorPa1
import Derived.Test.YtpogblengagpaaaGreatDoorPa5
/- tables: the tape's bend. -/
namespace Go.Proofs.YtpogblengagpaaaGreatDoor
set_option maxRecDepth 100000
open Go.RowKit Bs
def BendPost (a lo D : Nat) (od : Obj) (W : World) (e : Ending) (w' : World) : Prop :=
 ∃ (r s n : Int) (L : List Rw) (p : Option Addr) (c : Nat), e = .returned (.agg #[.int .i64 r, .int .i64 s, .int .i64 n, .slice p L.length c]) ∧ OwnT lo w' (.slice p L.length c) L ∧ I64 r ∧ L.length ≤ 101 ∧ (∀ y ∈ L, y.nx.length ≤ 101) ∧ w'.heap[D]? = some od ∧ ¬ InB (.slice p L.length c) L D ∧ St a W w'
theorem bn_among {a lo C D : Nat} {od : Obj} {W : World} {r s n : Int} {v : Value} {M : List Rw} {u : World} (h : BN a W lo C D od r s n v M u) (l : List Int) (cs : Array Value) (t : TypeId) (hl : cs = (l.map fun x => Value.int .i64 x).toArray) (hP : ∀ x ∈ l, I64 x) : Among I64 (u.alloc (.cells cs t)) a u.heap.size 0 cs.size :=
 among_list I64 u a l cs t h.st.2.lt hl hP
theorem bn_amongP {a lo C D : Nat} {od : Obj} {W : World} {r s n : Int} {v : Value} {M : List Rw} {u : World} (h : BN a W lo C D od r s n v M u) (l : List Int) (cs : Array Value) (t : TypeId) (hl : cs = (l.map fun x => Value.int .i64 x).toArray) (hP : ∀ x ∈ l, I64 x) : ∀ p, p = u.heap.size → Among I64 (u.alloc (.cells cs t)) a p 0 cs.size := by
 rintro p rfl
 exact bn_among h l cs t hl hP
theorem BN.fin {a lo C D : Nat} {od : Obj} {W : World} {r s n : Int} {v : Value} {p : Option Addr} {c : Nat} {L : List Rw} {w w1 : World} (h : BN a W lo C D od r s n v L w) (g : w.grownBy w1 (some (C + 1))) (hv : v = .slice p L.length c) (hr : I64 r) (hl : L.length ≤ 101) (hN : ∀ y ∈ L, y.nx.length ≤ 101) : BendPost a lo D od W (.returned (.agg #[.int .i64 r, .int .i64 s, .int .i64 n, v])) w1 := by
 subst hv
 have hh := h.lo
 have hd := h.dl
 exact ⟨r, s, n, L, p, c, rfl, h.own.ne g (fun hi => (h.nb _ hi).2.1 rfl), hr, hl, hN, kept_row h.ft g (fun e => by have := Option.some.inj e; omega), (fun hi => (h.nb _ hi).2.2 rfl), h.st.storeT g (by omega) hh.1⟩
theorem BN.setR {a lo C D k g c : Nat} {od : Obj} {W : World} {r s n : Int} {M : List Rw} {y x : Rw} {w w1 : World} (h : BN a W lo C D od r s n (.slice (some ⟨g, 0, none⟩) M.length c) M w) (hy : M[k]? = some y) (hi : x.id = y.id) (g1 : w.grownBy w1 y.v.ownBlock) (hx : w1.ownsRow lo 3 1 x.v x.nx.length (x.nx.map tv)) (hn : ∀ b, x.v.ownBlock = some b → y.v.ownBlock = some b ∨ w.heap.size ≤ b) :
  BN a W lo C D od r s n (.slice (some ⟨g, 0, none⟩) M.length c) (M.set k x) (w1.setCell ⟨g, k * 2 + 1, none⟩ x.v) := by
 have hh := h.lo
 have hym : y ∈ M := List.mem_of_getElem? hy
 have g2 : w1.grownBy (w1.setCell ⟨g, k * 2 + 1, none⟩ x.v) (some g) := grown_setCell _ _ _
 have hgB := h.nb g (Or.inl rfl)
 have hgl := h.own.lt (v := .slice (some ⟨g, 0, none⟩) M.length c) (b := g) (Or.inl rfl)
 have hd := h.dl
 have hyC : ∀ b, b = C ∨ b = C + 1 ∨ b = D → some b ≠ y.v.ownBlock := fun b hb e => by
  have := h.nb b (Or.inr ⟨y, hym, e.symm⟩)
  omega
 have hst : St a W w1 := by
  cases hv : y.v.ownBlock with
  | none => rw [hv] at g1; exact h.st.none_ g1
  | some b =>
   rw [hv] at g1
   have := h.own.lt (b := b) (Or.inr ⟨y, hym, hv⟩)
   exact h.st.storeT g1 (by omega) hh.1
 refine ⟨kept_row (kept_row h.bx g1 (hyC _ (Or.inl rfl))) g2 (fun e => hgB.1 (Option.some.inj e).symm), kept_row (kept_row h.rs g1 (hyC _ (Or.inr (Or.inl rfl)))) g2 (fun e => hgB.2.1 (Option.some.inj e).symm), h.own.setR hy hi g1 hx hn, fun b hb => ?_, kept_row (kept_row h.ft g1 (hyC _ (Or.inr (Or.inr rfl)))) g2 (fun e => hgB.2.2 (Option.some.inj e).symm), hd, hst.storeT g2 (by omega) hh.1, hh.1, hh.2.1, hh.2.2.1, Nat.lt_of_lt_of_le hh.2.2.2 (Nat.le_trans g1.size g2.size)⟩
 rcases inB_set hb with hb | hb
 ·exact h.nb b hb
 ·rcases hn b hb with h1 | h1
  ·exact h.nb b (Or.inr ⟨y, hym, h1⟩)
  ·omega
def BQ (lo C : Nat) (r s n : Int) (v : Value) (M : List Rw) (w : World) : Prop := w.heap[C]? = some (.cells #[.int .i64 r, .int .i64 s, .int .i64 n, v] 25 (0, 0)) ∧ w.ownsRow lo 80 2 v M.length (M.flatMap rwC)
theorem bq_of {a lo C D : Nat} {od : Obj} {W : World} {r s n : Int} {v : Value} {M : List Rw} {w : World} (h : BN a W lo C D od r s n v M w) : BQ lo C r s n v M w := ⟨h.bx, h.own.own⟩
theorem set_len {M : List Rw} {k : Nat} {x : Rw} (hN : ∀ y ∈ M, y.nx.length ≤ 100) (hx : x.nx.length ≤ 101) : ∀ y ∈ M.set k x, y.nx.length ≤ 101 := fun y hy => by
 rcases List.mem_or_eq_of_mem_set hy with h | rfl
 ·have := hN y h; omega
 ·exact hx
theorem rw_atB {w : World} {lo g c k : Nat} {M : List Rw} {y : Rw} (h : w.ownsRow lo 80 2 (.slice (some ⟨g, 0, none⟩) M.length c) M.length (M.flatMap rwC)) (hy : M[k]? = some y) : w.cell? ⟨g, k * 2, none⟩ = some (.int .i64 y.id) ∧ w.cell? ⟨g, k * 2 + 1, none⟩ = some y.v := by
 obtain ⟨-, b, off, hp, -, hc⟩ := rw_cells (rdf_of_own h) (by have := (List.getElem?_eq_some_iff.1 hy).1; omega)
 injection hp with hp
 injection hp with e1 e2
 subst e1
 subst e2
 have := hc k y hy
 simp only [Nat.zero_add] at this
 exact this
theorem OwnT.push2 {lo : Nat} {w w1 : World} {v v' : Value} {M : List Rw} {x : Rw} (h : OwnT lo w v M) (hx : w.ownsRow lo 3 1 x.v x.nx.length (x.nx.map tv)) (hne : ∀ b, InB v M b → x.v.ownBlock ≠ some b) (hown : w1.ownsRow lo 80 2 v' (M ++ [x]).length ((M ++ [x]).flatMap rwC)) (g : w.grownBy w1 v.ownBlock) (hv : v'.ownBlock = v.ownBlock ∨ ∀ b, some b = v'.ownBlock → w.heap.size ≤ b) : OwnT lo w1 v' (M ++ [x]) := by
 have hv' : ∀ b, v'.ownBlock = some b → (v.ownBlock = some b ∨ w.heap.size ≤ b) := fun b e => by
  rcases hv with hv | hv
  ·exact Or.inl (hv ▸ e)
  ·exact Or.inr (hv b e.symm)
 have hyl : ∀ y ∈ M, ∀ b, y.v.ownBlock = some b → b < w.heap.size := fun y hy b e => ((h.nx y hy).lt b e).2
 refine ⟨hown, fun y hy => ?_, fun y hy b hb e => ?_, ?_⟩
 ·rcases List.mem_append.1 hy with hy | hy
  ·exact own_keptV (h.nx y hy) g (h.ap y hy)
  ·rw [List.mem_singleton.1 hy]
   exact own_keptV hx g (fun b hb e => hne b (Or.inl e) hb)
 ·rcases List.mem_append.1 hy with hy | hy
  ·rcases hv' b e with e | e
   ·exact h.ap y hy b hb e
   ·have := hyl y hy b hb; omega
  ·rw [List.mem_singleton.1 hy] at hb
   rcases hv' b e with e | e
   ·exact hne b (Or.inl e) hb
   ·have := (hx.lt b hb).2; omega
 ·refine List.pairwise_append.2 ⟨h.pw, List.pairwise_singleton _ _, fun y hy z hz b hb e => ?_⟩
  rw [List.mem_singleton.1 hz] at e
  exact hne b (Or.inr ⟨y, hy, hb⟩) e
theorem BN.push {a lo C D : Nat} {od : Obj} {W : World} {r s n : Int} {v v' : Value} {M : List Rw} {x : Rw} {w w1 : World} (h : BN a W lo C D od r s n v M w) (hx : w.ownsRow lo 3 1 x.v x.nx.length (x.nx.map tv)) (hp : ∀ b, x.v.ownBlock = some b → C + 1 < b ∧ ¬ InB v M b) (hown : w1.ownsRow lo 80 2 v' (M ++ [x]).length ((M ++ [x]).flatMap rwC)) (g : w.grownBy w1 v.ownBlock) (hv : v'.ownBlock = v.ownBlock ∨ ∀ b, some b = v'.ownBlock → w.heap.size ≤ b) :
  w1.heap[C]? = some (.cells #[.int .i64 r, .int .i64 s, .int .i64 n, v] 25 (0, 0)) ∧ BN a W lo C D od r s n v' (M ++ [x]) (w1.setCell ⟨C, 3, none⟩ v') := by
 have hh := h.lo
 have hd := h.dl
 have hne : ∀ b, b = C ∨ b = C + 1 ∨ b = D → some b ≠ v.ownBlock := fun b hb e => by have := h.nb b (Or.inl e.symm); omega
 have hB := kept_row h.bx g (hne C (Or.inl rfl))
 have g2 : w1.grownBy (w1.setCell ⟨C, 3, none⟩ v') (some C) := grown_setCell _ _ _
 have hst : St a W w1 := by
  cases hv2 : v.ownBlock with
  | none => rw [hv2] at g; exact h.st.none_ g
  | some b =>
   rw [hv2] at g
   have := h.own.lt (b := b) (Or.inl hv2)
   exact h.st.storeT g (by omega) hh.1
 have hO := h.own.push2 hx (fun b hi e => (hp b e).2 hi) hown g hv
 have hnb : ∀ b, InB v' (M ++ [x]) b → b ≠ C ∧ b ≠ C + 1 ∧ b ≠ D := fun b hb => by
  rcases hb with hb | ⟨y, hy, hb⟩
  ·rcases hv with hv | hv
   ·exact h.nb b (Or.inl (hv ▸ hb))
   ·have := hv b hb.symm; omega
  ·rcases List.mem_append.1 hy with hy | hy
   ·exact h.nb b (Or.inr ⟨y, hy, hb⟩)
   ·rw [List.mem_singleton.1 hy] at hb
    have := (hp b hb).1; omega
 exact ⟨hB, heap_setCell_same w1 C 3 _ _ v' hB, kept_row (kept_row h.rs g (hne _ (Or.inr (Or.inl rfl)))) g2 (fun e => by have := Option.some.inj e; omega), hO.ne g2 (fun hi => (hnb C hi).1 rfl), hnb, kept_row (kept_row h.ft g (hne _ (Or.inr (Or.inr rfl)))) g2 (fun e => by have := Option.some.inj e; omega), hd, hst.storeT g2 (by omega) hh.1, hh.1, hh.2.1, hh.2.2.1, Nat.lt_of_lt_of_le hh.2.2.2 (Nat.le_trans g.size g2.size)⟩
def One1 (lo C : Nat) (v : Value) (M : List Rw) (p : Nat) (w : World) : Prop := w.ownsRow lo 3 1 (.slice (some ⟨p, 0, none⟩) 1 1) ([1] : List Int).length (([1] : List Int).map tv) ∧ C + 1 < p ∧ ¬ InB v M p
theorem one_of {a lo C D : Nat} {od : Obj} {W : World} {r s n : Int} {v : Value} {M : List Rw} {u : World} (h : BN a W lo C D od r s n v M u) : ∀ p, p = u.heap.size → One1 lo C v M p (u.alloc (.cells #[.int .i64 1] 3)) := by
 rintro p rfl
 have hh := h.lo
 exact ⟨(World.ownsRow_lit u #[.int .i64 1] 1 (Nat.le_refl _) (by decide) rfl).mono (by omega), hh.2.2.2, fun hi => by have := (h.own.lt hi).2; omega⟩
theorem One1.keep {lo C : Nat} {v : Value} {M : List Rw} {p : Nat} {w w1 : World} (h : One1 lo C v M p w) (g : w.grownBy w1 none) : One1 lo C v M p w1 := ⟨own_keptN h.1 g, h.2⟩
theorem One1.tape {a lo C : Nat} {v : Value} {M : List Rw} {p : Nat} {w w1 : World} (h : One1 lo C v M p w) (ha : a < lo) (g : w.grownBy w1 (some a)) : One1 lo C v M p w1 := ⟨own_otherL h.1 g ha, h.2⟩
theorem i64_row (w : World) (x : Int) (t : TypeId) : ∀ j u, [Value.int .i64 x][j]? = some u → (w.alloc (.cells #[.int .i64 x] t)).cell? ((⟨w.heap.size, 0, none⟩ : Addr).add j) = some u := by
 intro j u hu
 rw [add_plain]
 have hb := heap_alloc_new w (.cells #[.int .i64 x] t)
 rcases j with _ | j
 ·cases hu; exact cell_of_row _ _ _ _ _ _ hb
 ·simp at hu
set_option maxHeartbeats 12800000 in
theorem bend_any (a lo D : Nat) (od : Obj) (W w : World) (r s n : Int) (M : List Rw) (p2 : Option Addr) (c2 : Nat) (hst : St a W w) (hO : OwnT lo w (.slice p2 M.length c2) M) (hl : a < W.heap.size ∧ W.heap.size ≤ lo ∧ lo ≤ w.heap.size) (hD : w.heap[D]? = some od) (hDl : W.heap.size ≤ D) (hDn : ¬ InB (.slice p2 M.length c2) M D) (hr : I64 r) (hM : M.length ≤ 100) (hN : ∀ y ∈ M, y.nx.length ≤ 100) :
  Calls Tryz.prog 36 #[.pointer (some ⟨a, 0, none⟩), .agg #[.int .i64 r, .int .i64 s, .int .i64 n, .slice p2 M.length c2]] w fun e w' => BendPost a lo D od W e w' := by
 obtain ⟨ii, hii, hi0, hi1, hi2⟩ := info_parts info_rowT
 obtain ⟨ie, hie, he0, he1, he2⟩ := info_parts info_int
 have H0 : Hid (BN a W lo w.heap.size D od r s n (.slice p2 M.length c2) M ((w.alloc (.cells #[.int .i64 r, .int .i64 s, .int .i64 n, .slice p2 M.length c2] 25)).alloc (.cells #[.int .i64 0, .int .i64 0, .int .i64 0, .slice none 0 0] 25))) := Lib.hid (by
  obtain ⟨a1, g1, z1⟩ := alloc_row (w := w) #[.int .i64 r, .int .i64 s, .int .i64 n, .slice p2 M.length c2] 25 rfl
  generalize w.alloc _ = w1 at *
  obtain ⟨a2, g2, z2⟩ := alloc_row (w := w1) #[.int .i64 0, .int .i64 0, .int .i64 0, .slice none 0 0] 25 z1
  generalize w1.alloc _ = w2 at *
  have gg := grown_trans g1 g2
  exact ⟨kept_row a1 g2 (by simp), a2, hO.keep gg, fun b hb => ⟨by have := (hO.lt hb).2; omega, by have := (hO.lt hb).2; omega, fun e => hDn (e ▸ hb)⟩, kept_row hD gg (by simp), ⟨hDl, lt_rowB hD⟩, hst.none_ gg, hl.1, hl.2.1, hl.2.2, by omega⟩)
 have HR := Lib.hid hr
 have HN := Lib.hid hN
 have HA := Lib.hid (And.intro hl.1 hl.2.1)
 clear hst hO hl hr hN hD hDl hDn
 go_enter Tryz.func36, Tryz.ntmps36
 go_upto_region 1 with fail
 generalize (w.alloc _).alloc _ = w1 at *
 generalize w.heap.size = C at *
 go_wp2_with fail
 refine (next_any a 8 (by unfold I64; omega) w1 H0.out.st.2).mono ?_
 rintro e w2 ⟨k, rfl, -, hs⟩
 have K := Lib.hid (H0.out.tape hs)
 clear hs H0
 have HAL := Lib.hid (fun (w : World) (A : Array Value) (t : TypeId) => World.grownBy_alloc w (.cells A t) none)
 by_cases k0 : k = 0
 case pos =>
  have e0 : (k == 0) = true := by simpa using k0
  clear k0
  go_wp2_with fail
  refine (pick_any I64 a w2.heap.size 0 5 5 (by omega) (by omega) _ (K.out.st.2.keep (HAL.out _ _ _)) (bn_among K.out [0, 1, 2, 99, 100] _ _ rfl (by intro x hx; simp at hx; rcases hx with rfl | rfl | rfl | rfl | rfl <;> (unfold I64; omega)))).mono ?_
  rintro e w3 ⟨x, rfl, hx, hs⟩
  have K3 := Lib.hid ((K.out.keep (HAL.out _ _ _)).tape hs)
  have hxr := Lib.hid hx
  clear hs hx K
  obtain ⟨d0, d1, d2, d3⟩ := row4T K3.out.bx
  have f0 := frozen_of_row _ _ 0 _ _ K3.out.bx
  have K4 := Lib.hid (K3.out.box (r2 := x) (s2 := s) (n2 := n) (grown_setCell w3 ⟨C, 0, none⟩ (.int .i64 x)) (heap_setCell_same w3 C 0 _ _ (.int .i64 x) K3.out.bx))
  go_upto_region 20 with fail
  clear d0 d1 d2 d3 f0 K3
  generalize w3.setCell _ _ = w4 at *
  obtain ⟨d0, d1, d2, d3⟩ := row4T K4.out.bx
  obtain ⟨z0, z1, z2, z3⟩ := row4T K4.out.rs
  have f0 := frozen_of_row _ _ 0 _ _ K4.out.rs
  have f1 := frozen_of_row _ _ 1 _ _ K4.out.rs
  have f2 := frozen_of_row _ _ 2 _ _ K4.out.rs
  have f3 := frozen_of_row _ _ 3 _ _ K4.out.rs
  have HT := Lib.hid (store4B (.int .i64 x) (.int .i64 s) (.int .i64 n) (.slice p2 M.length c2) K4.out.rs)
  go_wp2_with fail
  refine bodyPost_ret (res_tabB rfl _ _ (C + 1) _ _ _ _ rfl HT.out.1) rfl ?_
  exact K4.out.fin HT.out.2 rfl hxr.out (by omega) (fun y hy => by have := HN.out y hy; omega)
 have e0 : (k == 0) = false := by simpa using k0
 by_cases k1 : k = 1
 case pos =>
  have e1 : (k == 1) = true := by simpa using k1
  clear k0 k1
  go_wp2_with fail
  refine (wild_any a w2 K.out.st.2).mono ?_
  rintro e w3 ⟨x, rfl, hx, hs⟩
  have K3 := Lib.hid (K.out.tape hs)
  have hxr := Lib.hid hx
  clear hs hx K
  obtain ⟨d0, d1, d2, d3⟩ := row4T K3.out.bx
  have f1 := frozen_of_row _ _ 1 _ _ K3.out.bx
  have K4 := Lib.hid (K3.out.box (r2 := r) (s2 := x) (n2 := n) (grown_setCell w3 ⟨C, 1, none⟩ (.int .i64 x)) (heap_setCell_same w3 C 1 _ _ (.int .i64 x) K3.out.bx))
  go_upto_region 20 with fail
  clear d0 d1 d2 d3 f1 K3
  generalize w3.setCell _ _ = w4 at *
  obtain ⟨d0, d1, d2, d3⟩ := row4T K4.out.bx
  obtain ⟨z0, z1, z2, z3⟩ := row4T K4.out.rs
  have f0 := frozen_of_row _ _ 0 _ _ K4.out.rs
  have f1 := frozen_of_row _ _ 1 _ _ K4.out.rs
  have f2 := frozen_of_row _ _ 2 _ _ K4.out.rs
  have f3 := frozen_of_row _ _ 3 _ _ K4.out.rs
  have HT := Lib.hid (store4B (.int .i64 r) (.int .i64 x) (.int .i64 n) (.slice p2 M.length c2) K4.out.rs)
  go_wp2_with fail
  refine bodyPost_ret (res_tabB rfl _ _ (C + 1) _ _ _ _ rfl HT.out.1) rfl ?_
  exact K4.out.fin HT.out.2 rfl HR.out (by omega) (fun y hy => by have := HN.out y hy; omega)
 have e1 : (k == 1) = false := by simpa using k1
 by_cases k2 : k = 2
 case pos =>
  have e2 : (k == 2) = true := by simpa using k2
  clear k0 k1 k2
  go_wp2_with fail
  refine (pick_any I64 a w2.heap.size 0 5 5 (by omega) (by omega) _ (K.out.st.2.keep (HAL.out _ _ _)) (bn_among K.out [0, 8, 16, 24, 64] _ _ rfl (by intro x hx; simp at hx; rcases hx with rfl | rfl | rfl | rfl | rfl <;> (unfold I64; omega)))).mono ?_
  rintro e w3 ⟨x, rfl, hx, hs⟩
  have K3 := Lib.hid ((K.out.keep (HAL.out _ _ _)).tape hs)
  have hxr := Lib.hid hx
  clear hs hx K
  obtain ⟨d0, d1, d2, d3⟩ := row4T K3.out.bx
  have f2 := frozen_of_row _ _ 2 _ _ K3.out.bx
  have K4 := Lib.hid (K3.out.box (r2 := r) (s2 := s) (n2 := x) (grown_setCell w3 ⟨C, 2, none⟩ (.int .i64 x)) (heap_setCell_same w3 C 2 _ _ (.int .i64 x) K3.out.bx))
  go_upto_region 20 with fail
  clear d0 d1 d2 d3 f2 K3
  generalize w3.setCell _ _ = w4 at *
  obtain ⟨d0, d1, d2, d3⟩ := row4T K4.out.bx
  obtain ⟨z0, z1, z2, z3⟩ := row4T K4.out.rs
  have f0 := frozen_of_row _ _ 0 _ _ K4.out.rs
  have f1 := frozen_of_row _ _ 1 _ _ K4.out.rs
  have f2 := frozen_of_row _ _ 2 _ _ K4.out.rs
  have f3 := frozen_of_row _ _ 3 _ _ K4.out.rs
  have HT := Lib.hid (store4B (.int .i64 r) (.int .i64 s) (.int .i64 x) (.slice p2 M.length c2) K4.out.rs)
  go_wp2_with fail
  refine bodyPost_ret (res_tabB rfl _ _ (C + 1) _ _ _ _ rfl HT.out.1) rfl ?_
  exact K4.out.fin HT.out.2 rfl HR.out (by omega) (fun y hy => by have := HN.out y hy; omega)
 have e2 : (k == 2) = false := by simpa using k2
 by_cases k3 : k = 3
 case pos =>
  have e3 : (k == 3) = true := by simpa using k3
  clear k0 k1 k2 k3
  obtain ⟨d0, d1, d2, d3⟩ := row4T K.out.bx
  go_upto_region 19 with fail
  refine region_until (S := fun w' => Hid (BN a W lo C D od r s n (.slice p2 M.length c2) M w')) (fun j => j == 8 || j == 9 || j == 10) (by kernel_rfl) (Lib.hid (K.out.keep (grown_drew (grown_refl _ none)))) (fun hHeld => ?_)
  refine zU (i := 0) (v := ?_) rfl ?_ hHeld ?_
  rotate_left 1
  ·intro u hSu
   go_simp
   first | done | with_reducible rfl
  try simp only [Act.put, zA, zB, zC]
  refine zU (i := 1) (v := ?_) rfl ?_ hHeld ?_
  rotate_left 1
  ·intro u hSu
   obtain ⟨d0u, d1u, d2u, d3u⟩ := row4T hSu.out.bx
   go_simp
   first | done | with_reducible rfl
  try simp only [Act.put, zA, zB, zC]
  refine zU (i := 2) (v := ?_) rfl ?_ hHeld ?_
  rotate_left 1
  ·intro u hSu
   go_simp
   first | done | with_reducible rfl
  try simp only [Act.put, zA, zB, zC]
  refine anyU_ready (rs := [3, 5]) (by kernel_rfl) (by simp) ?_
  refine EachU.cons (o := ⟨_, _, _, _, _, _⟩) rfl (fun Kz hK => ?_) (EachU.cons (o := ⟨_, _, _, _, _, _⟩) rfl (fun Kz hK => ?_) EachU.nil)
  ·go_simp
   first | (have HONEz := Lib.hid (fun p hp => (HONE.out p hp).keep (World.grownBy_alloc _ (.cells #[.int .i64 0, .int .i64 1, .int .i64 256, .int .i64 257] 3) none)); clear HONE; have HONE := HONEz; clear HONEz) | skip
   have HAM := Lib.hid (bn_amongP hHeld.out [0, 1, 256, 257] #[.int .i64 0, .int .i64 1, .int .i64 256, .int .i64 257] 3 rfl (by intro x hx; simp at hx; rcases hx with rfl | rfl | rfl | rfl <;> (unfold I64; omega)))
   refine hK.out _ _ (fun _ => Lib.hid (hHeld.out.keep (World.grownBy_alloc _ _ _))) (fun hH2 => ?_)
   clear hK Kz hHeld
   have hHeld := hH2 rfl
   clear hH2
   try simp only [Act.put, zA, zB, zC]
   refine anyU_ready (rs := [4, 5]) (by kernel_rfl) (by simp) ?_
   refine EachU.cons (o := ⟨_, _, _, _, _, _⟩) rfl (fun Kz hK => ?_) (EachU.cons (o := ⟨_, _, _, _, _, _⟩) rfl (fun Kz hK => ?_) EachU.nil)
   ·go_simp
    go_at_call 27
    refine (pick_any I64 a _ 0 4 4 (by omega) (by omega) _ hHeld.out.st.2 (HAM.out _ (by first | rfl | simp))).mono ?_
    rintro e' w8 ⟨z, rfl, -, hs⟩
    first | (have HONEz := Lib.hid (fun p hp => (HONE.out p hp).tape (by have := HA.out; omega) hs.1); clear HONE; have HONE := HONEz; clear HONEz) | skip
    have HN8 := Lib.hid (hHeld.out.tape hs)
    clear hs HAM
    simp only
    refine hK.out _ _ (fun _ => HN8) (fun hH2 => ?_)
    clear hK Kz hHeld
    have hHeld := hH2 rfl
    clear hH2
    try simp only [Act.put, zA, zB, zC]
    refine anyU_ready (rs := [5]) (by kernel_rfl) (by simp) ?_
    refine EachU.cons (o := ⟨_, _, _, _, _, _⟩) rfl (fun Kz hK => ?_) EachU.nil
    go_simp
    first | (have HAMz := Lib.hid (fun p hp => (HAM.out p hp).more (grown_none (World.grownBy_alloc _ (.cells #[.int .i64 1] 3) none) _)); clear HAM; have HAM := HAMz; clear HAMz) | skip
    have HONE := Lib.hid (one_of hHeld.out)
    refine hK.out _ _ (fun _ => Lib.hid (hHeld.out.keep (World.grownBy_alloc _ _ _))) (fun hH2 => ?_)
    clear hK Kz hHeld
    have hHeld := hH2 rfl
    clear hH2
    try simp only [Act.put, zA, zB, zC]
    refine zU (i := 6) (v := ?_) rfl ?_ hHeld ?_
    rotate_left 1
    ·intro u hSu
     obtain ⟨d0u, d1u, d2u, d3u⟩ := row4T hSu.out.bx
     go_simp
     first | done | with_reducible rfl
    try simp only [Act.put, zA, zB, zC]
    refine anyU_ready (rs := [7]) (by kernel_rfl) (by simp) ?_
    refine EachU.cons (o := ⟨_, _, _, _, _, _⟩) rfl (fun Kz hK => ?_) EachU.nil
    have hsz : w2.heap.size + 1 = (w2.alloc (.cells #[.int .i64 0, .int .i64 1, .int .i64 256, .int .i64 257] 3)).drew.heap.size := by simp
    first | (have hz : Hid (BN a W lo C D od r s n (.slice p2 M.length c2) M w8) := by with_reducible exact hHeld) | (generalize w8.alloc _ = w9 at *)
    first | (have HON := HONE.out w8.heap.size (by with_reducible rfl); generalize w8.heap.size = p1 at *) | (have HON := HONE.out (w2.heap.size + 1) (by with_reducible exact hsz); generalize w2.heap.size + 1 = p1 at *) | (have HON := HONE.out w2.heap.size (by first | rfl | simp); generalize w2.heap.size = p1 at *)
    clear HONE hsz
    first | (clear hz; obtain ⟨w9, rfl⟩ : ∃ w9, w9 = w8 := ⟨_, rfl⟩) | skip
    have K9 := Lib.hid hHeld.out
    go_simp
    refine hK.out _ _ (fun _ => Lib.hid (hHeld.out.keep (World.grownBy_alloc _ _ _))) (fun hH2 => ?_)
    clear hK Kz hHeld
    have hHeld := hH2 rfl
    clear hH2
    try simp only [Act.put, zA, zB, zC]
    refine anyU_ready (rs := [8]) (by kernel_rfl) (by simp) ?_
    refine EachU.cons (o := ⟨_, _, _, _, _, _⟩) rfl (fun Kz hK => ?_) EachU.nil
    refine step_append_lies _ (by rfl) _ _ 23 (by rfl) lo 80 ii (.agg #[.int .i64 0, .slice none 0 0]) 2 32 Tryz.underlying23 hii hi0 hi1 hi2 rfl (by decide) (.slice p2 M.length c2) M.length (M.flatMap rwC) (by rfl) (K9.out.own.own.alloc _) ⟨w9.heap.size, 0, none⟩ 1 1 (rwC ⟨z, [1], some ⟨p1, 0, none⟩, 1⟩) (by rfl) (by rfl) (rwB_row w9 ⟨z, [1], some ⟨p1, 0, none⟩, 1⟩ _) (rw_one ⟨z, [1], some ⟨p1, 0, none⟩, 1⟩) (by decide) (by unfold maxLen; omega) (by omega) (Nat.le_trans (Nat.le_trans K9.out.lo.2.2.1 (Nat.le_of_lt (Nat.lt_trans (Nat.lt_succ_self _) K9.out.lo.2.2.2))) (World.grownBy_alloc _ _ none).size) _ rfl ?_
    intro g2 cap w10 hown9 hgrow hat hlt9
    have ga := World.grownBy_alloc w9 (.cells #[.int .i64 z, .slice (some ⟨p1, 0, none⟩) 1 1] 80) none
    have hv : (Value.slice (some ⟨g2, 0, none⟩) (M.length + 1) cap).ownBlock = (Value.slice p2 M.length c2).ownBlock ∨ ∀ b, some b = (Value.slice (some ⟨g2, 0, none⟩) (M.length + 1) cap).ownBlock → (w9.alloc (.cells #[.int .i64 z, .slice (some ⟨p1, 0, none⟩) 1 1] 80)).heap.size ≤ b := by
     rcases hat with h | h
     ·exact Or.inl h.symm
     ·refine Or.inr fun b e => ?_
      have e2 : some b = some g2 := e
      have := Option.some.inj e2
      rw [this, h]
      exact Nat.le_refl _
    have hpu := (K9.out.keep ga).push (x := ⟨z, [1], some ⟨p1, 0, none⟩, 1⟩) (v' := .slice (some ⟨g2, 0, none⟩) (M.length + 1) cap) (HON.keep ga).1 (fun b e => by
     have e2 : some p1 = some b := e
     have := Option.some.inj e2
     subst this
     exact HON.2) (by rw [List.length_append, List.flatMap_append]; simpa [rwC] using hown9) hgrow hv
    have HN10 : ∀ q ∈ M ++ [(⟨z, [1], some ⟨p1, 0, none⟩, 1⟩ : Rw)], q.nx.length ≤ 101 := fun q hq => by
     rcases List.mem_append.1 hq with h | h
     ·have := HN.out q h; omega
     ·rw [List.mem_singleton.1 h]; show (1 : Nat) ≤ 101; omega
    obtain ⟨M10, hM10⟩ : ∃ M10, M ++ [(⟨z, [1], some ⟨p1, 0, none⟩, 1⟩ : Rw)] = M10 := ⟨_, rfl⟩
    have HM10 : Hid (M10.length = M.length + 1) := Lib.hid (by rw [← hM10, List.length_append]; rfl)
    rw [hM10] at hpu HN10
    have HN10 := Lib.hid HN10
    have hl10 : M10.length ≤ 101 := by rw [HM10.out]; omega
    obtain ⟨x0, x1, x2, x3⟩ := row4T hpu.1
    have fx := frozen_of_row _ _ 3 _ _ hpu.1
    have K10 := Lib.hid hpu.2
    clear hM10 hown9 hgrow hat hlt9 ga hv hpu HON K9
    refine hK.out _ _ (fun h => by cases h) (fun _ => ?_)
    clear hK Kz
    try simp only [Act.put, zA, zB, zC]
    refine anyU_ready (rs := [9]) (by kernel_rfl) (by simp) ?_
    refine EachU.cons (o := ⟨_, _, _, _, _, _⟩) rfl (fun Kz hK => ?_) EachU.nil
    go_simp
    refine hK.out _ _ (fun h => by cases h) (fun _ => ?_)
    clear hK Kz
    try simp only [Act.put, zA, zB, zC]
    refine anyU_ready (rs := [10]) (by kernel_rfl) (by simp) ?_
    refine EachU.cons (o := ⟨_, _, _, _, _, _⟩) rfl (fun Kz hK => ?_) EachU.nil
    go_simp
    refine hK.out _ _ (fun h => by cases h) (fun _ => ?_)
    clear hK Kz
    try simp only [Act.put, zA, zB, zC]
    refine anyU_done (by kernel_rfl) ?_ _
    clear hHeld K d0 d1 d2 d3
    go_upto_region 20 with fail
    clear x0 x1 x2 x3 fx
    generalize w10.setCell _ _ = wx at *
    obtain ⟨d0, d1, d2, d3⟩ := row4T K10.out.bx
    obtain ⟨z0, z1, z2, z3⟩ := row4T K10.out.rs
    have f0 := frozen_of_row _ _ 0 _ _ K10.out.rs
    have f1 := frozen_of_row _ _ 1 _ _ K10.out.rs
    have f2 := frozen_of_row _ _ 2 _ _ K10.out.rs
    have f3 := frozen_of_row _ _ 3 _ _ K10.out.rs
    have HT := Lib.hid (store4B (.int .i64 r) (.int .i64 s) (.int .i64 n) (.slice (some ⟨g2, 0, none⟩) (M.length + 1) cap) K10.out.rs)
    go_wp2_with fail
    refine bodyPost_ret (res_tabB rfl _ _ (C + 1) _ _ _ _ rfl HT.out.1) rfl ?_
    exact K10.out.fin HT.out.2 (by rw [HM10.out]) HR.out hl10 HN10.out
   ·go_simp
    first | (have HAMz := Lib.hid (fun p hp => (HAM.out p hp).more (grown_none (World.grownBy_alloc _ (.cells #[.int .i64 1] 3) none) _)); clear HAM; have HAM := HAMz; clear HAMz) | skip
    have HONE := Lib.hid (one_of hHeld.out)
    refine hK.out _ _ (fun _ => Lib.hid (hHeld.out.keep (World.grownBy_alloc _ _ _))) (fun hH2 => ?_)
    clear hK Kz hHeld
    have hHeld := hH2 rfl
    clear hH2
    try simp only [Act.put, zA, zB, zC]
    refine anyU_ready (rs := [4]) (by kernel_rfl) (by simp) ?_
    refine EachU.cons (o := ⟨_, _, _, _, _, _⟩) rfl (fun Kz hK => ?_) EachU.nil
    go_simp
    go_at_call 27
    refine (pick_any I64 a _ 0 4 4 (by omega) (by omega) _ hHeld.out.st.2 (HAM.out _ (by first | rfl | simp))).mono ?_
    rintro e' w8 ⟨z, rfl, -, hs⟩
    first | (have HONEz := Lib.hid (fun p hp => (HONE.out p hp).tape (by have := HA.out; omega) hs.1); clear HONE; have HONE := HONEz; clear HONEz) | skip
    have HN8 := Lib.hid (hHeld.out.tape hs)
    clear hs HAM
    simp only
    refine hK.out _ _ (fun _ => HN8) (fun hH2 => ?_)
    clear hK Kz hHeld
    have hHeld := hH2 rfl
    clear hH2
    try simp only [Act.put, zA, zB, zC]
    refine zU (i := 6) (v := ?_) rfl ?_ hHeld ?_
    rotate_left 1
    ·intro u hSu
     obtain ⟨d0u, d1u, d2u, d3u⟩ := row4T hSu.out.bx
     go_simp
     first | done | with_reducible rfl
    try simp only [Act.put, zA, zB, zC]
    refine anyU_ready (rs := [7]) (by kernel_rfl) (by simp) ?_
    refine EachU.cons (o := ⟨_, _, _, _, _, _⟩) rfl (fun Kz hK => ?_) EachU.nil
    have hsz : w2.heap.size + 1 = (w2.alloc (.cells #[.int .i64 0, .int .i64 1, .int .i64 256, .int .i64 257] 3)).drew.heap.size := by simp
    first | (have hz : Hid (BN a W lo C D od r s n (.slice p2 M.length c2) M w8) := by with_reducible exact hHeld) | (generalize w8.alloc _ = w9 at *)
    first | (have HON := HONE.out w8.heap.size (by with_reducible rfl); generalize w8.heap.size = p1 at *) | (have HON := HONE.out (w2.heap.size + 1) (by with_reducible exact hsz); generalize w2.heap.size + 1 = p1 at *) | (have HON := HONE.out w2.heap.size (by first | rfl | simp); generalize w2.heap.size = p1 at *)
    clear HONE hsz
    first | (clear hz; obtain ⟨w9, rfl⟩ : ∃ w9, w9 = w8 := ⟨_, rfl⟩) | skip
    have K9 := Lib.hid hHeld.out
    go_simp
    refine hK.out _ _ (fun _ => Lib.hid (hHeld.out.keep (World.grownBy_alloc _ _ _))) (fun hH2 => ?_)
    clear hK Kz hHeld
    have hHeld := hH2 rfl
    clear hH2
    try simp only [Act.put, zA, zB, zC]
    refine anyU_ready (rs := [8]) (by kernel_rfl) (by simp) ?_
    refine EachU.cons (o := ⟨_, _, _, _, _, _⟩) rfl (fun Kz hK => ?_) EachU.nil
    refine step_append_lies _ (by rfl) _ _ 23 (by rfl) lo 80 ii (.agg #[.int .i64 0, .slice none 0 0]) 2 32 Tryz.underlying23 hii hi0 hi1 hi2 rfl (by decide) (.slice p2 M.length c2) M.length (M.flatMap rwC) (by rfl) (K9.out.own.own.alloc _) ⟨w9.heap.size, 0, none⟩ 1 1 (rwC ⟨z, [1], some ⟨p1, 0, none⟩, 1⟩) (by rfl) (by rfl) (rwB_row w9 ⟨z, [1], some ⟨p1, 0, none⟩, 1⟩ _) (rw_one ⟨z, [1], some ⟨p1, 0, none⟩, 1⟩) (by decide) (by unfold maxLen; omega) (by omega) (Nat.le_trans (Nat.le_trans K9.out.lo.2.2.1 (Nat.le_of_lt (Nat.lt_trans (Nat.lt_succ_self _) K9.out.lo.2.2.2))) (World.grownBy_alloc _ _ none).size) _ rfl ?_
    intro g2 cap w10 hown9 hgrow hat hlt9
    have ga := World.grownBy_alloc w9 (.cells #[.int .i64 z, .slice (some ⟨p1, 0, none⟩) 1 1] 80) none
    have hv : (Value.slice (some ⟨g2, 0, none⟩) (M.length + 1) cap).ownBlock = (Value.slice p2 M.length c2).ownBlock ∨ ∀ b, some b = (Value.slice (some ⟨g2, 0, none⟩) (M.length + 1) cap).ownBlock → (w9.alloc (.cells #[.int .i64 z, .slice (some ⟨p1, 0, none⟩) 1 1] 80)).heap.size ≤ b := by
     rcases hat with h | h
     ·exact Or.inl h.symm
     ·refine Or.inr fun b e => ?_
      have e2 : some b = some g2 := e
      have := Option.some.inj e2
      rw [this, h]
      exact Nat.le_refl _
    have hpu := (K9.out.keep ga).push (x := ⟨z, [1], some ⟨p1, 0, none⟩, 1⟩) (v' := .slice (some ⟨g2, 0, none⟩) (M.length + 1) cap) (HON.keep ga).1 (fun b e => by
     have e2 : some p1 = some b := e
     have := Option.some.inj e2
     subst this
     exact HON.2) (by rw [List.length_append, List.flatMap_append]; simpa [rwC] using hown9) hgrow hv
    have HN10 : ∀ q ∈ M ++ [(⟨z, [1], some ⟨p1, 0, none⟩, 1⟩ : Rw)], q.nx.length ≤ 101 := fun q hq => by
     rcases List.mem_append.1 hq with h | h
     ·have := HN.out q h; omega
     ·rw [List.mem_singleton.1 h]; show (1 : Nat) ≤ 101; omega
    obtain ⟨M10, hM10⟩ : ∃ M10, M ++ [(⟨z, [1], some ⟨p1, 0, none⟩, 1⟩ : Rw)] = M10 := ⟨_, rfl⟩
    have HM10 : Hid (M10.length = M.length + 1) := Lib.hid (by rw [← hM10, List.length_append]; rfl)
    rw [hM10] at hpu HN10
    have HN10 := Lib.hid HN10
    have hl10 : M10.length ≤ 101 := by rw [HM10.out]; omega
    obtain ⟨x0, x1, x2, x3⟩ := row4T hpu.1
    have fx := frozen_of_row _ _ 3 _ _ hpu.1
    have K10 := Lib.hid hpu.2
    clear hM10 hown9 hgrow hat hlt9 ga hv hpu HON K9
    refine hK.out _ _ (fun h => by cases h) (fun _ => ?_)
    clear hK Kz
    try simp only [Act.put, zA, zB, zC]
    refine anyU_ready (rs := [9]) (by kernel_rfl) (by simp) ?_
    refine EachU.cons (o := ⟨_, _, _, _, _, _⟩) rfl (fun Kz hK => ?_) EachU.nil
    go_simp
    refine hK.out _ _ (fun h => by cases h) (fun _ => ?_)
    clear hK Kz
    try simp only [Act.put, zA, zB, zC]
    refine anyU_ready (rs := [10]) (by kernel_rfl) (by simp) ?_
    refine EachU.cons (o := ⟨_, _, _, _, _, _⟩) rfl (fun Kz hK => ?_) EachU.nil
    go_simp
    refine hK.out _ _ (fun h => by cases h) (fun _ => ?_)
    clear hK Kz
    try simp only [Act.put, zA, zB, zC]
    refine anyU_done (by kernel_rfl) ?_ _
    clear hHeld K d0 d1 d2 d3
    go_upto_region 20 with fail
    clear x0 x1 x2 x3 fx
    generalize w10.setCell _ _ = wx at *
    obtain ⟨d0, d1, d2, d3⟩ := row4T K10.out.bx
    obtain ⟨z0, z1, z2, z3⟩ := row4T K10.out.rs
    have f0 := frozen_of_row _ _ 0 _ _ K10.out.rs
    have f1 := frozen_of_row _ _ 1 _ _ K10.out.rs
    have f2 := frozen_of_row _ _ 2 _ _ K10.out.rs
    have f3 := frozen_of_row _ _ 3 _ _ K10.out.rs
    have HT := Lib.hid (store4B (.int .i64 r) (.int .i64 s) (.int .i64 n) (.slice (some ⟨g2, 0, none⟩) (M.length + 1) cap) K10.out.rs)
    go_wp2_with fail
    refine bodyPost_ret (res_tabB rfl _ _ (C + 1) _ _ _ _ rfl HT.out.1) rfl ?_
    exact K10.out.fin HT.out.2 (by rw [HM10.out]) HR.out hl10 HN10.out
  ·go_simp
   first | (have HAMz := Lib.hid (fun p hp => (HAM.out p hp).more (grown_none (World.grownBy_alloc _ (.cells #[.int .i64 1] 3) none) _)); clear HAM; have HAM := HAMz; clear HAMz) | skip
   have HONE := Lib.hid (one_of hHeld.out)
   refine hK.out _ _ (fun _ => Lib.hid (hHeld.out.keep (World.grownBy_alloc _ _ _))) (fun hH2 => ?_)
   clear hK Kz hHeld
   have hHeld := hH2 rfl
   clear hH2
   try simp only [Act.put, zA, zB, zC]
   refine anyU_ready (rs := [3]) (by kernel_rfl) (by simp) ?_
   refine EachU.cons (o := ⟨_, _, _, _, _, _⟩) rfl (fun Kz hK => ?_) EachU.nil
   go_simp
   first | (have HONEz := Lib.hid (fun p hp => (HONE.out p hp).keep (World.grownBy_alloc _ (.cells #[.int .i64 0, .int .i64 1, .int .i64 256, .int .i64 257] 3) none)); clear HONE; have HONE := HONEz; clear HONEz) | skip
   have HAM := Lib.hid (bn_amongP hHeld.out [0, 1, 256, 257] #[.int .i64 0, .int .i64 1, .int .i64 256, .int .i64 257] 3 rfl (by intro x hx; simp at hx; rcases hx with rfl | rfl | rfl | rfl <;> (unfold I64; omega)))
   refine hK.out _ _ (fun _ => Lib.hid (hHeld.out.keep (World.grownBy_alloc _ _ _))) (fun hH2 => ?_)
   clear hK Kz hHeld
   have hHeld := hH2 rfl
   clear hH2
   try simp only [Act.put, zA, zB, zC]
   refine anyU_ready (rs := [4]) (by kernel_rfl) (by simp) ?_
   refine EachU.cons (o := ⟨_, _, _, _, _, _⟩) rfl (fun Kz hK => ?_) EachU.nil
   go_simp
   go_at_call 27
   refine (pick_any I64 a _ 0 4 4 (by omega) (by omega) _ hHeld.out.st.2 (HAM.out _ (by first | rfl | simp))).mono ?_
   rintro e' w8 ⟨z, rfl, -, hs⟩
   first | (have HONEz := Lib.hid (fun p hp => (HONE.out p hp).tape (by have := HA.out; omega) hs.1); clear HONE; have HONE := HONEz; clear HONEz) | skip
   have HN8 := Lib.hid (hHeld.out.tape hs)
   clear hs HAM
   simp only
   refine hK.out _ _ (fun _ => HN8) (fun hH2 => ?_)
   clear hK Kz hHeld
   have hHeld := hH2 rfl
   clear hH2
   try simp only [Act.put, zA, zB, zC]
   refine zU (i := 6) (v := ?_) rfl ?_ hHeld ?_
   rotate_left 1
   ·intro u hSu
    obtain ⟨d0u, d1u, d2u, d3u⟩ := row4T hSu.out.bx
    go_simp
    first | done | with_reducible rfl
   try simp only [Act.put, zA, zB, zC]
   refine anyU_ready (rs := [7]) (by kernel_rfl) (by simp) ?_
   refine EachU.cons (o := ⟨_, _, _, _, _, _⟩) rfl (fun Kz hK => ?_) EachU.nil
   have hsz : w2.heap.size + 1 = (w2.alloc (.cells #[.int .i64 0, .int .i64 1, .int .i64 256, .int .i64 257] 3)).drew.heap.size := by simp
   first | (have hz : Hid (BN a W lo C D od r s n (.slice p2 M.length c2) M w8) := by with_reducible exact hHeld) | (generalize w8.alloc _ = w9 at *)
   first | (have HON := HONE.out w8.heap.size (by with_reducible rfl); generalize w8.heap.size = p1 at *) | (have HON := HONE.out (w2.heap.size + 1) (by with_reducible exact hsz); generalize w2.heap.size + 1 = p1 at *) | (have HON := HONE.out w2.heap.size (by first | rfl | simp); generalize w2.heap.size = p1 at *)
   clear HONE hsz
   first | (clear hz; obtain ⟨w9, rfl⟩ : ∃ w9, w9 = w8 := ⟨_, rfl⟩) | skip
   have K9 := Lib.hid hHeld.out
   go_simp
   refine hK.out _ _ (fun _ => Lib.hid (hHeld.out.keep (World.grownBy_alloc _ _ _))) (fun hH2 => ?_)
   clear hK Kz hHeld
   have hHeld := hH2 rfl
   clear hH2
   try simp only [Act.put, zA, zB, zC]
   refine anyU_ready (rs := [8]) (by kernel_rfl) (by simp) ?_
   refine EachU.cons (o := ⟨_, _, _, _, _, _⟩) rfl (fun Kz hK => ?_) EachU.nil
   refine step_append_lies _ (by rfl) _ _ 23 (by rfl) lo 80 ii (.agg #[.int .i64 0, .slice none 0 0]) 2 32 Tryz.underlying23 hii hi0 hi1 hi2 rfl (by decide) (.slice p2 M.length c2) M.length (M.flatMap rwC) (by rfl) (K9.out.own.own.alloc _) ⟨w9.heap.size, 0, none⟩ 1 1 (rwC ⟨z, [1], some ⟨p1, 0, none⟩, 1⟩) (by rfl) (by rfl) (rwB_row w9 ⟨z, [1], some ⟨p1, 0, none⟩, 1⟩ _) (rw_one ⟨z, [1], some ⟨p1, 0, none⟩, 1⟩) (by decide) (by unfold maxLen; omega) (by omega) (Nat.le_trans (Nat.le_trans K9.out.lo.2.2.1 (Nat.le_of_lt (Nat.lt_trans (Nat.lt_succ_self _) K9.out.lo.2.2.2))) (World.grownBy_alloc _ _ none).size) _ rfl ?_
   intro g2 cap w10 hown9 hgrow hat hlt9
   have ga := World.grownBy_alloc w9 (.cells #[.int .i64 z, .slice (some ⟨p1, 0, none⟩) 1 1] 80) none
   have hv : (Value.slice (some ⟨g2, 0, none⟩) (M.length + 1) cap).ownBlock = (Value.slice p2 M.length c2).ownBlock ∨ ∀ b, some b = (Value.slice (some ⟨g2, 0, none⟩) (M.length + 1) cap).ownBlock → (w9.alloc (.cells #[.int .i64 z, .slice (some ⟨p1, 0, none⟩) 1 1] 80)).heap.size ≤ b := by
    rcases hat with h | h
    ·exact Or.inl h.symm
    ·refine Or.inr fun b e => ?_
     have e2 : some b = some g2 := e
     have := Option.some.inj e2
     rw [this, h]
     exact Nat.le_refl _
   have hpu := (K9.out.keep ga).push (x := ⟨z, [1], some ⟨p1, 0, none⟩, 1⟩) (v' := .slice (some ⟨g2, 0, none⟩) (M.length + 1) cap) (HON.keep ga).1 (fun b e => by
    have e2 : some p1 = some b := e
    have := Option.some.inj e2
    subst this
    exact HON.2) (by rw [List.length_append, List.flatMap_append]; simpa [rwC] using hown9) hgrow hv
   have HN10 : ∀ q ∈ M ++ [(⟨z, [1], some ⟨p1, 0, none⟩, 1⟩ : Rw)], q.nx.length ≤ 101 := fun q hq => by
    rcases List.mem_append.1 hq with h | h
    ·have := HN.out q h; omega
    ·rw [List.mem_singleton.1 h]; show (1 : Nat) ≤ 101; omega
   obtain ⟨M10, hM10⟩ : ∃ M10, M ++ [(⟨z, [1], some ⟨p1, 0, none⟩, 1⟩ : Rw)] = M10 := ⟨_, rfl⟩
   have HM10 : Hid (M10.length = M.length + 1) := Lib.hid (by rw [← hM10, List.length_append]; rfl)
   rw [hM10] at hpu HN10
   have HN10 := Lib.hid HN10
   have hl10 : M10.length ≤ 101 := by rw [HM10.out]; omega
   obtain ⟨x0, x1, x2, x3⟩ := row4T hpu.1
   have fx := frozen_of_row _ _ 3 _ _ hpu.1
   have K10 := Lib.hid hpu.2
   clear hM10 hown9 hgrow hat hlt9 ga hv hpu HON K9
   refine hK.out _ _ (fun h => by cases h) (fun _ => ?_)
   clear hK Kz
   try simp only [Act.put, zA, zB, zC]
   refine anyU_ready (rs := [9]) (by kernel_rfl) (by simp) ?_
   refine EachU.cons (o := ⟨_, _, _, _, _, _⟩) rfl (fun Kz hK => ?_) EachU.nil
   go_simp
   refine hK.out _ _ (fun h => by cases h) (fun _ => ?_)
   clear hK Kz
   try simp only [Act.put, zA, zB, zC]
   refine anyU_ready (rs := [10]) (by kernel_rfl) (by simp) ?_
   refine EachU.cons (o := ⟨_, _, _, _, _, _⟩) rfl (fun Kz hK => ?_) EachU.nil
   go_simp
   refine hK.out _ _ (fun h => by cases h) (fun _ => ?_)
   clear hK Kz
   try simp only [Act.put, zA, zB, zC]
   refine anyU_done (by kernel_rfl) ?_ _
   clear hHeld K d0 d1 d2 d3
   go_upto_region 20 with fail
   clear x0 x1 x2 x3 fx
   generalize w10.setCell _ _ = wx at *
   obtain ⟨d0, d1, d2, d3⟩ := row4T K10.out.bx
   obtain ⟨z0, z1, z2, z3⟩ := row4T K10.out.rs
   have f0 := frozen_of_row _ _ 0 _ _ K10.out.rs
   have f1 := frozen_of_row _ _ 1 _ _ K10.out.rs
   have f2 := frozen_of_row _ _ 2 _ _ K10.out.rs
   have f3 := frozen_of_row _ _ 3 _ _ K10.out.rs
   have HT := Lib.hid (store4B (.int .i64 r) (.int .i64 s) (.int .i64 n) (.slice (some ⟨g2, 0, none⟩) (M.length + 1) cap) K10.out.rs)
   go_wp2_with fail
   refine bodyPost_ret (res_tabB rfl _ _ (C + 1) _ _ _ _ rfl HT.out.1) rfl ?_
   exact K10.out.fin HT.out.2 (by rw [HM10.out]) HR.out hl10 HN10.out
 have e3 : (k == 3) = false := by simpa using k3
 clear k0 k1 k2 k3
 obtain ⟨d0, d1, d2, d3⟩ := row4T K.out.bx
 by_cases m0 : 0 < M.length
 case neg =>
  have hm' : ¬ (0 : Int) < (M.length : Int) := by omega
  clear m0
  obtain ⟨d0, d1, d2, d3⟩ := row4T K.out.bx
  obtain ⟨z0, z1, z2, z3⟩ := row4T K.out.rs
  have f0 := frozen_of_row _ _ 0 _ _ K.out.rs
  have f1 := frozen_of_row _ _ 1 _ _ K.out.rs
  have f2 := frozen_of_row _ _ 2 _ _ K.out.rs
  have f3 := frozen_of_row _ _ 3 _ _ K.out.rs
  have HT := Lib.hid (store4B (.int .i64 r) (.int .i64 s) (.int .i64 n) (.slice p2 M.length c2) K.out.rs)
  go_wp2_with fail
  refine bodyPost_ret (res_tabB rfl _ _ (C + 1) _ _ _ _ rfl HT.out.1) rfl ?_
  exact K.out.fin HT.out.2 rfl HR.out (by omega) (fun y hy => by have := HN.out y hy; omega)
 have hm' : (0 : Int) < (M.length : Int) := by omega
 obtain ⟨g, rfl⟩ := own_p3 K.out.own.own m0
 go_upto_region 3 with fail
 refine wp_region_held_drew (S := fun w' => Hid (BN a W lo C D od r s n (.slice (some ⟨g, 0, none⟩) M.length c2) M w')) (by kernel_rfl) (Lib.hid (K.out.keep (grown_drew (grown_refl _ none)))) (fun hHeld => ?_)
 refine zT (i := 0) (v := ?_) rfl ?_ hHeld ?_
 rotate_left 1
 ·intro u hSu
  go_simp
  first | done | with_reducible rfl
 try simp only [Act.put, zA, zB, zC]
 refine zT (i := 1) (v := ?_) rfl ?_ hHeld ?_
 rotate_left 1
 ·intro u hSu
  obtain ⟨d0u, d1u, d2u, d3u⟩ := row4T hSu.out.bx
  go_simp
  first | done | with_reducible rfl
 try simp only [Act.put, zA, zB, zC]
 refine zT (i := 2) (v := ?_) rfl ?_ hHeld ?_
 rotate_left 1
 ·intro u hSu
  go_simp
  first | done | with_reducible rfl
 try simp only [Act.put, zA, zB, zC]
 refine zT (i := 3) (v := ?_) rfl ?_ hHeld ?_
 rotate_left 1
 ·intro u hSu
  go_simp
  first | done | with_reducible rfl
 try simp only [Act.put, zA, zB, zC]
 refine zT (i := 4) (v := ?_) rfl ?_ hHeld ?_
 rotate_left 1
 ·intro u hSu
  obtain ⟨d0u, d1u, d2u, d3u⟩ := row4T hSu.out.bx
  go_simp
  first | done | with_reducible rfl
 try simp only [Act.put, zA, zB, zC]
 refine zT (i := 5) (v := ?_) rfl ?_ hHeld ?_
 rotate_left 1
 ·intro u hSu
  obtain ⟨d0u, d1u, d2u, d3u⟩ := row4T hSu.out.bx
  go_simp
  first | done | with_reducible rfl
 try simp only [Act.put, zA, zB, zC]
 refine wpAnyH_ready (rs := [6]) (by kernel_rfl) (by simp) ?_
 refine AllReadyH.cons (o := ⟨_, _, _, _, _, _⟩) rfl (fun Kz hK => ?_) AllReadyH.nil
 go_simp
 go_at_call 29
 refine (next_any a (M.length : Int) (by unfold I64; omega) _ hHeld.out.st.2).mono ?_
 rintro e' w4 ⟨jz, rfl, hjz, hs⟩
 have HN4 := Lib.hid (hHeld.out.tape hs)
 have hj2 : 0 ≤ jz ∧ jz < (M.length : Int) := by unfold CutOf at hjz; omega
 obtain ⟨j, rfl⟩ : ∃ j : Nat, jz = (j : Int) := ⟨jz.toNat, by omega⟩
 have hj : j < M.length := by omega
 have hj0 := hj2.1
 have hj1 := hj2.2
 clear hs hjz hj2
 simp only
 refine hK.out _ _ (HN4) (fun hH2 => ?_)
 clear hK Kz hHeld
 have hHeld := hH2
 clear hH2
 try simp only [Act.put, zA, zB, zC]
 refine zT (i := 7) (v := ?_) rfl ?_ hHeld ?_
 rotate_left 1
 ·intro u hSu
  go_simp
  first | done | with_reducible rfl
 try simp only [Act.put, zA, zB, zC]
 refine zT (i := 8) (v := ?_) rfl ?_ hHeld ?_
 rotate_left 1
 ·intro u hSu
  go_simp
  first | done | with_reducible rfl
 try simp only [Act.put, zA, zB, zC]
 refine wpAnyH_done (by kernel_rfl) ?_ _
 have K3 := Lib.hid hHeld.out
 clear hHeld K d0 d1 d2 d3 hm' e0 e1 e2 e3
 obtain ⟨y, hy⟩ : ∃ y, M[j]? = some y := ⟨_, List.getElem?_eq_getElem hj⟩
 have HY := Lib.hid hy
 have hyN := HN.out y (List.mem_of_getElem? hy)
 clear hy
 go_wp2_with fail
 refine (next_any a 4 (by unfold I64; omega) _ K3.out.st.2).mono ?_
 rintro e w5 ⟨q, rfl, -, hs⟩
 have K5 := Lib.hid (K3.out.tape hs)
 clear hs K3
 obtain ⟨y0, y1⟩ := rw_atB K5.out.own.own HY.out
 unfold Rw.v at y1
 have yf := K5.out.own.own.frozenAt (j * 2 + 1)
 by_cases q0 : q = 0
 case pos =>
  have e0 : (q == 0) = true := by simpa using q0
  clear q0
  go_upto_region 7 with fail
  refine region_until (S := fun w' => Hid (BQ lo C r s n (.slice (some ⟨g, 0, none⟩) M.length c2) M w')) (fun j => j == 12) (by kernel_rfl) (Lib.hid (bq_of (K5.out.keep (grown_drew (grown_refl _ none))))) (fun hHeld => ?_)
  refine zU (i := 0) (v := ?_) rfl ?_ hHeld ?_
  rotate_left 1
  ·intro u hSu
   have y1u := (rw_atB hSu.out.2 HY.out).2
   unfold Rw.v at y1u
   obtain ⟨d0u, d1u, d2u, d3u⟩ := row4T hSu.out.1
   go_simp
   first | done | with_reducible rfl
  try simp only [Act.put, zA, zB, zC]
  refine zU (i := 1) (v := ?_) rfl ?_ hHeld ?_
  rotate_left 1
  ·intro u hSu
   have y1u := (rw_atB hSu.out.2 HY.out).2
   unfold Rw.v at y1u
   obtain ⟨d0u, d1u, d2u, d3u⟩ := row4T hSu.out.1
   go_simp
   first | done | with_reducible rfl
  try simp only [Act.put, zA, zB, zC]
  refine zU (i := 2) (v := ?_) rfl ?_ hHeld ?_
  rotate_left 1
  ·intro u hSu
   have y1u := (rw_atB hSu.out.2 HY.out).2
   unfold Rw.v at y1u
   obtain ⟨d0u, d1u, d2u, d3u⟩ := row4T hSu.out.1
   go_simp
   first | done | with_reducible rfl
  try simp only [Act.put, zA, zB, zC]
  refine zU (i := 3) (v := ?_) rfl ?_ hHeld ?_
  rotate_left 1
  ·intro u hSu
   have y1u := (rw_atB hSu.out.2 HY.out).2
   unfold Rw.v at y1u
   obtain ⟨d0u, d1u, d2u, d3u⟩ := row4T hSu.out.1
   go_simp
   first | done | with_reducible rfl
  try simp only [Act.put, zA, zB, zC]
  refine zU (i := 4) (v := ?_) rfl ?_ hHeld ?_
  rotate_left 1
  ·intro u hSu
   have y1u := (rw_atB hSu.out.2 HY.out).2
   unfold Rw.v at y1u
   obtain ⟨d0u, d1u, d2u, d3u⟩ := row4T hSu.out.1
   go_simp
   first | done | with_reducible rfl
  try simp only [Act.put, zA, zB, zC]
  refine zU (i := 5) (v := ?_) rfl ?_ hHeld ?_
  rotate_left 1
  ·intro u hSu
   have y1u := (rw_atB hSu.out.2 HY.out).2
   unfold Rw.v at y1u
   obtain ⟨d0u, d1u, d2u, d3u⟩ := row4T hSu.out.1
   go_simp
   first | done | with_reducible rfl
  try simp only [Act.put, zA, zB, zC]
  refine anyU_ready (rs := [6]) (by kernel_rfl) (by simp) ?_
  refine EachU.cons (o := ⟨_, _, _, _, _, _⟩) rfl (fun Kz hK => ?_) EachU.nil
  go_simp
  have KD := Lib.hid (K5.out.keep (grown_drew (grown_refl w5 none)))
  have HAM := Lib.hid (bn_among KD.out [0, 1, 6, 99, 100] #[.int .i64 0, .int .i64 1, .int .i64 6, .int .i64 99, .int .i64 100] 3 rfl (by intro x hx; simp at hx; rcases hx with rfl | rfl | rfl | rfl | rfl <;> (unfold I64; omega)))
  have KA := Lib.hid (KD.out.keep (HAL.out w5.drew #[.int .i64 0, .int .i64 1, .int .i64 6, .int .i64 99, .int .i64 100] 3))
  refine hK.out _ _ (fun _ => Lib.hid (bq_of KA.out)) (fun hH2 => ?_)
  clear hK Kz hHeld
  have hHeld := hH2 rfl
  clear hH2
  try simp only [Act.put, zA, zB, zC]
  refine anyU_ready (rs := [7]) (by kernel_rfl) (by simp) ?_
  refine EachU.cons (o := ⟨_, _, _, _, _, _⟩) rfl (fun Kz hK => ?_) EachU.nil
  go_simp
  go_at_call 27
  refine (pick_any I64 a _ 0 5 5 (by omega) (by omega) _ KA.out.st.2 HAM.out).mono ?_
  rintro e' w8 ⟨z, rfl, -, hs⟩
  have K8 := Lib.hid (KA.out.tape hs)
  clear hs HAM KA KD
  simp only
  refine hK.out _ _ (fun _ => Lib.hid (bq_of K8.out)) (fun hH2 => ?_)
  clear hK Kz hHeld
  have hHeld := hH2 rfl
  clear hH2
  try simp only [Act.put, zA, zB, zC]
  refine anyU_ready (rs := [8]) (by kernel_rfl) (by simp) ?_
  refine EachU.cons (o := ⟨_, _, _, _, _, _⟩) rfl (fun Kz hK => ?_) EachU.nil
  go_simp
  refine hK.out _ _ (fun _ => Lib.hid (bq_of (K8.out.keep (World.grownBy_alloc _ _ _)))) (fun hH2 => ?_)
  clear hK Kz hHeld
  have hHeld := hH2 rfl
  clear hH2
  try simp only [Act.put, zA, zB, zC]
  refine anyU_ready (rs := [9]) (by kernel_rfl) (by simp) ?_
  refine EachU.cons (o := ⟨_, _, _, _, _, _⟩) rfl (fun Kz hK => ?_) EachU.nil
  refine step_append_lies _ (by rfl) _ _ 22 (by rfl) lo 3 ie (.int .i64 0) 1 8 Tryz.underlying22 hie he0 he1 he2 rfl (by decide) (.slice y.p y.nx.length y.c) y.nx.length (y.nx.map tv) (by rfl) ((K8.out.own.nx y (List.mem_of_getElem? HY.out)).alloc _) ⟨w8.heap.size, 0, none⟩ 1 1 [.int .i64 z] (by rfl) (by rfl) (i64_row w8 z _) (fun u hu => by rw [List.mem_singleton.1 hu]; rfl) (by decide) (by unfold maxLen; omega) (by omega) (Nat.le_trans (Nat.le_trans K8.out.lo.2.2.1 (Nat.le_of_lt (Nat.lt_trans (Nat.lt_succ_self _) K8.out.lo.2.2.2))) (World.grownBy_alloc _ _ none).size) _ rfl ?_
  intro g2 cap w9 hown9 hgrow hat hlt9
  have ga := World.grownBy_alloc (w8) (.cells #[.int .i64 z] 3) none
  have K9 := (K8.out.keep ga).setR (x := ⟨y.id, y.nx ++ [z], some ⟨g2, 0, none⟩, cap⟩) HY.out rfl hgrow (by show w9.ownsRow lo _ 1 (.slice (some ⟨g2, 0, none⟩) (y.nx ++ [z]).length cap) _ _; rw [List.length_append, List.map_append]; exact hown9) (fun b e => by
   have e2 : some g2 = some b := e
   have e3 := Option.some.inj e2
   rcases hat with h | h
   ·exact Or.inl (by rw [← e3]; exact h)
   ·exact Or.inr (by rw [← e3, h]; exact Nat.le_refl _))
  have y9 := own_keptV (K8.out.keep ga).own.own hgrow (fun b hb e => K8.out.own.ap y (List.mem_of_getElem? HY.out) b e hb)
  have HQ9 := Lib.hid (show BQ lo C r s n (.slice (some ⟨g, 0, none⟩) M.length c2) M w9 from ⟨kept_row (K8.out.keep ga).bx hgrow (fun e => (K8.out.nb C (Or.inr ⟨y, List.mem_of_getElem? HY.out, e.symm⟩)).1 rfl), y9⟩)
  have y1z := (rw_atB y9 HY.out).2
  unfold Rw.v at y1z K9
  have yfz := y9.frozenAt (j * 2 + 1)
  simp only [List.length_append, List.length_singleton] at K9
  have HN9 := Lib.hid (set_len (M := M) (k := j) (x := ⟨y.id, y.nx ++ [z], some ⟨g2, 0, none⟩, cap⟩) HN.out (by show (y.nx ++ [z]).length ≤ 101; rw [List.length_append]; show _ + 1 ≤ _; omega))
  obtain ⟨M9, hM9⟩ : ∃ M9, M.set j ⟨y.id, y.nx ++ [z], some ⟨g2, 0, none⟩, cap⟩ = M9 := ⟨_, rfl⟩
  have HM9 : Hid (M9.length = M.length) := Lib.hid (by rw [← hM9, List.length_set])
  rw [hM9] at K9 HN9
  have hl9 : M9.length ≤ 101 := by rw [HM9.out]; omega
  have K9 := Lib.hid K9
  clear hM9 hown9 hgrow hat hlt9 ga y9 K8
  refine hK.out _ _ (fun _ => HQ9) (fun hH2 => ?_)
  clear hK Kz hHeld
  have hHeld := hH2 rfl
  clear hH2
  try simp only [Act.put, zA, zB, zC]
  refine zU (i := 10) (v := ?_) rfl ?_ hHeld ?_
  rotate_left 1
  ·intro u hSu
   have y1u := (rw_atB hSu.out.2 HY.out).2
   unfold Rw.v at y1u
   obtain ⟨d0u, d1u, d2u, d3u⟩ := row4T hSu.out.1
   go_simp
   first | done | with_reducible rfl
  try simp only [Act.put, zA, zB, zC]
  refine zU (i := 11) (v := ?_) rfl ?_ hHeld ?_
  rotate_left 1
  ·intro u hSu
   have y1u := (rw_atB hSu.out.2 HY.out).2
   unfold Rw.v at y1u
   obtain ⟨d0u, d1u, d2u, d3u⟩ := row4T hSu.out.1
   go_simp
   first | done | with_reducible rfl
  try simp only [Act.put, zA, zB, zC]
  refine anyU_ready (rs := [12]) (by kernel_rfl) (by simp) ?_
  refine EachU.cons (o := ⟨_, _, _, _, _, _⟩) rfl (fun Kz hK => ?_) EachU.nil
  go_simp
  refine hK.out _ _ (fun h => by cases h) (fun _ => ?_)
  clear hK Kz
  try simp only [Act.put, zA, zB, zC]
  refine anyU_done (by kernel_rfl) ?_ _
  clear K5 y0 y1 yf HQ9
  go_upto_region 20 with fail
  clear y1z yfz
  generalize w9.setCell _ _ = wx at *
  obtain ⟨d0, d1, d2, d3⟩ := row4T K9.out.bx
  obtain ⟨z0, z1, z2, z3⟩ := row4T K9.out.rs
  have f0 := frozen_of_row _ _ 0 _ _ K9.out.rs
  have f1 := frozen_of_row _ _ 1 _ _ K9.out.rs
  have f2 := frozen_of_row _ _ 2 _ _ K9.out.rs
  have f3 := frozen_of_row _ _ 3 _ _ K9.out.rs
  have HT := Lib.hid (store4B (.int .i64 r) (.int .i64 s) (.int .i64 n) (.slice (some ⟨g, 0, none⟩) M.length c2) K9.out.rs)
  go_wp2_with fail
  refine bodyPost_ret (res_tabB rfl _ _ (C + 1) _ _ _ _ rfl HT.out.1) rfl ?_
  exact K9.out.fin HT.out.2 (by rw [HM9.out]) HR.out hl9 HN9.out
 have e0 : (q == 0) = false := by simpa using q0
 by_cases q1 : q = 1
 case pos =>
  have e1 : (q == 1) = true := by simpa using q1
  clear q0 q1
  obtain ⟨d0, d1, d2, d3⟩ := row4T K5.out.bx
  go_upto_region 9 with fail
  refine region_until (S := fun w' => Hid (BQ lo C r s n (.slice (some ⟨g, 0, none⟩) M.length c2) M w')) (fun j => j == 11) (by kernel_rfl) (Lib.hid (bq_of (K5.out.keep (grown_drew (grown_refl _ none))))) (fun hHeld => ?_)
  refine zU (i := 0) (v := ?_) rfl ?_ hHeld ?_
  rotate_left 1
  ·intro u hSu
   have y1u := (rw_atB hSu.out.2 HY.out).2
   unfold Rw.v at y1u
   obtain ⟨d0u, d1u, d2u, d3u⟩ := row4T hSu.out.1
   go_simp
   first | done | with_reducible rfl
  try simp only [Act.put, zA, zB, zC]
  refine zU (i := 1) (v := ?_) rfl ?_ hHeld ?_
  rotate_left 1
  ·intro u hSu
   have y1u := (rw_atB hSu.out.2 HY.out).2
   unfold Rw.v at y1u
   obtain ⟨d0u, d1u, d2u, d3u⟩ := row4T hSu.out.1
   go_simp
   first | done | with_reducible rfl
  try simp only [Act.put, zA, zB, zC]
  refine zU (i := 2) (v := ?_) rfl ?_ hHeld ?_
  rotate_left 1
  ·intro u hSu
   have y1u := (rw_atB hSu.out.2 HY.out).2
   unfold Rw.v at y1u
   obtain ⟨d0u, d1u, d2u, d3u⟩ := row4T hSu.out.1
   go_simp
   first | done | with_reducible rfl
  try simp only [Act.put, zA, zB, zC]
  refine zU (i := 3) (v := ?_) rfl ?_ hHeld ?_
  rotate_left 1
  ·intro u hSu
   have y1u := (rw_atB hSu.out.2 HY.out).2
   unfold Rw.v at y1u
   obtain ⟨d0u, d1u, d2u, d3u⟩ := row4T hSu.out.1
   go_simp
   first | done | with_reducible rfl
  try simp only [Act.put, zA, zB, zC]
  refine zU (i := 4) (v := ?_) rfl ?_ hHeld ?_
  rotate_left 1
  ·intro u hSu
   have y1u := (rw_atB hSu.out.2 HY.out).2
   unfold Rw.v at y1u
   obtain ⟨d0u, d1u, d2u, d3u⟩ := row4T hSu.out.1
   go_simp
   first | done | with_reducible rfl
  try simp only [Act.put, zA, zB, zC]
  refine zU (i := 5) (v := ?_) rfl ?_ hHeld ?_
  rotate_left 1
  ·intro u hSu
   have y1u := (rw_atB hSu.out.2 HY.out).2
   unfold Rw.v at y1u
   obtain ⟨d0u, d1u, d2u, d3u⟩ := row4T hSu.out.1
   go_simp
   first | done | with_reducible rfl
  try simp only [Act.put, zA, zB, zC]
  refine zU (i := 6) (v := ?_) rfl ?_ hHeld ?_
  rotate_left 1
  ·intro u hSu
   have y1u := (rw_atB hSu.out.2 HY.out).2
   unfold Rw.v at y1u
   obtain ⟨d0u, d1u, d2u, d3u⟩ := row4T hSu.out.1
   go_simp
   first | done | with_reducible rfl
  try simp only [Act.put, zA, zB, zC]
  refine anyU_ready (rs := [7]) (by kernel_rfl) (by simp) ?_
  refine EachU.cons (o := ⟨_, _, _, _, _, _⟩) rfl (fun Kz hK => ?_) EachU.nil
  have K8 := Lib.hid (K5.out.keep (grown_drew (grown_refl w5 none)))
  go_simp
  refine hK.out _ _ (fun _ => Lib.hid (bq_of (K8.out.keep (World.grownBy_alloc _ _ _)))) (fun hH2 => ?_)
  clear hK Kz hHeld
  have hHeld := hH2 rfl
  clear hH2
  try simp only [Act.put, zA, zB, zC]
  refine anyU_ready (rs := [8]) (by kernel_rfl) (by simp) ?_
  refine EachU.cons (o := ⟨_, _, _, _, _, _⟩) rfl (fun Kz hK => ?_) EachU.nil
  refine step_append_lies _ (by rfl) _ _ 22 (by rfl) lo 3 ie (.int .i64 0) 1 8 Tryz.underlying22 hie he0 he1 he2 rfl (by decide) (.slice y.p y.nx.length y.c) y.nx.length (y.nx.map tv) (by rfl) ((K8.out.own.nx y (List.mem_of_getElem? HY.out)).alloc _) ⟨w5.drew.heap.size, 0, none⟩ 1 1 [.int .i64 r] (by rfl) (by rfl) (i64_row w5.drew r _) (fun u hu => by rw [List.mem_singleton.1 hu]; rfl) (by decide) (by unfold maxLen; omega) (by omega) (Nat.le_trans (Nat.le_trans K8.out.lo.2.2.1 (Nat.le_of_lt (Nat.lt_trans (Nat.lt_succ_self _) K8.out.lo.2.2.2))) (World.grownBy_alloc _ _ none).size) _ rfl ?_
  intro g2 cap w9 hown9 hgrow hat hlt9
  have ga := World.grownBy_alloc (w5.drew) (.cells #[.int .i64 r] 3) none
  have K9 := (K8.out.keep ga).setR (x := ⟨y.id, y.nx ++ [r], some ⟨g2, 0, none⟩, cap⟩) HY.out rfl hgrow (by show w9.ownsRow lo _ 1 (.slice (some ⟨g2, 0, none⟩) (y.nx ++ [r]).length cap) _ _; rw [List.length_append, List.map_append]; exact hown9) (fun b e => by
   have e2 : some g2 = some b := e
   have e3 := Option.some.inj e2
   rcases hat with h | h
   ·exact Or.inl (by rw [← e3]; exact h)
   ·exact Or.inr (by rw [← e3, h]; exact Nat.le_refl _))
  have y9 := own_keptV (K8.out.keep ga).own.own hgrow (fun b hb e => K8.out.own.ap y (List.mem_of_getElem? HY.out) b e hb)
  have HQ9 := Lib.hid (show BQ lo C r s n (.slice (some ⟨g, 0, none⟩) M.length c2) M w9 from ⟨kept_row (K8.out.keep ga).bx hgrow (fun e => (K8.out.nb C (Or.inr ⟨y, List.mem_of_getElem? HY.out, e.symm⟩)).1 rfl), y9⟩)
  have y1z := (rw_atB y9 HY.out).2
  unfold Rw.v at y1z K9
  have yfz := y9.frozenAt (j * 2 + 1)
  simp only [List.length_append, List.length_singleton] at K9
  have HN9 := Lib.hid (set_len (M := M) (k := j) (x := ⟨y.id, y.nx ++ [r], some ⟨g2, 0, none⟩, cap⟩) HN.out (by show (y.nx ++ [r]).length ≤ 101; rw [List.length_append]; show _ + 1 ≤ _; omega))
  obtain ⟨M9, hM9⟩ : ∃ M9, M.set j ⟨y.id, y.nx ++ [r], some ⟨g2, 0, none⟩, cap⟩ = M9 := ⟨_, rfl⟩
  have HM9 : Hid (M9.length = M.length) := Lib.hid (by rw [← hM9, List.length_set])
  rw [hM9] at K9 HN9
  have hl9 : M9.length ≤ 101 := by rw [HM9.out]; omega
  have K9 := Lib.hid K9
  clear hM9 hown9 hgrow hat hlt9 ga y9 K8
  refine hK.out _ _ (fun _ => HQ9) (fun hH2 => ?_)
  clear hK Kz hHeld
  have hHeld := hH2 rfl
  clear hH2
  try simp only [Act.put, zA, zB, zC]
  refine zU (i := 9) (v := ?_) rfl ?_ hHeld ?_
  rotate_left 1
  ·intro u hSu
   have y1u := (rw_atB hSu.out.2 HY.out).2
   unfold Rw.v at y1u
   obtain ⟨d0u, d1u, d2u, d3u⟩ := row4T hSu.out.1
   go_simp
   first | done | with_reducible rfl
  try simp only [Act.put, zA, zB, zC]
  refine zU (i := 10) (v := ?_) rfl ?_ hHeld ?_
  rotate_left 1
  ·intro u hSu
   have y1u := (rw_atB hSu.out.2 HY.out).2
   unfold Rw.v at y1u
   obtain ⟨d0u, d1u, d2u, d3u⟩ := row4T hSu.out.1
   go_simp
   first | done | with_reducible rfl
  try simp only [Act.put, zA, zB, zC]
  refine anyU_ready (rs := [11]) (by kernel_rfl) (by simp) ?_
  refine EachU.cons (o := ⟨_, _, _, _, _, _⟩) rfl (fun Kz hK => ?_) EachU.nil
  go_simp
  refine hK.out _ _ (fun h => by cases h) (fun _ => ?_)
  clear hK Kz
  try simp only [Act.put, zA, zB, zC]
  refine anyU_done (by kernel_rfl) ?_ _
  clear d0 d1 d2 d3
  clear K5 y0 y1 yf HQ9
  go_upto_region 20 with fail
  clear y1z yfz
  generalize w9.setCell _ _ = wx at *
  obtain ⟨d0, d1, d2, d3⟩ := row4T K9.out.bx
  obtain ⟨z0, z1, z2, z3⟩ := row4T K9.out.rs
  have f0 := frozen_of_row _ _ 0 _ _ K9.out.rs
  have f1 := frozen_of_row _ _ 1 _ _ K9.out.rs
  have f2 := frozen_of_row _ _ 2 _ _ K9.out.rs
  have f3 := frozen_of_row _ _ 3 _ _ K9.out.rs
  have HT := Lib.hid (store4B (.int .i64 r) (.int .i64 s) (.int .i64 n) (.slice (some ⟨g, 0, none⟩) M.length c2) K9.out.rs)
  go_wp2_with fail
  refine bodyPost_ret (res_tabB rfl _ _ (C + 1) _ _ _ _ rfl HT.out.1) rfl ?_
  exact K9.out.fin HT.out.2 (by rw [HM9.out]) HR.out hl9 HN9.out
 have e1 : (q == 1) = false := by simpa using q1
 by_cases q2 : q = 2
 case pos =>
  have e2 : (q == 2) = true := by simpa using q2
  clear q0 q1 q2
  have K6 := Lib.hid (K5.out.setR (x := ⟨y.id, [], none, 0⟩) HY.out rfl (grown_refl _ _) (World.ownsRow_nil _ _ _ _) (fun b e => by cases e))
  have HN6 := Lib.hid (set_len (M := M) (k := j) (x := ⟨y.id, [], none, 0⟩) HN.out (Nat.zero_le _))
  have hl6 : (M.set j ⟨y.id, [], none, 0⟩).length ≤ 101 := by rw [List.length_set]; omega
  unfold Rw.v at K6
  go_upto_region 20 with fail
  clear y0 y1 yf K5
  generalize w5.setCell _ _ = w6 at *
  obtain ⟨d0, d1, d2, d3⟩ := row4T K6.out.bx
  obtain ⟨z0, z1, z2, z3⟩ := row4T K6.out.rs
  have f0 := frozen_of_row _ _ 0 _ _ K6.out.rs
  have f1 := frozen_of_row _ _ 1 _ _ K6.out.rs
  have f2 := frozen_of_row _ _ 2 _ _ K6.out.rs
  have f3 := frozen_of_row _ _ 3 _ _ K6.out.rs
  have HT := Lib.hid (store4B (.int .i64 r) (.int .i64 s) (.int .i64 n) (.slice (some ⟨g, 0, none⟩) M.length c2) K6.out.rs)
  go_wp2_with fail
  refine bodyPost_ret (res_tabB rfl _ _ (C + 1) _ _ _ _ rfl HT.out.1) rfl ?_
  exact K6.out.fin HT.out.2 (by rw [List.length_set]) HR.out hl6 HN6.out
 have e2 : (q == 2) = false := by simpa using q2
 clear q0 q1 q2
 obtain ⟨d0, d1, d2, d3⟩ := row4T K5.out.bx
 go_wp2_with fail
 refine (pick_any I64 a w5.heap.size 0 5 5 (by omega) (by omega) _ (K5.out.st.2.keep (HAL.out _ _ _)) (bn_among K5.out [1, 2, 3, 9, r] _ _ rfl (by intro x hx; simp at hx; rcases hx with rfl | rfl | rfl | rfl | rfl <;> first | exact HR.out | (unfold I64; omega)))).mono ?_
 rintro e w6 ⟨z, rfl, -, hs⟩
 have K6 := Lib.hid ((K5.out.keep (HAL.out _ _ _)).tape hs)
 clear hs K5 d0 d1 d2 d3 y0 y1 yf
 have hlit : (w6.alloc (.cells #[.int .i64 z] 3)).ownsRow w6.heap.size 3 1 (.slice (some ⟨w6.heap.size, 0, none⟩) 1 1) ([z] : List Int).length (([z] : List Int).map tv) := World.ownsRow_lit w6 #[.int .i64 z] 1 (Nat.le_refl _) (by decide) rfl
 have hlo6 := K6.out.lo
 have K7 := Lib.hid (K6.out.setR (x := ⟨y.id, [z], some ⟨w6.heap.size, 0, none⟩, 1⟩) HY.out rfl (grown_none (HAL.out w6 #[.int .i64 z] 3) _) (hlit.mono (by omega)) (fun b e => Or.inr (by
  have e2 : some w6.heap.size = some b := e
  have := Option.some.inj e2
  omega)))
 have y1 := (rw_atB (own_keptN K6.out.own.own (HAL.out w6 #[.int .i64 z] 3)) HY.out).2
 unfold Rw.v at y1 K7
 have yf := (own_keptN K6.out.own.own (HAL.out w6 #[.int .i64 z] 3)).frozenAt (j * 2 + 1)
 have HN7 := Lib.hid (set_len (M := M) (k := j) (x := ⟨y.id, [z], some ⟨w6.heap.size, 0, none⟩, 1⟩) HN.out (by show (1 : Nat) ≤ 101; omega))
 have hl7 : (M.set j ⟨y.id, [z], some ⟨w6.heap.size, 0, none⟩, 1⟩).length ≤ 101 := by rw [List.length_set]; omega
 clear hlit hlo6 K6
 go_upto_region 20 with fail
 clear y1 yf
 obtain ⟨M7, hM7⟩ : ∃ M7, M.set j ⟨y.id, [z], some ⟨w6.heap.size, 0, none⟩, 1⟩ = M7 := ⟨_, rfl⟩
 have HM7 : Hid (M7.length = M.length) := Lib.hid (by rw [← hM7, List.length_set])
 rw [hM7] at K7 HN7 hl7
 clear hM7
 generalize (w6.alloc _).setCell _ _ = w7 at *
 obtain ⟨d0, d1, d2, d3⟩ := row4T K7.out.bx
 obtain ⟨z0, z1, z2, z3⟩ := row4T K7.out.rs
 have f0 := frozen_of_row _ _ 0 _ _ K7.out.rs
 have f1 := frozen_of_row _ _ 1 _ _ K7.out.rs
 have f2 := frozen_of_row _ _ 2 _ _ K7.out.rs
 have f3 := frozen_of_row _ _ 3 _ _ K7.out.rs
 have HT := Lib.hid (store4B (.int .i64 r) (.int .i64 s) (.int .i64 n) (.slice (some ⟨g, 0, none⟩) M.length c2) K7.out.rs)
 go_wp2_with fail
 refine bodyPost_ret (res_tabB rfl _ _ (C + 1) _ _ _ _ rfl HT.out.1) rfl ?_
 exact K7.out.fin HT.out.2 (by rw [HM7.out]) HR.out hl7 HN7.out
end Go.Proofs.YtpogblengagpaaaGreatDoor
