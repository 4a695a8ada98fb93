/- Parts of the proof, packed: TaBnM. -/
import Derived.Test.YtpogblengagpaaaGreatDoorPa23
/- tables: a row that gets other next hops. -/
namespace Go.Proofs.YtpogblengagpaaaGreatDoor
set_option maxRecDepth 100000
open Go.RowKit Bs
theorem flat_setW : ∀ (M : List Rw) (k : Nat) (y x : Rw), M[k]? = some y → x.id = y.id → (M.flatMap rwC).set (k * 2 + 1) x.v = (M.set k x).flatMap rwC
 | [], k, _, _, h, _ => by simp at h
 | a :: t, 0, y, x, h, hi => by
  obtain rfl : a = y := by simpa using h
  simp [rwC, Rw.v, hi]
 | a :: t, k + 1, y, x, h, hi => by
  have ih := flat_setW t k y x (by simpa using h) hi
  rw [List.flatMap_cons, List.set_cons_succ, List.flatMap_cons, ← ih]
  rw [show rwC a = [Value.int .i64 a.id, .slice a.p a.nx.length a.c] from rfl]
  rw [show (k + 1) * 2 + 1 = k * 2 + 1 + 1 + 1 by omega]
  rfl
def InB (v : Value) (M : List Rw) (b : Nat) : Prop := v.ownBlock = some b ∨ ∃ y ∈ M, y.v.ownBlock = some b
theorem OwnT.ne {lo r : Nat} {w w1 : World} {v : Value} {M : List Rw} (h : OwnT lo w v M) (g : w.grownBy w1 (some r)) (hr : ¬ InB v M r) : OwnT lo w1 v M := by
 refine ⟨h.own.kept g ?_, fun x hx => (h.nx x hx).kept g ?_, h.ap, h.pw⟩
 ·cases hv : v.ownBlock with
  | none => exact .inl rfl
  | some b => exact .inr (fun e => hr (Or.inl (hv.trans e)))
 ·cases hv : x.v.ownBlock with
  | none => exact .inl rfl
  | some b => exact .inr (fun e => hr (Or.inr ⟨x, hx, hv.trans e⟩))
theorem OwnT.lt {lo : Nat} {w : World} {v : Value} {M : List Rw} (h : OwnT lo w v M) {b : Nat} (hb : InB v M b) : lo ≤ b ∧ b < w.heap.size := by
 rcases hb with hb | ⟨y, hy, hb⟩
 ·exact h.own.lt b hb
 ·exact (h.nx y hy).lt b hb
theorem OwnT.setR {lo k : Nat} {w w1 : World} {g c : Nat} {M : List Rw} {y x : Rw} (h : OwnT lo w (.slice (some ⟨g, 0, none⟩) M.length c) M) (hy : M[k]? = some y) (hi : x.id = y.id) (g1 : w.grownBy w1 y.v.ownBlock) (hx : w1.ownsRow lo 3 1 x.v x.nx.length (x.nx.map tv)) (hn : ∀ b, x.v.ownBlock = some b → y.v.ownBlock = some b ∨ w.heap.size ≤ b) :
  OwnT lo (w1.setCell ⟨g, k * 2 + 1, none⟩ x.v) (.slice (some ⟨g, 0, none⟩) M.length c) (M.set k x) := by
 have hk : k < M.length := (List.getElem?_eq_some_iff.1 hy).1
 have hym : y ∈ M := List.mem_of_getElem? hy
 have g2 : w1.grownBy (w1.setCell ⟨g, k * 2 + 1, none⟩ x.v) (some g) := grown_setCell _ _ _
 have hgo : (Value.slice (some ⟨g, 0, none⟩) M.length c).ownBlock = some g := rfl
 have hgl := (h.own.lt g hgo).2
 have hyl : ∀ z ∈ M, ∀ b, z.v.ownBlock = some b → b < w.heap.size := fun z hz b e => ((h.nx z hz).lt b e).2
 have hother : ∀ (j : Nat) (z : Rw), M[j]? = some z → j ≠ k → ∀ b, z.v.ownBlock = some b → y.v.ownBlock ≠ some b := fun j z hz hne b hb e => by
  obtain ⟨hj, hz2⟩ := List.getElem?_eq_some_iff.1 hz
  obtain ⟨hk2, hy2⟩ := List.getElem?_eq_some_iff.1 hy
  rcases Nat.lt_or_gt_of_ne hne with hlt | hlt
  ·have := List.pairwise_iff_getElem.1 h.pw j k hj hk hlt b (by rw [hz2]; exact hb)
   rw [hy2] at this; exact this e
  ·have := List.pairwise_iff_getElem.1 h.pw k j hk hj hlt b (by rw [hy2]; exact e)
   rw [hz2] at this; exact this hb
 have hxg : ∀ b, x.v.ownBlock = some b → b ≠ g := fun b hb e => by
  subst e
  rcases hn b hb with h1 | h1
  ·exact h.ap y hym b h1 hgo
  ·omega
 have hget : ∀ (j : Nat) (z : Rw), (M.set k x)[j]? = some z → (j = k ∧ z = x) ∨ (j ≠ k ∧ M[j]? = some z) := fun j z hz => by
  rw [List.getElem?_set] at hz
  by_cases e : k = j
  ·subst e
   rw [if_pos rfl, if_pos hk] at hz
   exact Or.inl ⟨rfl, (Option.some.inj hz).symm⟩
  ·rw [if_neg e] at hz
   exact Or.inr ⟨fun h => e h.symm, hz⟩
 have hown1 : w1.ownsRow lo 80 2 (.slice (some ⟨g, 0, none⟩) M.length c) M.length (M.flatMap rwC) := own_keptV h.own g1 (fun b hb e => h.ap y hym b e hb)
 refine ⟨?_, fun z hz => ?_, fun z hz b hb e => ?_, List.pairwise_iff_getElem.2 fun i j hi2 hj2 hij b hb e => ?_⟩
 ·have := (hown1.stored (k * 2 + 1) x.v).1
  rw [flat_setW M k y x hy hi] at this
  rw [List.length_set]
  exact this
 ·obtain ⟨j, hj, hz2⟩ := List.getElem_of_mem hz
  rcases hget j z (by rw [List.getElem?_eq_getElem hj, hz2]) with ⟨-, rfl⟩ | ⟨hne, hz3⟩
  ·exact hx.kept g2 (by
    cases hv : z.v.ownBlock with
    | none => exact .inl rfl
    | some b => exact .inr (fun e => hxg b hv (Option.some.inj e)))
  ·have hzm := List.mem_of_getElem? hz3
   exact (own_keptV (h.nx z hzm) g1 (hother j z hz3 hne)).kept g2 (by
    cases hv : z.v.ownBlock with
    | none => exact .inl rfl
    | some b => exact .inr (fun e => h.ap z hzm b hv (by rw [hgo, Option.some.inj e])))
 ·obtain ⟨j, hj, hz2⟩ := List.getElem_of_mem hz
  have hbg : g = b := Option.some.inj e
  rcases hget j z (by rw [List.getElem?_eq_getElem hj, hz2]) with ⟨-, rfl⟩ | ⟨hne, hz3⟩
  ·exact hxg b hb hbg.symm
  ·exact h.ap z (List.mem_of_getElem? hz3) b hb (by rw [hgo, hbg])
 ·have h1 := hget i _ (List.getElem?_eq_getElem hi2)
  have h2 := hget j _ (List.getElem?_eq_getElem hj2)
  rcases h1 with ⟨e1, e2⟩ | ⟨n1, m1⟩
  ·rcases h2 with ⟨e3, -⟩ | ⟨n2, m2⟩
   ·omega
   ·rw [e2] at hb
    rcases hn b hb with h3 | h3
    ·exact hother j _ m2 n2 b e h3
    ·have := hyl _ (List.mem_of_getElem? m2) b e; omega
  ·rcases h2 with ⟨e3, e4⟩ | ⟨n2, m2⟩
   ·rw [e4] at e
    rcases hn b e with h3 | h3
    ·exact hother i _ m1 n1 b hb h3
    ·have := hyl _ (List.mem_of_getElem? m1) b hb; omega
   ·obtain ⟨q1, z1⟩ := List.getElem?_eq_some_iff.1 m1
    obtain ⟨q2, z2⟩ := List.getElem?_eq_some_iff.1 m2
    exact List.pairwise_iff_getElem.1 h.pw i j q1 q2 hij b (by rw [z1]; exact hb) (by rw [z2]; exact e)
theorem inB_set {v : Value} {M : List Rw} {k b : Nat} {x : Rw} (h : InB v (M.set k x) b) : InB v M b ∨ x.v.ownBlock = some b := by
 rcases h with h | ⟨z, hz, h⟩
 ·exact Or.inl (Or.inl h)
 ·rcases List.mem_or_eq_of_mem_set hz with hz | rfl
  ·exact Or.inl (Or.inr ⟨z, hz, h⟩)
  ·exact Or.inr h
structure BN (a : Nat) (W : World) (lo C D : Nat) (od : Obj) (r s n : Int) (v : Value) (M : List Rw) (w : World) : Prop where
 bx : w.heap[C]? = some (.cells #[.int .i64 r, .int .i64 s, .int .i64 n, v] 25 (0, 0))
 rs : w.heap[C + 1]? = some (.cells #[.int .i64 0, .int .i64 0, .int .i64 0, .slice none 0 0] 25 (0, 0))
 own : OwnT lo w v M
 nb : ∀ b, InB v M b → b ≠ C ∧ b ≠ C + 1 ∧ b ≠ D
 ft : w.heap[D]? = some od
 dl : W.heap.size ≤ D ∧ D < C
 st : St a W w
 lo : a < W.heap.size ∧ W.heap.size ≤ lo ∧ lo ≤ C ∧ C + 1 < w.heap.size
theorem BN.keep {a lo C D : Nat} {od : Obj} {W : World} {r s n : Int} {v : Value} {M : List Rw} {w w1 : World} (h : BN a W lo C D od r s n v M w) (g : w.grownBy w1 none) : BN a W lo C D od r s n v M w1 :=
 ⟨kept_row h.bx g (by simp), kept_row h.rs g (by simp), h.own.keep g, h.nb, kept_row h.ft g (by simp), h.dl, h.st.none_ g, h.lo.1, h.lo.2.1, h.lo.2.2.1, Nat.lt_of_lt_of_le h.lo.2.2.2 g.size⟩
theorem BN.tape {a lo C D : Nat} {od : Obj} {W : World} {r s n : Int} {v : Value} {M : List Rw} {w w1 : World} (h : BN a W lo C D od r s n v M w) (k : St a w w1) : BN a W lo C D od r s n v M w1 := by
 have hl := h.lo
 have hd := h.dl
 exact ⟨kept_row h.bx k.1 (fun e => by have := Option.some.inj e; omega), kept_row h.rs k.1 (fun e => by have := Option.some.inj e; omega), h.own.over k.1 (by omega), h.nb, kept_row h.ft k.1 (fun e => by have := Option.some.inj e; omega), h.dl, h.st.trans k, hl.1, hl.2.1, hl.2.2.1, Nat.lt_of_lt_of_le hl.2.2.2 k.1.size⟩
theorem BN.box {a lo C D : Nat} {od : Obj} {W : World} {r s n r2 s2 n2 : Int} {v : Value} {M : List Rw} {w w1 : World} (h : BN a W lo C D od r s n v M w) (g : w.grownBy w1 (some C)) (hb : w1.heap[C]? = some (.cells #[.int .i64 r2, .int .i64 s2, .int .i64 n2, v] 25 (0, 0))) : BN a W lo C D od r2 s2 n2 v M w1 := by
 have hl := h.lo
 have hd := h.dl
 exact ⟨hb, kept_row h.rs g (fun e => by have := Option.some.inj e; omega), h.own.ne g (fun hi => (h.nb C hi).1 rfl), h.nb, kept_row h.ft g (fun e => by have := Option.some.inj e; omega), h.dl, h.st.storeT g (by omega) hl.1, hl.1, hl.2.1, hl.2.2.1, Nat.lt_of_lt_of_le hl.2.2.2 g.size⟩
end Go.Proofs.YtpogblengagpaaaGreatDoor
