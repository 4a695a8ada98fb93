/- Parts of the proof, packed: AdCmp, AdCf, AdLs, AdCpA, AdNew, AdOrd, AdOrd2, AdDecM, AdGrow, AdRdr, AdTapB, DbM, DbVM, DbPlc, DbCln. -/
import Derived.Test.YtnpkihioklpnmaaAg4
import Derived.Test.YtnpkihioklpnmaaAg2
import Derived.Deep.RegionHeld3
import Derived.Laws.OwnMore
import Derived.Deep.CutBlock
import Derived.Deep.CutRange
import Derived.Test.YtnpkihioklpnmaaAg1
import Derived.Lib.SliceRun
/- advert: the orders of links and of claims. -/
namespace Go.Proofs.Ytnpkihioklpnmaa
open Go.RowKit Bs
def cmp3 (x y : T3) : Int := orV [cmpV x.a y.a, cmpV x.b y.b, cmpV x.c y.c]
end Go.Proofs.Ytnpkihioklpnmaa

/- advert: slices.CompareFunc of links and of claims. -/
namespace Go.Proofs.Ytnpkihioklpnmaa
open Go.RowKit Bs
def cfL : List T3 → List T3 → Int
  | [], [] => 0
  | [], _ :: _ => -1
  | _ :: _, [] => 1
  | x :: s, y :: t => if cmp3 x y = 0 then cfL s t else cmp3 x y
end Go.Proofs.Ytnpkihioklpnmaa

/- advert: compareLists, compare. -/
namespace Go.Proofs.Ytnpkihioklpnmaa
open Go.RowKit Bs
def cLs (L M : List T3) : Int := orV [cmpV (L.length : Int) (M.length : Int), cfL L M]
end Go.Proofs.Ytnpkihioklpnmaa

/- advert: compare. -/
namespace Go.Proofs.Ytnpkihioklpnmaa
open Go.RowKit Bs
/-- The order of adverts. -/
def cmpA (A B : Ad) : Int := orV [cmpV A.r B.r, cmpV A.q B.q, cmpV ((A.cp.toNat : Nat) : Int) ((B.cp.toNat : Nat) : Int), cLs A.L B.L, cLs A.C B.C]
end Go.Proofs.Ytnpkihioklpnmaa

/- advert: Same, Newer. -/
namespace Go.Proofs.Ytnpkihioklpnmaa
open Go.RowKit Bs
/-- Newer. -/
def nwA (A B : Ad) : Bool := vAd A && (vAd B && (decide (A.r = B.r) && decide (0 < cmpA A B)))
end Go.Proofs.Ytnpkihioklpnmaa

/- advert: the order is total. -/
namespace Go.Proofs.Ytnpkihioklpnmaa
open Go.RowKit Bs
end Go.Proofs.Ytnpkihioklpnmaa

/- advert: equal adverts, newer adverts. -/
namespace Go.Proofs.Ytnpkihioklpnmaa
open Go.RowKit Bs
end Go.Proofs.Ytnpkihioklpnmaa

/- advert: what bytes say; Decode undoes Encode, the mathematics. -/
namespace Go.Proofs.Ytnpkihioklpnmaa
open Go.RowKit Bs
end Go.Proofs.Ytnpkihioklpnmaa

/- advert: an advert while its lists grow; the reader while fields are taken. -/
namespace Go.Proofs.Ytnpkihioklpnmaa
open Go.RowKit Bs
/-- While an advert is made in block B: the block holds uL, uC; its lists lie in rows of the call's own, vL and vC. Z is the result's block. -/
structure AG (W : World) (Z B : Nat) (r q : Int) (cp : Bool) (uL uC vL vC : Value) (L C : List T3) (w : World) : Prop where
  zb : w.heap[Z]? = some (.cells #[.int .i64 0, .int .i64 0, .bool false, .slice none 0 0, .slice none 0 0] 38 (0, 0))
  ab : w.heap[B]? = some (.cells #[.int .i64 r, .int .i64 q, .bool cp, uL, uC] 38 (0, 0))
  oL : w.ownsRow (B + 1) 73 3 vL L.length (L.flatMap t3C)
  oC : w.ownsRow (B + 1) 62 3 vC C.length (C.flatMap t3C)
  ap : ∀ g, vL.ownBlock = some g → vC.ownBlock ≠ some g
  lo : W.heap.size ≤ Z ∧ Z < B
  sz : B < w.heap.size
section
variable {W w w1 : World} {Z B : Nat} {r q : Int} {cp : Bool} {uL uC vL vC v' : Value} {L C : List T3}
set_option maxRecDepth 100000 in
theorem AG.keep (h : AG W Z B r q cp uL uC vL vC L C w) (g : w.grownBy w1 none) : AG W Z B r q cp uL uC vL vC L C w1 :=
  ⟨kept_row h.zb g (by simp), kept_row h.ab g (by simp), h.oL.kept g (by cases vL.ownBlock <;> simp), h.oC.kept g (by cases vC.ownBlock <;> simp), h.ap, h.lo, Nat.lt_of_lt_of_le h.sz g.size⟩
set_option maxRecDepth 100000 in
theorem AG.out (h : AG W Z B r q cp uL uC vL vC L C w) {b : Nat} (g : w.grownBy w1 (some b)) (hb : b < W.heap.size) : AG W Z B r q cp uL uC vL vC L C w1 := by
  have hlo := h.lo
  exact ⟨kept_row h.zb g (fun e => by have := Option.some.inj e; omega), kept_row h.ab g (fun e => by have := Option.some.inj e; omega), own_otherA h.oL g (by omega), own_otherA h.oC g (by omega), h.ap, h.lo, Nat.lt_of_lt_of_le h.sz g.size⟩
set_option maxRecDepth 100000 in
theorem AG.geL (h : AG W Z B r q cp uL uC vL vC L C w) : ∀ g, vL.ownBlock = some g → B + 1 ≤ g ∧ g < w.heap.size := fun g hg => h.oL.lt g hg
set_option maxRecDepth 100000 in
theorem AG.geC (h : AG W Z B r q cp uL uC vL vC L C w) : ∀ g, vC.ownBlock = some g → B + 1 ≤ g ∧ g < w.heap.size := fun g hg => h.oC.lt g hg
set_option maxRecDepth 100000 in
theorem AG.addL (h : AG W Z B r q cp uL uC vL vC L C w) {M : List T3} (hown : w1.ownsRow (B + 1) 73 3 v' M.length (M.flatMap t3C)) (hg : w.grownBy w1 vL.ownBlock) (hat : v'.ownBlock = vL.ownBlock ∨ v'.ownBlock = some w.heap.size) : AG W Z B r q cp uL uC v' vC M C w1 := by
  have hlo := h.lo
  have hne : ∀ k, k < B + 1 → some k ≠ vL.ownBlock := fun k hk e => by have := (h.geL k e.symm).1; omega
  refine ⟨kept_row h.zb hg (hne _ (by omega)), kept_row h.ab hg (hne _ (by omega)), hown, h.oC.kept hg ?_, ?_, h.lo, Nat.lt_of_lt_of_le h.sz hg.size⟩
  · cases hv : vC.ownBlock with
    | none => exact .inl rfl
    | some k => exact .inr (fun e => h.ap k e.symm hv)
  · intro g2 hg2 e
    rcases hat with h1 | h1
    · exact h.ap g2 (by rw [← h1]; exact hg2) e
    · rw [h1] at hg2
      have := Option.some.inj hg2
      have := (h.geC g2 e).2
      omega
set_option maxRecDepth 100000 in
theorem AG.addC (h : AG W Z B r q cp uL uC vL vC L C w) {M : List T3} (hown : w1.ownsRow (B + 1) 62 3 v' M.length (M.flatMap t3C)) (hg : w.grownBy w1 vC.ownBlock) (hat : v'.ownBlock = vC.ownBlock ∨ v'.ownBlock = some w.heap.size) : AG W Z B r q cp uL uC vL v' L M w1 := by
  have hlo := h.lo
  have hne : ∀ k, k < B + 1 → some k ≠ vC.ownBlock := fun k hk e => by have := (h.geC k e.symm).1; omega
  refine ⟨kept_row h.zb hg (hne _ (by omega)), kept_row h.ab hg (hne _ (by omega)), h.oL.kept hg ?_, hown, ?_, h.lo, Nat.lt_of_lt_of_le h.sz hg.size⟩
  · cases hv : vL.ownBlock with
    | none => exact .inl rfl
    | some k => exact .inr (fun e => h.ap k hv e.symm)
  · intro g2 hg2 e
    rcases hat with h1 | h1
    · exact h.ap g2 hg2 (by rw [← h1]; exact e)
    · rw [h1] at e
      have := Option.some.inj e
      have := (h.geL g2 hg2).2
      omega
set_option maxRecDepth 100000 in
theorem AG.putL (h : AG W Z B r q cp uL uC vL vC L C w) : AG W Z B r q cp vL uC vL vC L C (w.setCell ⟨B, 3, none⟩ vL) := by
  have g := grown_setCell w ⟨B, 3, none⟩ vL
  have hlo := h.lo
  refine ⟨kept_row h.zb g (fun e => by have : Z = B := Option.some.inj e; omega), ?_, own_otherA h.oL g (Nat.lt_succ_self _), own_otherA h.oC g (Nat.lt_succ_self _), h.ap, h.lo, Nat.lt_of_lt_of_le h.sz g.size⟩
  have h1 := heap_setCell_same w B 3 _ _ vL h.ab
  rw [h1]; rfl
set_option maxRecDepth 100000 in
theorem AG.putC (h : AG W Z B r q cp uL uC vL vC L C w) : AG W Z B r q cp uL vC vL vC L C (w.setCell ⟨B, 4, none⟩ vC) := by
  have g := grown_setCell w ⟨B, 4, none⟩ vC
  have hlo := h.lo
  refine ⟨kept_row h.zb g (fun e => by have : Z = B := Option.some.inj e; omega), ?_, own_otherA h.oL g (Nat.lt_succ_self _), own_otherA h.oC g (Nat.lt_succ_self _), h.ap, h.lo, Nat.lt_of_lt_of_le h.sz g.size⟩
  have h1 := heap_setCell_same w B 4 _ _ vC h.ab
  rw [h1]; rfl
set_option maxRecDepth 100000 in
theorem AG.cells (h : AG W Z B r q cp uL uC vL vC L C w) : w.cell? ⟨B, 0, none⟩ = some (.int .i64 r) ∧ w.cell? ⟨B, 1, none⟩ = some (.int .i64 q) ∧ w.cell? ⟨B, 2, none⟩ = some (.bool cp) ∧ w.cell? ⟨B, 3, none⟩ = some uL ∧ w.cell? ⟨B, 4, none⟩ = some uC := by
  refine ⟨?_, ?_, ?_, ?_, ?_⟩ <;> (rw [cell_of_row _ _ _ _ _ _ h.ab]; rfl)
set_option maxRecDepth 100000 in
theorem AG.ok (h : AG W Z B r q cp uL uC vL vC L C w) {pL pC : Option Addr} {cL cC : Nat} (h1 : vL = .slice pL L.length cL) (h2 : vC = .slice pC C.length cC) : AdOk w (B < ·) ⟨r, q, cp, L, C, pL, cL, pC, cC⟩ := by
  obtain ⟨p1, c1, e1, n1, m1⟩ := own_shape h.oL
  obtain ⟨p2, c2, e2, n2, m2⟩ := own_shape h.oC
  have r1 := rdf_of_own h.oL
  have r2 := rdf_of_own h.oC
  subst h1
  subst h2
  injection e1 with a1 a2 a3
  injection e2 with b1 b2 b3
  subst a3
  subst b3
  exact ⟨r1.mono fun b hb => hb, r2.mono fun b hb => hb, ⟨n1, m1⟩, ⟨n2, m2⟩⟩
end
section
variable {W w w1 : World} {S : Nat} {l : List Nat} {p : Option Addr} {c pos : Nat}
end
end Go.Proofs.Ytnpkihioklpnmaa

/- advert: the reader's advert: the fields that the bytes say. -/
namespace Go.Proofs.Ytnpkihioklpnmaa
open Go.RowKit Bs
set_option maxRecDepth 100000 in
theorem ag_start {W w : World} {Z : Nat} {r q : Int} {cp : Bool} (hz : w.heap[Z]? = some (.cells #[.int .i64 0, .int .i64 0, .bool false, .slice none 0 0, .slice none 0 0] 38 (0, 0))) (h1 : W.heap.size ≤ Z) (h2 : Z < w.heap.size) :
    AG W Z w.heap.size r q cp (.slice none 0 0) (.slice none 0 0) (.slice none 0 0) (.slice none 0 0) [] [] (w.alloc (.cells #[.int .i64 r, .int .i64 q, .bool cp, .slice none 0 0, .slice none 0 0] 38)) := by
  have g := World.grownBy_alloc w (.cells #[.int .i64 r, .int .i64 q, .bool cp, .slice none 0 0, .slice none 0 0] 38) none
  exact ⟨kept_row hz g (by simp), heap_alloc_new w _, World.ownsRow_nil _ _ _ _, World.ownsRow_nil _ _ _ _, fun g hg => (by cases hg), ⟨h1, h2⟩, by simp⟩
set_option maxRecDepth 100000 in
theorem adv_size : (Try.prog.info? 38).map (·.size) = some 5 := by kernel_rfl
set_option maxRecDepth 100000 in
theorem res_adv {fn : Func} {p : Tmp} (h : fn.results = #[.cell p 38]) (tmps : Array Value) (w : World) (g : Nat) (x y z u v : Value) (hp : tmps.getD p undef = .pointer (some ⟨g, 0, none⟩)) (hg : w.heap[g]? = some (.cells #[x, y, z, u, v] 38 (0, 0))) :
    (results fn tmps).run Try.prog w = .ok (.agg #[x, y, z, u, v]) w :=
  results_cell_row h tmps w g _ _ _ _ hp hg Try.underlying38 rfl adv_size
set_option maxRecDepth 100000 in
theorem row5 {w : World} {b : Nat} {t : TypeId} {x0 x1 x2 x3 x4 : Value} (h : w.heap[b]? = some (.cells #[x0, x1, x2, x3, x4] t (0, 0))) :
    w.cell? ⟨b, 0, none⟩ = some x0 ∧ w.cell? ⟨b, 1, none⟩ = some x1 ∧ w.cell? ⟨b, 2, none⟩ = some x2 ∧ w.cell? ⟨b, 3, none⟩ = some x3 ∧ w.cell? ⟨b, 4, none⟩ = some x4 := by
  refine ⟨?_, ?_, ?_, ?_, ?_⟩ <;> (rw [cell_of_row _ _ _ _ _ _ h]; rfl)
set_option maxRecDepth 100000 in
theorem store5 {w : World} {b : Nat} {t : TypeId} {x0 x1 x2 x3 x4 : Value} (u0 u1 u2 u3 u4 : Value) (h : w.heap[b]? = some (.cells #[x0, x1, x2, x3, x4] t (0, 0))) :
    (((((w.setCell ⟨b, 0, none⟩ u0).setCell ⟨b, 1, none⟩ u1).setCell ⟨b, 2, none⟩ u2).setCell ⟨b, 3, none⟩ u3).setCell ⟨b, 4, none⟩ u4).heap[b]? = some (.cells #[u0, u1, u2, u3, u4] t (0, 0)) ∧
    w.grownBy (((((w.setCell ⟨b, 0, none⟩ u0).setCell ⟨b, 1, none⟩ u1).setCell ⟨b, 2, none⟩ u2).setCell ⟨b, 3, none⟩ u3).setCell ⟨b, 4, none⟩ u4) (some b) := by
  have h1 := heap_setCell_same w b 0 _ _ u0 h
  have h2 := heap_setCell_same _ b 1 _ _ u1 h1
  have h3 := heap_setCell_same _ b 2 _ _ u2 h2
  have h4 := heap_setCell_same _ b 3 _ _ u3 h3
  have h5 := heap_setCell_same _ b 4 _ _ u4 h4
  refine ⟨by rw [h5]; rfl, ?_⟩
  have g1 := grown_setCell w ⟨b, 0, none⟩ u0
  have g2 := grown_setCell (w.setCell ⟨b, 0, none⟩ u0) ⟨b, 1, none⟩ u1
  have g3 := grown_setCell ((w.setCell ⟨b, 0, none⟩ u0).setCell ⟨b, 1, none⟩ u1) ⟨b, 2, none⟩ u2
  have g4 := grown_setCell (((w.setCell ⟨b, 0, none⟩ u0).setCell ⟨b, 1, none⟩ u1).setCell ⟨b, 2, none⟩ u2) ⟨b, 3, none⟩ u3
  have g5 := grown_setCell ((((w.setCell ⟨b, 0, none⟩ u0).setCell ⟨b, 1, none⟩ u1).setCell ⟨b, 2, none⟩ u2).setCell ⟨b, 3, none⟩ u3) ⟨b, 4, none⟩ u4
  exact grown_trans (grown_trans (grown_trans (grown_trans g1 g2) g3) g4) g5
end Go.Proofs.Ytnpkihioklpnmaa

/- While the tape makes an advert. -/
namespace Go.Proofs.Ytnpkihioklpnmaa
open Go.RowKit Bs
/-! What a list of the tape's keeps. -/
def GL (r b : Int) (L : List T3) : Prop := vRe r 0 L = true ∧ ∀ x ∈ L, x.a < b
def GC (b : Int) (C : List T3) : Prop := vCm (-1) C = true ∧ ∀ x ∈ C, x.a < b
set_option maxRecDepth 100000 in
theorem vRe_snoc {r : Int} {y : T3} (hy : y.a ≤ 99 ∧ y.a ≠ r ∧ (1 ≤ y.b ∧ y.b ≤ 1000) ∧ 0 ≤ y.c ∧ y.c ≤ 1000) : ∀ {L : List T3} {d : Int}, vRe r d L = true → (∀ x ∈ L, x.a < y.a) → d < y.a → vRe r d (L ++ [y]) = true
  | [], d, _, _, hd => by
    rw [List.nil_append, vRe, vRe, Bool.and_true]
    exact decide_eq_true ⟨hd, hy⟩
  | x :: t, d, h, hx, hd => by
    rw [List.cons_append, vRe, Bool.and_eq_true]
    rw [vRe, Bool.and_eq_true] at h
    exact ⟨h.1, vRe_snoc hy h.2 (fun z hz => hx z (List.mem_cons_of_mem _ hz)) (hx x List.mem_cons_self)⟩
set_option maxRecDepth 100000 in
theorem vCm_snoc {y : T3} (hy : y.a ≤ 7 ∧ (1 ≤ y.b ∧ y.b ≤ 256) ∧ (y.c = 8 ∨ y.c = 16 ∨ y.c = 32 ∨ y.c = 64)) : ∀ {L : List T3} {d : Int}, vCm d L = true → (∀ x ∈ L, x.a < y.a) → d < y.a → vCm d (L ++ [y]) = true
  | [], d, _, _, hd => by
    rw [List.nil_append, vCm, vCm, Bool.and_true]
    exact decide_eq_true ⟨hd, hy⟩
  | x :: t, d, h, hx, hd => by
    rw [List.cons_append, vCm, Bool.and_eq_true]
    rw [vCm, Bool.and_eq_true] at h
    exact ⟨h.1, vCm_snoc hy h.2 (fun z hz => hx z (List.mem_cons_of_mem _ hz)) (hx x List.mem_cons_self)⟩
set_option maxRecDepth 100000 in
theorem GL.nil (r b : Int) : GL r b [] := ⟨rfl, fun _ h => by cases h⟩
set_option maxRecDepth 100000 in
theorem GC.nil (b : Int) : GC b [] := ⟨rfl, fun _ h => by cases h⟩
set_option maxRecDepth 100000 in
theorem GL.next {r b : Int} {L : List T3} (h : GL r b L) : GL r (b + 1) L := ⟨h.1, fun x hx => by have := h.2 x hx; omega⟩
set_option maxRecDepth 100000 in
theorem GC.next {b : Int} {L : List T3} (h : GC b L) : GC (b + 1) L := ⟨h.1, fun x hx => by have := h.2 x hx; omega⟩
set_option maxRecDepth 100000 in
theorem GL.add {r b : Int} {L : List T3} (h : GL r b L) (y2 y3 : Int) (hb : 0 < b ∧ b ≤ 99) (hr : b ≠ r) (h2 : 1 ≤ y2 ∧ y2 ≤ 1000) (h3 : 0 ≤ y3 ∧ y3 ≤ 1000) : GL r (b + 1) (L ++ [⟨b, y2, y3⟩]) := by
  refine ⟨vRe_snoc ⟨hb.2, hr, h2, h3⟩ h.1 h.2 hb.1, fun x hx => ?_⟩
  rcases List.mem_append.1 hx with hx | hx
  · have := h.2 x hx; omega
  · rw [List.mem_singleton] at hx
    subst hx
    simp only
    omega
set_option maxRecDepth 100000 in
theorem GC.add {b : Int} {L : List T3} (h : GC b L) (y2 y3 : Int) (hb : -1 < b ∧ b ≤ 7) (h2 : 1 ≤ y2 ∧ y2 ≤ 256) (h3 : y3 = 8 ∨ y3 = 16 ∨ y3 = 32 ∨ y3 = 64) : GC (b + 1) (L ++ [⟨b, y2, y3⟩]) := by
  refine ⟨vCm_snoc ⟨hb.2, h2, h3⟩ h.1 h.2 hb.1, fun x hx => ?_⟩
  rcases List.mem_append.1 hx with hx | hx
  · have := h.2 x hx; omega
  · rw [List.mem_singleton] at hx
    subst hx
    simp only
    omega
/-- While the tape makes an advert. -/
structure AT (a : Nat) (W : World) (Z B : Nat) (r q : Int) (cp : Bool) (uL uC vL vC : Value) (L C : List T3) (w : World) : Prop where
  g : AG W Z B r q cp uL uC vL vC L C w
  st : St a W w
set_option maxRecDepth 100000 in
theorem St.newA {a b : Nat} {W w w1 : World} (h : St a W w) (g : w.grownBy w1 (some b)) (hb : W.heap.size ≤ b) (ha : a < W.heap.size) : St a W w1 := by
  refine ⟨⟨g.os.trans h.1.os, g.tape.trans h.1.tape, g.output.trans h.1.output, Nat.le_trans h.1.size g.size, fun i hi hia => (g.block i (Nat.lt_of_lt_of_le hi h.1.size) (fun e => by have := Option.some.inj e; omega)).trans (h.1.block i hi hia)⟩, ?_⟩
  obtain ⟨v, n, i, T⟩ := h.2
  have hlt : a < w.heap.size := Nat.lt_of_lt_of_le ha h.1.size
  have hk : w1.heap[a]? = w.heap[a]? := g.block a hlt (fun e => by have := Option.some.inj e; omega)
  refine ⟨v, n, i, (World.cell?_of_block (a := ⟨a, 0, none⟩) hk).trans T.l, (World.cell?_of_block (a := ⟨a, 1, none⟩) hk).trans T.p, (World.frozen?_of_block (a := ⟨a, 1, none⟩) hk).trans T.fr, ?_, T.le, T.len⟩
  obtain ⟨p, c, hv, hc⟩ := T.ints
  refine ⟨p, c, hv, fun hn => ?_⟩
  obtain ⟨b1, off, hp, hb1, hx⟩ := hc hn
  refine ⟨b1, off, hp, hb1, fun i hi => ?_⟩
  obtain ⟨x, hx1, hcell⟩ := hx i hi
  exact ⟨x, hx1, g.cell hcell (fun e => by have : b1 = b := Option.some.inj e; omega)⟩
section
variable {a : Nat} {W w w1 : World} {Z B : Nat} {r q : Int} {cp : Bool} {uL uC vL vC v' : Value} {L C : List T3}
set_option maxRecDepth 100000 in
theorem AT.keep (h : AT a W Z B r q cp uL uC vL vC L C w) (g : w.grownBy w1 none) : AT a W Z B r q cp uL uC vL vC L C w1 := ⟨h.g.keep g, h.st.trans ⟨grown_none g _, h.st.2.keep g⟩⟩
set_option maxRecDepth 100000 in
theorem AT.tape (h : AT a W Z B r q cp uL uC vL vC L C w) (ha : a < W.heap.size) (k : St a w w1) : AT a W Z B r q cp uL uC vL vC L C w1 := ⟨h.g.out k.1 ha, h.st.trans k⟩
set_option maxRecDepth 100000 in
theorem AT.stRow (h : AT a W Z B r q cp uL uC vL vC L C w) (ha : a < W.heap.size) {o : Option Nat} (g : w.grownBy w1 o) (hb : ∀ b, o = some b → W.heap.size ≤ b) : St a W w1 := by
  cases o with
  | none => exact h.st.trans ⟨grown_none g _, h.st.2.keep g⟩
  | some b => exact h.st.newA g (hb b rfl) ha
set_option maxRecDepth 100000 in
theorem AT.addL (h : AT a W Z B r q cp uL uC vL vC L C w) (ha : a < W.heap.size) {M : List T3} (hown : w1.ownsRow (B + 1) 73 3 v' M.length (M.flatMap t3C)) (hg : w.grownBy w1 vL.ownBlock) (hat : v'.ownBlock = vL.ownBlock ∨ v'.ownBlock = some w.heap.size) : AT a W Z B r q cp uL uC v' vC M C w1 :=
  ⟨h.g.addL hown hg hat, h.stRow ha hg (fun b hb => by have := h.g.geL b hb; have := h.g.lo; omega)⟩
set_option maxRecDepth 100000 in
theorem AT.addC (h : AT a W Z B r q cp uL uC vL vC L C w) (ha : a < W.heap.size) {M : List T3} (hown : w1.ownsRow (B + 1) 62 3 v' M.length (M.flatMap t3C)) (hg : w.grownBy w1 vC.ownBlock) (hat : v'.ownBlock = vC.ownBlock ∨ v'.ownBlock = some w.heap.size) : AT a W Z B r q cp uL uC vL v' L M w1 :=
  ⟨h.g.addC hown hg hat, h.stRow ha hg (fun b hb => by have := h.g.geC b hb; have := h.g.lo; omega)⟩
set_option maxRecDepth 100000 in
theorem AT.putL (h : AT a W Z B r q cp uL uC vL vC L C w) (ha : a < W.heap.size) : AT a W Z B r q cp vL uC vL vC L C (w.setCell ⟨B, 3, none⟩ vL) :=
  ⟨h.g.putL, h.st.newA (grown_setCell w ⟨B, 3, none⟩ vL) (by have := h.g.lo; show W.heap.size ≤ B; omega) ha⟩
set_option maxRecDepth 100000 in
theorem AT.putC (h : AT a W Z B r q cp uL uC vL vC L C w) (ha : a < W.heap.size) : AT a W Z B r q cp uL vC vL vC L C (w.setCell ⟨B, 4, none⟩ vC) :=
  ⟨h.g.putC, h.st.newA (grown_setCell w ⟨B, 4, none⟩ vC) (by have := h.g.lo; show W.heap.size ≤ B; omega) ha⟩
set_option maxRecDepth 100000 in
theorem AG.put0 (h : AG W Z B r q cp uL uC vL vC L C w) (x : Int) : AG W Z B x q cp uL uC vL vC L C (w.setCell ⟨B, 0, none⟩ (.int .i64 x)) := by
  have g := grown_setCell w ⟨B, 0, none⟩ (.int .i64 x)
  have hlo := h.lo
  refine ⟨kept_row h.zb g (fun e => by have : Z = B := Option.some.inj e; omega), ?_, own_otherA h.oL g (Nat.lt_succ_self _), own_otherA h.oC g (Nat.lt_succ_self _), h.ap, h.lo, Nat.lt_of_lt_of_le h.sz g.size⟩
  have h1 := heap_setCell_same w B 0 _ _ (.int .i64 x) h.ab
  rw [h1]; rfl
set_option maxRecDepth 100000 in
theorem AG.put1 (h : AG W Z B r q cp uL uC vL vC L C w) (x : Int) : AG W Z B r x cp uL uC vL vC L C (w.setCell ⟨B, 1, none⟩ (.int .i64 x)) := by
  have g := grown_setCell w ⟨B, 1, none⟩ (.int .i64 x)
  have hlo := h.lo
  refine ⟨kept_row h.zb g (fun e => by have : Z = B := Option.some.inj e; omega), ?_, own_otherA h.oL g (Nat.lt_succ_self _), own_otherA h.oC g (Nat.lt_succ_self _), h.ap, h.lo, Nat.lt_of_lt_of_le h.sz g.size⟩
  have h1 := heap_setCell_same w B 1 _ _ (.int .i64 x) h.ab
  rw [h1]; rfl
set_option maxRecDepth 100000 in
theorem AT.put0 (h : AT a W Z B r q cp uL uC vL vC L C w) (ha : a < W.heap.size) (x : Int) : AT a W Z B x q cp uL uC vL vC L C (w.setCell ⟨B, 0, none⟩ (.int .i64 x)) :=
  ⟨h.g.put0 x, h.st.newA (grown_setCell w ⟨B, 0, none⟩ (.int .i64 x)) (by have := h.g.lo; show W.heap.size ≤ B; omega) ha⟩
set_option maxRecDepth 100000 in
theorem AT.put1 (h : AT a W Z B r q cp uL uC vL vC L C w) (ha : a < W.heap.size) (x : Int) : AT a W Z B r x cp uL uC vL vC L C (w.setCell ⟨B, 1, none⟩ (.int .i64 x)) :=
  ⟨h.g.put1 x, h.st.newA (grown_setCell w ⟨B, 1, none⟩ (.int .i64 x)) (by have := h.g.lo; show W.heap.size ≤ B; omega) ha⟩
end
set_option maxRecDepth 100000 in
theorem own_formA {w : World} {base size n : Nat} {e : TypeId} {v : Value} {xs : List Value} (h : w.ownsRow base e size v n xs) : (v = .slice none 0 0 ∧ n = 0) ∨ ∃ g cap, v = .slice (some ⟨g, 0, none⟩) n cap ∧ n ≤ cap ∧ cap ≤ 9223372036854775807 := by
  rcases h.2 with ⟨rfl, h0⟩ | ⟨g, cap, cur, rfl, _, _, hn, hm, _⟩
  · exact .inl ⟨rfl, h0⟩
  · unfold maxLen at hm
    exact .inr ⟨g, cap, rfl, hn, by omega⟩
set_option maxRecDepth 100000 in
theorem AG.set0 {W w : World} {Z B g n cap : Nat} {r q : Int} {cp : Bool} {uL uC vC : Value} {L C : List T3} (h : AG W Z B r q cp uL uC (.slice (some ⟨g, 0, none⟩) n cap) vC L C w) (hL : 0 < L.length) (x : Int) :
    ∃ L' : List T3, L'.length = L.length ∧ AG W Z B r q cp uL uC (.slice (some ⟨g, 0, none⟩) n cap) vC L' C (w.setCell ⟨g, 1, none⟩ (.int .i64 x)) := by
  cases L with
  | nil => cases hL
  | cons y t =>
    have hg0 := h.geL g rfl
    have hlo := h.lo
    obtain ⟨p, c, e, _⟩ := own_shape h.oL
    have hn : n = (y :: t).length := by injection e
    subst hn
    obtain ⟨s1, s2⟩ := h.oL.stored 1 (.int .i64 x)
    refine ⟨⟨y.a, x, y.c⟩ :: t, rfl, kept_row h.zb s2 (fun e => by have : Z = g := Option.some.inj e; omega), kept_row h.ab s2 (fun e => by have : B = g := Option.some.inj e; omega), s1, h.oC.kept s2 ?_, h.ap, h.lo, Nat.lt_of_lt_of_le h.sz s2.size⟩
    cases hv : vC.ownBlock with
    | none => exact .inl rfl
    | some k => exact .inr (fun e => h.ap g rfl (by rw [hv]; exact e))
set_option maxRecDepth 100000 in
theorem AT.set0 {a : Nat} {W w : World} {Z B g n cap : Nat} {r q : Int} {cp : Bool} {uL uC vC : Value} {L C : List T3} (h : AT a W Z B r q cp uL uC (.slice (some ⟨g, 0, none⟩) n cap) vC L C w) (ha : a < W.heap.size) (hL : 0 < L.length) (x : Int) :
    ∃ L' : List T3, L'.length = L.length ∧ AT a W Z B r q cp uL uC (.slice (some ⟨g, 0, none⟩) n cap) vC L' C (w.setCell ⟨g, 1, none⟩ (.int .i64 x)) := by
  obtain ⟨L', h1, h2⟩ := h.g.set0 hL x
  have hg0 := h.g.geL g rfl
  have hlo := h.g.lo
  exact ⟨L', h1, h2, h.st.newA (grown_setCell w ⟨g, 1, none⟩ (.int .i64 x)) (by show W.heap.size ≤ g; omega) ha⟩
set_option maxRecDepth 100000 in
theorem AT.ints {a : Nat} {W w : World} {Z B : Nat} {r q : Int} {cp : Bool} {uL uC vL vC : Value} {L C : List T3} (h : AT a W Z B r q cp uL uC vL vC L C w) (xs : List Int) (cs : Array Value) (hx : ∀ x ∈ xs, I64 x) (hcs : cs = (xs.map fun x => Value.int .i64 x).toArray) :
    ∀ p, p = w.heap.size → Among I64 (w.alloc (.cells cs 3)) a p 0 cs.size := by
  rintro p rfl
  exact among_list I64 w a xs cs 3 h.st.2.lt hcs hx
set_option maxRecDepth 100000 in
theorem Among.keepA {P : Int → Prop} {w w' : World} {a b off n : Nat} {r : Option Nat} (h : Among P w a b off n) (g : w.grownBy w' r) (hne : some b ≠ r) : Among P w' a b off n :=
  ⟨h.1, Nat.lt_of_lt_of_le h.2.1 g.size, fun i hi => by obtain ⟨x, hx, hc⟩ := h.2.2 i hi; exact ⟨x, hx, g.cell hc (by exact hne)⟩⟩
/-- What is known of an advert of the tape's. -/
structure TA (R n : Int) (r q : Int) (L C : List T3) : Prop where
  ll : L.length ≤ 40
  cl : C.length ≤ 10
  ok : ¬ 0 < n → r = R ∧ (1 ≤ q ∧ q ≤ 1000000) ∧ L.length ≤ 23 ∧ C.length ≤ 8 ∧ vRe R 0 L = true ∧ vCm (-1) C = true
  nb : ¬ 0 < n → ∀ x ∈ L, x.a ≤ 6
def TAPost (a : Nat) (R n : Int) (w : World) (e : Ending) (w' : World) : Prop :=
  ∃ A : Ad, e = .returned A.val ∧ TA R n A.r A.q A.L A.C ∧ AdOk w' (w.heap.size ≤ ·) A ∧ St a w w'
/-- Lists that are nil have no room. -/
def AdNl (A : Ad) : Prop := (A.pL = none → A.cL = 0) ∧ (A.pC = none → A.cC = 0)
/-- What the tape's Advert returns; its lists, if they are nil, have no room. -/
def TAPost3 (a : Nat) (R n : Int) (w : World) (e : Ending) (w' : World) : Prop :=
  ∃ A : Ad, e = .returned A.val ∧ TA R n A.r A.q A.L A.C ∧ AdOk w' (w.heap.size ≤ ·) A ∧ St a w w' ∧ AdNl A
/-- The same; a list of claims that is nil has no room. -/
def TAPost2 (a : Nat) (R n : Int) (w : World) (e : Ending) (w' : World) : Prop :=
  ∃ A : Ad, e = .returned A.val ∧ TA R n A.r A.q A.L A.C ∧ AdOk w' (w.heap.size ≤ ·) A ∧ St a w w' ∧ (A.pC = none → A.cC = 0)
set_option maxRecDepth 100000 in
theorem TAPost2.less {a : Nat} {R n : Int} {w : World} {e : Ending} {w' : World} (h : TAPost2 a R n w e w') : TAPost a R n w e w' := by
  obtain ⟨A, h1, h2, h3, h4, -⟩ := h
  exact ⟨A, h1, h2, h3, h4⟩
set_option maxRecDepth 100000 in
theorem TAPost3.less {a : Nat} {R n : Int} {w : World} {e : Ending} {w' : World} (h : TAPost3 a R n w e w') : TAPost2 a R n w e w' := by
  obtain ⟨A, h1, h2, h3, h4, h5⟩ := h
  exact ⟨A, h1, h2, h3, h4, h5.2⟩
set_option maxRecDepth 100000 in
theorem own_nilc {w : World} {base size n c : Nat} {p : Option Addr} {e : TypeId} {xs : List Value} (h : w.ownsRow base e size (.slice p n c) n xs) (hp : p = none) : c = 0 := by
  subst hp
  rcases h.2 with ⟨e, _⟩ | ⟨g', cap', cur, hv, _⟩
  · injection e
  · cases hv
set_option maxRecDepth 100000 in
theorem TA.valid {R n : Int} {A : Ad} (h : TA R n A.r A.q A.L A.C) (hn : ¬ 0 < n) (hR : 1 ≤ R ∧ R ≤ 99) : vAd A = true ∧ A.r = R := by
  obtain ⟨h1, h2, h3, h4, h5, h6⟩ := h.ok hn
  refine ⟨?_, h1⟩
  unfold vAd vHd vClaims
  rw [decide_eq_true ⟨h1 ▸ hR, h2, h3⟩, h1, h5, decide_eq_true h4, h6]
  rfl
end Go.Proofs.Ytnpkihioklpnmaa

/- Databases: rows of adverts; when a database is valid. -/
namespace Go.Proofs.Ytnpkihioklpnmaa
open Go.RowKit Bs
def adL (A : Ad) : List Value := [.int .i64 A.r, .int .i64 A.q, .bool A.cp, .slice A.pL A.L.length A.cL, .slice A.pC A.C.length A.cC]
set_option maxRecDepth 100000 in
theorem adL_len (A : Ad) : (adL A).length = 5 := rfl
set_option maxRecDepth 100000 in
theorem ad_one (x : Ad) : ∀ u ∈ adL x, u.oneCell' = true := by
  intro u hu
  simp [adL] at hu
  rcases hu with rfl | rfl | rfl | rfl | rfl <;> rfl
/-- Adverts in a row, which can be read with their lists. -/
structure RdA (w : World) (q : Nat → Prop) (v : Value) (l : List Ad) : Prop where
  row : RdF w q v l.length (l.flatMap adL)
  ok : ∀ A ∈ l, AdOk w q A
  nl : ∀ A ∈ l, AdNl A
set_option maxRecDepth 100000 in
theorem RdA.grown {w w' : World} {q : Nat → Prop} {v : Value} {l : List Ad} {r : Option Nat} (h : RdA w q v l) (g : w.grownBy w' r) (hq : ∀ b, q b → some b ≠ r) : RdA w' q v l := ⟨h.row.grown g hq, fun A hA => (h.ok A hA).grown g hq, h.nl⟩
set_option maxRecDepth 100000 in
theorem RdA.keep {w w' : World} {q : Nat → Prop} {v : Value} {l : List Ad} (h : RdA w q v l) (g : w.grownBy w' none) : RdA w' q v l := h.grown g (fun _ _ => by simp)
set_option maxRecDepth 100000 in
theorem RdA.mono {w : World} {q q' : Nat → Prop} {v : Value} {l : List Ad} (h : RdA w q v l) (hq : ∀ b, q b → q' b) : RdA w q' v l := ⟨h.row.mono hq, fun A hA => (h.ok A hA).mono hq, h.nl⟩
set_option maxRecDepth 100000 in
theorem RdA.old {w : World} {q : Nat → Prop} {v : Value} {l : List Ad} (h : RdA w q v l) : RdA w (· < w.heap.size) v l := ⟨rdfA_old h.row, fun A hA => (h.ok A hA).old, h.nl⟩
set_option maxRecDepth 100000 in
/-- The cells of adverts, whatever world has grown out of this one. -/
theorem rda_cells {w : World} {q : Nat → Prop} {p : Option Addr} {n c : Nat} {l : List Ad} (h : RdA w q (.slice p n c) l) (hn : 0 < l.length) :
    n = l.length ∧ ∃ b off, p = some ⟨b, off, none⟩ ∧ q b ∧ ∀ i x, l[i]? = some x → w.cell? ⟨b, off + i * 5, none⟩ = some (.int .i64 x.r) ∧ w.cell? ⟨b, off + i * 5 + 1, none⟩ = some (.int .i64 x.q) ∧ w.cell? ⟨b, off + i * 5 + 2, none⟩ = some (.bool x.cp) ∧ w.cell? ⟨b, off + i * 5 + 3, none⟩ = some (.slice x.pL x.L.length x.cL) ∧ w.cell? ⟨b, off + i * 5 + 4, none⟩ = some (.slice x.pC x.C.length x.cC) := by
  obtain ⟨h0, b, off, hp, hq, hc⟩ := RdF.cells (f := adL) (k := 5) adL_len (by decide) h.row hn
  exact ⟨h0, b, off, hp, hq, fun i x hi => ⟨hc i x hi 0 _ rfl, hc i x hi 1 _ rfl, hc i x hi 2 _ rfl, hc i x hi 3 _ rfl, hc i x hi 4 _ rfl⟩⟩
set_option maxRecDepth 100000 in
theorem rda_at {w : World} {q : Nat → Prop} {b off n c k : Nat} {l : List Ad} {x : Ad} (h : RdA w q (.slice (some ⟨b, off, none⟩) n c) l) (hx : l[k]? = some x) :
    w.cell? ⟨b, off + k * 5, none⟩ = some (.int .i64 x.r) ∧ w.cell? ⟨b, off + k * 5 + 1, none⟩ = some (.int .i64 x.q) ∧ w.cell? ⟨b, off + k * 5 + 2, none⟩ = some (.bool x.cp) ∧ w.cell? ⟨b, off + k * 5 + 3, none⟩ = some (.slice x.pL x.L.length x.cL) ∧ w.cell? ⟨b, off + k * 5 + 4, none⟩ = some (.slice x.pC x.C.length x.cC) := by
  obtain ⟨-, b', o', e, -, hc⟩ := rda_cells h (by have := (List.getElem?_eq_some_iff.1 hx).1; omega)
  injection e with e
  injection e with e1 e2
  subst e1
  subst e2
  exact hc k x hx
/-- Are the routers ascending, behind one? -/
def ascD : Int → List Ad → Bool
  | _, [] => true
  | last, A :: t => decide (last < A.r) && ascD A.r t
def notV (A : Ad) : Bool := !vAd A
/-- What Check returns. -/
def chkD (l : List Ad) : Int := if 99 < l.length then 3 else if l.any notV then 1 else if ascD 0 l = false then 25 else 0
def okD (l : List Ad) : Bool := chkD l == 0
def lastD (l : List Ad) (k : Nat) : Int := match (l.take k).getLast? with
  | some x => x.r
  | none => 0
set_option maxRecDepth 100000 in
theorem lastD_succ {l : List Ad} {k : Nat} {x : Ad} (h : l[k]? = some x) : lastD l (k + 1) = x.r := by
  unfold lastD
  rw [List.take_add_one, h]
  simp
set_option maxRecDepth 100000 in
theorem lastD_zero (l : List Ad) : lastD l 0 = 0 := by unfold lastD; simp
set_option maxRecDepth 100000 in
theorem dropA_at {l : List Ad} {k : Nat} {x : Ad} (h : l[k]? = some x) : l.drop k = x :: l.drop (k + 1) := by
  obtain ⟨hk, he⟩ := List.getElem?_eq_some_iff.1 h
  rw [← he, ← List.drop_eq_getElem_cons hk]
set_option maxRecDepth 100000 in
theorem ascD_step {l : List Ad} {k : Nat} {x : Ad} (hx : l[k]? = some x) : ascD (lastD l k) (l.drop k) = (decide (lastD l k < x.r) && ascD (lastD l (k + 1)) (l.drop (k + 1))) := by
  rw [dropA_at hx, ascD, lastD_succ hx]
/-- What a valid database meets. -/
structure OkD (l : List Ad) : Prop where
  len : l.length ≤ 99
  v : ∀ A ∈ l, vAd A = true
  asc : ascD 0 l = true
set_option maxRecDepth 100000 in
theorem chk_OkD {l : List Ad} (h : chkD l = 0) : OkD l := by
  unfold chkD at h
  by_cases h1 : 99 < l.length
  · rw [if_pos h1] at h; cases h
  rw [if_neg h1] at h
  cases h2 : l.any notV with
  | true => rw [h2] at h; cases h
  | false =>
    rw [h2, if_neg (by decide)] at h
    cases h3 : ascD 0 l with
    | false => rw [h3, if_pos rfl] at h; cases h
    | true =>
      refine ⟨by omega, fun A hA => ?_, h3⟩
      have := List.any_eq_false.1 h2 A hA
      unfold notV at this
      simpa using this
set_option maxRecDepth 100000 in
theorem asc_pair : ∀ (l : List Ad) (last : Int), ascD last l = true → (∀ A ∈ l, last < A.r) ∧ l.Pairwise (fun A B => A.r < B.r)
  | [], _, _ => ⟨(fun _ h => by cases h), List.Pairwise.nil⟩
  | A :: t, last, h => by
    rw [ascD, Bool.and_eq_true] at h
    have h1 := of_decide_eq_true h.1
    obtain ⟨h2, h3⟩ := asc_pair t A.r h.2
    refine ⟨fun B hB => ?_, List.pairwise_cons.2 ⟨h2, h3⟩⟩
    rcases List.mem_cons.1 hB with rfl | hB
    · exact h1
    · have := h2 B hB; omega
set_option maxRecDepth 100000 in
theorem OkD.pair {l : List Ad} (h : OkD l) : l.Pairwise (fun A B => A.r < B.r) := (asc_pair l 0 h.asc).2
end Go.Proofs.Ytnpkihioklpnmaa

/- What View says: look-ups, linked routers, the routers that are reached, the topology. The mathematics. -/
namespace Go.Proofs.Ytnpkihioklpnmaa
open Go.RowKit Bs
def isR (r : Int) (A : Ad) : Bool := decide (A.r = r)
def fndA (l : List Ad) (r : Int) : Option Ad := l.find? (isR r)
def isN (r : Int) (x : T3) : Bool := decide (x.a = r)
def rcA (A : Ad) (r : Int) : Option T3 := A.L.find? (isN r)
def rcV (A : Ad) (r : Int) : T3 := (rcA A r).getD ⟨0, 0, 0⟩
/-- The advert that a link leads to, if it leads back. -/
def lk1 (l : List Ad) (A : Ad) (x : T3) : List Ad := match fndA l x.a with
  | some B => if (rcA B A.r).isSome = true then [B] else []
  | none => []
/-- The adverts of the routers that are linked with A's. -/
def lnk (l : List Ad) (A : Ad) : List Ad := A.L.flatMap (lk1 l A)
set_option maxRecDepth 100000 in
theorem fndA_some {l : List Ad} {r : Int} {B : Ad} (h : fndA l r = some B) : B ∈ l ∧ B.r = r := by
  have h2 : isR r B = true := List.find?_some h
  exact ⟨List.mem_of_find?_eq_some h, of_decide_eq_true h2⟩
set_option maxRecDepth 100000 in
theorem lnk_mem {l : List Ad} {A B : Ad} (h : B ∈ lnk l A) : B ∈ l := by
  unfold lnk at h
  obtain ⟨x, _, hx⟩ := List.mem_flatMap.1 h
  unfold lk1 at hx
  cases hf : fndA l x.a with
  | none => rw [hf] at hx; cases hx
  | some C =>
    rw [hf] at hx
    simp only at hx
    split at hx
    · rw [List.mem_singleton] at hx; subst hx; exact (fndA_some hf).1
    · cases hx
set_option maxRecDepth 100000 in
theorem lnk_len (l : List Ad) (A : Ad) : (lnk l A).length ≤ A.L.length := by
  unfold lnk
  generalize A.L = M
  induction M with
  | nil => simp
  | cons x M ih =>
    rw [List.flatMap_cons, List.length_append, List.length_cons]
    have : (lk1 l A x).length ≤ 1 := by
      unfold lk1
      cases fndA l x.a with
      | none => simp
      | some C => simp only; split <;> simp
    omega
set_option maxRecDepth 100000 in
theorem lnk_snoc {l : List Ad} {A : Ad} {k : Nat} {x : T3} (h : A.L[k]? = some x) : (A.L.take (k + 1)).flatMap (lk1 l A) = (A.L.take k).flatMap (lk1 l A) ++ lk1 l A x := by
  rw [List.take_add_one, h, List.flatMap_append]
  simp
def inS (S : List Int) (r : Int) : Bool := S.any (fun x => decide (x = r))
set_option maxRecDepth 100000 in
theorem inS_app (S T : List Int) (r : Int) : inS (S ++ T) r = (inS S r || inS T r) := by unfold inS; rw [List.any_append]
set_option maxRecDepth 100000 in
theorem inS_one (x r : Int) : inS [x] r = decide (x = r) := by unfold inS; simp
/-- One linked router is met: what has been reached, and what has still to be looked at. -/
def addA (st : List Int × List Ad) (B : Ad) : List Int × List Ad := if inS st.1 B.r = true then st else (st.1 ++ [B.r], st.2 ++ [B])
/-- How many adverts' routers have not been reached. -/
def unv (l : List Ad) (S : List Int) : Nat := (l.filter (fun A => !inS S A.r)).length
def bfs (l : List Ad) : Nat → List Int → List Ad → List Int
  | 0, S, _ => S
  | _ + 1, S, [] => S
  | n + 1, S, A :: W => bfs l n ((lnk l A).foldl addA (S, W)).1 ((lnk l A).foldl addA (S, W)).2
set_option maxRecDepth 100000 in
theorem bfs_nil (l : List Ad) (n : Nat) (S : List Int) : bfs l n S [] = S := by cases n <;> rfl
set_option maxRecDepth 100000 in
theorem unv_add {l : List Ad} (hp : l.Pairwise (fun A B => A.r < B.r)) {S : List Int} {B : Ad} (hB : B ∈ l) (h : inS S B.r = false) : unv l (S ++ [B.r]) + 1 = unv l S := by
  unfold unv
  induction l with
  | nil => cases hB
  | cons A t ih =>
    obtain ⟨h1, h2⟩ := List.pairwise_cons.1 hp
    rw [List.filter_cons, List.filter_cons, inS_app, inS_one]
    rcases List.mem_cons.1 hB with e | hB
    · subst e
      have hne : t.filter (fun A => !inS (S ++ [B.r]) A.r) = t.filter (fun A => !inS S A.r) := by
        refine List.filter_congr fun A hA => ?_
        have := h1 A hA
        rw [inS_app, inS_one, decide_eq_false (by omega), Bool.or_false]
      rw [hne, h]
      simp
    · have := h1 B hB
      rw [decide_eq_false (show ¬ B.r = A.r by omega), Bool.or_false]
      have ih := ih h2 hB
      cases inS S A.r
      · simp only [Bool.not_false, if_true, List.length_cons]; omega
      · simp only [Bool.not_true]; exact ih
set_option maxRecDepth 100000 in
theorem add_keep {l : List Ad} (hp : l.Pairwise (fun A B => A.r < B.r)) : ∀ (M : List Ad), (∀ B ∈ M, B ∈ l) → ∀ st : List Int × List Ad, unv l (M.foldl addA st).1 + (M.foldl addA st).2.length = unv l st.1 + st.2.length
  | [], _, st => rfl
  | B :: M, hM, st => by
    rw [List.foldl_cons, add_keep hp M (fun C hC => hM C (List.mem_cons_of_mem _ hC))]
    unfold addA
    split
    · rfl
    · rename_i h
      have := unv_add hp (S := st.1) (hM B List.mem_cons_self) (by simpa using h)
      simp only [List.length_append, List.length_singleton]
      omega
/-- The routers that are reached from one. -/
def reS (l : List Ad) (r : Int) : List Int := match fndA l r with
  | none => []
  | some A => bfs l (unv l [r] + 1) [r] [A]
set_option maxRecDepth 100000 in
theorem bfs_step {l : List Ad} (hp : l.Pairwise (fun A B => A.r < B.r)) {S : List Int} {A : Ad} {W : List Ad} : bfs l (unv l S + (A :: W).length) S (A :: W) = bfs l (unv l ((lnk l A).foldl addA (S, W)).1 + ((lnk l A).foldl addA (S, W)).2.length) ((lnk l A).foldl addA (S, W)).1 ((lnk l A).foldl addA (S, W)).2 := by
  rw [add_keep hp (lnk l A) (fun B hB => lnk_mem hB) (S, W)]
  show bfs l (unv l S + W.length + 1) S (A :: W) = _
  rw [bfs]
set_option maxRecDepth 100000 in
/-- What is to be looked at comes from the database. -/
theorem add_from {l : List Ad} : ∀ (M : List Ad), (∀ B ∈ M, B ∈ l) → ∀ st : List Int × List Ad, (∀ B ∈ st.2, B ∈ l) → ∀ B ∈ (M.foldl addA st).2, B ∈ l
  | [], _, st, h, B, hB => h B hB
  | C :: M, hM, st, h, B, hB => by
    rw [List.foldl_cons] at hB
    refine add_from M (fun D hD => hM D (List.mem_cons_of_mem _ hD)) (addA st C) (fun D hD => ?_) B hB
    unfold addA at hD
    split at hD
    · exact h D hD
    · rcases List.mem_append.1 hD with hD | hD
      · exact h D hD
      · rw [List.mem_singleton] at hD; subst hD; exact hM D List.mem_cons_self
/-- The link between two linked routers. -/
def btw (A B : Ad) : Lk := ⟨A.r, B.r, (rcV A B.r).b, (rcV B A.r).b, min (rcV A B.r).c (rcV B A.r).c⟩
def ltA (A B : Ad) : Bool := decide (A.r < B.r)
/-- The links of one router to greater ones. -/
def vL1 (l : List Ad) (A : Ad) : List Lk := ((lnk l A).filter (ltA A)).map (btw A)
def inV (S : List Int) (A : Ad) : Bool := inS S A.r
def toR (A : Ad) : Rt := ⟨A.r, A.cp⟩
def vwR (l : List Ad) (S : List Int) : List Rt := (l.filter (inV S)).map toR
def vwL (l : List Ad) (S : List Int) : List Lk := (l.filter (inV S)).flatMap (vL1 l)
/-- The view. -/
def viewV (l : List Ad) (r : Int) : List Rt × List Lk :=
  if okD l = true then (if chk (vwR l (reS l r)) (vwL l (reS l r)) = 0 then (vwR l (reS l r), vwL l (reS l r)) else ([], [])) else ([], [])
end Go.Proofs.Ytnpkihioklpnmaa

/- database: where the advert of a router is (place); what an advert says of a router (reach); the link between two. -/
namespace Go.Proofs.Ytnpkihioklpnmaa
open Go.RowKit Bs
/-- Where the search for a router ends. -/
structure PlP (l : List Ad) (t : Int) (i : Nat) (b : Bool) : Prop where
  le : i ≤ l.length
  lo : ∀ x, 0 < i → l[i - 1]? = some x → x.r < t
  hi : ∀ x, l[i]? = some x → t ≤ x.r
  eq : b = (match l[i]? with | some x => decide (x.r = t) | none => false)
set_option maxRecDepth 100000 in
/-- In ascending adverts: it finds what there is. -/
theorem PlP.fnd {l : List Ad} (hp : l.Pairwise (fun A B => A.r < B.r)) {t : Int} {i : Nat} {b : Bool} (h : PlP l t i b) : (b = true → l[i]? = fndA l t ∧ (fndA l t).isSome = true) ∧ (b = false → fndA l t = none) := by
  have hlt : ∀ (a c : Nat) (x y : Ad), l[a]? = some x → l[c]? = some y → a < c → x.r < y.r := fun a c x y ha hc hac => by
    obtain ⟨h1, rfl⟩ := List.getElem?_eq_some_iff.1 ha
    obtain ⟨h2, rfl⟩ := List.getElem?_eq_some_iff.1 hc
    exact List.pairwise_iff_getElem.1 hp a c h1 h2 hac
  have heq := h.eq
  constructor
  · intro hb
    cases hx : l[i]? with
    | none => rw [hx] at heq; rw [heq] at hb; cases hb
    | some x =>
      rw [hx] at heq
      simp only at heq
      rw [hb] at heq
      have hxr : x.r = t := of_decide_eq_true heq.symm
      cases hf : fndA l t with
      | none =>
        have := List.find?_eq_none.1 hf x (List.mem_of_getElem? hx)
        unfold isR at this
        rw [decide_eq_true hxr] at this
        exact absurd rfl this
      | some B =>
        obtain ⟨h1, h2⟩ := fndA_some hf
        obtain ⟨j, hj⟩ := List.mem_iff_getElem?.1 h1
        refine ⟨congrArg some ?_, rfl⟩
        rcases Nat.lt_trichotomy i j with h3 | h3 | h3
        · have := hlt i j x B hx hj h3; omega
        · subst h3; rw [hx] at hj; exact Option.some.inj hj
        · have := hlt j i B x hj hx h3; omega
  · intro hb
    cases hf : fndA l t with
    | none => rfl
    | some B =>
      obtain ⟨h1, h2⟩ := fndA_some hf
      obtain ⟨j, hj⟩ := List.mem_iff_getElem?.1 h1
      exfalso
      rcases Nat.lt_trichotomy i j with h3 | h3 | h3
      · have hil : i < l.length := by have := (List.getElem?_eq_some_iff.1 hj).1; omega
        have hxi : l[i]? = some l[i] := List.getElem?_eq_getElem hil
        have h4 := hlt i j _ B hxi hj h3
        have h5 := h.hi _ hxi
        omega
      · subst h3
        rw [hj] at heq
        simp only at heq
        rw [hb, decide_eq_true h2] at heq
        cases heq
      · have hil : i - 1 < l.length := by have := h.le; omega
        have hxi : l[i - 1]? = some l[i - 1] := List.getElem?_eq_getElem hil
        have h5 := h.lo _ (by omega) hxi
        rcases Nat.lt_or_ge j (i - 1) with h6 | h6
        · have := hlt j (i - 1) B _ hj hxi h6; omega
        · have : j = i - 1 := by omega
          subst this
          rw [hj] at hxi
          have := Option.some.inj hxi
          rw [← this] at h5
          omega
def PlPost (l : List Ad) (t : Int) (w : World) (e : Ending) (w' : World) : Prop := ∃ (i : Nat) (b : Bool), e = .returned (.tuple #[.int .i64 (i : Int), .bool b]) ∧ PlP l t i b ∧ w.grownBy w' none
set_option maxRecDepth 100000 in
theorem dpl1_any (A : Ad) (t : Int) (w : World) :
    Calls Try.prog 119 #[.agg #[.int .i64 A.r, .int .i64 A.q, .bool A.cp, .slice A.pL A.L.length A.cL, .slice A.pC A.C.length A.cC], .int .i64 t] w fun e w' => e = .returned (.int .i64 (cmpV A.r t)) ∧ w.grownBy w' none := by
  obtain ⟨k1, k2⟩ := tone_box w #[.int .i64 A.r, .int .i64 A.q, .bool A.cp, .slice A.pL A.L.length A.cL, .slice A.pC A.C.length A.cC] 38
  have HB := Lib.hid (And.intro k1 k2)
  clear k1 k2
  go_enter Try.func119, Try.ntmps119
  go_upto_region 1 with fail
  generalize w.alloc _ = wa at *
  obtain ⟨c0, c1, c2, c3, c4⟩ := row5 HB.out.1
  go_wp2_with fail
  refine (tcmp_any _ _ _).mono ?_
  rintro e w1 ⟨rfl, rfl⟩
  go_wp2_with fail
  go_ret
  exact ⟨rfl, HB.out.2⟩
set_option maxRecDepth 100000 in
set_option maxHeartbeats 3200000 in
theorem dbs_any (l : List Ad) (t : Int) (p : Option Addr) (c : Nat) (q : Nat → Prop) (w : World) (hR : RdA w q (.slice p l.length c) l) (hm : l.length ≤ 1000000) :
    Calls Try.prog 118 #[.slice p l.length c, .int .i64 t, .func (.func 119) #[] #[]] w fun e w' => PlPost l t w e w' := by
  have eg : EnterF 119 := enters_of Try.func119 (by kernel_rfl) rfl
  have HR := Lib.hid hR
  clear hR
  have GZ : Hid (w.grownBy w none) := Lib.hid (grown_refl _ _)
  go_enter Try.func118, Try.ntmps118
  go_wp2_with fail
  go_loopw [9, 10] (fun vi vj wr => ∃ I J : Nat, I ≤ J ∧ J ≤ l.length ∧ vi = .int .i64 (I : Int) ∧ vj = .int .i64 (J : Int) ∧ Hid ((∀ x, 0 < I → l[I - 1]? = some x → x.r < t) ∧ ∀ x, l[J]? = some x → t ≤ x.r) ∧ Hid (w.grownBy wr none)) (fun vi vj _ => ((RowKit.intOf vj) - (RowKit.intOf vi)).toNat)
  case atStart => exact ⟨0, l.length, Nat.zero_le _, Nat.le_refl _, rfl, rfl, Lib.hid ⟨fun x h => by omega, fun x h => by rw [List.getElem?_eq_none (Nat.le_refl _)] at h; cases h⟩, GZ⟩
  case round =>
  obtain ⟨I, J, hIJ, hJ, rfl, rfl, HI, G⟩ := hrel
  clear GZ
  by_cases hlt : I < J
  · have hlt' : (I : Int) < (J : Int) := by omega
    obtain ⟨h, hh⟩ : ∃ h, (I + J) / 2 = h := ⟨_, rfl⟩
    have h1 : I ≤ h := by omega
    have h2 : h < J := by omega
    have hsum : (I : Int) + (J : Int) ≤ 2000000 := by omega
    go_upto_region 4 with fail
    go_cut [11] from 18 to 23 (fun v wx => v = .int .i64 (h : Int) ∧ wr = wx)
    case first =>
      go_wp2_with fail
      go_meet
      exact ⟨congrArg _ (by omega), rfl⟩
    case rest =>
    obtain ⟨rfl, rfl⟩ := hcut
    clear hh hsum
    obtain ⟨-, b, off, rfl, -, hc⟩ := rda_cells (HR.out.keep G.out) (by omega)
    obtain ⟨y, hy⟩ : ∃ y, l[h]? = some y := ⟨_, List.getElem?_eq_getElem (by omega)⟩
    obtain ⟨a0, a1, a2, a3, a4⟩ := hc h y hy
    have HY := Lib.hid hy
    have i0 : (0 : Int) ≤ (h : Int) := by omega
    have i1 : (h : Int) < (l.length : Int) := by omega
    obtain ⟨z, hz⟩ : ∃ z, cmpV y.r t = z := ⟨_, rfl⟩
    have hcall := dpl1_any y t wr
    rw [hz] at hcall
    have HZ := Lib.hid hz
    clear hc hy hz
    by_cases hzn : z < 0
    · have hzd : decide (z < 0) = true := decide_eq_true hzn
      go_wp2_with fail
      refine hcall.mono ?_
      rintro e w' ⟨rfl, hg⟩
      have H9 := Lib.hid (grown_trans G.out hg)
      clear hg a0 a1 a2 a3 a4
      go_wp2_with fail
      exact ⟨⟨h + 1, J, by omega, hJ, congrArg _ (by omega), rfl, Lib.hid ⟨fun x _ hx => by rw [Nat.add_sub_cancel, HY.out] at hx; obtain rfl := Option.some.inj hx; exact cmpV_lt.1 (by rw [HZ.out]; exact hzn), HI.out.2⟩, H9⟩, by simp only [RowKit.intOf]; omega⟩
    · have hzd : decide (z < 0) = false := decide_eq_false hzn
      go_wp2_with fail
      refine hcall.mono ?_
      rintro e w' ⟨rfl, hg⟩
      have H9 := Lib.hid (grown_trans G.out hg)
      clear hg a0 a1 a2 a3 a4
      go_wp2_with fail
      exact ⟨⟨I, h, h1, by omega, rfl, rfl, Lib.hid ⟨HI.out.1, fun x hx => by rw [HY.out] at hx; obtain rfl := Option.some.inj hx; exact cmpV_ge.1 (by rw [HZ.out]; omega)⟩, H9⟩, by simp only [RowKit.intOf]; omega⟩
  · obtain rfl : I = J := by omega
    have hnl : ¬ ((I : Int) < (I : Int)) := by omega
    by_cases hn : I < l.length
    · obtain ⟨-, b, off, rfl, -, hc⟩ := rda_cells (HR.out.keep G.out) (by omega)
      obtain ⟨y, hy⟩ : ∃ y, l[I]? = some y := ⟨_, List.getElem?_eq_getElem hn⟩
      obtain ⟨a0, a1, a2, a3, a4⟩ := hc I y hy
      have HY := Lib.hid hy
      have i0 : (0 : Int) ≤ (I : Int) := by omega
      have i1 : (I : Int) < (l.length : Int) := by omega
      have i2 : decide ((I : Int) < (l.length : Int)) = true := decide_eq_true i1
      obtain ⟨z, hz⟩ : ∃ z, cmpV y.r t = z := ⟨_, rfl⟩
      have hcall := dpl1_any y t wr
      rw [hz] at hcall
      have HZ := Lib.hid hz
      clear hc hy hz
      go_wp2_with fail
      refine hcall.mono ?_
      rintro e w' ⟨rfl, hg⟩
      have H9 := Lib.hid (grown_trans G.out hg)
      clear hg a0 a1 a2 a3 a4
      go_wp2_with fail
      go_ret2
      refine ⟨I, _, rfl, ⟨hJ, HI.out.1, HI.out.2, ?_⟩, H9.out⟩
      rw [HY.out]
      simp only
      rw [← HZ.out, Bool.eq_iff_iff, beq_iff_eq, decide_eq_true_eq]
      exact cmpV_eq
    · obtain rfl : I = l.length := by omega
      have hn' : decide ((l.length : Int) < (l.length : Int)) = false := decide_eq_false (by omega)
      go_wp2_with fail
      go_ret2
      refine ⟨l.length, _, rfl, ⟨hJ, HI.out.1, HI.out.2, ?_⟩, G.out⟩
      rw [List.getElem?_eq_none (Nat.le_refl _)]
set_option maxRecDepth 100000 in
theorem dplace_any (l : List Ad) (t : Int) (p : Option Addr) (c : Nat) (q : Nat → Prop) (w : World) (hR : RdA w q (.slice p l.length c) l) (hm : l.length ≤ 1000000) :
    Calls Try.prog 88 #[.slice p l.length c, .int .i64 t] w fun e w' => PlPost l t w e w' := by
  have HR := Lib.hid hR
  clear hR
  go_enter Try.func88, Try.ntmps88
  go_wp2_with fail
  refine (dbs_any l t p c q w HR.out hm).mono ?_
  rintro e w1 ⟨i, b, rfl, hP, hg⟩
  have HP := Lib.hid (And.intro hP hg)
  clear hP hg
  go_wp2_with fail
  go_ret2
  exact ⟨i, b, rfl, HP.out.1, HP.out.2⟩
set_option maxRecDepth 100000 in
theorem re_size : (Try.prog.info? 73).map (·.size) = some 3 := by kernel_rfl
set_option maxRecDepth 100000 in
theorem res_re_b {fn : Func} {p u : Tmp} (h : fn.results = #[.cell p 73, .tmp u]) (tmps : Array Value) (w : World) (g : Nat) (x y z : Value) (hp : tmps.getD p undef = .pointer (some ⟨g, 0, none⟩)) (hg : w.heap[g]? = some (.cells #[x, y, z] 73 (0, 0))) :
    (results fn tmps).run Try.prog w = .ok (.tuple #[.agg #[x, y, z], tmps.getD u undef]) w := by
  have hp' : tmps[p]?.getD undef = .pointer (some ⟨g, 0, none⟩) := by simpa using hp
  rw [results_cell_tmp h]
  simp [hp', asAddr, run_loadVar_row w g _ _ _ _ _ hg Try.underlying73 rfl re_size, Result.andThen]
set_option maxRecDepth 100000 in
theorem store3r {w : World} {g : Nat} {x0 x1 x2 : Value} {t : TypeId} (u0 u1 u2 : Value) (h : w.heap[g]? = some (.cells #[x0, x1, x2] t (0, 0))) :
    (((w.setCell ⟨g, 0, none⟩ u0).setCell ⟨g, 1, none⟩ u1).setCell ⟨g, 2, none⟩ u2).heap[g]? = some (.cells #[u0, u1, u2] t (0, 0)) ∧ w.grownBy (((w.setCell ⟨g, 0, none⟩ u0).setCell ⟨g, 1, none⟩ u1).setCell ⟨g, 2, none⟩ u2) (some g) := by
  have h0 : TRow w g t [x0, x1, x2] := h
  have S : ∀ (u : World) (j : Nat) (x : Value), u.grownBy (u.setCell ⟨g, j, none⟩ x) (some g) := fun u j x => grown_setCell u ⟨g, j, none⟩ x
  exact ⟨(((h0.set 0 u0).set 1 u1).set 2 u2), grown_trans (grown_trans (S _ _ _) (S _ _ _)) (S _ _ _)⟩
set_option maxRecDepth 100000 in
theorem rc_take {A : Ad} {r : Int} {k : Nat} {x : T3} (h : (A.L.take k).find? (isN r) = none) (hx : A.L[k]? = some x) : (A.L.take (k + 1)).find? (isN r) = if x.a = r then some x else none := by
  rw [List.take_add_one, hx, List.find?_append, h]
  unfold isN
  by_cases e : x.a = r <;> simp [e]
set_option maxRecDepth 100000 in
theorem rc_hit {A : Ad} {r : Int} {k : Nat} {x : T3} (h : (A.L.take k).find? (isN r) = none) (hx : A.L[k]? = some x) (e : x.a = r) : rcA A r = some x := by
  unfold rcA
  have h2 := rc_take h hx
  rw [if_pos e] at h2
  rw [← List.take_append_drop (k + 1) A.L, List.find?_append, h2]
  rfl
set_option maxRecDepth 100000 in
set_option maxHeartbeats 3200000 in
theorem dreach_any (A : Ad) (t : Int) (q : Nat → Prop) (w : World) (hA : AdOk w q A) :
    Calls Try.prog 97 #[.agg #[.int .i64 A.r, .int .i64 A.q, .bool A.cp, .slice A.pL A.L.length A.cL, .slice A.pC A.C.length A.cC], .int .i64 t] w fun e w' => e = .returned (.tuple #[.agg #[.int .i64 (rcV A t).a, .int .i64 (rcV A t).b, .int .i64 (rcV A t).c], .bool (rcA A t).isSome]) ∧ w.grownBy w' none := by
  obtain ⟨k1, k2, k3, k4⟩ := two_boxes w #[.int .i64 A.r, .int .i64 A.q, .bool A.cp, .slice A.pL A.L.length A.cL, .slice A.pC A.C.length A.cC] #[.int .i64 0, .int .i64 0, .int .i64 0] 38 73
  have HB := Lib.hid (And.intro k1 (And.intro k2 (And.intro k3 (hA.keep k3))))
  have hml : A.L.length ≤ 9223372036854775807 := Nat.le_trans hA.hl.1 hA.hl.2
  clear k1 k2 k3 k4 hA
  obtain ⟨r, q2, cp, L, C, pL, cL, pC, cC⟩ := A
  simp only at HB hml ⊢
  obtain ⟨O, hO⟩ : ∃ O, rcA ⟨r, q2, cp, L, C, pL, cL, pC, cC⟩ t = O := ⟨_, rfl⟩
  unfold rcV
  rw [hO]
  have HO := Lib.hid hO
  clear hO
  go_enter Try.func97, Try.ntmps97
  go_upto_region 1 with fail
  generalize (w.alloc _).alloc _ = wa at *
  obtain ⟨c0, c1, c2, c3, c4⟩ := row5 HB.out.1
  go_wp2_with fail
  go_loopw [11] (fun a wr => ∃ k : Nat, k ≤ L.length ∧ a = .int .i64 (k : Int) ∧ Hid ((L.take k).find? (isN t) = none) ∧ Hid (wa.grownBy wr none)) (fun a _ => L.length - (RowKit.intOf a).toNat)
  case atStart => exact ⟨0, Nat.zero_le _, rfl, Lib.hid rfl, Lib.hid (grown_refl _ _)⟩
  case round =>
    obtain ⟨k, hk, rfl, HN, G⟩ := hrel
    clear c0 c1 c2 c3 c4
    by_cases hlt : k < L.length
    · obtain ⟨-, b, off, rfl, hq, hc⟩ := rd3_cells (HB.out.2.2.2.keep G.out).l (show 0 < L.length by omega)
      obtain ⟨x, hx⟩ : ∃ x, L[k]? = some x := ⟨_, List.getElem?_eq_getElem hlt⟩
      obtain ⟨a0, a1, a2⟩ := hc k x hx
      have HX := Lib.hid hx
      have gal := World.grownBy_alloc wr (.cells #[.int .i64 x.a, .int .i64 x.b, .int .i64 x.c] 73) none
      have HL := Lib.hid (And.intro (heap_alloc_new wr (.cells #[.int .i64 x.a, .int .i64 x.b, .int .i64 x.c] 73)) (And.intro (kept_row HB.out.2.1 (grown_trans G.out gal) (by simp)) (grown_trans G.out gal)))
      clear hc hx gal
      go_upto_region 4 with fail
      clear a0 a1 a2
      generalize wr.alloc _ = wy at *
      obtain ⟨d0, d1, d2⟩ := row3 HL.out.1
      by_cases e : x.a = t
      · have e' : (x.a == t) = true := by simpa using e
        obtain rfl : some x = O := by rw [← HO.out]; exact (rc_hit (A := ⟨r, q2, cp, L, C, some ⟨b, off, none⟩, cL, pC, cC⟩) HN.out HX.out e).symm
        obtain ⟨z0, z1, z2⟩ := row3 HL.out.2.1
        have f0 := frozen_of_row _ _ 0 _ _ HL.out.2.1
        have f1 := frozen_of_row _ _ 1 _ _ HL.out.2.1
        have f2 := frozen_of_row _ _ 2 _ _ HL.out.2.1
        have HT := Lib.hid (store3r (.int .i64 x.a) (.int .i64 x.b) (.int .i64 x.c) HL.out.2.1)
        have HG := Lib.hid (grown_trans HB.out.2.2.1 HL.out.2.2)
        clear HL HB e
        go_wp2_with fail
        refine bodyPost_ret (res_re_b rfl _ _ (w.heap.size + 1) _ _ _ rfl HT.out.1) rfl ?_
        exact ⟨rfl, grown_new HG.out HT.out.2 (by omega)⟩
      · have e' : (x.a == t) = false := by simpa using e
        have HN2 : Hid ((L.take (k + 1)).find? (isN t) = none) := Lib.hid (by rw [rc_take (A := ⟨r, q2, cp, L, C, some ⟨b, off, none⟩, cL, pC, cC⟩) HN.out HX.out, if_neg e])
        clear e
        go_wp2_with fail
        exact ⟨⟨k + 1, by omega, congrArg _ (by omega), HN2, Lib.hid HL.out.2.2⟩, by simp only [RowKit.intOf]; omega⟩
    · obtain rfl : k = L.length := by omega
      obtain rfl : none = O := by rw [← HO.out]; unfold rcA; have := HN.out; rw [List.take_length] at this; exact this.symm
      have HZ := Lib.hid (kept_row HB.out.2.1 G.out (by simp))
      obtain ⟨z0, z1, z2⟩ := row3 HZ.out
      have f0 := frozen_of_row _ _ 0 _ _ HZ.out
      have f1 := frozen_of_row _ _ 1 _ _ HZ.out
      have f2 := frozen_of_row _ _ 2 _ _ HZ.out
      have HT := Lib.hid (store3r (.int .i64 0) (.int .i64 0) (.int .i64 0) HZ.out)
      have HG := Lib.hid (grown_trans HB.out.2.2.1 G.out)
      clear HZ HB G
      go_wp2_with fail
      refine bodyPost_ret (res_re_b rfl _ _ (w.heap.size + 1) _ _ _ rfl HT.out.1) rfl ?_
      exact ⟨rfl, grown_new HG.out HT.out.2 (by omega)⟩
end Go.Proofs.Ytnpkihioklpnmaa

/- slices.Clone of links, of claims and of adverts. -/
namespace Go.Proofs.Ytnpkihioklpnmaa
open Go.RowKit Bs
set_option maxRecDepth 100000 in
theorem info_ad5 : (Try.prog.info? 38).map (fun i => (i.zero, i.size, i.bytes)) = some (some (.agg #[.int .i64 0, .int .i64 0, .bool false, .slice none 0 0, .slice none 0 0]), 5, 72) := by kernel_rfl
end Go.Proofs.Ytnpkihioklpnmaa
