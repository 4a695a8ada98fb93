/- Parts of the proof, packed: DbVwS, DbFnd, DbFin, DbSam, AdSq, AdRSm, AdRVa, DbRef, DbRf, DbPtM, DbRLn, DbStM, DbVrM, ToCpy, DbIns, DbCop, DbPut. -/
import Derived.Test.YtnpkihioklpnmaaAg7
import Derived.Test.YtnpkihioklpnmaaAg2
import Derived.Maps.AppendAt
import Derived.Test.YtnpkihioklpnmaaAg5
import Derived.Deep.CutBlock
import Derived.Laws.StructEq
import Derived.BigQuiet
import Derived.Test.YtnpkihioklpnmaaAg4
import Derived.ArgAppend
import Derived.Laws.IdiomCopy
import Derived.Laws.BitsLemmas
import Derived.Deep.AppendLies
import Derived.Lib.Overlaps
/- While database.View makes a topology: the boxes and the rows. -/
namespace Go.Proofs.Ytnpkihioklpnmaa
open Go.RowKit Bs
set_option maxRecDepth 100000 in
theorem info_rtV : (Try.prog.info? 69).map (fun i => (i.zero, i.size, i.bytes)) = some (some (.agg #[.int .i64 0, .bool false]), 2, 16) := by kernel_rfl
set_option maxRecDepth 100000 in
theorem info_lkV : (Try.prog.info? 71).map (fun i => (i.zero, i.size, i.bytes)) = some (some (.agg #[.int .i64 0, .int .i64 0, .int .i64 0, .int .i64 0, .int .i64 0]), 5, 40) := by kernel_rfl
set_option maxRecDepth 100000 in
theorem topo_sizeV : (Try.prog.info? 59).map (·.size) = some 2 := by kernel_rfl
set_option maxRecDepth 100000 in
theorem res_topoV {fn : Func} {p : Tmp} (h : fn.results = #[.cell p 59]) (tmps : Array Value) (w : World) (g : Nat) (x y : Value) (hp : tmps.getD p undef = .pointer (some ⟨g, 0, none⟩)) (hg : w.heap[g]? = some (.cells #[x, y] 59 (0, 0))) :
    (results fn tmps).run Try.prog w = .ok (.agg #[x, y]) w :=
  results_cell_row h tmps w g _ _ _ _ hp hg Try.underlying59 rfl topo_sizeV
set_option maxRecDepth 100000 in
theorem rtV_one (x : Rt) : ∀ u ∈ rtC x, u.oneCell' = true := by
  intro u hu
  simp [rtC] at hu
  rcases hu with rfl | rfl <;> rfl
set_option maxRecDepth 100000 in
theorem lkV_one (x : Lk) : ∀ u ∈ lkC x, u.oneCell' = true := by
  intro u hu
  simp [lkC] at hu
  rcases hu with rfl | rfl | rfl | rfl | rfl <;> rfl
set_option maxRecDepth 100000 in
theorem cells2V (w : World) (x y : Value) (t : TypeId) : ∀ j u, [x, y][j]? = some u → (w.alloc (.cells #[x, y] t)).cell? ((⟨w.heap.size, 0, none⟩ : Addr).add j) = some u := by
  intro j u hj
  rw [add_plain]
  have hb := heap_alloc_new w (.cells #[x, y] t)
  rcases j with _ | _ | j
  · cases hj; exact cell_of_row _ _ _ _ _ _ hb
  · cases hj; exact cell_of_row _ _ _ _ _ _ hb
  · simp at hj
set_option maxRecDepth 100000 in
theorem cells5V (w : World) (x y z u v : Value) (t : TypeId) : ∀ j a, [x, y, z, u, v][j]? = some a → (w.alloc (.cells #[x, y, z, u, v] t)).cell? ((⟨w.heap.size, 0, none⟩ : Addr).add j) = some a := by
  intro j a hj
  rw [add_plain]
  have hb := heap_alloc_new w (.cells #[x, y, z, u, v] t)
  rcases j with _ | _ | _ | _ | _ | j
  · cases hj; exact cell_of_row _ _ _ _ _ _ hb
  · cases hj; exact cell_of_row _ _ _ _ _ _ hb
  · cases hj; exact cell_of_row _ _ _ _ _ _ hb
  · cases hj; exact cell_of_row _ _ _ _ _ _ hb
  · cases hj; exact cell_of_row _ _ _ _ _ _ hb
  · simp at hj
/-- While a view is made: the database and its box, the result's box, the box of what is made in block B (it holds uR, uL), the rows vR, vL of the call's own, the map. -/
structure VS (W : World) (l : List Ad) (p : Option Addr) (c B : Nat) (S : List Int) (vm uR uL vR vL : Value) (R : List Rt) (L : List Lk) (w : World) : Prop where
  db : RdA w (· < W.heap.size) (.slice p l.length c) l
  d : w.heap[W.heap.size]? = some (.cells #[.slice p l.length c] 25 (0, 0))
  z : w.heap[W.heap.size + 1]? = some (.cells #[.slice none 0 0, .slice none 0 0] 59 (0, 0))
  t : w.heap[B]? = some (.cells #[uR, uL] 59 (0, 0))
  oR : w.ownsRow (B + 1) 69 2 vR R.length (R.flatMap rtC)
  oL : w.ownsRow (B + 1) 71 5 vL L.length (L.flatMap lkC)
  ap : ∀ g, vR.ownBlock = some g → vL.ownBlock ≠ some g
  mp : MVb w (fun b => W.heap.size ≤ b ∧ b < B) vm (inS S)
  lo : W.heap.size + 1 < B
  sz : B < w.heap.size
  gr : W.grownBy w none
section
variable {W w w1 : World} {l : List Ad} {p : Option Addr} {c B : Nat} {S : List Int} {vm uR uL vR vL v' : Value} {R R2 : List Rt} {L L2 : List Lk}
set_option maxRecDepth 100000 in
theorem VS.keep (h : VS W l p c B S vm uR uL vR vL R L w) (g : w.grownBy w1 none) : VS W l p c B S vm uR uL vR vL R L w1 :=
  ⟨h.db.keep g, kept_row h.d g (by simp), kept_row h.z g (by simp), kept_row h.t g (by simp), h.oR.kept g (by cases vR.ownBlock <;> simp), h.oL.kept g (by cases vL.ownBlock <;> simp), h.ap, h.mp.keep g, h.lo, Nat.lt_of_lt_of_le h.sz g.size, grown_trans h.gr g⟩
set_option maxRecDepth 100000 in
theorem VS.row {r : Option Nat} (h : VS W l p c B S vm uR uL vR vL R L w) (hg : w.grownBy w1 r) (hr : ∀ g, r = some g → B + 1 ≤ g) :
    RdA w1 (· < W.heap.size) (.slice p l.length c) l ∧ w1.heap[W.heap.size]? = some (.cells #[.slice p l.length c] 25 (0, 0)) ∧ w1.heap[W.heap.size + 1]? = some (.cells #[.slice none 0 0, .slice none 0 0] 59 (0, 0)) ∧ w1.heap[B]? = some (.cells #[uR, uL] 59 (0, 0)) ∧ MVb w1 (fun b => W.heap.size ≤ b ∧ b < B) vm (inS S) ∧ W.grownBy w1 none := by
  have hlo := h.lo
  have hne : ∀ k, k < B + 1 → some k ≠ r := fun k hk e => by have := hr k e.symm; omega
  refine ⟨h.db.grown hg (fun b hb => hne _ (by omega)), kept_row h.d hg (hne _ (by omega)), kept_row h.z hg (hne _ (by omega)), kept_row h.t hg (hne _ (by omega)), h.mp.grown hg (fun b hb => hne _ (by omega)), ?_⟩
  cases hv : r with
  | none => rw [hv] at hg; exact grown_trans h.gr hg
  | some b => rw [hv] at hg; exact grown_new h.gr hg (by have := hr b hv; omega)
set_option maxRecDepth 100000 in
theorem VS.addR (h : VS W l p c B S vm uR uL vR vL R L w) (hown : w1.ownsRow (B + 1) 69 2 v' R2.length (R2.flatMap rtC)) (hg : w.grownBy w1 vR.ownBlock) (hat : v'.ownBlock = vR.ownBlock ∨ v'.ownBlock = some w.heap.size) : VS W l p c B S vm uR uL v' vL R2 L w1 := by
  obtain ⟨r1, r2, r3, r4, r5, r6⟩ := h.row hg (fun g e => (h.oR.lt g e).1)
  refine ⟨r1, r2, r3, r4, hown, h.oL.kept hg ?_, ?_, r5, h.lo, Nat.lt_of_lt_of_le h.sz hg.size, r6⟩
  · cases hv : vL.ownBlock with
    | none => exact .inl rfl
    | some k => exact .inr (fun e => h.ap k e.symm hv)
  · intro g2 hg2 e
    rcases hat with h1 | h1
    · exact h.ap g2 (by rw [← h1]; exact hg2) e
    · rw [h1] at hg2
      have := Option.some.inj hg2
      have := (h.oL.lt g2 e).2
      omega
set_option maxRecDepth 100000 in
theorem VS.addL (h : VS W l p c B S vm uR uL vR vL R L w) (hown : w1.ownsRow (B + 1) 71 5 v' L2.length (L2.flatMap lkC)) (hg : w.grownBy w1 vL.ownBlock) (hat : v'.ownBlock = vL.ownBlock ∨ v'.ownBlock = some w.heap.size) : VS W l p c B S vm uR uL vR v' R L2 w1 := by
  obtain ⟨r1, r2, r3, r4, r5, r6⟩ := h.row hg (fun g e => (h.oL.lt g e).1)
  refine ⟨r1, r2, r3, r4, h.oR.kept hg ?_, hown, ?_, r5, h.lo, Nat.lt_of_lt_of_le h.sz hg.size, r6⟩
  · cases hv : vR.ownBlock with
    | none => exact .inl rfl
    | some k => exact .inr (fun e => h.ap k hv e.symm)
  · intro g2 hg2 e
    rcases hat with h1 | h1
    · exact h.ap g2 hg2 (by rw [← h1]; exact e)
    · rw [h1] at e
      have := Option.some.inj e
      have := (h.oR.lt g2 hg2).2
      omega
set_option maxRecDepth 100000 in
theorem own_otherV {base size n b : Nat} {e : TypeId} {v : Value} {xs : List Value} (h : w.ownsRow base e size v n xs) (g : w.grownBy w1 (some b)) (hb : b < base) : w1.ownsRow base e size v n xs := by
  refine h.kept g ?_
  cases hv : v.ownBlock with
  | none => exact .inl rfl
  | some k => exact .inr (fun e => by have := (h.lt k hv).1; have := Option.some.inj e; omega)
set_option maxRecDepth 100000 in
theorem VS.putR (h : VS W l p c B S vm uR uL vR vL R L w) : VS W l p c B S vm vR uL vR vL R L (w.setCell ⟨B, 0, none⟩ vR) := by
  have g := grown_setCell w ⟨B, 0, none⟩ vR
  have hlo := h.lo
  have hne : ∀ k, k < B → some k ≠ some B := fun k hk e => by have := Option.some.inj e; omega
  refine ⟨h.db.grown g (fun b hb => hne _ (by omega)), kept_row h.d g (hne _ (by omega)), kept_row h.z g (hne _ (by omega)), ?_, own_otherV h.oR g (Nat.lt_succ_self _), own_otherV h.oL g (Nat.lt_succ_self _), h.ap, h.mp.grown g (fun b hb => hne _ (by omega)), h.lo, Nat.lt_of_lt_of_le h.sz g.size, grown_new h.gr g (show W.heap.size ≤ B by omega)⟩
  have h1 := heap_setCell_same w B 0 _ _ vR h.t
  rw [h1]; rfl
set_option maxRecDepth 100000 in
theorem VS.putL (h : VS W l p c B S vm uR uL vR vL R L w) : VS W l p c B S vm uR vL vR vL R L (w.setCell ⟨B, 1, none⟩ vL) := by
  have g := grown_setCell w ⟨B, 1, none⟩ vL
  have hlo := h.lo
  have hne : ∀ k, k < B → some k ≠ some B := fun k hk e => by have := Option.some.inj e; omega
  refine ⟨h.db.grown g (fun b hb => hne _ (by omega)), kept_row h.d g (hne _ (by omega)), kept_row h.z g (hne _ (by omega)), ?_, own_otherV h.oR g (Nat.lt_succ_self _), own_otherV h.oL g (Nat.lt_succ_self _), h.ap, h.mp.grown g (fun b hb => hne _ (by omega)), h.lo, Nat.lt_of_lt_of_le h.sz g.size, grown_new h.gr g (show W.heap.size ≤ B by omega)⟩
  have h1 := heap_setCell_same w B 1 _ _ vL h.t
  rw [h1]; rfl
end
/-- And an advert's box, in block X. -/
structure VB (W : World) (l : List Ad) (p : Option Addr) (c B : Nat) (S : List Int) (vm uR uL vR vL : Value) (R : List Rt) (L : List Lk) (A : Ad) (X : Nat) (w : World) : Prop where
  s : VS W l p c B S vm uR uL vR vL R L w
  a : w.heap[X]? = some (.cells #[.int .i64 A.r, .int .i64 A.q, .bool A.cp, .slice A.pL A.L.length A.cL, .slice A.pC A.C.length A.cC] 38 (0, 0))
  nR : vR.ownBlock ≠ some X
  nL : vL.ownBlock ≠ some X
  lo : B < X ∧ X < w.heap.size
/-- And linked adverts in a row that came while blocks h7 to h8 came. -/
structure VI (W : World) (l : List Ad) (p : Option Addr) (c B : Nat) (S : List Int) (vm uR uL vR vL : Value) (R : List Rt) (L : List Lk) (A : Ad) (X : Nat) (pm : Option Addr) (cm : Nat) (M : List Ad) (h7 h8 : Nat) (w : World) : Prop where
  b : VB W l p c B S vm uR uL vR vL R L A X w
  m : RdF w (fun b => h7 ≤ b ∧ b < h8) (.slice pm M.length cm) M.length (M.flatMap adL)
  sep : ∀ g, vL.ownBlock = some g → g < h7 ∨ h8 ≤ g
  lo : B < h7 ∧ h8 ≤ w.heap.size
section
variable {W w w1 : World} {l M : List Ad} {p pm : Option Addr} {c B X cm h7 h8 : Nat} {S : List Int} {vm uR uL vR vL v' : Value} {R R2 : List Rt} {L L2 : List Lk} {A : Ad}
set_option maxRecDepth 100000 in
theorem VB.keep (h : VB W l p c B S vm uR uL vR vL R L A X w) (g : w.grownBy w1 none) : VB W l p c B S vm uR uL vR vL R L A X w1 :=
  ⟨h.s.keep g, kept_row h.a g (by simp), h.nR, h.nL, h.lo.1, Nat.lt_of_lt_of_le h.lo.2 g.size⟩
set_option maxRecDepth 100000 in
theorem VB.addR (h : VB W l p c B S vm uR uL vR vL R L A X w) (hown : w1.ownsRow (B + 1) 69 2 v' R2.length (R2.flatMap rtC)) (hg : w.grownBy w1 vR.ownBlock) (hat : v'.ownBlock = vR.ownBlock ∨ v'.ownBlock = some w.heap.size) : VB W l p c B S vm uR uL v' vL R2 L A X w1 := by
  refine ⟨h.s.addR hown hg hat, kept_row h.a hg (fun e => h.nR e.symm), fun e => ?_, h.nL, h.lo.1, Nat.lt_of_lt_of_le h.lo.2 hg.size⟩
  rcases hat with h1 | h1
  · exact h.nR (h1.symm.trans e)
  · have := Option.some.inj (h1.symm.trans e); have := h.lo.2; omega
set_option maxRecDepth 100000 in
theorem VB.addL (h : VB W l p c B S vm uR uL vR vL R L A X w) (hown : w1.ownsRow (B + 1) 71 5 v' L2.length (L2.flatMap lkC)) (hg : w.grownBy w1 vL.ownBlock) (hat : v'.ownBlock = vL.ownBlock ∨ v'.ownBlock = some w.heap.size) : VB W l p c B S vm uR uL vR v' R L2 A X w1 := by
  refine ⟨h.s.addL hown hg hat, kept_row h.a hg (fun e => h.nL e.symm), h.nR, fun e => ?_, h.lo.1, Nat.lt_of_lt_of_le h.lo.2 hg.size⟩
  rcases hat with h1 | h1
  · exact h.nL (h1.symm.trans e)
  · have := Option.some.inj (h1.symm.trans e); have := h.lo.2; omega
set_option maxRecDepth 100000 in
theorem VB.putR (h : VB W l p c B S vm uR uL vR vL R L A X w) : VB W l p c B S vm vR uL vR vL R L A X (w.setCell ⟨B, 0, none⟩ vR) := by
  have g := grown_setCell w ⟨B, 0, none⟩ vR
  exact ⟨h.s.putR, kept_row h.a g (fun e => by have : X = B := Option.some.inj e; have := h.lo.1; omega), h.nR, h.nL, h.lo.1, Nat.lt_of_lt_of_le h.lo.2 g.size⟩
set_option maxRecDepth 100000 in
theorem VB.putL (h : VB W l p c B S vm uR uL vR vL R L A X w) : VB W l p c B S vm uR vL vR vL R L A X (w.setCell ⟨B, 1, none⟩ vL) := by
  have g := grown_setCell w ⟨B, 1, none⟩ vL
  exact ⟨h.s.putL, kept_row h.a g (fun e => by have : X = B := Option.some.inj e; have := h.lo.1; omega), h.nR, h.nL, h.lo.1, Nat.lt_of_lt_of_le h.lo.2 g.size⟩
set_option maxRecDepth 100000 in
theorem VI.keep (h : VI W l p c B S vm uR uL vR vL R L A X pm cm M h7 h8 w) (g : w.grownBy w1 none) : VI W l p c B S vm uR uL vR vL R L A X pm cm M h7 h8 w1 :=
  ⟨h.b.keep g, h.m.grown g (fun _ _ => by simp), h.sep, h.lo.1, Nat.le_trans h.lo.2 g.size⟩
set_option maxRecDepth 100000 in
theorem VI.addL (h : VI W l p c B S vm uR uL vR vL R L A X pm cm M h7 h8 w) (hown : w1.ownsRow (B + 1) 71 5 v' L2.length (L2.flatMap lkC)) (hg : w.grownBy w1 vL.ownBlock) (hat : v'.ownBlock = vL.ownBlock ∨ v'.ownBlock = some w.heap.size) : VI W l p c B S vm uR uL vR v' R L2 A X pm cm M h7 h8 w1 := by
  refine ⟨h.b.addL hown hg hat, h.m.grown hg (fun b hb e => by have := h.sep b e.symm; omega), fun g hgg => ?_, h.lo.1, Nat.le_trans h.lo.2 hg.size⟩
  rcases hat with h1 | h1
  · exact h.sep g (by rw [← h1]; exact hgg)
  · rw [h1] at hgg; have := Option.some.inj hgg; have := h.lo.2; omega
set_option maxRecDepth 100000 in
theorem VI.putL (h : VI W l p c B S vm uR uL vR vL R L A X pm cm M h7 h8 w) : VI W l p c B S vm uR vL vR vL R L A X pm cm M h7 h8 (w.setCell ⟨B, 1, none⟩ vL) := by
  have g := grown_setCell w ⟨B, 1, none⟩ vL
  exact ⟨h.b.putL, h.m.grown g (fun b hb e => by have : b = B := Option.some.inj e; have := h.lo.1; omega), h.sep, h.lo.1, Nat.le_trans h.lo.2 g.size⟩
end
set_option maxRecDepth 100000 in
theorem flt_step {M : List Ad} {j : Nat} {x A : Ad} (h : M[j]? = some x) : ((M.take (j + 1)).filter (ltA A)).map (btw A) = ((M.take j).filter (ltA A)).map (btw A) ++ (if A.r < x.r then [btw A x] else []) := by
  rw [List.take_add_one, h, List.filter_append, List.map_append]
  congr 1
  show ([x].filter (ltA A)).map (btw A) = _
  by_cases e : A.r < x.r
  · rw [if_pos e, List.filter_cons, show ltA A x = true from decide_eq_true e]; rfl
  · rw [if_neg e, List.filter_cons, show ltA A x = false from decide_eq_false e]; rfl
set_option maxRecDepth 100000 in
theorem vw_step {l : List Ad} {k : Nat} {A : Ad} {S : List Int} (h : l[k]? = some A) : ((l.take (k + 1)).filter (inV S)).map toR = ((l.take k).filter (inV S)).map toR ++ (if inS S A.r = true then [toR A] else []) ∧ ((l.take (k + 1)).filter (inV S)).flatMap (vL1 l) = ((l.take k).filter (inV S)).flatMap (vL1 l) ++ (if inS S A.r = true then vL1 l A else []) := by
  rw [List.take_add_one, h, List.filter_append, List.map_append, List.flatMap_append]
  have e : ((some A).toList.filter (inV S)) = if inS S A.r = true then [A] else [] := by
    show [A].filter (inV S) = _
    rw [List.filter_cons]
    rfl
  rw [e]
  cases inS S A.r <;> simp
/-- What View returns. -/
def VwPost (l : List Ad) (r : Int) (w : World) (e : Ending) (w' : World) : Prop :=
  ∃ T : Tg, e = .returned (.agg #[.slice T.pR T.R.length T.cR, .slice T.pL T.L.length T.cL]) ∧ (T.R, T.L) = viewV l r ∧ TgOk w' (w.heap.size ≤ ·) T ∧ w.grownBy w' none
set_option maxRecDepth 100000 in
theorem vw_no {l : List Ad} {r : Int} {w w' : World} (h : viewV l r = ([], [])) (g : w.grownBy w' none) : VwPost l r w (.returned (.agg #[.slice none 0 0, .slice none 0 0])) w' :=
  ⟨⟨[], [], none, 0, none, 0⟩, rfl, h.symm, ⟨⟨none, 0, rfl, fun h => absurd rfl h⟩, ⟨none, 0, rfl, fun h => absurd rfl h⟩, ⟨Nat.le_refl _, by decide⟩, ⟨Nat.le_refl _, by decide⟩⟩, g⟩
end Go.Proofs.Ytnpkihioklpnmaa

/- database: copied, Find. -/
namespace Go.Proofs.Ytnpkihioklpnmaa
open Go.RowKit Bs
section
variable {W w w1 : World} {A : Ad} {v1 v2 v : Value}
end
end Go.Proofs.Ytnpkihioklpnmaa

/- database: Find. -/
namespace Go.Proofs.Ytnpkihioklpnmaa
open Go.RowKit Bs
set_option maxRecDepth 100000 in
theorem rdf_and {w : World} {q : Nat → Prop} {v : Value} {n : Nat} {xs : List Value} (h : RdF w q v n xs) : RdF w (fun b => q b ∧ b < w.heap.size) v n xs := by
  obtain ⟨p, c, hv, hc⟩ := h
  refine ⟨p, c, hv, fun hne => ?_⟩
  obtain ⟨b, off, hp, hb, hx⟩ := hc hne
  obtain ⟨x, hx0⟩ : ∃ x, xs[0]? = some x := by
    cases xs with
    | nil => exact absurd rfl hne
    | cons a t => exact ⟨a, rfl⟩
  exact ⟨b, off, hp, ⟨hb, World.block_lt_of_cell? w ⟨b, off + 0, none⟩ (hx 0 x hx0)⟩, hx⟩
set_option maxRecDepth 100000 in
theorem AdOk.and {w : World} {q : Nat → Prop} {A : Ad} (h : AdOk w q A) : AdOk w (fun b => q b ∧ b < w.heap.size) A := ⟨rdf_and h.l, rdf_and h.c, h.hl, h.hc⟩
set_option maxRecDepth 100000 in
theorem res_adv_b {fn : Func} {p u : Tmp} (h : fn.results = #[.cell p 38, .tmp u]) (tmps : Array Value) (w : World) (g : Nat) (x y z s t : Value) (hp : tmps.getD p undef = .pointer (some ⟨g, 0, none⟩)) (hg : w.heap[g]? = some (.cells #[x, y, z, s, t] 38 (0, 0))) :
    (results fn tmps).run Try.prog w = .ok (.tuple #[.agg #[x, y, z, s, t], tmps.getD u undef]) w := by
  have hp' : tmps[p]?.getD undef = .pointer (some ⟨g, 0, none⟩) := by simpa using hp
  rw [results_cell_tmp h]
  simp [hp', asAddr, run_loadVar_row w g _ _ _ _ _ hg Try.underlying38 rfl adv_size, Result.andThen]
def zAd : Ad := ⟨0, 0, false, [], [], none, 0, none, 0⟩
set_option maxRecDepth 100000 in
theorem zAd_ok (w : World) (q : Nat → Prop) : AdOk w q zAd := ⟨⟨none, 0, rfl, fun h => absurd rfl h⟩, ⟨none, 0, rfl, fun h => absurd rfl h⟩, ⟨Nat.le_refl _, by show (0 : Nat) ≤ _; omega⟩, ⟨Nat.le_refl _, by show (0 : Nat) ≤ _; omega⟩⟩
set_option maxRecDepth 100000 in
theorem fn_take {l : List Ad} {r : Int} {k : Nat} {A : Ad} (h : (l.take k).find? (isR r) = none) (hx : l[k]? = some A) : (l.take (k + 1)).find? (isR r) = if A.r = r then some A else none := by
  rw [List.take_add_one, hx, List.find?_append, h]
  unfold isR
  by_cases e : A.r = r <;> simp [e]
set_option maxRecDepth 100000 in
theorem fn_hit {l : List Ad} {r : Int} {k : Nat} {A : Ad} (h : (l.take k).find? (isR r) = none) (hx : l[k]? = some A) (e : A.r = r) : fndA l r = some A := by
  unfold fndA
  have h2 := fn_take h hx
  rw [if_pos e] at h2
  rw [← List.take_append_drop (k + 1) l, List.find?_append, h2]
  rfl
set_option maxRecDepth 100000 in
theorem fn_end {l : List Ad} {r : Int} (h : (l.take l.length).find? (isR r) = none) : fndA l r = none := by
  rw [List.take_length] at h
  exact h
/-- What Find returns. -/
def FinPost (l : List Ad) (r : Int) (q : Nat → Prop) (w : World) (e : Ending) (w' : World) : Prop :=
  ∃ X : Ad, e = .returned (.tuple #[.agg #[.int .i64 X.r, .int .i64 X.q, .bool X.cp, .slice X.pL X.L.length X.cL, .slice X.pC X.C.length X.cC], .bool (fndA l r).isSome]) ∧ (X.r = ((fndA l r).getD zAd).r ∧ X.q = ((fndA l r).getD zAd).q ∧ X.cp = ((fndA l r).getD zAd).cp ∧ X.L = ((fndA l r).getD zAd).L ∧ X.C = ((fndA l r).getD zAd).C) ∧ AdOk w' q X ∧ w.grownBy w' none
/-- While Find looks: the database and its box, the result's box. -/
structure FB (W : World) (l : List Ad) (p : Option Addr) (c : Nat) (w : World) : Prop where
  db : RdA w (· < W.heap.size) (.slice p l.length c) l
  d : w.heap[W.heap.size]? = some (.cells #[.slice p l.length c] 25 (0, 0))
  z : w.heap[W.heap.size + 1]? = some (.cells #[.int .i64 0, .int .i64 0, .bool false, .slice none 0 0, .slice none 0 0] 38 (0, 0))
  gr : W.grownBy w none
set_option maxRecDepth 100000 in
theorem FB.keep {W w w1 : World} {l : List Ad} {p : Option Addr} {c : Nat} (h : FB W l p c w) (g : w.grownBy w1 none) : FB W l p c w1 := ⟨h.db.keep g, kept_row h.d g (by simp), kept_row h.z g (by simp), grown_trans h.gr g⟩
set_option maxRecDepth 100000 in
theorem fb_start {w : World} {l : List Ad} {p : Option Addr} {c : Nat} {q : Nat → Prop} (hR : RdA w q (.slice p l.length c) l) : FB w l p c ((w.alloc (.cells #[.slice p l.length c] 25)).alloc (.cells #[.int .i64 0, .int .i64 0, .bool false, .slice none 0 0, .slice none 0 0] 38)) := by
  obtain ⟨k1, k2, k3, k4⟩ := two_boxes w #[.slice p l.length c] #[.int .i64 0, .int .i64 0, .bool false, .slice none 0 0, .slice none 0 0] 25 38
  exact ⟨(RdA.old hR).keep k3, k1, k2, k3⟩
end Go.Proofs.Ytnpkihioklpnmaa

/- database: Same (slices.EqualFunc of adverts). -/
namespace Go.Proofs.Ytnpkihioklpnmaa
open Go.RowKit Bs
end Go.Proofs.Ytnpkihioklpnmaa

/- Two links compared, two claims compared. -/
namespace Go.Proofs.Ytnpkihioklpnmaa
open Go.RowKit Bs
end Go.Proofs.Ytnpkihioklpnmaa

/- The reference's Same. -/
namespace Go.Proofs.Ytnpkihioklpnmaa
open Go.RowKit Bs
end Go.Proofs.Ytnpkihioklpnmaa

/- The reference: when the claims of an advert are valid, and when an advert is. -/
namespace Go.Proofs.Ytnpkihioklpnmaa
open Go.RowKit Bs
end Go.Proofs.Ytnpkihioklpnmaa

/- The reference's Find, Same, Check of databases; big. -/
namespace Go.Proofs.Ytnpkihioklpnmaa
open Go.RowKit Bs
end Go.Proofs.Ytnpkihioklpnmaa

/- The reference's Find of databases. -/
namespace Go.Proofs.Ytnpkihioklpnmaa
open Go.RowKit Bs
set_option maxRecDepth 100000 in
set_option maxHeartbeats 3200000 in
theorem rfind_any (l : List Ad) (r : Int) (p : Option Addr) (c : Nat) (q : Nat → Prop) (w : World) (hR : RdA w q (.slice p l.length c) l) (hm : l.length ≤ 9223372036854775807) :
    Calls Try.prog 20 #[.agg #[.slice p l.length c], .int .i64 r] w fun e w' => FinPost l r q w e w' := by
  have H0 := Lib.hid (fb_start hR)
  have HR := Lib.hid hR
  clear hR
  go_enter Try.func20, Try.ntmps20
  go_upto_region 1 with fail
  generalize (w.alloc _).alloc _ = wa at *
  go_wp2_with fail
  go_loopw [6] (fun a wr => ∃ k : Nat, k ≤ l.length ∧ a = .int .i64 (k : Int) ∧ Hid ((l.take k).find? (isR r) = none) ∧ Hid (FB w l p c wr)) (fun a _ => l.length - (RowKit.intOf a).toNat)
  case atStart => exact ⟨0, Nat.zero_le _, rfl, Lib.hid rfl, H0⟩
  case round =>
  obtain ⟨k, hk, rfl, HN, K⟩ := hrel
  clear H0
  have c0 : wr.cell? ⟨w.heap.size, 0, none⟩ = some (.slice p l.length c) := cell_of_row _ _ _ _ _ _ K.out.d
  obtain ⟨z0, z1, z2, z3, z4⟩ := row5 K.out.z
  have f0 := frozen_of_row _ _ 0 _ _ K.out.z
  have f1 := frozen_of_row _ _ 1 _ _ K.out.z
  have f2 := frozen_of_row _ _ 2 _ _ K.out.z
  have f3 := frozen_of_row _ _ 3 _ _ K.out.z
  have f4 := frozen_of_row _ _ 4 _ _ K.out.z
  by_cases hlt : k < l.length
  · have hltI : (k : Int) < (l.length : Int) := by omega
    obtain ⟨-, b, off, rfl, -, -⟩ := rda_cells K.out.db (by omega)
    obtain ⟨A, hA⟩ : ∃ A, l[k]? = some A := ⟨_, List.getElem?_eq_getElem hlt⟩
    obtain ⟨a0, a1, a2, a3, a4⟩ := rda_at K.out.db hA
    have HA := Lib.hid (And.intro hA (List.mem_of_getElem? hA))
    clear hA
    by_cases e : A.r = r
    · have e' : (A.r == r) = true := by simpa using e
      have HF := Lib.hid (fn_hit HN.out HA.out.1 e)
      obtain ⟨t1, t2⟩ := store5 (.int .i64 A.r) (.int .i64 A.q) (.bool A.cp) (.slice A.pL A.L.length A.cL) (.slice A.pC A.C.length A.cC) K.out.z
      have HT := Lib.hid (And.intro t1 (And.intro (grown_new K.out.gr t2 (by omega)) (((((HR.out.ok A HA.out.2).and.keep K.out.gr).grown t2 (fun b hb e => by have := Option.some.inj e; have := hb.2; omega))).mono (fun _ hb => hb.1))))
      clear t1 t2 K e
      go_wp2_with fail
      refine bodyPost_ret (res_adv_b rfl _ _ (w.heap.size + 1) _ _ _ _ _ rfl HT.out.1) rfl ?_
      exact ⟨A, by rw [HF.out]; rfl, by rw [HF.out]; exact ⟨rfl, rfl, rfl, rfl, rfl⟩, HT.out.2.2, HT.out.2.1⟩
    · have e' : (A.r == r) = false := by simpa using e
      have HN2 : Hid ((l.take (k + 1)).find? (isR r) = none) := Lib.hid (by rw [fn_take HN.out HA.out.1, if_neg e])
      clear e HN
      go_wp2_with fail
      exact ⟨⟨k + 1, by omega, congrArg _ (by omega), HN2, K⟩, by simp only [RowKit.intOf]; omega⟩
  · obtain rfl : k = l.length := by omega
    have HF := Lib.hid (fn_end HN.out)
    obtain ⟨t1, t2⟩ := store5 (.int .i64 0) (.int .i64 0) (.bool false) (.slice none 0 0) (.slice none 0 0) K.out.z
    have HT := Lib.hid (And.intro t1 (grown_new K.out.gr t2 (by omega)))
    clear t1 t2 K HN
    go_wp2_with fail
    refine bodyPost_ret (res_adv_b rfl _ _ (w.heap.size + 1) _ _ _ _ _ rfl HT.out.1) rfl ?_
    exact ⟨zAd, by rw [HF.out]; rfl, by rw [HF.out]; exact ⟨rfl, rfl, rfl, rfl, rfl⟩, zAd_ok _ _, HT.out.2⟩
end Go.Proofs.Ytnpkihioklpnmaa

/- Put and Merge: the mathematics. -/
namespace Go.Proofs.Ytnpkihioklpnmaa
open Go.RowKit Bs
/-- An advert takes the place of the one with its router, or is added. -/
def putA : List Ad → Ad → List Ad
  | [], A => [A]
  | B :: t, A => if B.r < A.r then B :: putA t A else if B.r = A.r then A :: t else A :: B :: t
set_option maxRecDepth 100000 in
theorem putA_mem : ∀ {l : List Ad} {A B : Ad}, B ∈ putA l A → B = A ∨ B ∈ l
  | [], A, B, h => by rw [putA, List.mem_singleton] at h; exact .inl h
  | C :: t, A, B, h => by
    rw [putA] at h
    split at h
    · rcases List.mem_cons.1 h with h | h
      · exact .inr (h ▸ List.mem_cons_self)
      · rcases putA_mem h with h | h
        · exact .inl h
        · exact .inr (List.mem_cons_of_mem _ h)
    · split at h
      · rcases List.mem_cons.1 h with h | h
        · exact .inl h
        · exact .inr (List.mem_cons_of_mem _ h)
      · rcases List.mem_cons.1 h with h | h
        · exact .inl h
        · exact .inr h
set_option maxRecDepth 100000 in
theorem putA_asc : ∀ {l : List Ad} {A : Ad} {k : Int}, ascD k l = true → k < A.r → ascD k (putA l A) = true
  | [], A, k, _, h => by rw [putA, ascD, decide_eq_true h]; rfl
  | B :: t, A, k, hl, h => by
    rw [ascD, Bool.and_eq_true] at hl
    have h1 := of_decide_eq_true hl.1
    rw [putA]
    split
    · rename_i h2
      rw [ascD, decide_eq_true h1, putA_asc hl.2 h2]; rfl
    · rename_i h2
      split
      · rename_i h3
        rw [ascD, decide_eq_true h, ← h3, hl.2]; rfl
      · rename_i h3
        rw [ascD, decide_eq_true h, ascD, decide_eq_true (by omega), hl.2]; rfl
set_option maxRecDepth 100000 in
theorem vAd_r {A : Ad} (h : vAd A = true) : 1 ≤ A.r ∧ A.r ≤ 99 := by
  unfold vAd at h
  rw [Bool.and_eq_true] at h
  have h1 := h.1
  unfold vHd at h1
  exact (of_decide_eq_true h1).1
set_option maxRecDepth 100000 in
theorem asc_len : ∀ {l : List Ad} {k : Int}, ascD k l = true → (∀ A ∈ l, A.r ≤ 99) → l ≠ [] → k + l.length ≤ 99
  | [], _, _, _, h => absurd rfl h
  | [A], k, h, h99, _ => by
    rw [ascD, Bool.and_eq_true] at h
    have h1 := of_decide_eq_true h.1
    have := h99 A List.mem_cons_self
    simp only [List.length_singleton]; omega
  | A :: B :: t, k, h, h99, _ => by
    rw [ascD, Bool.and_eq_true] at h
    have h1 := of_decide_eq_true h.1
    have := asc_len h.2 (fun C hC => h99 C (List.mem_cons_of_mem _ hC)) (by simp)
    simp only [List.length_cons] at *; omega
set_option maxRecDepth 100000 in
theorem OkD_of {l : List Ad} (hv : ∀ A ∈ l, vAd A = true) (ha : ascD 0 l = true) : OkD l := by
  refine ⟨?_, hv, ha⟩
  by_cases h : l = []
  · subst h; exact Nat.zero_le _
  · have := asc_len ha (fun A hA => (vAd_r (hv A hA)).2) h; omega
set_option maxRecDepth 100000 in
theorem OkD.ok {l : List Ad} (h : OkD l) : okD l = true := by
  unfold okD chkD
  have h1 := h.len
  rw [if_neg (by omega), if_neg (by
    rw [Bool.not_eq_true, List.any_eq_false]
    intro A hA
    unfold notV
    rw [h.v A hA]
    decide), h.asc]
  rfl
set_option maxRecDepth 100000 in
theorem OkD.put {l : List Ad} {A : Ad} (h : OkD l) (hA : vAd A = true) : OkD (putA l A) :=
  OkD_of (fun B hB => by
    rcases putA_mem hB with e | hB
    · rw [e]; exact hA
    · exact h.v B hB) (putA_asc h.asc (by have := (vAd_r hA).1; omega))
/-- Does an advert change a database? -/
def chg (l : List Ad) (A : Ad) : Bool := match fndA l A.r with
  | none => true
  | some B => nwA A B
/-- What put does to a valid database. -/
def put1 (l : List Ad) (A : Ad) : List Ad := if chg l A = true then putA l A else l
set_option maxRecDepth 100000 in
theorem OkD.put1 {l : List Ad} {A : Ad} (h : OkD l) (hA : vAd A = true) : OkD (put1 l A) := by
  unfold Go.Proofs.Ytnpkihioklpnmaa.put1
  split
  · exact h.put hA
  · exact h
set_option maxRecDepth 100000 in
theorem PlP.set {l : List Ad} {A : Ad} {i : Nat} (hp : l.Pairwise (fun A B => A.r < B.r)) (h : PlP l A.r i true) : putA l A = l.set i A := by
  induction l generalizing i with
  | nil => have := h.eq; simp at this
  | cons B t ih =>
    obtain ⟨p1, p2⟩ := List.pairwise_cons.1 hp
    cases i with
    | zero =>
      have h2 := h.eq
      simp only [List.getElem?_cons_zero] at h2
      have h3 := of_decide_eq_true h2.symm
      rw [putA, if_neg (by omega), if_pos h3]
      rfl
    | succ i =>
      have hlt : B.r < A.r := by
        have h2 := h.eq
        rw [List.getElem?_cons_succ] at h2
        cases hx : t[i]? with
        | none => rw [hx] at h2; cases h2
        | some x =>
          rw [hx] at h2
          simp only at h2
          have h3 := of_decide_eq_true h2.symm
          have := p1 x (List.mem_of_getElem? hx)
          omega
      have hq : PlP t A.r i true := by
        refine ⟨by have := h.le; simp only [List.length_cons] at this; omega, fun x hx hg => ?_, fun x hg => h.hi x (by rw [List.getElem?_cons_succ]; exact hg), by have := h.eq; rw [List.getElem?_cons_succ] at this; exact this⟩
        obtain ⟨j, rfl⟩ : ∃ j, i = j + 1 := ⟨i - 1, by omega⟩
        exact h.lo x (by omega) (by show (B :: t)[j + 1]? = _; rw [List.getElem?_cons_succ]; exact hg)
      rw [putA, if_pos hlt, ih p2 hq]
      rfl
/-! What is found in what Put and Merge give. -/
set_option maxRecDepth 100000 in
theorem fnd_cons (B : Ad) (t : List Ad) (r : Int) : fndA (B :: t) r = if B.r = r then some B else fndA t r := by
  unfold fndA
  rw [List.find?_cons]
  unfold isR
  by_cases h : B.r = r
  · rw [decide_eq_true h, if_pos h]
  · rw [decide_eq_false h, if_neg h]
set_option maxRecDepth 100000 in
theorem fnd_none {l : List Ad} {k r : Int} (h : ascD k l = true) (hr : r ≤ k) : fndA l r = none := by
  refine List.find?_eq_none.2 fun B hB => ?_
  have := (asc_pair l k h).1 B hB
  unfold isR
  rw [decide_eq_false (by omega)]
  decide
set_option maxRecDepth 100000 in
/-- Ascending adverts are what is found in them. -/
theorem fnd_ext : ∀ {l m : List Ad} {k : Int}, ascD k l = true → ascD k m = true → (∀ r, fndA l r = fndA m r) → l = m
  | [], [], _, _, _, _ => rfl
  | [], B :: t, _, _, _, h => by have := h B.r; rw [fnd_cons, if_pos rfl] at this; cases this
  | A :: s, [], _, _, _, h => by have := h A.r; rw [fnd_cons, if_pos rfl] at this; cases this
  | A :: s, B :: t, k, h1, h2, h => by
    rw [ascD, Bool.and_eq_true] at h1 h2
    have hAB : A = B := by
      rcases Int.lt_trichotomy A.r B.r with h3 | h3 | h3
      · have := h A.r
        rw [fnd_cons, if_pos rfl, fnd_cons, if_neg (by omega), fnd_none h2.2 (by omega)] at this
        cases this
      · have := h A.r
        rw [fnd_cons, if_pos rfl, fnd_cons, if_pos h3.symm] at this
        exact Option.some.inj this
      · have := h B.r
        rw [fnd_cons, if_neg (by omega), fnd_none h1.2 (by omega), fnd_cons, if_pos rfl] at this
        cases this
    subst hAB
    rw [fnd_ext h1.2 h2.2 (fun r => by
      have := h r
      rw [fnd_cons, fnd_cons] at this
      by_cases e : A.r = r
      · rw [fnd_none h1.2 (by omega), fnd_none h2.2 (by omega)]
      · rw [if_neg e, if_neg e] at this; exact this)]
/-! The newer one of two: an algebra. -/
end Go.Proofs.Ytnpkihioklpnmaa

/- The reference's Reach and linked. -/
namespace Go.Proofs.Ytnpkihioklpnmaa
open Go.RowKit Bs
set_option maxRecDepth 100000 in
set_option maxHeartbeats 3200000 in
theorem rreach_any (A : Ad) (t : Int) (q : Nat → Prop) (w : World) (hA : AdOk w q A) :
    Calls Try.prog 39 #[.agg #[.int .i64 A.r, .int .i64 A.q, .bool A.cp, .slice A.pL A.L.length A.cL, .slice A.pC A.C.length A.cC], .int .i64 t] w fun e w' => e = .returned (.tuple #[.agg #[.int .i64 (rcV A t).a, .int .i64 (rcV A t).b, .int .i64 (rcV A t).c], .bool (rcA A t).isSome]) ∧ w.grownBy w' none := by
  obtain ⟨k1, k2, k3, k4⟩ := two_boxes w #[.int .i64 A.r, .int .i64 A.q, .bool A.cp, .slice A.pL A.L.length A.cL, .slice A.pC A.C.length A.cC] #[.int .i64 0, .int .i64 0, .int .i64 0] 38 73
  have HB := Lib.hid (And.intro k1 (And.intro k2 (And.intro k3 (hA.keep k3))))
  have hml : A.L.length ≤ 9223372036854775807 := Nat.le_trans hA.hl.1 hA.hl.2
  clear k1 k2 k3 k4 hA
  obtain ⟨r, q2, cp, L, C, pL, cL, pC, cC⟩ := A
  simp only at HB hml ⊢
  obtain ⟨O, hO⟩ : ∃ O, rcA ⟨r, q2, cp, L, C, pL, cL, pC, cC⟩ t = O := ⟨_, rfl⟩
  unfold rcV
  rw [hO]
  have HO := Lib.hid hO
  clear hO
  go_enter Try.func39, Try.ntmps39
  go_upto_region 1 with fail
  generalize (w.alloc _).alloc _ = wa at *
  obtain ⟨c0, c1, c2, c3, c4⟩ := row5 HB.out.1
  obtain ⟨z0, z1, z2⟩ := row3 HB.out.2.1
  have f0 := frozen_of_row _ _ 0 _ _ HB.out.2.1
  have f1 := frozen_of_row _ _ 1 _ _ HB.out.2.1
  have f2 := frozen_of_row _ _ 2 _ _ HB.out.2.1
  go_wp2_with fail
  go_loopw [6] (fun a wr => ∃ k : Nat, k ≤ L.length ∧ a = .int .i64 (k : Int) ∧ Hid ((L.take k).find? (isN t) = none) ∧ wr = wa) (fun a _ => L.length - (RowKit.intOf a).toNat)
  case atStart => exact ⟨0, Nat.zero_le _, rfl, Lib.hid rfl, rfl⟩
  case round =>
    obtain ⟨k, hk, rfl, HN, rfl⟩ := hrel
    by_cases hlt : k < L.length
    · obtain ⟨-, b, off, rfl, hq, hc⟩ := rd3_cells HB.out.2.2.2.l (show 0 < L.length by omega)
      obtain ⟨x, hx⟩ : ∃ x, L[k]? = some x := ⟨_, List.getElem?_eq_getElem hlt⟩
      obtain ⟨a0, a1, a2⟩ := hc k x hx
      have HX := Lib.hid hx
      clear hc hx
      by_cases e : x.a = t
      · have e' : (x.a == t) = true := by simpa using e
        obtain rfl : some x = O := by rw [← HO.out]; exact (rc_hit (A := ⟨r, q2, cp, L, C, some ⟨b, off, none⟩, cL, pC, cC⟩) HN.out HX.out e).symm
        have HT := Lib.hid (store3r (.int .i64 x.a) (.int .i64 x.b) (.int .i64 x.c) HB.out.2.1)
        have HG := Lib.hid HB.out.2.2.1
        clear HB e
        go_wp2_with fail
        refine bodyPost_ret (res_re_b rfl _ _ (w.heap.size + 1) _ _ _ rfl HT.out.1) rfl ?_
        exact ⟨rfl, grown_new HG.out HT.out.2 (by omega)⟩
      · have e' : (x.a == t) = false := by simpa using e
        have HN2 : Hid ((L.take (k + 1)).find? (isN t) = none) := Lib.hid (by rw [rc_take (A := ⟨r, q2, cp, L, C, some ⟨b, off, none⟩, cL, pC, cC⟩) HN.out HX.out, if_neg e])
        clear e
        go_wp2_with fail
        exact ⟨⟨k + 1, by omega, congrArg _ (by omega), HN2, by first | trivial | rfl⟩, by simp only [RowKit.intOf]; omega⟩
    · obtain rfl : k = L.length := by omega
      obtain rfl : none = O := by rw [← HO.out]; unfold rcA; have := HN.out; rw [List.take_length] at this; exact this.symm
      have HT := Lib.hid (store3r (.int .i64 0) (.int .i64 0) (.int .i64 0) HB.out.2.1)
      have HG := Lib.hid HB.out.2.2.1
      clear HB
      go_wp2_with fail
      refine bodyPost_ret (res_re_b rfl _ _ (w.heap.size + 1) _ _ _ rfl HT.out.1) rfl ?_
      exact ⟨rfl, grown_new HG.out HT.out.2 (by omega)⟩
section
variable {W w : World} {bu bv : Nat} {u v : T3}
end
end Go.Proofs.Ytnpkihioklpnmaa

/- View: where lists lie does not matter, nor how often one looks; a router that nobody names changes nothing. The mathematics. -/
namespace Go.Proofs.Ytnpkihioklpnmaa
open Go.RowKit Bs
set_option maxRecDepth 100000 in
theorem add_in : ∀ (M : List Ad) (st : List Int × List Ad) (y : Int), inS (M.foldl addA st).1 y = true → inS st.1 y = true ∨ ∃ B ∈ M, B.r = y
  | [], st, y, h => .inl h
  | B :: M, st, y, h => by
    rw [List.foldl_cons] at h
    rcases add_in M _ y h with h | ⟨C, h1, h2⟩
    · unfold addA at h
      split at h
      · exact .inl h
      · rw [inS_app, inS_one, Bool.or_eq_true] at h
        rcases h with h | h
        · exact .inl h
        · exact .inr ⟨B, List.mem_cons_self, of_decide_eq_true h⟩
    · exact .inr ⟨C, List.mem_cons_of_mem _ h1, h2⟩
section
variable {d : List Ad} {x : Ad}
end
end Go.Proofs.Ytnpkihioklpnmaa

/- The reference's View: the mathematics. -/
namespace Go.Proofs.Ytnpkihioklpnmaa
open Go.RowKit Bs
/-- Two adverts name each other. -/
def lkAd (A B : Ad) : Bool := (rcA A B.r).isSome && (rcA B A.r).isSome
set_option maxRecDepth 100000 in
theorem fnd_selfV : ∀ {l : List Ad} {k : Int}, ascD k l = true → ∀ A ∈ l, fndA l A.r = some A
  | [], _, _, A, h => by cases h
  | B :: t, k, h, A, hA => by
    rw [ascD, Bool.and_eq_true] at h
    rw [fnd_cons]
    rcases List.mem_cons.1 hA with rfl | hA
    · rw [if_pos rfl]
    · have := (asc_pair t B.r h.2).1 A hA
      rw [if_neg (by omega), fnd_selfV h.2 A hA]
set_option maxRecDepth 100000 in
theorem ascD_mono : ∀ {l : List Ad} {k j : Int}, ascD k l = true → j ≤ k → ascD j l = true
  | [], _, _, _, _ => rfl
  | A :: t, k, j, h, hj => by
    rw [ascD, Bool.and_eq_true] at h
    have := of_decide_eq_true h.1
    rw [ascD, decide_eq_true (by omega), h.2]; rfl
set_option maxRecDepth 100000 in
theorem ascD_flt (f : Ad → Bool) : ∀ {l : List Ad} {k : Int}, ascD k l = true → ascD k (l.filter f) = true
  | [], _, _ => rfl
  | A :: t, k, h => by
    rw [ascD, Bool.and_eq_true] at h
    have h1 := of_decide_eq_true h.1
    rw [List.filter_cons]
    split
    · rw [ascD, h.1, ascD_flt f h.2]; rfl
    · exact ascD_mono (ascD_flt f h.2) (by omega)
set_option maxRecDepth 100000 in
theorem ascD_ext {l m : List Ad} {k : Int} (hl : ascD k l = true) (hm : ascD k m = true) (h : ∀ B, B ∈ l ↔ B ∈ m) : l = m := fnd_ext hl hm (fun r => by
  cases hf : fndA l r with
  | none =>
    cases hg : fndA m r with
    | none => rfl
    | some B =>
      obtain ⟨h1, h2⟩ := fndA_some hg
      have := fnd_selfV hl B ((h B).2 h1)
      rw [h2, hf] at this; cases this
  | some B =>
    obtain ⟨h1, h2⟩ := fndA_some hf
    have := fnd_selfV hm B ((h B).1 h1)
    rw [h2] at this
    exact this.symm)
set_option maxRecDepth 100000 in
theorem asc_lnk {l : List Ad} {A : Ad} {r : Int} : ∀ {M : List T3} {last : Int}, vRe r last M = true → ascD last (M.flatMap (lk1 l A)) = true
  | [], _, _ => rfl
  | x :: t, last, h => by
    rw [vRe, Bool.and_eq_true] at h
    have h1 : last < x.a := by have := h.1; unfold okRe at this; exact (of_decide_eq_true this).1
    have ih := asc_lnk (l := l) (A := A) h.2
    rw [List.flatMap_cons]
    have e : lk1 l A x = [] ∨ ∃ B, lk1 l A x = [B] ∧ B.r = x.a := by
      unfold lk1
      cases hf : fndA l x.a with
      | none => exact .inl rfl
      | some B =>
        simp only
        split
        · exact .inr ⟨B, rfl, (fndA_some hf).2⟩
        · exact .inl rfl
    rcases e with e | ⟨B, e, hB⟩
    · rw [e]
      exact ascD_mono ih (by omega)
    · rw [e]
      show ascD last (B :: t.flatMap (lk1 l A)) = true
      rw [ascD, decide_eq_true (by omega), hB, ih]; rfl
set_option maxRecDepth 100000 in
theorem vAd_re {A : Ad} (h : vAd A = true) : vRe A.r 0 A.L = true := by
  unfold vAd at h
  rw [Bool.and_eq_true, Bool.and_eq_true] at h
  exact h.2.1
set_option maxRecDepth 100000 in
theorem rcA_some {A : Ad} {r : Int} {x : T3} (h : rcA A r = some x) : x ∈ A.L ∧ x.a = r := by
  have h2 : isN r x = true := List.find?_some h
  exact ⟨List.mem_of_find?_eq_some h, of_decide_eq_true h2⟩
set_option maxRecDepth 100000 in
theorem lnk_flt {l : List Ad} (h : OkD l) {A : Ad} (hA : A ∈ l) : lnk l A = l.filter (lkAd A) := by
  refine ascD_ext (k := 0) (asc_lnk (vAd_re (h.v A hA))) (ascD_flt _ h.asc) (fun B => ?_)
  rw [List.mem_filter]
  constructor
  · intro hB
    refine ⟨lnk_mem hB, ?_⟩
    unfold lnk at hB
    obtain ⟨x, hx, hx2⟩ := List.mem_flatMap.1 hB
    unfold lk1 at hx2
    cases hf : fndA l x.a with
    | none => rw [hf] at hx2; cases hx2
    | some C =>
      rw [hf] at hx2
      simp only at hx2
      split at hx2
      · rename_i hs
        rw [List.mem_singleton] at hx2
        subst hx2
        unfold lkAd
        have hr := (fndA_some hf).2
        have : (rcA A B.r).isSome = true := by
          unfold rcA
          rw [List.find?_isSome]
          exact ⟨x, hx, by unfold isN; rw [decide_eq_true hr.symm]⟩
        rw [this, hs]; rfl
      · cases hx2
  · rintro ⟨hB, hk⟩
    unfold lkAd at hk
    rw [Bool.and_eq_true] at hk
    obtain ⟨x, hx⟩ := Option.isSome_iff_exists.1 hk.1
    obtain ⟨h1, h2⟩ := rcA_some hx
    unfold lnk
    refine List.mem_flatMap.2 ⟨x, h1, ?_⟩
    unfold lk1
    rw [h2, fnd_selfV h.asc B hB]
    simp only
    rw [if_pos hk.2]
    exact List.mem_singleton_self _
end Go.Proofs.Ytnpkihioklpnmaa

/- copy, clear, append within a row of structs of the call's own; append of zeros. -/
namespace Go.Proofs.Ytnpkihioklpnmaa
open Go.RowKit Bs
section
variable {e t : TypeId} {i : TypeInfo} (ht : Try.prog.underlying t = some (.slice e)) (hi : Try.prog.info? e = some i)
include ht hi
end
section
variable {ops : Array Oper} {rest : List Oper} {o : Oper} {a : Act} {w : World} {K : Act → World → Prop} {Q : Exit → Act → World → Prop} {E : Prop}
end
end Go.Proofs.Ytnpkihioklpnmaa

/- slices.Insert of one advert. -/
namespace Go.Proofs.Ytnpkihioklpnmaa
open Go.RowKit Bs
section
variable {Z xs x5 : List Value} {N i : Nat} (hx : xs.length = N * 5) (h5 : x5.length = 5) (hz : Z.length = (N + 1) * 5) (hi : i ≤ N) (hpre : ∀ j, j < i * 5 → Z[j]? = xs[j]?)
include hx h5 hz hi hpre
end
end Go.Proofs.Ytnpkihioklpnmaa

/- database: copies and put. -/
namespace Go.Proofs.Ytnpkihioklpnmaa
open Go.RowKit Bs
end Go.Proofs.Ytnpkihioklpnmaa

/- database: put. -/
namespace Go.Proofs.Ytnpkihioklpnmaa
open Go.RowKit Bs
end Go.Proofs.Ytnpkihioklpnmaa
