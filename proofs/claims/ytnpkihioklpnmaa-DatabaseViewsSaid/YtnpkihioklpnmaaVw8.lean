/- Parts of the proof, packed: DbVwS, DbFnd, DbFin, DbSam, DbPtM, DbStM, DbViw, ToCpy, DbIns, DbCop, DbPut. -/
import Derived.Test.YtnpkihioklpnmaaVw7
import Derived.Test.YtnpkihioklpnmaaVw2
import Derived.Maps.AppendAt
import Derived.Test.YtnpkihioklpnmaaVw5
import Derived.Test.YtnpkihioklpnmaaVw4
import Derived.Deep.CutBlock
import Derived.ArgAppend
import Derived.Laws.IdiomCopy
import Derived.Laws.BitsLemmas
import Derived.Deep.AppendLies
import Derived.Lib.Overlaps
/- While database.View makes a topology: the boxes and the rows. -/
namespace Go.Proofs.Ytnpkihioklpnmaa
open Go.RowKit Bs
set_option maxRecDepth 100000 in
theorem info_rtV : (Try.prog.info? 69).map (fun i => (i.zero, i.size, i.bytes)) = some (some (.agg #[.int .i64 0, .bool false]), 2, 16) := by kernel_rfl
set_option maxRecDepth 100000 in
theorem info_lkV : (Try.prog.info? 71).map (fun i => (i.zero, i.size, i.bytes)) = some (some (.agg #[.int .i64 0, .int .i64 0, .int .i64 0, .int .i64 0, .int .i64 0]), 5, 40) := by kernel_rfl
set_option maxRecDepth 100000 in
theorem topo_sizeV : (Try.prog.info? 59).map (·.size) = some 2 := by kernel_rfl
set_option maxRecDepth 100000 in
theorem res_topoV {fn : Func} {p : Tmp} (h : fn.results = #[.cell p 59]) (tmps : Array Value) (w : World) (g : Nat) (x y : Value) (hp : tmps.getD p undef = .pointer (some ⟨g, 0, none⟩)) (hg : w.heap[g]? = some (.cells #[x, y] 59 (0, 0))) :
    (results fn tmps).run Try.prog w = .ok (.agg #[x, y]) w :=
  results_cell_row h tmps w g _ _ _ _ hp hg Try.underlying59 rfl topo_sizeV
set_option maxRecDepth 100000 in
theorem rtV_one (x : Rt) : ∀ u ∈ rtC x, u.oneCell' = true := by
  intro u hu
  simp [rtC] at hu
  rcases hu with rfl | rfl <;> rfl
set_option maxRecDepth 100000 in
theorem lkV_one (x : Lk) : ∀ u ∈ lkC x, u.oneCell' = true := by
  intro u hu
  simp [lkC] at hu
  rcases hu with rfl | rfl | rfl | rfl | rfl <;> rfl
set_option maxRecDepth 100000 in
theorem cells2V (w : World) (x y : Value) (t : TypeId) : ∀ j u, [x, y][j]? = some u → (w.alloc (.cells #[x, y] t)).cell? ((⟨w.heap.size, 0, none⟩ : Addr).add j) = some u := by
  intro j u hj
  rw [add_plain]
  have hb := heap_alloc_new w (.cells #[x, y] t)
  rcases j with _ | _ | j
  · cases hj; exact cell_of_row _ _ _ _ _ _ hb
  · cases hj; exact cell_of_row _ _ _ _ _ _ hb
  · simp at hj
set_option maxRecDepth 100000 in
theorem cells5V (w : World) (x y z u v : Value) (t : TypeId) : ∀ j a, [x, y, z, u, v][j]? = some a → (w.alloc (.cells #[x, y, z, u, v] t)).cell? ((⟨w.heap.size, 0, none⟩ : Addr).add j) = some a := by
  intro j a hj
  rw [add_plain]
  have hb := heap_alloc_new w (.cells #[x, y, z, u, v] t)
  rcases j with _ | _ | _ | _ | _ | j
  · cases hj; exact cell_of_row _ _ _ _ _ _ hb
  · cases hj; exact cell_of_row _ _ _ _ _ _ hb
  · cases hj; exact cell_of_row _ _ _ _ _ _ hb
  · cases hj; exact cell_of_row _ _ _ _ _ _ hb
  · cases hj; exact cell_of_row _ _ _ _ _ _ hb
  · simp at hj
/-- While a view is made: the database and its box, the result's box, the box of what is made in block B (it holds uR, uL), the rows vR, vL of the call's own, the map. -/
structure VS (W : World) (l : List Ad) (p : Option Addr) (c B : Nat) (S : List Int) (vm uR uL vR vL : Value) (R : List Rt) (L : List Lk) (w : World) : Prop where
  db : RdA w (· < W.heap.size) (.slice p l.length c) l
  d : w.heap[W.heap.size]? = some (.cells #[.slice p l.length c] 25 (0, 0))
  z : w.heap[W.heap.size + 1]? = some (.cells #[.slice none 0 0, .slice none 0 0] 59 (0, 0))
  t : w.heap[B]? = some (.cells #[uR, uL] 59 (0, 0))
  oR : w.ownsRow (B + 1) 69 2 vR R.length (R.flatMap rtC)
  oL : w.ownsRow (B + 1) 71 5 vL L.length (L.flatMap lkC)
  ap : ∀ g, vR.ownBlock = some g → vL.ownBlock ≠ some g
  mp : MVb w (fun b => W.heap.size ≤ b ∧ b < B) vm (inS S)
  lo : W.heap.size + 1 < B
  sz : B < w.heap.size
  gr : W.grownBy w none
section
variable {W w w1 : World} {l : List Ad} {p : Option Addr} {c B : Nat} {S : List Int} {vm uR uL vR vL v' : Value} {R R2 : List Rt} {L L2 : List Lk}
set_option maxRecDepth 100000 in
theorem VS.keep (h : VS W l p c B S vm uR uL vR vL R L w) (g : w.grownBy w1 none) : VS W l p c B S vm uR uL vR vL R L w1 :=
  ⟨h.db.keep g, kept_row h.d g (by simp), kept_row h.z g (by simp), kept_row h.t g (by simp), h.oR.kept g (by cases vR.ownBlock <;> simp), h.oL.kept g (by cases vL.ownBlock <;> simp), h.ap, h.mp.keep g, h.lo, Nat.lt_of_lt_of_le h.sz g.size, grown_trans h.gr g⟩
set_option maxRecDepth 100000 in
theorem VS.row {r : Option Nat} (h : VS W l p c B S vm uR uL vR vL R L w) (hg : w.grownBy w1 r) (hr : ∀ g, r = some g → B + 1 ≤ g) :
    RdA w1 (· < W.heap.size) (.slice p l.length c) l ∧ w1.heap[W.heap.size]? = some (.cells #[.slice p l.length c] 25 (0, 0)) ∧ w1.heap[W.heap.size + 1]? = some (.cells #[.slice none 0 0, .slice none 0 0] 59 (0, 0)) ∧ w1.heap[B]? = some (.cells #[uR, uL] 59 (0, 0)) ∧ MVb w1 (fun b => W.heap.size ≤ b ∧ b < B) vm (inS S) ∧ W.grownBy w1 none := by
  have hlo := h.lo
  have hne : ∀ k, k < B + 1 → some k ≠ r := fun k hk e => by have := hr k e.symm; omega
  refine ⟨h.db.grown hg (fun b hb => hne _ (by omega)), kept_row h.d hg (hne _ (by omega)), kept_row h.z hg (hne _ (by omega)), kept_row h.t hg (hne _ (by omega)), h.mp.grown hg (fun b hb => hne _ (by omega)), ?_⟩
  cases hv : r with
  | none => rw [hv] at hg; exact grown_trans h.gr hg
  | some b => rw [hv] at hg; exact grown_new h.gr hg (by have := hr b hv; omega)
set_option maxRecDepth 100000 in
theorem VS.addR (h : VS W l p c B S vm uR uL vR vL R L w) (hown : w1.ownsRow (B + 1) 69 2 v' R2.length (R2.flatMap rtC)) (hg : w.grownBy w1 vR.ownBlock) (hat : v'.ownBlock = vR.ownBlock ∨ v'.ownBlock = some w.heap.size) : VS W l p c B S vm uR uL v' vL R2 L w1 := by
  obtain ⟨r1, r2, r3, r4, r5, r6⟩ := h.row hg (fun g e => (h.oR.lt g e).1)
  refine ⟨r1, r2, r3, r4, hown, h.oL.kept hg ?_, ?_, r5, h.lo, Nat.lt_of_lt_of_le h.sz hg.size, r6⟩
  · cases hv : vL.ownBlock with
    | none => exact .inl rfl
    | some k => exact .inr (fun e => h.ap k e.symm hv)
  · intro g2 hg2 e
    rcases hat with h1 | h1
    · exact h.ap g2 (by rw [← h1]; exact hg2) e
    · rw [h1] at hg2
      have := Option.some.inj hg2
      have := (h.oL.lt g2 e).2
      omega
set_option maxRecDepth 100000 in
theorem VS.addL (h : VS W l p c B S vm uR uL vR vL R L w) (hown : w1.ownsRow (B + 1) 71 5 v' L2.length (L2.flatMap lkC)) (hg : w.grownBy w1 vL.ownBlock) (hat : v'.ownBlock = vL.ownBlock ∨ v'.ownBlock = some w.heap.size) : VS W l p c B S vm uR uL vR v' R L2 w1 := by
  obtain ⟨r1, r2, r3, r4, r5, r6⟩ := h.row hg (fun g e => (h.oL.lt g e).1)
  refine ⟨r1, r2, r3, r4, h.oR.kept hg ?_, hown, ?_, r5, h.lo, Nat.lt_of_lt_of_le h.sz hg.size, r6⟩
  · cases hv : vR.ownBlock with
    | none => exact .inl rfl
    | some k => exact .inr (fun e => h.ap k hv e.symm)
  · intro g2 hg2 e
    rcases hat with h1 | h1
    · exact h.ap g2 hg2 (by rw [← h1]; exact e)
    · rw [h1] at e
      have := Option.some.inj e
      have := (h.oR.lt g2 hg2).2
      omega
set_option maxRecDepth 100000 in
theorem own_otherV {base size n b : Nat} {e : TypeId} {v : Value} {xs : List Value} (h : w.ownsRow base e size v n xs) (g : w.grownBy w1 (some b)) (hb : b < base) : w1.ownsRow base e size v n xs := by
  refine h.kept g ?_
  cases hv : v.ownBlock with
  | none => exact .inl rfl
  | some k => exact .inr (fun e => by have := (h.lt k hv).1; have := Option.some.inj e; omega)
set_option maxRecDepth 100000 in
theorem VS.putR (h : VS W l p c B S vm uR uL vR vL R L w) : VS W l p c B S vm vR uL vR vL R L (w.setCell ⟨B, 0, none⟩ vR) := by
  have g := grown_setCell w ⟨B, 0, none⟩ vR
  have hlo := h.lo
  have hne : ∀ k, k < B → some k ≠ some B := fun k hk e => by have := Option.some.inj e; omega
  refine ⟨h.db.grown g (fun b hb => hne _ (by omega)), kept_row h.d g (hne _ (by omega)), kept_row h.z g (hne _ (by omega)), ?_, own_otherV h.oR g (Nat.lt_succ_self _), own_otherV h.oL g (Nat.lt_succ_self _), h.ap, h.mp.grown g (fun b hb => hne _ (by omega)), h.lo, Nat.lt_of_lt_of_le h.sz g.size, grown_new h.gr g (show W.heap.size ≤ B by omega)⟩
  have h1 := heap_setCell_same w B 0 _ _ vR h.t
  rw [h1]; rfl
set_option maxRecDepth 100000 in
theorem VS.putL (h : VS W l p c B S vm uR uL vR vL R L w) : VS W l p c B S vm uR vL vR vL R L (w.setCell ⟨B, 1, none⟩ vL) := by
  have g := grown_setCell w ⟨B, 1, none⟩ vL
  have hlo := h.lo
  have hne : ∀ k, k < B → some k ≠ some B := fun k hk e => by have := Option.some.inj e; omega
  refine ⟨h.db.grown g (fun b hb => hne _ (by omega)), kept_row h.d g (hne _ (by omega)), kept_row h.z g (hne _ (by omega)), ?_, own_otherV h.oR g (Nat.lt_succ_self _), own_otherV h.oL g (Nat.lt_succ_self _), h.ap, h.mp.grown g (fun b hb => hne _ (by omega)), h.lo, Nat.lt_of_lt_of_le h.sz g.size, grown_new h.gr g (show W.heap.size ≤ B by omega)⟩
  have h1 := heap_setCell_same w B 1 _ _ vL h.t
  rw [h1]; rfl
end
/-- And an advert's box, in block X. -/
structure VB (W : World) (l : List Ad) (p : Option Addr) (c B : Nat) (S : List Int) (vm uR uL vR vL : Value) (R : List Rt) (L : List Lk) (A : Ad) (X : Nat) (w : World) : Prop where
  s : VS W l p c B S vm uR uL vR vL R L w
  a : w.heap[X]? = some (.cells #[.int .i64 A.r, .int .i64 A.q, .bool A.cp, .slice A.pL A.L.length A.cL, .slice A.pC A.C.length A.cC] 38 (0, 0))
  nR : vR.ownBlock ≠ some X
  nL : vL.ownBlock ≠ some X
  lo : B < X ∧ X < w.heap.size
/-- And linked adverts in a row that came while blocks h7 to h8 came. -/
structure VI (W : World) (l : List Ad) (p : Option Addr) (c B : Nat) (S : List Int) (vm uR uL vR vL : Value) (R : List Rt) (L : List Lk) (A : Ad) (X : Nat) (pm : Option Addr) (cm : Nat) (M : List Ad) (h7 h8 : Nat) (w : World) : Prop where
  b : VB W l p c B S vm uR uL vR vL R L A X w
  m : RdF w (fun b => h7 ≤ b ∧ b < h8) (.slice pm M.length cm) M.length (M.flatMap adL)
  sep : ∀ g, vL.ownBlock = some g → g < h7 ∨ h8 ≤ g
  lo : B < h7 ∧ h8 ≤ w.heap.size
section
variable {W w w1 : World} {l M : List Ad} {p pm : Option Addr} {c B X cm h7 h8 : Nat} {S : List Int} {vm uR uL vR vL v' : Value} {R R2 : List Rt} {L L2 : List Lk} {A : Ad}
set_option maxRecDepth 100000 in
theorem VB.keep (h : VB W l p c B S vm uR uL vR vL R L A X w) (g : w.grownBy w1 none) : VB W l p c B S vm uR uL vR vL R L A X w1 :=
  ⟨h.s.keep g, kept_row h.a g (by simp), h.nR, h.nL, h.lo.1, Nat.lt_of_lt_of_le h.lo.2 g.size⟩
set_option maxRecDepth 100000 in
theorem VB.addR (h : VB W l p c B S vm uR uL vR vL R L A X w) (hown : w1.ownsRow (B + 1) 69 2 v' R2.length (R2.flatMap rtC)) (hg : w.grownBy w1 vR.ownBlock) (hat : v'.ownBlock = vR.ownBlock ∨ v'.ownBlock = some w.heap.size) : VB W l p c B S vm uR uL v' vL R2 L A X w1 := by
  refine ⟨h.s.addR hown hg hat, kept_row h.a hg (fun e => h.nR e.symm), fun e => ?_, h.nL, h.lo.1, Nat.lt_of_lt_of_le h.lo.2 hg.size⟩
  rcases hat with h1 | h1
  · exact h.nR (h1.symm.trans e)
  · have := Option.some.inj (h1.symm.trans e); have := h.lo.2; omega
set_option maxRecDepth 100000 in
theorem VB.addL (h : VB W l p c B S vm uR uL vR vL R L A X w) (hown : w1.ownsRow (B + 1) 71 5 v' L2.length (L2.flatMap lkC)) (hg : w.grownBy w1 vL.ownBlock) (hat : v'.ownBlock = vL.ownBlock ∨ v'.ownBlock = some w.heap.size) : VB W l p c B S vm uR uL vR v' R L2 A X w1 := by
  refine ⟨h.s.addL hown hg hat, kept_row h.a hg (fun e => h.nL e.symm), h.nR, fun e => ?_, h.lo.1, Nat.lt_of_lt_of_le h.lo.2 hg.size⟩
  rcases hat with h1 | h1
  · exact h.nL (h1.symm.trans e)
  · have := Option.some.inj (h1.symm.trans e); have := h.lo.2; omega
set_option maxRecDepth 100000 in
theorem VB.putR (h : VB W l p c B S vm uR uL vR vL R L A X w) : VB W l p c B S vm vR uL vR vL R L A X (w.setCell ⟨B, 0, none⟩ vR) := by
  have g := grown_setCell w ⟨B, 0, none⟩ vR
  exact ⟨h.s.putR, kept_row h.a g (fun e => by have : X = B := Option.some.inj e; have := h.lo.1; omega), h.nR, h.nL, h.lo.1, Nat.lt_of_lt_of_le h.lo.2 g.size⟩
set_option maxRecDepth 100000 in
theorem VB.putL (h : VB W l p c B S vm uR uL vR vL R L A X w) : VB W l p c B S vm uR vL vR vL R L A X (w.setCell ⟨B, 1, none⟩ vL) := by
  have g := grown_setCell w ⟨B, 1, none⟩ vL
  exact ⟨h.s.putL, kept_row h.a g (fun e => by have : X = B := Option.some.inj e; have := h.lo.1; omega), h.nR, h.nL, h.lo.1, Nat.lt_of_lt_of_le h.lo.2 g.size⟩
set_option maxRecDepth 100000 in
theorem VI.keep (h : VI W l p c B S vm uR uL vR vL R L A X pm cm M h7 h8 w) (g : w.grownBy w1 none) : VI W l p c B S vm uR uL vR vL R L A X pm cm M h7 h8 w1 :=
  ⟨h.b.keep g, h.m.grown g (fun _ _ => by simp), h.sep, h.lo.1, Nat.le_trans h.lo.2 g.size⟩
set_option maxRecDepth 100000 in
theorem VI.addL (h : VI W l p c B S vm uR uL vR vL R L A X pm cm M h7 h8 w) (hown : w1.ownsRow (B + 1) 71 5 v' L2.length (L2.flatMap lkC)) (hg : w.grownBy w1 vL.ownBlock) (hat : v'.ownBlock = vL.ownBlock ∨ v'.ownBlock = some w.heap.size) : VI W l p c B S vm uR uL vR v' R L2 A X pm cm M h7 h8 w1 := by
  refine ⟨h.b.addL hown hg hat, h.m.grown hg (fun b hb e => by have := h.sep b e.symm; omega), fun g hgg => ?_, h.lo.1, Nat.le_trans h.lo.2 hg.size⟩
  rcases hat with h1 | h1
  · exact h.sep g (by rw [← h1]; exact hgg)
  · rw [h1] at hgg; have := Option.some.inj hgg; have := h.lo.2; omega
set_option maxRecDepth 100000 in
theorem VI.putL (h : VI W l p c B S vm uR uL vR vL R L A X pm cm M h7 h8 w) : VI W l p c B S vm uR vL vR vL R L A X pm cm M h7 h8 (w.setCell ⟨B, 1, none⟩ vL) := by
  have g := grown_setCell w ⟨B, 1, none⟩ vL
  exact ⟨h.b.putL, h.m.grown g (fun b hb e => by have : b = B := Option.some.inj e; have := h.lo.1; omega), h.sep, h.lo.1, Nat.le_trans h.lo.2 g.size⟩
end
set_option maxRecDepth 100000 in
theorem flt_step {M : List Ad} {j : Nat} {x A : Ad} (h : M[j]? = some x) : ((M.take (j + 1)).filter (ltA A)).map (btw A) = ((M.take j).filter (ltA A)).map (btw A) ++ (if A.r < x.r then [btw A x] else []) := by
  rw [List.take_add_one, h, List.filter_append, List.map_append]
  congr 1
  show ([x].filter (ltA A)).map (btw A) = _
  by_cases e : A.r < x.r
  · rw [if_pos e, List.filter_cons, show ltA A x = true from decide_eq_true e]; rfl
  · rw [if_neg e, List.filter_cons, show ltA A x = false from decide_eq_false e]; rfl
set_option maxRecDepth 100000 in
theorem vw_step {l : List Ad} {k : Nat} {A : Ad} {S : List Int} (h : l[k]? = some A) : ((l.take (k + 1)).filter (inV S)).map toR = ((l.take k).filter (inV S)).map toR ++ (if inS S A.r = true then [toR A] else []) ∧ ((l.take (k + 1)).filter (inV S)).flatMap (vL1 l) = ((l.take k).filter (inV S)).flatMap (vL1 l) ++ (if inS S A.r = true then vL1 l A else []) := by
  rw [List.take_add_one, h, List.filter_append, List.map_append, List.flatMap_append]
  have e : ((some A).toList.filter (inV S)) = if inS S A.r = true then [A] else [] := by
    show [A].filter (inV S) = _
    rw [List.filter_cons]
    rfl
  rw [e]
  cases inS S A.r <;> simp
set_option maxRecDepth 100000 in
theorem vL1_len (l : List Ad) (A : Ad) : (vL1 l A).length ≤ A.L.length := by
  unfold vL1
  rw [List.length_map]
  exact Nat.le_trans (List.length_filter_le _ _) (lnk_len l A)
/-- What View returns. -/
def VwPost (l : List Ad) (r : Int) (w : World) (e : Ending) (w' : World) : Prop :=
  ∃ T : Tg, e = .returned (.agg #[.slice T.pR T.R.length T.cR, .slice T.pL T.L.length T.cL]) ∧ (T.R, T.L) = viewV l r ∧ TgOk w' (w.heap.size ≤ ·) T ∧ w.grownBy w' none
set_option maxRecDepth 100000 in
theorem vw_no {l : List Ad} {r : Int} {w w' : World} (h : viewV l r = ([], [])) (g : w.grownBy w' none) : VwPost l r w (.returned (.agg #[.slice none 0 0, .slice none 0 0])) w' :=
  ⟨⟨[], [], none, 0, none, 0⟩, rfl, h.symm, ⟨⟨none, 0, rfl, fun h => absurd rfl h⟩, ⟨none, 0, rfl, fun h => absurd rfl h⟩, ⟨Nat.le_refl _, by decide⟩, ⟨Nat.le_refl _, by decide⟩⟩, g⟩
end Go.Proofs.Ytnpkihioklpnmaa

/- database: copied, Find. -/
namespace Go.Proofs.Ytnpkihioklpnmaa
open Go.RowKit Bs
section
variable {W w w1 : World} {A : Ad} {v1 v2 v : Value}
end
end Go.Proofs.Ytnpkihioklpnmaa

/- database: Find. -/
namespace Go.Proofs.Ytnpkihioklpnmaa
open Go.RowKit Bs
set_option maxRecDepth 100000 in
theorem rdf_and {w : World} {q : Nat → Prop} {v : Value} {n : Nat} {xs : List Value} (h : RdF w q v n xs) : RdF w (fun b => q b ∧ b < w.heap.size) v n xs := by
  obtain ⟨p, c, hv, hc⟩ := h
  refine ⟨p, c, hv, fun hne => ?_⟩
  obtain ⟨b, off, hp, hb, hx⟩ := hc hne
  obtain ⟨x, hx0⟩ : ∃ x, xs[0]? = some x := by
    cases xs with
    | nil => exact absurd rfl hne
    | cons a t => exact ⟨a, rfl⟩
  exact ⟨b, off, hp, ⟨hb, World.block_lt_of_cell? w ⟨b, off + 0, none⟩ (hx 0 x hx0)⟩, hx⟩
set_option maxRecDepth 100000 in
theorem AdOk.and {w : World} {q : Nat → Prop} {A : Ad} (h : AdOk w q A) : AdOk w (fun b => q b ∧ b < w.heap.size) A := ⟨rdf_and h.l, rdf_and h.c, h.hl, h.hc⟩
set_option maxRecDepth 100000 in
theorem res_adv_b {fn : Func} {p u : Tmp} (h : fn.results = #[.cell p 38, .tmp u]) (tmps : Array Value) (w : World) (g : Nat) (x y z s t : Value) (hp : tmps.getD p undef = .pointer (some ⟨g, 0, none⟩)) (hg : w.heap[g]? = some (.cells #[x, y, z, s, t] 38 (0, 0))) :
    (results fn tmps).run Try.prog w = .ok (.tuple #[.agg #[x, y, z, s, t], tmps.getD u undef]) w := by
  have hp' : tmps[p]?.getD undef = .pointer (some ⟨g, 0, none⟩) := by simpa using hp
  rw [results_cell_tmp h]
  simp [hp', asAddr, run_loadVar_row w g _ _ _ _ _ hg Try.underlying38 rfl adv_size, Result.andThen]
def zAd : Ad := ⟨0, 0, false, [], [], none, 0, none, 0⟩
set_option maxRecDepth 100000 in
theorem zAd_ok (w : World) (q : Nat → Prop) : AdOk w q zAd := ⟨⟨none, 0, rfl, fun h => absurd rfl h⟩, ⟨none, 0, rfl, fun h => absurd rfl h⟩, ⟨Nat.le_refl _, by show (0 : Nat) ≤ _; omega⟩, ⟨Nat.le_refl _, by show (0 : Nat) ≤ _; omega⟩⟩
set_option maxRecDepth 100000 in
theorem fn_take {l : List Ad} {r : Int} {k : Nat} {A : Ad} (h : (l.take k).find? (isR r) = none) (hx : l[k]? = some A) : (l.take (k + 1)).find? (isR r) = if A.r = r then some A else none := by
  rw [List.take_add_one, hx, List.find?_append, h]
  unfold isR
  by_cases e : A.r = r <;> simp [e]
set_option maxRecDepth 100000 in
theorem fn_hit {l : List Ad} {r : Int} {k : Nat} {A : Ad} (h : (l.take k).find? (isR r) = none) (hx : l[k]? = some A) (e : A.r = r) : fndA l r = some A := by
  unfold fndA
  have h2 := fn_take h hx
  rw [if_pos e] at h2
  rw [← List.take_append_drop (k + 1) l, List.find?_append, h2]
  rfl
set_option maxRecDepth 100000 in
theorem fn_end {l : List Ad} {r : Int} (h : (l.take l.length).find? (isR r) = none) : fndA l r = none := by
  rw [List.take_length] at h
  exact h
/-- What Find returns. -/
def FinPost (l : List Ad) (r : Int) (q : Nat → Prop) (w : World) (e : Ending) (w' : World) : Prop :=
  ∃ X : Ad, e = .returned (.tuple #[.agg #[.int .i64 X.r, .int .i64 X.q, .bool X.cp, .slice X.pL X.L.length X.cL, .slice X.pC X.C.length X.cC], .bool (fndA l r).isSome]) ∧ (X.r = ((fndA l r).getD zAd).r ∧ X.q = ((fndA l r).getD zAd).q ∧ X.cp = ((fndA l r).getD zAd).cp ∧ X.L = ((fndA l r).getD zAd).L ∧ X.C = ((fndA l r).getD zAd).C) ∧ AdOk w' q X ∧ w.grownBy w' none
/-- While Find looks: the database and its box, the result's box. -/
structure FB (W : World) (l : List Ad) (p : Option Addr) (c : Nat) (w : World) : Prop where
  db : RdA w (· < W.heap.size) (.slice p l.length c) l
  d : w.heap[W.heap.size]? = some (.cells #[.slice p l.length c] 25 (0, 0))
  z : w.heap[W.heap.size + 1]? = some (.cells #[.int .i64 0, .int .i64 0, .bool false, .slice none 0 0, .slice none 0 0] 38 (0, 0))
  gr : W.grownBy w none
set_option maxRecDepth 100000 in
theorem FB.keep {W w w1 : World} {l : List Ad} {p : Option Addr} {c : Nat} (h : FB W l p c w) (g : w.grownBy w1 none) : FB W l p c w1 := ⟨h.db.keep g, kept_row h.d g (by simp), kept_row h.z g (by simp), grown_trans h.gr g⟩
set_option maxRecDepth 100000 in
theorem fb_start {w : World} {l : List Ad} {p : Option Addr} {c : Nat} {q : Nat → Prop} (hR : RdA w q (.slice p l.length c) l) : FB w l p c ((w.alloc (.cells #[.slice p l.length c] 25)).alloc (.cells #[.int .i64 0, .int .i64 0, .bool false, .slice none 0 0, .slice none 0 0] 38)) := by
  obtain ⟨k1, k2, k3, k4⟩ := two_boxes w #[.slice p l.length c] #[.int .i64 0, .int .i64 0, .bool false, .slice none 0 0, .slice none 0 0] 25 38
  exact ⟨(RdA.old hR).keep k3, k1, k2, k3⟩
end Go.Proofs.Ytnpkihioklpnmaa

/- database: Same (slices.EqualFunc of adverts). -/
namespace Go.Proofs.Ytnpkihioklpnmaa
open Go.RowKit Bs
end Go.Proofs.Ytnpkihioklpnmaa

/- Put and Merge: the mathematics. -/
namespace Go.Proofs.Ytnpkihioklpnmaa
open Go.RowKit Bs
set_option maxRecDepth 100000 in
theorem okD_OkD {l : List Ad} (h : okD l = true) : OkD l := chk_OkD (by unfold okD at h; simpa using h)
/-- An advert takes the place of the one with its router, or is added. -/
def putA : List Ad → Ad → List Ad
  | [], A => [A]
  | B :: t, A => if B.r < A.r then B :: putA t A else if B.r = A.r then A :: t else A :: B :: t
set_option maxRecDepth 100000 in
theorem putA_mem : ∀ {l : List Ad} {A B : Ad}, B ∈ putA l A → B = A ∨ B ∈ l
  | [], A, B, h => by rw [putA, List.mem_singleton] at h; exact .inl h
  | C :: t, A, B, h => by
    rw [putA] at h
    split at h
    · rcases List.mem_cons.1 h with h | h
      · exact .inr (h ▸ List.mem_cons_self)
      · rcases putA_mem h with h | h
        · exact .inl h
        · exact .inr (List.mem_cons_of_mem _ h)
    · split at h
      · rcases List.mem_cons.1 h with h | h
        · exact .inl h
        · exact .inr (List.mem_cons_of_mem _ h)
      · rcases List.mem_cons.1 h with h | h
        · exact .inl h
        · exact .inr h
set_option maxRecDepth 100000 in
theorem putA_asc : ∀ {l : List Ad} {A : Ad} {k : Int}, ascD k l = true → k < A.r → ascD k (putA l A) = true
  | [], A, k, _, h => by rw [putA, ascD, decide_eq_true h]; rfl
  | B :: t, A, k, hl, h => by
    rw [ascD, Bool.and_eq_true] at hl
    have h1 := of_decide_eq_true hl.1
    rw [putA]
    split
    · rename_i h2
      rw [ascD, decide_eq_true h1, putA_asc hl.2 h2]; rfl
    · rename_i h2
      split
      · rename_i h3
        rw [ascD, decide_eq_true h, ← h3, hl.2]; rfl
      · rename_i h3
        rw [ascD, decide_eq_true h, ascD, decide_eq_true (by omega), hl.2]; rfl
set_option maxRecDepth 100000 in
theorem vAd_r {A : Ad} (h : vAd A = true) : 1 ≤ A.r ∧ A.r ≤ 99 := by
  unfold vAd at h
  rw [Bool.and_eq_true] at h
  have h1 := h.1
  unfold vHd at h1
  exact (of_decide_eq_true h1).1
set_option maxRecDepth 100000 in
theorem asc_len : ∀ {l : List Ad} {k : Int}, ascD k l = true → (∀ A ∈ l, A.r ≤ 99) → l ≠ [] → k + l.length ≤ 99
  | [], _, _, _, h => absurd rfl h
  | [A], k, h, h99, _ => by
    rw [ascD, Bool.and_eq_true] at h
    have h1 := of_decide_eq_true h.1
    have := h99 A List.mem_cons_self
    simp only [List.length_singleton]; omega
  | A :: B :: t, k, h, h99, _ => by
    rw [ascD, Bool.and_eq_true] at h
    have h1 := of_decide_eq_true h.1
    have := asc_len h.2 (fun C hC => h99 C (List.mem_cons_of_mem _ hC)) (by simp)
    simp only [List.length_cons] at *; omega
set_option maxRecDepth 100000 in
theorem OkD_of {l : List Ad} (hv : ∀ A ∈ l, vAd A = true) (ha : ascD 0 l = true) : OkD l := by
  refine ⟨?_, hv, ha⟩
  by_cases h : l = []
  · subst h; exact Nat.zero_le _
  · have := asc_len ha (fun A hA => (vAd_r (hv A hA)).2) h; omega
set_option maxRecDepth 100000 in
theorem OkD.ok {l : List Ad} (h : OkD l) : okD l = true := by
  unfold okD chkD
  have h1 := h.len
  rw [if_neg (by omega), if_neg (by
    rw [Bool.not_eq_true, List.any_eq_false]
    intro A hA
    unfold notV
    rw [h.v A hA]
    decide), h.asc]
  rfl
set_option maxRecDepth 100000 in
theorem OkD.put {l : List Ad} {A : Ad} (h : OkD l) (hA : vAd A = true) : OkD (putA l A) :=
  OkD_of (fun B hB => by
    rcases putA_mem hB with e | hB
    · rw [e]; exact hA
    · exact h.v B hB) (putA_asc h.asc (by have := (vAd_r hA).1; omega))
/-- Does an advert change a database? -/
def chg (l : List Ad) (A : Ad) : Bool := match fndA l A.r with
  | none => true
  | some B => nwA A B
/-- What put does to a valid database. -/
def put1 (l : List Ad) (A : Ad) : List Ad := if chg l A = true then putA l A else l
set_option maxRecDepth 100000 in
theorem OkD.put1 {l : List Ad} {A : Ad} (h : OkD l) (hA : vAd A = true) : OkD (put1 l A) := by
  unfold Go.Proofs.Ytnpkihioklpnmaa.put1
  split
  · exact h.put hA
  · exact h
set_option maxRecDepth 100000 in
theorem PlP.set {l : List Ad} {A : Ad} {i : Nat} (hp : l.Pairwise (fun A B => A.r < B.r)) (h : PlP l A.r i true) : putA l A = l.set i A := by
  induction l generalizing i with
  | nil => have := h.eq; simp at this
  | cons B t ih =>
    obtain ⟨p1, p2⟩ := List.pairwise_cons.1 hp
    cases i with
    | zero =>
      have h2 := h.eq
      simp only [List.getElem?_cons_zero] at h2
      have h3 := of_decide_eq_true h2.symm
      rw [putA, if_neg (by omega), if_pos h3]
      rfl
    | succ i =>
      have hlt : B.r < A.r := by
        have h2 := h.eq
        rw [List.getElem?_cons_succ] at h2
        cases hx : t[i]? with
        | none => rw [hx] at h2; cases h2
        | some x =>
          rw [hx] at h2
          simp only at h2
          have h3 := of_decide_eq_true h2.symm
          have := p1 x (List.mem_of_getElem? hx)
          omega
      have hq : PlP t A.r i true := by
        refine ⟨by have := h.le; simp only [List.length_cons] at this; omega, fun x hx hg => ?_, fun x hg => h.hi x (by rw [List.getElem?_cons_succ]; exact hg), by have := h.eq; rw [List.getElem?_cons_succ] at this; exact this⟩
        obtain ⟨j, rfl⟩ : ∃ j, i = j + 1 := ⟨i - 1, by omega⟩
        exact h.lo x (by omega) (by show (B :: t)[j + 1]? = _; rw [List.getElem?_cons_succ]; exact hg)
      rw [putA, if_pos hlt, ih p2 hq]
      rfl
/-! What is found in what Put and Merge give. -/
set_option maxRecDepth 100000 in
theorem fnd_cons (B : Ad) (t : List Ad) (r : Int) : fndA (B :: t) r = if B.r = r then some B else fndA t r := by
  unfold fndA
  rw [List.find?_cons]
  unfold isR
  by_cases h : B.r = r
  · rw [decide_eq_true h, if_pos h]
  · rw [decide_eq_false h, if_neg h]
set_option maxRecDepth 100000 in
theorem fnd_none {l : List Ad} {k r : Int} (h : ascD k l = true) (hr : r ≤ k) : fndA l r = none := by
  refine List.find?_eq_none.2 fun B hB => ?_
  have := (asc_pair l k h).1 B hB
  unfold isR
  rw [decide_eq_false (by omega)]
  decide
set_option maxRecDepth 100000 in
/-- Ascending adverts are what is found in them. -/
theorem fnd_ext : ∀ {l m : List Ad} {k : Int}, ascD k l = true → ascD k m = true → (∀ r, fndA l r = fndA m r) → l = m
  | [], [], _, _, _, _ => rfl
  | [], B :: t, _, _, _, h => by have := h B.r; rw [fnd_cons, if_pos rfl] at this; cases this
  | A :: s, [], _, _, _, h => by have := h A.r; rw [fnd_cons, if_pos rfl] at this; cases this
  | A :: s, B :: t, k, h1, h2, h => by
    rw [ascD, Bool.and_eq_true] at h1 h2
    have hAB : A = B := by
      rcases Int.lt_trichotomy A.r B.r with h3 | h3 | h3
      · have := h A.r
        rw [fnd_cons, if_pos rfl, fnd_cons, if_neg (by omega), fnd_none h2.2 (by omega)] at this
        cases this
      · have := h A.r
        rw [fnd_cons, if_pos rfl, fnd_cons, if_pos h3.symm] at this
        exact Option.some.inj this
      · have := h B.r
        rw [fnd_cons, if_neg (by omega), fnd_none h1.2 (by omega), fnd_cons, if_pos rfl] at this
        cases this
    subst hAB
    rw [fnd_ext h1.2 h2.2 (fun r => by
      have := h r
      rw [fnd_cons, fnd_cons] at this
      by_cases e : A.r = r
      · rw [fnd_none h1.2 (by omega), fnd_none h2.2 (by omega)]
      · rw [if_neg e, if_neg e] at this; exact this)]
/-! The newer one of two: an algebra. -/
end Go.Proofs.Ytnpkihioklpnmaa

/- View: where lists lie does not matter, nor how often one looks; a router that nobody names changes nothing. The mathematics. -/
namespace Go.Proofs.Ytnpkihioklpnmaa
open Go.RowKit Bs
section
variable {d : List Ad} {x : Ad}
end
end Go.Proofs.Ytnpkihioklpnmaa

/- database.View: the topology around a router. -/
namespace Go.Proofs.Ytnpkihioklpnmaa
open Go.RowKit Bs
set_option maxRecDepth 100000 in
set_option maxHeartbeats 12800000 in
theorem dview_any (l : List Ad) (r : Int) (p : Option Addr) (c : Nat) (q : Nat → Prop) (w : World) (hR : RdA w q (.slice p l.length c) l) (hm : l.length ≤ 9223372036854775807) :
    Calls Try.prog 34 #[.agg #[.slice p l.length c], .int .i64 r] w fun e w' => VwPost l r w e w' := by
  obtain ⟨ir, hir, hr0, hr1, hr2⟩ := info_parts info_rtV
  obtain ⟨il, hil, hl0, hl1, hl2⟩ := info_parts info_lkV
  obtain ⟨k1, k2, k3, -⟩ := two_boxes w #[.slice p l.length c] #[.slice none 0 0, .slice none 0 0] 25 59
  have H0 := Lib.hid (And.intro k1 (And.intro k2 (And.intro k3 ((RdA.old hR).keep k3))))
  clear k1 k2 k3 hR
  go_enter Try.func34, Try.ntmps34
  go_upto_region 1 with fail
  generalize World.alloc (w.alloc _) _ = wa at *
  have c0 : wa.cell? ⟨w.heap.size, 0, none⟩ = some (.slice p l.length c) := cell_of_row _ _ _ _ _ _ H0.out.1
  go_wp2_with fail
  refine (dvalid_any l p c _ wa H0.out.2.2.2 hm).mono ?_
  rintro e w1 ⟨rfl, hg⟩
  have H1 := Lib.hid (And.intro (kept_row H0.out.1 hg (by simp)) (And.intro (kept_row H0.out.2.1 hg (by simp)) (And.intro (grown_trans H0.out.2.2.1 hg) (H0.out.2.2.2.keep hg))))
  clear hg H0 c0
  obtain ⟨ov, hov⟩ : ∃ ov, okD l = ov := ⟨_, rfl⟩
  rw [hov]
  cases ov with
  | false =>
    have HV : Hid (viewV l r = ([], [])) := Lib.hid (by unfold viewV; rw [if_neg (by rw [hov]; decide)])
    clear hov
    have z0 := cell_of_row _ _ 0 _ _ _ H1.out.2.1
    have z1 := cell_of_row _ _ 1 _ _ _ H1.out.2.1
    have f0 := frozen_of_row _ _ 0 _ _ H1.out.2.1
    have f1 := frozen_of_row _ _ 1 _ _ H1.out.2.1
    obtain ⟨t1, t2⟩ := store2c (.slice none 0 0) (.slice none 0 0) H1.out.2.1
    have HT := Lib.hid (And.intro t1 (grown_new H1.out.2.2.1 t2 (by omega)))
    clear t1 t2 H1
    go_wp2_with fail
    refine bodyPost_ret (res_topoV rfl _ _ (w.heap.size + 1) _ _ rfl HT.out.1) rfl ?_
    exact vw_no HV.out HT.out.2
  | true =>
  have HOV : Hid (OkD l) := Lib.hid (chk_OkD (by unfold okD at hov; simpa using hov))
  have HVW : Hid (viewV l r = if chk (vwR l (reS l r)) (vwL l (reS l r)) = 0 then (vwR l (reS l r), vwL l (reS l r)) else ([], [])) := Lib.hid (by unfold viewV; rw [if_pos hov])
  have HP := Lib.hid HOV.out.pair
  have hll := HOV.out.len
  have HRNG : Hid (∀ A ∈ l, (1 ≤ A.r ∧ A.r ≤ 99) ∧ A.L.length ≤ 23) := Lib.hid (fun A hA => ⟨(VA.of (HOV.out.v A hA)).r, (VA.of (HOV.out.v A hA)).ll⟩)
  clear hov
  have c0 : w1.cell? ⟨w.heap.size, 0, none⟩ = some (.slice p l.length c) := cell_of_row _ _ _ _ _ _ H1.out.1
  go_wp2_with fail
  refine (dreached_any l r p c _ w1 H1.out.2.2.2 HOV.out).mono ?_
  rintro e w2 ⟨vm, rfl, hmv, hg⟩
  obtain ⟨S, hS⟩ : ∃ S, reS l r = S := ⟨_, rfl⟩
  rw [hS] at hmv HVW
  have g2 := grown_trans H1.out.2.2.1 hg
  have ga := World.grownBy_alloc w2 (.cells #[.slice none 0 0, .slice none 0 0] 59) none
  have hsz2 : w.heap.size + 1 < w2.heap.size := World.lt_of_row' (kept_row H1.out.2.1 hg (by simp))
  have hsz1 := H1.out.2.2.1.size
  have K0 : Hid (VS w l p c w2.heap.size S vm (.slice none 0 0) (.slice none 0 0) (.slice none 0 0) (.slice none 0 0) [] [] (w2.alloc (.cells #[.slice none 0 0, .slice none 0 0] 59))) := Lib.hid
    ⟨(H1.out.2.2.2.keep hg).keep ga, kept_row (kept_row H1.out.1 hg (by simp)) ga (by simp), kept_row (kept_row H1.out.2.1 hg (by simp)) ga (by simp), heap_alloc_new w2 _, World.ownsRow_nil _ _ _ _, World.ownsRow_nil _ _ _ _, (fun g h => by cases h),
      (hmv.mono (q' := fun b => w.heap.size ≤ b ∧ b < w2.heap.size) (fun b hb hlt => ⟨by omega, hlt⟩)).keep ga, hsz2, World.lt_of_row' (heap_alloc_new w2 _), grown_trans g2 ga⟩
  clear H1 c0 hS hmv hg g2 ga hsz1 hsz2
  go_upto_region 5 with fail
  generalize w2.alloc _ = w3 at *
  generalize w2.heap.size = B at *
  have c0 : w3.cell? ⟨w.heap.size, 0, none⟩ = some (.slice p l.length c) := cell_of_row _ _ _ _ _ _ K0.out.d
  go_wp2_with fail
  clear c0
  go_loopw [22] (fun a wr => ∃ (k : Nat) (vR vL : Value) (R : List Rt) (L : List Lk), k ≤ l.length ∧ a = .int .i64 (k : Int) ∧ R.length ≤ k ∧ L.length ≤ 23 * k ∧ Hid (((l.take k).filter (inV S)).map toR = R ∧ ((l.take k).filter (inV S)).flatMap (vL1 l) = L) ∧ Hid (VS w l p c B S vm vR vL vR vL R L wr)) (fun a _ => l.length - (RowKit.intOf a).toNat)
  case atStart => exact ⟨0, _, _, [], [], Nat.zero_le _, rfl, Nat.le_refl _, Nat.zero_le _, Lib.hid ⟨rfl, rfl⟩, K0⟩
  case round =>
  obtain ⟨k, vR, vL, R, L, hk, rfl, hRk, hLk, HI, K⟩ := hrel
  clear K0
  by_cases hlt : k < l.length
  · obtain ⟨-, b1, off1, rfl, -, -⟩ := rda_cells K.out.db (by omega)
    obtain ⟨A, hA⟩ : ∃ A, l[k]? = some A := ⟨_, List.getElem?_eq_getElem hlt⟩
    obtain ⟨a0, a1, a2, a3, a4⟩ := rda_at K.out.db hA
    have HAM := Lib.hid (List.mem_of_getElem? hA)
    have HST := Lib.hid (vw_step (S := S) hA)
    have hAI : I64 A.r := by have := (HRNG.out A HAM.out).1; unfold I64; omega
    have hAL := (HRNG.out A HAM.out).2
    have gal := World.grownBy_alloc wr (.cells #[.int .i64 A.r, .int .i64 A.q, .bool A.cp, .slice A.pL A.L.length A.cL, .slice A.pC A.C.length A.cC] 38) none
    have KB : Hid (VB w l (some ⟨b1, off1, none⟩) c B S vm vR vL vR vL R L A wr.heap.size (wr.alloc (.cells #[.int .i64 A.r, .int .i64 A.q, .bool A.cp, .slice A.pL A.L.length A.cL, .slice A.pC A.C.length A.cC] 38))) := Lib.hid
      ⟨K.out.keep gal, heap_alloc_new wr _, fun e => by have := (K.out.oR.lt _ e).2; omega, fun e => by have := (K.out.oL.lt _ e).2; omega, K.out.sz, World.lt_of_row' (heap_alloc_new wr _)⟩
    clear hA gal K
    go_upto_region 8 with fail
    clear a0 a1 a2 a3 a4
    generalize wr.alloc _ = wy at *
    generalize wr.heap.size = X at *
    obtain ⟨d0, d1, d2, d3, d4⟩ := row5 KB.out.a
    have hlook := KB.out.s.mp.look hAI
    obtain ⟨bs, hbs⟩ : ∃ bs, inS S A.r = bs := ⟨_, rfl⟩
    rw [hbs] at hlook
    cases bs with
    | false =>
      have HN : Hid (((l.take (k + 1)).filter (inV S)).map toR = R ∧ ((l.take (k + 1)).filter (inV S)).flatMap (vL1 l) = L) := Lib.hid (by rw [HST.out.1, HST.out.2, hbs, HI.out.1, HI.out.2]; simp)
      have KN := Lib.hid KB.out.s
      clear hbs KB
      go_wp2_with fail
      exact ⟨⟨k + 1, vR, vL, R, L, by omega, congrArg _ (by omega), by omega, by omega, HN, KN⟩, by simp only [RowKit.intOf]; omega⟩
    | true =>
      have HN : Hid (((l.take (k + 1)).filter (inV S)).map toR = R ++ [toR A] ∧ ((l.take (k + 1)).filter (inV S)).flatMap (vL1 l) = L ++ vL1 l A) := Lib.hid (by rw [HST.out.1, HST.out.2, hbs, HI.out.1, HI.out.2]; simp)
      clear hbs HST HI
      go_upto_region 9 with fail
      clear hlook
      obtain ⟨b0, b2⟩ := row_cells KB.out.s.t
      go_wp2_with (at_builtin; refine hold_on ?_)
      refine Lib.hid ?_
      have gr2 := World.grownBy_alloc wy (.cells #[.int .i64 A.r, .bool A.cp] 69) none
      have KC := Lib.hid (KB.out.keep gr2)
      clear gr2
      refine wpList_append_own_at _ rfl _ _ 56 rfl (B + 1) 69 ir (.agg #[.int .i64 0, .bool false]) 2 16 Try.underlying56 hir hr0 hr1 hr2 rfl (by decide) vR R.length (R.flatMap rtC) (by rfl) KC.out.s.oR ⟨wy.heap.size, 0, none⟩ 1 1 (rtC (toR A)) (by rfl) rfl (cells2V _ _ _ _) (rtV_one _) (by unfold maxLen; omega) (by omega) (by have := KC.out.s.sz; omega) ?_
      intro v' w9 hown hg _ hat
      have hfl : R.flatMap rtC ++ rtC (toR A) = (R ++ [toR A]).flatMap rtC := by rw [List.flatMap_append, List.flatMap_cons, List.flatMap_nil, List.append_nil]
      have hRl : (R ++ [toR A]).length = R.length + 1 := by rw [List.length_append]; rfl
      obtain ⟨p5, c5, rfl, -, -⟩ := own_shape hown
      have hown2 : w9.ownsRow (B + 1) 69 2 (.slice p5 (R.length + 1) c5) (R ++ [toR A]).length ((R ++ [toR A]).flatMap rtC) := by rw [hRl, ← hfl]; exact hown
      have K9 := Lib.hid (KC.out.addR hown2 hg hat)
      clear hown hown2 hRl hg hat hfl KB KC b0 b2 d0 d1 d2 d3 d4
      simp only [Act.put, List.setIfInBounds_toArray, List.set_cons_zero, List.set_cons_succ]
      obtain ⟨b0, b2⟩ := row_cells K9.out.s.t
      have f0 := frozen_of_row _ _ 0 _ _ K9.out.s.t
      have K10 := Lib.hid K9.out.putR
      go_upto_region 10 with fail
      clear b0 b2 f0 K9
      generalize w9.setCell _ _ = w10 at *
      obtain ⟨d0, d1, d2, d3, d4⟩ := row5 K10.out.a
      have c0 : w10.cell? ⟨w.heap.size, 0, none⟩ = some (.slice (some ⟨b1, off1, none⟩) l.length c) := cell_of_row _ _ _ _ _ _ K10.out.s.d
      go_wp2_with fail
      refine (dlinked_any l A (some ⟨b1, off1, none⟩) c _ w10 K10.out.s.db (K10.out.s.db.ok A HAM.out) HP.out (by omega) (by omega)).mono ?_
      rintro e w5 ⟨pm, cm, rfl, hM, hMl, hg⟩
      have hlen := lnk_len l A
      have HVL : Hid (vL1 l A = ((lnk l A).filter (ltA A)).map (btw A)) := Lib.hid rfl
      obtain ⟨M, hMM⟩ : ∃ M, lnk l A = M := ⟨_, rfl⟩
      rw [hMM] at hM hMl hlen HVL ⊢
      have HMM := Lib.hid hMM
      have C0 : Hid (VI w l (some ⟨b1, off1, none⟩) c B S vm (.slice p5 (R.length + 1) c5) vL (.slice p5 (R.length + 1) c5) vL (R ++ [toR A]) L A X pm cm M w10.heap.size w5.heap.size w5) := Lib.hid ⟨K10.out.keep hg, hM, fun g h => .inl (K10.out.s.oL.lt g h).2, K10.out.s.sz, Nat.le_refl _⟩
      clear hM hg hMM d0 d1 d2 d3 d4 c0 K10
      generalize w10.heap.size = h7 at *
      generalize w5.heap.size = h8 at *
      have hMx : M.length ≤ 23 := by omega
      clear hlen
      go_wp2_with fail
      go_loopw [46] (fun a wq => ∃ (j : Nat) (vL2 : Value) (L2 : List Lk), j ≤ M.length ∧ a = .int .i64 (j : Int) ∧ L2.length ≤ L.length + j ∧ Hid (L ++ ((M.take j).filter (ltA A)).map (btw A) = L2) ∧ Hid (VI w l (some ⟨b1, off1, none⟩) c B S vm (.slice p5 (R.length + 1) c5) vL2 (.slice p5 (R.length + 1) c5) vL2 (R ++ [toR A]) L2 A X pm cm M h7 h8 wq)) (fun a _ => M.length - (RowKit.intOf a).toNat)
      case atStart => exact ⟨0, vL, L, Nat.zero_le _, rfl, Nat.le_refl _, Lib.hid (by simp), C0⟩
      case round =>
      obtain ⟨j, vL2, L2, hj, rfl, hL2, HL, C⟩ := hrel
      clear C0
      by_cases hlt2 : j < M.length
      · obtain ⟨-, bm, offm, rfl, -, -⟩ := RdF.cells (f := adL) (k := 5) adL_len (by decide) C.out.m (by omega)
        obtain ⟨x, hx⟩ : ∃ x, M[j]? = some x := ⟨_, List.getElem?_eq_getElem hlt2⟩
        have hcx : wr.cell? ⟨bm, offm + j * 5, none⟩ = some (.int .i64 x.r) ∧ wr.cell? ⟨bm, offm + j * 5 + 1, none⟩ = some (.int .i64 x.q) ∧ wr.cell? ⟨bm, offm + j * 5 + 2, none⟩ = some (.bool x.cp) ∧ wr.cell? ⟨bm, offm + j * 5 + 3, none⟩ = some (.slice x.pL x.L.length x.cL) ∧ wr.cell? ⟨bm, offm + j * 5 + 4, none⟩ = some (.slice x.pC x.C.length x.cC) := by
          obtain ⟨-, b', o', e, -, hc⟩ := RdF.cells (f := adL) (k := 5) adL_len (by decide) C.out.m (by omega)
          injection e with e
          injection e with e1 e2
          subst e1
          subst e2
          exact ⟨hc j x hx 0 _ rfl, hc j x hx 1 _ rfl, hc j x hx 2 _ rfl, hc j x hx 3 _ rfl, hc j x hx 4 _ rfl⟩
        obtain ⟨a0, a1, a2, a3, a4⟩ := hcx
        have hxm : x ∈ l := by
          have := List.mem_of_getElem? hx
          rw [← HMM.out] at this
          exact lnk_mem this
        have HXM := Lib.hid hxm
        have HFS := Lib.hid (flt_step (A := A) hx)
        have gal := World.grownBy_alloc wr (.cells #[.int .i64 x.r, .int .i64 x.q, .bool x.cp, .slice x.pL x.L.length x.cL, .slice x.pC x.C.length x.cC] 38) none
        have C1 : Hid (VI w l (some ⟨b1, off1, none⟩) c B S vm (.slice p5 (R.length + 1) c5) vL2 (.slice p5 (R.length + 1) c5) vL2 (R ++ [toR A]) L2 A X (some ⟨bm, offm, none⟩) cm M h7 h8 (wr.alloc (.cells #[.int .i64 x.r, .int .i64 x.q, .bool x.cp, .slice x.pL x.L.length x.cL, .slice x.pC x.C.length x.cC] 38)) ∧ (wr.alloc (.cells #[.int .i64 x.r, .int .i64 x.q, .bool x.cp, .slice x.pL x.L.length x.cL, .slice x.pC x.C.length x.cC] 38)).heap[wr.heap.size]? = some (.cells #[.int .i64 x.r, .int .i64 x.q, .bool x.cp, .slice x.pL x.L.length x.cL, .slice x.pC x.C.length x.cC] 38 (0, 0))) := Lib.hid ⟨C.out.keep gal, heap_alloc_new wr _⟩
        clear hx hxm gal C
        go_upto_region 13 with fail
        clear a0 a1 a2 a3 a4
        generalize wr.alloc _ = wy at *
        generalize wr.heap.size = Y at *
        obtain ⟨d0, d1, d2, d3, d4⟩ := row5 C1.out.1.b.a
        obtain ⟨e0, e1, e2, e3, e4⟩ := row5 C1.out.2
        by_cases hlr : A.r < x.r
        · have HF : Hid (L ++ ((M.take (j + 1)).filter (ltA A)).map (btw A) = L2 ++ [btw A x]) := Lib.hid (by rw [HFS.out, if_pos hlr, ← List.append_assoc, HL.out])
          clear HFS HL
          go_upto_region 14 with fail
          have HD := Lib.hid (And.intro (C1.out.1.keep (grown_drew (grown_refl wy none))) (kept_row C1.out.2 (grown_drew (grown_refl wy none)) (by simp)))
          clear C1 d0 d1 d2 d3 d4 e0 e1 e2 e3 e4
          refine region_until (S := fun w' => Hid (VI w l (some ⟨b1, off1, none⟩) c B S vm (.slice p5 (R.length + 1) c5) vL2 (.slice p5 (R.length + 1) c5) vL2 (R ++ [toR A]) L2 A X (some ⟨bm, offm, none⟩) cm M h7 h8 w' ∧ w'.heap[Y]? = some (.cells #[.int .i64 x.r, .int .i64 x.q, .bool x.cp, .slice x.pL x.L.length x.cL, .slice x.pC x.C.length x.cC] 38 (0, 0)))) (fun j => j == 6 || j == 7 || j == 8) (by kernel_rfl) (HD) (fun hHeld => ?_)
          refine anyU_take (i := 0) (oi := { dst := some 55, op := Op.fieldAddr 59 (Operand.tmp 6) 1, type := 0, pos := "database.go:76", after := #[], guard := none }) (v := ?_) rfl (by kernel_rfl) (by kernel_rfl) (by kernel_rfl) (by kernel_rfl) (by kernel_rfl) (fun _ _ _ h => h) (Or.inl ⟨by rfl, ?_⟩) hHeld ?_
          rotate_left 1
          · intro u hSu
            obtain ⟨b0, b2⟩ := row_cells hSu.out.1.b.s.t
            obtain ⟨d0, d1, d2, d3, d4⟩ := row5 hSu.out.1.b.a
            obtain ⟨e0, e1, e2, e3, e4⟩ := row5 hSu.out.2
            go_simp
            first | done | with_reducible rfl
          (try simp only [Act.put, List.setIfInBounds_toArray, List.set_cons_zero, List.set_cons_succ])
          refine anyU_take (i := 1) (oi := { dst := some 56, op := Op.load 57 (Operand.tmp 55), type := 57, pos := "database.go:76", after := #[{ on := 0, ground := Ground.data }], guard := none }) (v := ?_) rfl (by kernel_rfl) (by kernel_rfl) (by kernel_rfl) (by kernel_rfl) (by kernel_rfl) (fun _ _ _ h => h) (Or.inl ⟨by rfl, ?_⟩) hHeld ?_
          rotate_left 1
          · intro u hSu
            obtain ⟨b0, b2⟩ := row_cells hSu.out.1.b.s.t
            obtain ⟨d0, d1, d2, d3, d4⟩ := row5 hSu.out.1.b.a
            obtain ⟨e0, e1, e2, e3, e4⟩ := row5 hSu.out.2
            go_simp
            first | done | with_reducible rfl
          (try simp only [Act.put, List.setIfInBounds_toArray, List.set_cons_zero, List.set_cons_succ])
          refine anyU_take (i := 2) (oi := { dst := some 57, op := Op.load 38 (Operand.tmp 8), type := 38, pos := "database.go:76", after := #[], guard := none }) (v := ?_) rfl (by kernel_rfl) (by kernel_rfl) (by kernel_rfl) (by kernel_rfl) (by kernel_rfl) (fun _ _ _ h => h) (Or.inl ⟨by rfl, ?_⟩) hHeld ?_
          rotate_left 1
          · intro u hSu
            obtain ⟨b0, b2⟩ := row_cells hSu.out.1.b.s.t
            obtain ⟨d0, d1, d2, d3, d4⟩ := row5 hSu.out.1.b.a
            obtain ⟨e0, e1, e2, e3, e4⟩ := row5 hSu.out.2
            go_simp
            first | done | with_reducible rfl
          (try simp only [Act.put, List.setIfInBounds_toArray, List.set_cons_zero, List.set_cons_succ])
          refine anyU_take (i := 3) (oi := { dst := some 58, op := Op.load 38 (Operand.tmp 10), type := 38, pos := "database.go:76", after := #[], guard := none }) (v := ?_) rfl (by kernel_rfl) (by kernel_rfl) (by kernel_rfl) (by kernel_rfl) (by kernel_rfl) (fun _ _ _ h => h) (Or.inl ⟨by rfl, ?_⟩) hHeld ?_
          rotate_left 1
          · intro u hSu
            obtain ⟨b0, b2⟩ := row_cells hSu.out.1.b.s.t
            obtain ⟨d0, d1, d2, d3, d4⟩ := row5 hSu.out.1.b.a
            obtain ⟨e0, e1, e2, e3, e4⟩ := row5 hSu.out.2
            go_simp
            first | done | with_reducible rfl
          (try simp only [Act.put, List.setIfInBounds_toArray, List.set_cons_zero, List.set_cons_succ])
          refine anyU_ready (rs := [4]) (by kernel_rfl) (by simp) ?_
          refine EachU.cons (o := { dst := some 59, op := Op.call { callee := Callee.value (Operand.func 67), args := #[Operand.tmp 57, Operand.tmp 58], argTypes := #[38, 38] }, type := 71, pos := "database.go:76", after := #[{ on := 2, ground := Ground.data }, { on := 3, ground := Ground.data }], guard := none }) rfl (fun Kz hK => ?_) EachU.nil
          go_simp
          go_at_call 67
          refine (dbtw_any A x _ _ _ (hHeld.out.1.b.s.db.ok A HAM.out) (hHeld.out.1.b.s.db.ok x HXM.out)).mono ?_
          rintro e w5 ⟨rfl, hg⟩
          have hHn := Lib.hid (And.intro (hHeld.out.1.keep hg) (kept_row hHeld.out.2 hg (by simp)))
          clear hg
          refine hK.out _ _ (fun _ => hHn) (fun hH2 => ?_)
          clear hK Kz hHeld
          have hHeld := hH2 rfl
          clear hH2
          (try simp only [Act.put, List.setIfInBounds_toArray, List.set_cons_zero, List.set_cons_succ])
          refine anyU_ready (rs := [5]) (by kernel_rfl) (by simp) ?_
          refine EachU.cons (o := { dst := some 60, op := Op.buildSlice 57 1 #[(0, Operand.tmp 59)], type := 57, pos := "database.go:76", after := #[{ on := 4, ground := Ground.data }], guard := none }) rfl (fun Kz hK => ?_) EachU.nil
          go_simp
          have hHn := Lib.hid (And.intro (hHeld.out.1.keep (World.grownBy_alloc _ (.cells #[.int .i64 (btw A x).a, .int .i64 (btw A x).b, .int .i64 (btw A x).ca, .int .i64 (btw A x).cb, .int .i64 (btw A x).cp] 71) none)) (kept_row hHeld.out.2 (World.grownBy_alloc _ (.cells #[.int .i64 (btw A x).a, .int .i64 (btw A x).b, .int .i64 (btw A x).ca, .int .i64 (btw A x).cb, .int .i64 (btw A x).cp] 71) none) (by simp)))
          refine hK.out _ _ (fun _ => hHn) (fun hH2 => ?_)
          clear hK Kz hHeld
          have hHeld := hH2 rfl
          clear hH2
          (try simp only [Act.put, List.setIfInBounds_toArray, List.set_cons_zero, List.set_cons_succ])
          refine anyU_ready (rs := [6]) (by kernel_rfl) (by simp) ?_
          refine EachU.cons (o := { dst := some 61, op := Op.call { callee := Callee.builtin Builtin.append, args := #[Operand.tmp 56, Operand.tmp 60], argTypes := #[57, 57] }, type := 57, pos := "database.go:76", after := #[{ on := 1, ground := Ground.data }, { on := 5, ground := Ground.data }, { on := 4, ground := Ground.chain }], guard := none }) rfl (fun Kz hK => ?_) EachU.nil
          refine (astep_app lkC 5 40 (by decide) (fun _ => rfl) lkV_one 71 57 il _ Try.underlying57 hil hl0 hl1 hl2 rfl (by decide) (by rfl) _ _ (by rfl) (B + 1) vL2 L2 (by rfl) hHeld.out.1.b.s.oL (some ⟨_, 0, none⟩) 1 1 [btw A x] (by rfl) rfl (by simp) (fun _ => True) (rdf_one _ trivial (cells5V _ _ _ _ _ _ _) 1) (by omega) (by simp; omega) (by have := hHeld.out.1.b.s.sz; omega) ?_)
          intro p4 c4 w8 hown hg hat
          have HD5 := Lib.hid (hHeld.out.1.addL (L2 := L2 ++ [btw A x]) hown hg hat)
          obtain ⟨b0, b2⟩ := row_cells HD5.out.b.s.t
          have fB := frozen_of_row _ _ 1 _ _ HD5.out.b.s.t
          clear hown hg hat
          refine hK.out _ _ (fun h => by cases h) (fun _ => ?_)
          clear hK Kz
          (try simp only [Act.put, List.setIfInBounds_toArray, List.set_cons_zero, List.set_cons_succ])
          refine anyU_ready (rs := [7]) (by kernel_rfl) (by simp) ?_
          refine EachU.cons (o := { dst := some 62, op := Op.fieldAddr 59 (Operand.tmp 6) 1, type := 0, pos := "database.go:76", after := #[{ on := 0, ground := Ground.phase }, { on := 1, ground := Ground.phase }, { on := 2, ground := Ground.phase }, { on := 3, ground := Ground.phase }, { on := 4, ground := Ground.phase }, { on := 5, ground := Ground.phase }, { on := 6, ground := Ground.phase }], guard := none }) rfl (fun Kz hK => ?_) EachU.nil
          go_simp
          refine hK.out _ _ (fun h => by cases h) (fun _ => ?_)
          clear hK Kz
          (try simp only [Act.put, List.setIfInBounds_toArray, List.set_cons_zero, List.set_cons_succ])
          refine anyU_ready (rs := [8]) (by kernel_rfl) (by simp) ?_
          refine EachU.cons (o := { dst := none, op := Op.store 57 (Operand.tmp 62) (Operand.tmp 61), type := 0, pos := "database.go:76", after := #[{ on := 7, ground := Ground.data }, { on := 6, ground := Ground.data }, { on := 6, ground := Ground.chain }, { on := 0, ground := Ground.phase }, { on := 1, ground := Ground.phase }, { on := 2, ground := Ground.phase }, { on := 3, ground := Ground.phase }, { on := 4, ground := Ground.phase }, { on := 5, ground := Ground.phase }, { on := 6, ground := Ground.phase }], guard := none }) rfl (fun Kz hK => ?_) EachU.nil
          go_simp
          refine hK.out _ _ (fun h => by cases h) (fun _ => ?_)
          clear hK Kz
          (try simp only [Act.put, List.setIfInBounds_toArray, List.set_cons_zero, List.set_cons_succ])
          refine anyU_done (by kernel_rfl) ?_ _
          have HN2 := Lib.hid HD5.out.putL
          clear HD5 HD b0 b2 fB
          go_wp2_with fail
          exact ⟨⟨j + 1, _, L2 ++ [btw A x], by omega, congrArg _ (by omega), by rw [List.length_append]; simp; omega, HF, HN2⟩, by simp only [RowKit.intOf]; omega⟩
        · have HF : Hid (L ++ ((M.take (j + 1)).filter (ltA A)).map (btw A) = L2) := Lib.hid (by rw [HFS.out, if_neg hlr, List.append_nil, HL.out])
          have C2 := Lib.hid C1.out.1
          clear HFS HL C1
          go_wp2_with fail
          exact ⟨⟨j + 1, vL2, L2, by omega, congrArg _ (by omega), by omega, HF, C2⟩, by simp only [RowKit.intOf]; omega⟩
      · obtain rfl : j = M.length := by omega
        have hL9 := HL.out
        rw [List.take_length, ← HVL.out] at hL9
        have KN := Lib.hid C.out.b.s
        rw [hL9] at HN
        have hRl : (R ++ [toR A]).length = R.length + 1 := by rw [List.length_append]; rfl
        clear C HL hL9
        go_wp2_with fail
        exact ⟨⟨k + 1, .slice p5 (R.length + 1) c5, vL2, R ++ [toR A], L2, by omega, congrArg _ (by omega), by omega, by omega, HN, KN⟩, by simp only [RowKit.intOf]; omega⟩
  · obtain rfl : k = l.length := by omega
    have hI := HI.out
    rw [List.take_length] at hI
    have hI1 : vwR l S = R := hI.1
    have hI2 : vwL l S = L := hI.2
    rw [hI1, hI2] at HVW
    have hTK := K.out
    obtain ⟨pR, cR, rfl, n1, m1⟩ := own_shape K.out.oR
    obtain ⟨pL, cL, rfl, n2, m2⟩ := own_shape K.out.oL
    have hlo := K.out.lo
    have HTG : Hid (TgOk wr (fun b => B + 1 ≤ b ∧ b < wr.heap.size) ⟨R, L, pR, cR, pL, cL⟩) := Lib.hid ⟨rdf_of_own2 K.out.oR, rdf_of_own2 K.out.oL, ⟨n1, m1⟩, ⟨n2, m2⟩⟩
    clear hI hI1 hI2 hTK n1 m1 n2 m2 HI
    obtain ⟨b0, b2⟩ := row_cells K.out.t
    go_wp2_with fail
    refine (tcheck_any ⟨R, L, pR, cR, pL, cL⟩ _ wr HTG.out).mono ?_
    rintro e w5 ⟨rfl, hg⟩
    have HT5 := Lib.hid (HTG.out.keep hg)
    have K5 := Lib.hid (K.out.keep hg)
    clear hg K HTG b0 b2
    simp only
    obtain ⟨z, hz⟩ : ∃ z, chk R L = z := ⟨_, rfl⟩
    rw [hz] at HVW ⊢
    clear hz
    obtain ⟨b0, b2⟩ := row_cells K5.out.t
    have z0 := cell_of_row _ _ 0 _ _ _ K5.out.z
    have z1 := cell_of_row _ _ 1 _ _ _ K5.out.z
    have f0 := frozen_of_row _ _ 0 _ _ K5.out.z
    have f1 := frozen_of_row _ _ 1 _ _ K5.out.z
    by_cases hz0 : z = 0
    · have HV : Hid ((R, L) = viewV l r) := Lib.hid (by rw [HVW.out, if_pos hz0])
      obtain ⟨t1, t2⟩ := store2c (.slice pR R.length cR) (.slice pL L.length cL) K5.out.z
      have HT := Lib.hid (And.intro t1 (And.intro (grown_new K5.out.gr t2 (by omega)) (HT5.out.grown t2 (fun b hb e => by have := Option.some.inj e; omega))))
      clear t1 t2 K5 HT5
      subst hz0
      go_wp2_with fail
      refine bodyPost_ret (res_topoV rfl _ _ (w.heap.size + 1) _ _ rfl HT.out.1) rfl ?_
      exact ⟨⟨R, L, pR, cR, pL, cL⟩, rfl, HV.out, HT.out.2.2.mono (fun b hb => by omega), HT.out.2.1⟩
    · have HV : Hid (viewV l r = ([], [])) := Lib.hid (by rw [HVW.out, if_neg hz0])
      obtain ⟨t1, t2⟩ := store2c (.slice none 0 0) (.slice none 0 0) K5.out.z
      have HT := Lib.hid (And.intro t1 (grown_new K5.out.gr t2 (by omega)))
      clear t1 t2 K5 HT5
      go_wp2_with fail
      refine bodyPost_ret (res_topoV rfl _ _ (w.heap.size + 1) _ _ rfl HT.out.1) rfl ?_
      exact vw_no HV.out HT.out.2
end Go.Proofs.Ytnpkihioklpnmaa

/- copy, clear, append within a row of structs of the call's own; append of zeros. -/
namespace Go.Proofs.Ytnpkihioklpnmaa
open Go.RowKit Bs
section
variable {e t : TypeId} {i : TypeInfo} (ht : Try.prog.underlying t = some (.slice e)) (hi : Try.prog.info? e = some i)
include ht hi
end
section
variable {ops : Array Oper} {rest : List Oper} {o : Oper} {a : Act} {w : World} {K : Act → World → Prop} {Q : Exit → Act → World → Prop} {E : Prop}
end
end Go.Proofs.Ytnpkihioklpnmaa

/- slices.Insert of one advert. -/
namespace Go.Proofs.Ytnpkihioklpnmaa
open Go.RowKit Bs
section
variable {Z xs x5 : List Value} {N i : Nat} (hx : xs.length = N * 5) (h5 : x5.length = 5) (hz : Z.length = (N + 1) * 5) (hi : i ≤ N) (hpre : ∀ j, j < i * 5 → Z[j]? = xs[j]?)
include hx h5 hz hi hpre
end
end Go.Proofs.Ytnpkihioklpnmaa

/- database: copies and put. -/
namespace Go.Proofs.Ytnpkihioklpnmaa
open Go.RowKit Bs
end Go.Proofs.Ytnpkihioklpnmaa

/- database: put. -/
namespace Go.Proofs.Ytnpkihioklpnmaa
open Go.RowKit Bs
end Go.Proofs.Ytnpkihioklpnmaa
