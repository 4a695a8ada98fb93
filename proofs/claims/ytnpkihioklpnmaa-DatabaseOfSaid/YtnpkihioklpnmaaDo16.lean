/- Parts of the proof, packed: DbVwS, DbFnd, DbFin, DbSam, AdSq, AdRSm, DbRef, DbRf, DbPtM, DbRLn, DbStM, DbVrM, ToCpy. -/
import Derived.Test.YtnpkihioklpnmaaDo15
import Derived.Test.YtnpkihioklpnmaaDo2
import Derived.Maps.AppendAt
import Derived.Test.YtnpkihioklpnmaaDo14
import Derived.Test.YtnpkihioklpnmaaDo6
import Derived.Deep.CutBlock
import Derived.Laws.StructEq
import Derived.BigQuiet
import Derived.Test.YtnpkihioklpnmaaDo7
import Derived.Test.YtnpkihioklpnmaaDo13
import Derived.Test.YtnpkihioklpnmaaDo5
import Derived.Test.YtnpkihioklpnmaaDo4
import Derived.ArgAppend
import Derived.Laws.IdiomCopy
import Derived.Laws.BitsLemmas
import Derived.Deep.AppendLies
/- While database.View makes a topology: the boxes and the rows. -/
namespace Go.Proofs.Ytnpkihioklpnmaa
open Go.RowKit Bs
set_option maxRecDepth 100000 in
theorem info_rtV : (Try.prog.info? 69).map (fun i => (i.zero, i.size, i.bytes)) = some (some (.agg #[.int .i64 0, .bool false]), 2, 16) := by kernel_rfl
set_option maxRecDepth 100000 in
theorem info_lkV : (Try.prog.info? 71).map (fun i => (i.zero, i.size, i.bytes)) = some (some (.agg #[.int .i64 0, .int .i64 0, .int .i64 0, .int .i64 0, .int .i64 0]), 5, 40) := by kernel_rfl
set_option maxRecDepth 100000 in
theorem topo_sizeV : (Try.prog.info? 59).map (·.size) = some 2 := by kernel_rfl
set_option maxRecDepth 100000 in
theorem res_topoV {fn : Func} {p : Tmp} (h : fn.results = #[.cell p 59]) (tmps : Array Value) (w : World) (g : Nat) (x y : Value) (hp : tmps.getD p undef = .pointer (some ⟨g, 0, none⟩)) (hg : w.heap[g]? = some (.cells #[x, y] 59 (0, 0))) :
    (results fn tmps).run Try.prog w = .ok (.agg #[x, y]) w :=
  results_cell_row h tmps w g _ _ _ _ hp hg Try.underlying59 rfl topo_sizeV
set_option maxRecDepth 100000 in
theorem rtV_one (x : Rt) : ∀ u ∈ rtC x, u.oneCell' = true := by
  intro u hu
  simp [rtC] at hu
  rcases hu with rfl | rfl <;> rfl
set_option maxRecDepth 100000 in
theorem lkV_one (x : Lk) : ∀ u ∈ lkC x, u.oneCell' = true := by
  intro u hu
  simp [lkC] at hu
  rcases hu with rfl | rfl | rfl | rfl | rfl <;> rfl
set_option maxRecDepth 100000 in
theorem cells2V (w : World) (x y : Value) (t : TypeId) : ∀ j u, [x, y][j]? = some u → (w.alloc (.cells #[x, y] t)).cell? ((⟨w.heap.size, 0, none⟩ : Addr).add j) = some u := by
  intro j u hj
  rw [add_plain]
  have hb := heap_alloc_new w (.cells #[x, y] t)
  rcases j with _ | _ | j
  · cases hj; exact cell_of_row _ _ _ _ _ _ hb
  · cases hj; exact cell_of_row _ _ _ _ _ _ hb
  · simp at hj
set_option maxRecDepth 100000 in
theorem cells5V (w : World) (x y z u v : Value) (t : TypeId) : ∀ j a, [x, y, z, u, v][j]? = some a → (w.alloc (.cells #[x, y, z, u, v] t)).cell? ((⟨w.heap.size, 0, none⟩ : Addr).add j) = some a := by
  intro j a hj
  rw [add_plain]
  have hb := heap_alloc_new w (.cells #[x, y, z, u, v] t)
  rcases j with _ | _ | _ | _ | _ | j
  · cases hj; exact cell_of_row _ _ _ _ _ _ hb
  · cases hj; exact cell_of_row _ _ _ _ _ _ hb
  · cases hj; exact cell_of_row _ _ _ _ _ _ hb
  · cases hj; exact cell_of_row _ _ _ _ _ _ hb
  · cases hj; exact cell_of_row _ _ _ _ _ _ hb
  · simp at hj
/-- While a view is made: the database and its box, the result's box, the box of what is made in block B (it holds uR, uL), the rows vR, vL of the call's own, the map. -/
structure VS (W : World) (l : List Ad) (p : Option Addr) (c B : Nat) (S : List Int) (vm uR uL vR vL : Value) (R : List Rt) (L : List Lk) (w : World) : Prop where
  db : RdA w (· < W.heap.size) (.slice p l.length c) l
  d : w.heap[W.heap.size]? = some (.cells #[.slice p l.length c] 25 (0, 0))
  z : w.heap[W.heap.size + 1]? = some (.cells #[.slice none 0 0, .slice none 0 0] 59 (0, 0))
  t : w.heap[B]? = some (.cells #[uR, uL] 59 (0, 0))
  oR : w.ownsRow (B + 1) 69 2 vR R.length (R.flatMap rtC)
  oL : w.ownsRow (B + 1) 71 5 vL L.length (L.flatMap lkC)
  ap : ∀ g, vR.ownBlock = some g → vL.ownBlock ≠ some g
  mp : MVb w (fun b => W.heap.size ≤ b ∧ b < B) vm (inS S)
  lo : W.heap.size + 1 < B
  sz : B < w.heap.size
  gr : W.grownBy w none
section
variable {W w w1 : World} {l : List Ad} {p : Option Addr} {c B : Nat} {S : List Int} {vm uR uL vR vL v' : Value} {R R2 : List Rt} {L L2 : List Lk}
set_option maxRecDepth 100000 in
theorem VS.keep (h : VS W l p c B S vm uR uL vR vL R L w) (g : w.grownBy w1 none) : VS W l p c B S vm uR uL vR vL R L w1 :=
  ⟨h.db.keep g, kept_row h.d g (by simp), kept_row h.z g (by simp), kept_row h.t g (by simp), h.oR.kept g (by cases vR.ownBlock <;> simp), h.oL.kept g (by cases vL.ownBlock <;> simp), h.ap, h.mp.keep g, h.lo, Nat.lt_of_lt_of_le h.sz g.size, grown_trans h.gr g⟩
set_option maxRecDepth 100000 in
theorem VS.row {r : Option Nat} (h : VS W l p c B S vm uR uL vR vL R L w) (hg : w.grownBy w1 r) (hr : ∀ g, r = some g → B + 1 ≤ g) :
    RdA w1 (· < W.heap.size) (.slice p l.length c) l ∧ w1.heap[W.heap.size]? = some (.cells #[.slice p l.length c] 25 (0, 0)) ∧ w1.heap[W.heap.size + 1]? = some (.cells #[.slice none 0 0, .slice none 0 0] 59 (0, 0)) ∧ w1.heap[B]? = some (.cells #[uR, uL] 59 (0, 0)) ∧ MVb w1 (fun b => W.heap.size ≤ b ∧ b < B) vm (inS S) ∧ W.grownBy w1 none := by
  have hlo := h.lo
  have hne : ∀ k, k < B + 1 → some k ≠ r := fun k hk e => by have := hr k e.symm; omega
  refine ⟨h.db.grown hg (fun b hb => hne _ (by omega)), kept_row h.d hg (hne _ (by omega)), kept_row h.z hg (hne _ (by omega)), kept_row h.t hg (hne _ (by omega)), h.mp.grown hg (fun b hb => hne _ (by omega)), ?_⟩
  cases hv : r with
  | none => rw [hv] at hg; exact grown_trans h.gr hg
  | some b => rw [hv] at hg; exact grown_new h.gr hg (by have := hr b hv; omega)
set_option maxRecDepth 100000 in
theorem VS.addR (h : VS W l p c B S vm uR uL vR vL R L w) (hown : w1.ownsRow (B + 1) 69 2 v' R2.length (R2.flatMap rtC)) (hg : w.grownBy w1 vR.ownBlock) (hat : v'.ownBlock = vR.ownBlock ∨ v'.ownBlock = some w.heap.size) : VS W l p c B S vm uR uL v' vL R2 L w1 := by
  obtain ⟨r1, r2, r3, r4, r5, r6⟩ := h.row hg (fun g e => (h.oR.lt g e).1)
  refine ⟨r1, r2, r3, r4, hown, h.oL.kept hg ?_, ?_, r5, h.lo, Nat.lt_of_lt_of_le h.sz hg.size, r6⟩
  · cases hv : vL.ownBlock with
    | none => exact .inl rfl
    | some k => exact .inr (fun e => h.ap k e.symm hv)
  · intro g2 hg2 e
    rcases hat with h1 | h1
    · exact h.ap g2 (by rw [← h1]; exact hg2) e
    · rw [h1] at hg2
      have := Option.some.inj hg2
      have := (h.oL.lt g2 e).2
      omega
set_option maxRecDepth 100000 in
theorem VS.addL (h : VS W l p c B S vm uR uL vR vL R L w) (hown : w1.ownsRow (B + 1) 71 5 v' L2.length (L2.flatMap lkC)) (hg : w.grownBy w1 vL.ownBlock) (hat : v'.ownBlock = vL.ownBlock ∨ v'.ownBlock = some w.heap.size) : VS W l p c B S vm uR uL vR v' R L2 w1 := by
  obtain ⟨r1, r2, r3, r4, r5, r6⟩ := h.row hg (fun g e => (h.oL.lt g e).1)
  refine ⟨r1, r2, r3, r4, h.oR.kept hg ?_, hown, ?_, r5, h.lo, Nat.lt_of_lt_of_le h.sz hg.size, r6⟩
  · cases hv : vR.ownBlock with
    | none => exact .inl rfl
    | some k => exact .inr (fun e => h.ap k hv e.symm)
  · intro g2 hg2 e
    rcases hat with h1 | h1
    · exact h.ap g2 hg2 (by rw [← h1]; exact e)
    · rw [h1] at e
      have := Option.some.inj e
      have := (h.oR.lt g2 hg2).2
      omega
set_option maxRecDepth 100000 in
theorem own_otherV {base size n b : Nat} {e : TypeId} {v : Value} {xs : List Value} (h : w.ownsRow base e size v n xs) (g : w.grownBy w1 (some b)) (hb : b < base) : w1.ownsRow base e size v n xs := by
  refine h.kept g ?_
  cases hv : v.ownBlock with
  | none => exact .inl rfl
  | some k => exact .inr (fun e => by have := (h.lt k hv).1; have := Option.some.inj e; omega)
set_option maxRecDepth 100000 in
theorem VS.putR (h : VS W l p c B S vm uR uL vR vL R L w) : VS W l p c B S vm vR uL vR vL R L (w.setCell ⟨B, 0, none⟩ vR) := by
  have g := grown_setCell w ⟨B, 0, none⟩ vR
  have hlo := h.lo
  have hne : ∀ k, k < B → some k ≠ some B := fun k hk e => by have := Option.some.inj e; omega
  refine ⟨h.db.grown g (fun b hb => hne _ (by omega)), kept_row h.d g (hne _ (by omega)), kept_row h.z g (hne _ (by omega)), ?_, own_otherV h.oR g (Nat.lt_succ_self _), own_otherV h.oL g (Nat.lt_succ_self _), h.ap, h.mp.grown g (fun b hb => hne _ (by omega)), h.lo, Nat.lt_of_lt_of_le h.sz g.size, grown_new h.gr g (show W.heap.size ≤ B by omega)⟩
  have h1 := heap_setCell_same w B 0 _ _ vR h.t
  rw [h1]; rfl
set_option maxRecDepth 100000 in
theorem VS.putL (h : VS W l p c B S vm uR uL vR vL R L w) : VS W l p c B S vm uR vL vR vL R L (w.setCell ⟨B, 1, none⟩ vL) := by
  have g := grown_setCell w ⟨B, 1, none⟩ vL
  have hlo := h.lo
  have hne : ∀ k, k < B → some k ≠ some B := fun k hk e => by have := Option.some.inj e; omega
  refine ⟨h.db.grown g (fun b hb => hne _ (by omega)), kept_row h.d g (hne _ (by omega)), kept_row h.z g (hne _ (by omega)), ?_, own_otherV h.oR g (Nat.lt_succ_self _), own_otherV h.oL g (Nat.lt_succ_self _), h.ap, h.mp.grown g (fun b hb => hne _ (by omega)), h.lo, Nat.lt_of_lt_of_le h.sz g.size, grown_new h.gr g (show W.heap.size ≤ B by omega)⟩
  have h1 := heap_setCell_same w B 1 _ _ vL h.t
  rw [h1]; rfl
end
/-- And an advert's box, in block X. -/
structure VB (W : World) (l : List Ad) (p : Option Addr) (c B : Nat) (S : List Int) (vm uR uL vR vL : Value) (R : List Rt) (L : List Lk) (A : Ad) (X : Nat) (w : World) : Prop where
  s : VS W l p c B S vm uR uL vR vL R L w
  a : w.heap[X]? = some (.cells #[.int .i64 A.r, .int .i64 A.q, .bool A.cp, .slice A.pL A.L.length A.cL, .slice A.pC A.C.length A.cC] 38 (0, 0))
  nR : vR.ownBlock ≠ some X
  nL : vL.ownBlock ≠ some X
  lo : B < X ∧ X < w.heap.size
/-- And linked adverts in a row that came while blocks h7 to h8 came. -/
structure VI (W : World) (l : List Ad) (p : Option Addr) (c B : Nat) (S : List Int) (vm uR uL vR vL : Value) (R : List Rt) (L : List Lk) (A : Ad) (X : Nat) (pm : Option Addr) (cm : Nat) (M : List Ad) (h7 h8 : Nat) (w : World) : Prop where
  b : VB W l p c B S vm uR uL vR vL R L A X w
  m : RdF w (fun b => h7 ≤ b ∧ b < h8) (.slice pm M.length cm) M.length (M.flatMap adL)
  sep : ∀ g, vL.ownBlock = some g → g < h7 ∨ h8 ≤ g
  lo : B < h7 ∧ h8 ≤ w.heap.size
section
variable {W w w1 : World} {l M : List Ad} {p pm : Option Addr} {c B X cm h7 h8 : Nat} {S : List Int} {vm uR uL vR vL v' : Value} {R R2 : List Rt} {L L2 : List Lk} {A : Ad}
set_option maxRecDepth 100000 in
theorem VB.keep (h : VB W l p c B S vm uR uL vR vL R L A X w) (g : w.grownBy w1 none) : VB W l p c B S vm uR uL vR vL R L A X w1 :=
  ⟨h.s.keep g, kept_row h.a g (by simp), h.nR, h.nL, h.lo.1, Nat.lt_of_lt_of_le h.lo.2 g.size⟩
set_option maxRecDepth 100000 in
theorem VB.addR (h : VB W l p c B S vm uR uL vR vL R L A X w) (hown : w1.ownsRow (B + 1) 69 2 v' R2.length (R2.flatMap rtC)) (hg : w.grownBy w1 vR.ownBlock) (hat : v'.ownBlock = vR.ownBlock ∨ v'.ownBlock = some w.heap.size) : VB W l p c B S vm uR uL v' vL R2 L A X w1 := by
  refine ⟨h.s.addR hown hg hat, kept_row h.a hg (fun e => h.nR e.symm), fun e => ?_, h.nL, h.lo.1, Nat.lt_of_lt_of_le h.lo.2 hg.size⟩
  rcases hat with h1 | h1
  · exact h.nR (h1.symm.trans e)
  · have := Option.some.inj (h1.symm.trans e); have := h.lo.2; omega
set_option maxRecDepth 100000 in
theorem VB.addL (h : VB W l p c B S vm uR uL vR vL R L A X w) (hown : w1.ownsRow (B + 1) 71 5 v' L2.length (L2.flatMap lkC)) (hg : w.grownBy w1 vL.ownBlock) (hat : v'.ownBlock = vL.ownBlock ∨ v'.ownBlock = some w.heap.size) : VB W l p c B S vm uR uL vR v' R L2 A X w1 := by
  refine ⟨h.s.addL hown hg hat, kept_row h.a hg (fun e => h.nL e.symm), h.nR, fun e => ?_, h.lo.1, Nat.lt_of_lt_of_le h.lo.2 hg.size⟩
  rcases hat with h1 | h1
  · exact h.nL (h1.symm.trans e)
  · have := Option.some.inj (h1.symm.trans e); have := h.lo.2; omega
set_option maxRecDepth 100000 in
theorem VB.putR (h : VB W l p c B S vm uR uL vR vL R L A X w) : VB W l p c B S vm vR uL vR vL R L A X (w.setCell ⟨B, 0, none⟩ vR) := by
  have g := grown_setCell w ⟨B, 0, none⟩ vR
  exact ⟨h.s.putR, kept_row h.a g (fun e => by have : X = B := Option.some.inj e; have := h.lo.1; omega), h.nR, h.nL, h.lo.1, Nat.lt_of_lt_of_le h.lo.2 g.size⟩
set_option maxRecDepth 100000 in
theorem VB.putL (h : VB W l p c B S vm uR uL vR vL R L A X w) : VB W l p c B S vm uR vL vR vL R L A X (w.setCell ⟨B, 1, none⟩ vL) := by
  have g := grown_setCell w ⟨B, 1, none⟩ vL
  exact ⟨h.s.putL, kept_row h.a g (fun e => by have : X = B := Option.some.inj e; have := h.lo.1; omega), h.nR, h.nL, h.lo.1, Nat.lt_of_lt_of_le h.lo.2 g.size⟩
set_option maxRecDepth 100000 in
theorem VI.keep (h : VI W l p c B S vm uR uL vR vL R L A X pm cm M h7 h8 w) (g : w.grownBy w1 none) : VI W l p c B S vm uR uL vR vL R L A X pm cm M h7 h8 w1 :=
  ⟨h.b.keep g, h.m.grown g (fun _ _ => by simp), h.sep, h.lo.1, Nat.le_trans h.lo.2 g.size⟩
set_option maxRecDepth 100000 in
theorem VI.addL (h : VI W l p c B S vm uR uL vR vL R L A X pm cm M h7 h8 w) (hown : w1.ownsRow (B + 1) 71 5 v' L2.length (L2.flatMap lkC)) (hg : w.grownBy w1 vL.ownBlock) (hat : v'.ownBlock = vL.ownBlock ∨ v'.ownBlock = some w.heap.size) : VI W l p c B S vm uR uL vR v' R L2 A X pm cm M h7 h8 w1 := by
  refine ⟨h.b.addL hown hg hat, h.m.grown hg (fun b hb e => by have := h.sep b e.symm; omega), fun g hgg => ?_, h.lo.1, Nat.le_trans h.lo.2 hg.size⟩
  rcases hat with h1 | h1
  · exact h.sep g (by rw [← h1]; exact hgg)
  · rw [h1] at hgg; have := Option.some.inj hgg; have := h.lo.2; omega
set_option maxRecDepth 100000 in
theorem VI.putL (h : VI W l p c B S vm uR uL vR vL R L A X pm cm M h7 h8 w) : VI W l p c B S vm uR vL vR vL R L A X pm cm M h7 h8 (w.setCell ⟨B, 1, none⟩ vL) := by
  have g := grown_setCell w ⟨B, 1, none⟩ vL
  exact ⟨h.b.putL, h.m.grown g (fun b hb e => by have : b = B := Option.some.inj e; have := h.lo.1; omega), h.sep, h.lo.1, Nat.le_trans h.lo.2 g.size⟩
end
set_option maxRecDepth 100000 in
theorem flt_step {M : List Ad} {j : Nat} {x A : Ad} (h : M[j]? = some x) : ((M.take (j + 1)).filter (ltA A)).map (btw A) = ((M.take j).filter (ltA A)).map (btw A) ++ (if A.r < x.r then [btw A x] else []) := by
  rw [List.take_add_one, h, List.filter_append, List.map_append]
  congr 1
  show ([x].filter (ltA A)).map (btw A) = _
  by_cases e : A.r < x.r
  · rw [if_pos e, List.filter_cons, show ltA A x = true from decide_eq_true e]; rfl
  · rw [if_neg e, List.filter_cons, show ltA A x = false from decide_eq_false e]; rfl
set_option maxRecDepth 100000 in
theorem vw_step {l : List Ad} {k : Nat} {A : Ad} {S : List Int} (h : l[k]? = some A) : ((l.take (k + 1)).filter (inV S)).map toR = ((l.take k).filter (inV S)).map toR ++ (if inS S A.r = true then [toR A] else []) ∧ ((l.take (k + 1)).filter (inV S)).flatMap (vL1 l) = ((l.take k).filter (inV S)).flatMap (vL1 l) ++ (if inS S A.r = true then vL1 l A else []) := by
  rw [List.take_add_one, h, List.filter_append, List.map_append, List.flatMap_append]
  have e : ((some A).toList.filter (inV S)) = if inS S A.r = true then [A] else [] := by
    show [A].filter (inV S) = _
    rw [List.filter_cons]
    rfl
  rw [e]
  cases inS S A.r <;> simp
/-- What View returns. -/
def VwPost (l : List Ad) (r : Int) (w : World) (e : Ending) (w' : World) : Prop :=
  ∃ T : Tg, e = .returned (.agg #[.slice T.pR T.R.length T.cR, .slice T.pL T.L.length T.cL]) ∧ (T.R, T.L) = viewV l r ∧ TgOk w' (w.heap.size ≤ ·) T ∧ w.grownBy w' none
set_option maxRecDepth 100000 in
theorem vw_no {l : List Ad} {r : Int} {w w' : World} (h : viewV l r = ([], [])) (g : w.grownBy w' none) : VwPost l r w (.returned (.agg #[.slice none 0 0, .slice none 0 0])) w' :=
  ⟨⟨[], [], none, 0, none, 0⟩, rfl, h.symm, ⟨⟨none, 0, rfl, fun h => absurd rfl h⟩, ⟨none, 0, rfl, fun h => absurd rfl h⟩, ⟨Nat.le_refl _, by decide⟩, ⟨Nat.le_refl _, by decide⟩⟩, g⟩
end Go.Proofs.Ytnpkihioklpnmaa

/- database: copied, Find. -/
namespace Go.Proofs.Ytnpkihioklpnmaa
open Go.RowKit Bs
set_option maxRecDepth 100000 in
theorem own_nl {w : World} {base size n m c : Nat} {e : TypeId} {p : Option Addr} {xs : List Value} (h : w.ownsRow base e size (.slice p m c) n xs) : p = none → c = 0 := by
  rintro rfl
  rcases h.2 with ⟨e1, _⟩ | ⟨g', cap', cur, hv, _⟩
  · injection e1
  · cases hv
/-- While an advert is copied: its box, the result's. -/
structure CP (W : World) (A : Ad) (v1 v2 : Value) (wr : World) : Prop where
  ab : wr.heap[W.heap.size]? = some (.cells #[.int .i64 A.r, .int .i64 A.q, .bool A.cp, v1, v2] 38 (0, 0))
  rb : wr.heap[W.heap.size + 1]? = some (.cells #[.int .i64 0, .int .i64 0, .bool false, .slice none 0 0, .slice none 0 0] 38 (0, 0))
  ok : AdOk wr (· < W.heap.size) A
  gr : W.grownBy wr none
section
variable {W w w1 : World} {A : Ad} {v1 v2 v : Value}
set_option maxRecDepth 100000 in
theorem CP.keep (h : CP W A v1 v2 w) (g : w.grownBy w1 none) : CP W A v1 v2 w1 := ⟨kept_row h.ab g (by simp), kept_row h.rb g (by simp), h.ok.keep g, grown_trans h.gr g⟩
set_option maxRecDepth 100000 in
theorem CP.set3 (h : CP W A v1 v2 w) (v : Value) : CP W A v v2 (w.setCell ⟨W.heap.size, 3, none⟩ v) := by
  have g := grown_setCell w ⟨W.heap.size, 3, none⟩ v
  refine ⟨?_, kept_row h.rb g (fun e => by have : W.heap.size + 1 = W.heap.size := Option.some.inj e; omega), h.ok.grown g (fun b hb e => by have : b = W.heap.size := Option.some.inj e; omega), grown_new h.gr g (Nat.le_refl _)⟩
  have h1 := heap_setCell_same w W.heap.size 3 _ _ v h.ab
  rw [h1]; rfl
set_option maxRecDepth 100000 in
theorem CP.set4 (h : CP W A v1 v2 w) (v : Value) : CP W A v1 v (w.setCell ⟨W.heap.size, 4, none⟩ v) := by
  have g := grown_setCell w ⟨W.heap.size, 4, none⟩ v
  refine ⟨?_, kept_row h.rb g (fun e => by have : W.heap.size + 1 = W.heap.size := Option.some.inj e; omega), h.ok.grown g (fun b hb e => by have : b = W.heap.size := Option.some.inj e; omega), grown_new h.gr g (Nat.le_refl _)⟩
  have h1 := heap_setCell_same w W.heap.size 4 _ _ v h.ab
  rw [h1]; rfl
end
set_option maxRecDepth 100000 in
theorem cp_start {w : World} {A : Ad} {q : Nat → Prop} (hA : AdOk w q A) : CP w A (.slice A.pL A.L.length A.cL) (.slice A.pC A.C.length A.cC) ((w.alloc (.cells #[.int .i64 A.r, .int .i64 A.q, .bool A.cp, .slice A.pL A.L.length A.cL, .slice A.pC A.C.length A.cC] 38)).alloc (.cells #[.int .i64 0, .int .i64 0, .bool false, .slice none 0 0, .slice none 0 0] 38)) ∧ w.heap.size + 2 ≤ ((w.alloc (.cells #[.int .i64 A.r, .int .i64 A.q, .bool A.cp, .slice A.pL A.L.length A.cL, .slice A.pC A.C.length A.cC] 38)).alloc (.cells #[.int .i64 0, .int .i64 0, .bool false, .slice none 0 0, .slice none 0 0] 38)).heap.size := by
  obtain ⟨k1, k2, k3, k4⟩ := two_boxes w #[.int .i64 A.r, .int .i64 A.q, .bool A.cp, .slice A.pL A.L.length A.cL, .slice A.pC A.C.length A.cC] #[.int .i64 0, .int .i64 0, .bool false, .slice none 0 0, .slice none 0 0] 38 38
  exact ⟨⟨k1, k2, hA.old.keep k3, k3⟩, Nat.le_of_eq k4.symm⟩
/-- A copy: the same fields, lists elsewhere. -/
def CpPost (A : Ad) (w : World) (e : Ending) (w' : World) : Prop :=
  ∃ pL cL pC cC, e = .returned (.agg #[.int .i64 A.r, .int .i64 A.q, .bool A.cp, .slice pL A.L.length cL, .slice pC A.C.length cC]) ∧ AdOk w' (w.heap.size ≤ ·) ⟨A.r, A.q, A.cp, A.L, A.C, pL, cL, pC, cC⟩ ∧ AdNl ⟨A.r, A.q, A.cp, A.L, A.C, pL, cL, pC, cC⟩ ∧ w.grownBy w' none
set_option maxRecDepth 100000 in
set_option maxHeartbeats 3200000 in
theorem dcopied_any (A : Ad) (q : Nat → Prop) (w : World) (hA : AdOk w q A) (hn : AdNl A) (hm : A.L.length ≤ 1000 ∧ A.C.length ≤ 1000) :
    Calls Try.prog 54 #[.agg #[.int .i64 A.r, .int .i64 A.q, .bool A.cp, .slice A.pL A.L.length A.cL, .slice A.pC A.C.length A.cC]] w fun e w' => CpPost A w e w' := by
  have H0 := Lib.hid (cp_start hA).1
  have HS := Lib.hid (cp_start hA).2
  clear hA
  go_enter Try.func54, Try.ntmps54
  go_upto_region 1 with fail
  generalize (w.alloc _).alloc _ = wa at *
  obtain ⟨c0, c1, c2, c3, c4⟩ := row5 H0.out.ab
  go_wp2_with fail
  refine (dclR_any A.L A.pL A.cL _ wa H0.out.ok.l hn.1 H0.out.ok.hl hm.1).mono ?_
  rintro e w1 ⟨v, rfl, hown, hg⟩
  obtain ⟨pL, cL, rfl, n1, m1⟩ := own_shape hown
  have H1 := Lib.hid (H0.out.keep hg)
  have HL : Hid (RdF w1 (w.heap.size + 2 ≤ ·) (.slice pL A.L.length cL) A.L.length (A.L.flatMap t3C) ∧ (A.L.length ≤ cL ∧ cL ≤ 9223372036854775807) ∧ (pL = none → cL = 0)) := Lib.hid ⟨(rdf_of_own hown).mono (fun b hb => Nat.le_trans HS.out hb), ⟨n1, m1⟩, own_nl hown⟩
  clear hown hg n1 m1 H0 HS c0 c1 c2 c3 c4
  obtain ⟨c0, c1, c2, c3, c4⟩ := row5 H1.out.ab
  have f3 := frozen_of_row _ _ 3 _ _ H1.out.ab
  have H2 := Lib.hid (H1.out.set3 (.slice pL A.L.length cL))
  have HL2 := Lib.hid (HL.out.1.grown (grown_setCell w1 ⟨w.heap.size, 3, none⟩ (.slice pL A.L.length cL)) (fun b hb e => by have : b = w.heap.size := Option.some.inj e; omega))
  go_upto_region 2 with fail
  clear c0 c1 c2 c3 c4 f3 H1
  generalize w1.setCell _ _ = w2 at *
  obtain ⟨c0, c1, c2, c3, c4⟩ := row5 H2.out.ab
  go_wp2_with fail
  refine (dclC_any A.C A.pC A.cC _ w2 H2.out.ok.c hn.2 H2.out.ok.hc hm.2).mono ?_
  rintro e w3 ⟨v, rfl, hown, hg⟩
  obtain ⟨pC, cC, rfl, n1, m1⟩ := own_shape hown
  have hsz : w.heap.size + 2 ≤ w2.heap.size := World.lt_of_row' H2.out.rb
  have H3 := Lib.hid (H2.out.keep hg)
  have HL3 := Lib.hid (HL2.out.grown hg (fun _ _ => by simp))
  have HC : Hid (RdF w3 (w.heap.size + 2 ≤ ·) (.slice pC A.C.length cC) A.C.length (A.C.flatMap t3C) ∧ (A.C.length ≤ cC ∧ cC ≤ 9223372036854775807) ∧ (pC = none → cC = 0)) := Lib.hid ⟨(rdf_of_own hown).mono (fun b hb => Nat.le_trans hsz hb), ⟨n1, m1⟩, own_nl hown⟩
  clear hown hg n1 m1 hsz H2 HL2 c0 c1 c2 c3 c4
  obtain ⟨c0, c1, c2, c3, c4⟩ := row5 H3.out.ab
  have f4 := frozen_of_row _ _ 4 _ _ H3.out.ab
  have H4 := Lib.hid (H3.out.set4 (.slice pC A.C.length cC))
  have gs := grown_setCell w3 ⟨w.heap.size, 4, none⟩ (.slice pC A.C.length cC)
  have HO : Hid (RdF (w3.setCell ⟨w.heap.size, 4, none⟩ (.slice pC A.C.length cC)) (w.heap.size + 2 ≤ ·) (.slice pL A.L.length cL) A.L.length (A.L.flatMap t3C) ∧ RdF (w3.setCell ⟨w.heap.size, 4, none⟩ (.slice pC A.C.length cC)) (w.heap.size + 2 ≤ ·) (.slice pC A.C.length cC) A.C.length (A.C.flatMap t3C)) := Lib.hid ⟨HL3.out.grown gs (fun b hb e => by have : b = w.heap.size := Option.some.inj e; omega), HC.out.1.grown gs (fun b hb e => by have : b = w.heap.size := Option.some.inj e; omega)⟩
  clear gs
  go_upto_region 3 with fail
  clear c0 c1 c2 c3 c4 f4 H3
  generalize w3.setCell _ _ = w4 at *
  obtain ⟨c0, c1, c2, c3, c4⟩ := row5 H4.out.ab
  obtain ⟨z0, z1, z2, z3, z4⟩ := row5 H4.out.rb
  have f0 := frozen_of_row _ _ 0 _ _ H4.out.rb
  have f1 := frozen_of_row _ _ 1 _ _ H4.out.rb
  have f2 := frozen_of_row _ _ 2 _ _ H4.out.rb
  have f3 := frozen_of_row _ _ 3 _ _ H4.out.rb
  have f4 := frozen_of_row _ _ 4 _ _ H4.out.rb
  obtain ⟨t1, t2⟩ := store5 (.int .i64 A.r) (.int .i64 A.q) (.bool A.cp) (.slice pL A.L.length cL) (.slice pC A.C.length cC) H4.out.rb
  have hq : ∀ b, w.heap.size + 2 ≤ b → some b ≠ some (w.heap.size + 1) := fun b hb e => by have := Option.some.inj e; omega
  have HT := Lib.hid (And.intro t1 (And.intro (grown_new H4.out.gr t2 (by omega)) (And.intro (HO.out.1.grown t2 hq) (HO.out.2.grown t2 hq))))
  clear t1 t2 H4 HO hq
  go_wp2_with fail
  refine bodyPost_ret (res_adv rfl _ _ (w.heap.size + 1) _ _ _ _ _ rfl HT.out.1) rfl ?_
  exact ⟨pL, cL, pC, cC, rfl, ⟨HT.out.2.2.1.mono (fun b hb => by omega), HT.out.2.2.2.mono (fun b hb => by omega), HL.out.2.1, HC.out.2.1⟩, ⟨HL.out.2.2, HC.out.2.2⟩, HT.out.2.1⟩
end Go.Proofs.Ytnpkihioklpnmaa

/- database: Find. -/
namespace Go.Proofs.Ytnpkihioklpnmaa
open Go.RowKit Bs
set_option maxRecDepth 100000 in
theorem rdf_and {w : World} {q : Nat → Prop} {v : Value} {n : Nat} {xs : List Value} (h : RdF w q v n xs) : RdF w (fun b => q b ∧ b < w.heap.size) v n xs := by
  obtain ⟨p, c, hv, hc⟩ := h
  refine ⟨p, c, hv, fun hne => ?_⟩
  obtain ⟨b, off, hp, hb, hx⟩ := hc hne
  obtain ⟨x, hx0⟩ : ∃ x, xs[0]? = some x := by
    cases xs with
    | nil => exact absurd rfl hne
    | cons a t => exact ⟨a, rfl⟩
  exact ⟨b, off, hp, ⟨hb, World.block_lt_of_cell? w ⟨b, off + 0, none⟩ (hx 0 x hx0)⟩, hx⟩
set_option maxRecDepth 100000 in
theorem AdOk.and {w : World} {q : Nat → Prop} {A : Ad} (h : AdOk w q A) : AdOk w (fun b => q b ∧ b < w.heap.size) A := ⟨rdf_and h.l, rdf_and h.c, h.hl, h.hc⟩
end Go.Proofs.Ytnpkihioklpnmaa

/- database: Same (slices.EqualFunc of adverts). -/
namespace Go.Proofs.Ytnpkihioklpnmaa
open Go.RowKit Bs
end Go.Proofs.Ytnpkihioklpnmaa

/- Two links compared, two claims compared. -/
namespace Go.Proofs.Ytnpkihioklpnmaa
open Go.RowKit Bs
end Go.Proofs.Ytnpkihioklpnmaa

/- The reference's Same. -/
namespace Go.Proofs.Ytnpkihioklpnmaa
open Go.RowKit Bs
end Go.Proofs.Ytnpkihioklpnmaa

/- The reference's Find, Same, Check of databases; big. -/
namespace Go.Proofs.Ytnpkihioklpnmaa
open Go.RowKit Bs
end Go.Proofs.Ytnpkihioklpnmaa

/- The reference's Find of databases. -/
namespace Go.Proofs.Ytnpkihioklpnmaa
open Go.RowKit Bs
end Go.Proofs.Ytnpkihioklpnmaa

/- Put and Merge: the mathematics. -/
namespace Go.Proofs.Ytnpkihioklpnmaa
open Go.RowKit Bs
/-- An advert without the place of its lists. -/
def fz (A : Ad) : Ad := ⟨A.r, A.q, A.cp, A.L, A.C, none, 0, none, 0⟩
set_option maxRecDepth 100000 in
theorem fz_eq {A B : Ad} : fz A = fz B ↔ smA A B := by
  unfold fz smA
  simp only [Ad.mk.injEq, and_true]
set_option maxRecDepth 100000 in
theorem fnd_fz (l : List Ad) (r : Int) : fndA (l.map fz) r = (fndA l r).map fz := by
  unfold fndA
  rw [List.find?_map]
  rfl
set_option maxRecDepth 100000 in
theorem asc_fz : ∀ (l : List Ad) (k : Int), ascD k (l.map fz) = ascD k l
  | [], _ => rfl
  | A :: t, k => by rw [List.map_cons, ascD, ascD, asc_fz t]; rfl
set_option maxRecDepth 100000 in
theorem okD_fz (l : List Ad) : okD (l.map fz) = okD l := by
  unfold okD chkD
  rw [List.length_map, List.any_map, asc_fz]
  rfl
set_option maxRecDepth 100000 in
theorem okD_OkD {l : List Ad} (h : okD l = true) : OkD l := chk_OkD (by unfold okD at h; simpa using h)
/-- An advert takes the place of the one with its router, or is added. -/
def putA : List Ad → Ad → List Ad
  | [], A => [A]
  | B :: t, A => if B.r < A.r then B :: putA t A else if B.r = A.r then A :: t else A :: B :: t
set_option maxRecDepth 100000 in
theorem putA_fz : ∀ (l : List Ad) (A : Ad), putA (l.map fz) (fz A) = (putA l A).map fz
  | [], _ => rfl
  | B :: t, A => by
    rw [List.map_cons, putA, putA, putA_fz t]
    show (if B.r < A.r then _ else if B.r = A.r then _ else _) = _
    split
    · rfl
    · split <;> rfl
set_option maxRecDepth 100000 in
theorem putA_mem : ∀ {l : List Ad} {A B : Ad}, B ∈ putA l A → B = A ∨ B ∈ l
  | [], A, B, h => by rw [putA, List.mem_singleton] at h; exact .inl h
  | C :: t, A, B, h => by
    rw [putA] at h
    split at h
    · rcases List.mem_cons.1 h with h | h
      · exact .inr (h ▸ List.mem_cons_self)
      · rcases putA_mem h with h | h
        · exact .inl h
        · exact .inr (List.mem_cons_of_mem _ h)
    · split at h
      · rcases List.mem_cons.1 h with h | h
        · exact .inl h
        · exact .inr (List.mem_cons_of_mem _ h)
      · rcases List.mem_cons.1 h with h | h
        · exact .inl h
        · exact .inr h
set_option maxRecDepth 100000 in
theorem putA_asc : ∀ {l : List Ad} {A : Ad} {k : Int}, ascD k l = true → k < A.r → ascD k (putA l A) = true
  | [], A, k, _, h => by rw [putA, ascD, decide_eq_true h]; rfl
  | B :: t, A, k, hl, h => by
    rw [ascD, Bool.and_eq_true] at hl
    have h1 := of_decide_eq_true hl.1
    rw [putA]
    split
    · rename_i h2
      rw [ascD, decide_eq_true h1, putA_asc hl.2 h2]; rfl
    · rename_i h2
      split
      · rename_i h3
        rw [ascD, decide_eq_true h, ← h3, hl.2]; rfl
      · rename_i h3
        rw [ascD, decide_eq_true h, ascD, decide_eq_true (by omega), hl.2]; rfl
set_option maxRecDepth 100000 in
theorem vAd_r {A : Ad} (h : vAd A = true) : 1 ≤ A.r ∧ A.r ≤ 99 := by
  unfold vAd at h
  rw [Bool.and_eq_true] at h
  have h1 := h.1
  unfold vHd at h1
  exact (of_decide_eq_true h1).1
set_option maxRecDepth 100000 in
theorem asc_len : ∀ {l : List Ad} {k : Int}, ascD k l = true → (∀ A ∈ l, A.r ≤ 99) → l ≠ [] → k + l.length ≤ 99
  | [], _, _, _, h => absurd rfl h
  | [A], k, h, h99, _ => by
    rw [ascD, Bool.and_eq_true] at h
    have h1 := of_decide_eq_true h.1
    have := h99 A List.mem_cons_self
    simp only [List.length_singleton]; omega
  | A :: B :: t, k, h, h99, _ => by
    rw [ascD, Bool.and_eq_true] at h
    have h1 := of_decide_eq_true h.1
    have := asc_len h.2 (fun C hC => h99 C (List.mem_cons_of_mem _ hC)) (by simp)
    simp only [List.length_cons] at *; omega
set_option maxRecDepth 100000 in
theorem OkD_of {l : List Ad} (hv : ∀ A ∈ l, vAd A = true) (ha : ascD 0 l = true) : OkD l := by
  refine ⟨?_, hv, ha⟩
  by_cases h : l = []
  · subst h; exact Nat.zero_le _
  · have := asc_len ha (fun A hA => (vAd_r (hv A hA)).2) h; omega
set_option maxRecDepth 100000 in
theorem OkD.ok {l : List Ad} (h : OkD l) : okD l = true := by
  unfold okD chkD
  have h1 := h.len
  rw [if_neg (by omega), if_neg (by
    rw [Bool.not_eq_true, List.any_eq_false]
    intro A hA
    unfold notV
    rw [h.v A hA]
    decide), h.asc]
  rfl
set_option maxRecDepth 100000 in
theorem OkD.put {l : List Ad} {A : Ad} (h : OkD l) (hA : vAd A = true) : OkD (putA l A) :=
  OkD_of (fun B hB => by
    rcases putA_mem hB with e | hB
    · rw [e]; exact hA
    · exact h.v B hB) (putA_asc h.asc (by have := (vAd_r hA).1; omega))
/-- Does an advert change a database? -/
def chg (l : List Ad) (A : Ad) : Bool := match fndA l A.r with
  | none => true
  | some B => nwA A B
/-- What put does to a valid database. -/
def put1 (l : List Ad) (A : Ad) : List Ad := if chg l A = true then putA l A else l
def pD (l : List Ad) (A : Ad) : Bool := okD l && (vAd A && chg l A)
def putV (l : List Ad) (A : Ad) : List Ad := if pD l A = true then putA l A else l
set_option maxRecDepth 100000 in
theorem chg_fz (l : List Ad) (A : Ad) : chg (l.map fz) (fz A) = chg l A := by
  unfold chg
  show (match fndA (l.map fz) A.r with | none => true | some B => nwA (fz A) B) = _
  rw [fnd_fz]
  cases fndA l A.r <;> rfl
set_option maxRecDepth 100000 in
theorem put1_fz (l : List Ad) (A : Ad) : put1 (l.map fz) (fz A) = (put1 l A).map fz := by
  unfold put1
  rw [chg_fz, putA_fz]
  split <;> rfl
set_option maxRecDepth 100000 in
theorem pD_fz (l : List Ad) (A : Ad) : pD (l.map fz) (fz A) = pD l A := by
  unfold pD
  rw [chg_fz, okD_fz]
  rfl
set_option maxRecDepth 100000 in
theorem putV_fz (l : List Ad) (A : Ad) : putV (l.map fz) (fz A) = (putV l A).map fz := by
  unfold putV
  rw [pD_fz, putA_fz]
  split <;> rfl
set_option maxRecDepth 100000 in
theorem OkD.put1 {l : List Ad} {A : Ad} (h : OkD l) (hA : vAd A = true) : OkD (put1 l A) := by
  unfold Go.Proofs.Ytnpkihioklpnmaa.put1
  split
  · exact h.put hA
  · exact h
set_option maxRecDepth 100000 in
theorem PlP.ins {l : List Ad} {A : Ad} {i : Nat} (hp : l.Pairwise (fun A B => A.r < B.r)) (h : PlP l A.r i false) : putA l A = l.take i ++ A :: l.drop i := by
  induction l generalizing i with
  | nil =>
    obtain rfl : i = 0 := Nat.le_zero.1 h.le
    rfl
  | cons B t ih =>
    obtain ⟨p1, p2⟩ := List.pairwise_cons.1 hp
    cases i with
    | zero =>
      have h1 := h.hi B rfl
      have h2 := h.eq
      simp only [List.getElem?_cons_zero] at h2
      have h3 := of_decide_eq_false h2.symm
      rw [putA, if_neg (by omega), if_neg h3]
      rfl
    | succ i =>
      have hlt : B.r < A.r := by
        cases i with
        | zero => exact h.lo B (by decide) rfl
        | succ i =>
          have hil : i < t.length := by have := h.le; simp only [List.length_cons] at this; omega
          have h1 := h.lo t[i] (by omega) (by
            show (B :: t)[i + 1]? = _
            rw [List.getElem?_cons_succ]; exact List.getElem?_eq_getElem hil)
          have := p1 t[i] (List.getElem_mem hil)
          omega
      have hq : PlP t A.r i false := by
        refine ⟨by have := h.le; simp only [List.length_cons] at this; omega, fun x hx hg => ?_, fun x hg => h.hi x (by rw [List.getElem?_cons_succ]; exact hg), by have := h.eq; rw [List.getElem?_cons_succ] at this; exact this⟩
        obtain ⟨j, rfl⟩ : ∃ j, i = j + 1 := ⟨i - 1, by omega⟩
        exact h.lo x (by omega) (by show (B :: t)[j + 1]? = _; rw [List.getElem?_cons_succ]; exact hg)
      rw [putA, if_pos hlt, ih p2 hq]
      rfl
set_option maxRecDepth 100000 in
theorem PlP.set {l : List Ad} {A : Ad} {i : Nat} (hp : l.Pairwise (fun A B => A.r < B.r)) (h : PlP l A.r i true) : putA l A = l.set i A := by
  induction l generalizing i with
  | nil => have := h.eq; simp at this
  | cons B t ih =>
    obtain ⟨p1, p2⟩ := List.pairwise_cons.1 hp
    cases i with
    | zero =>
      have h2 := h.eq
      simp only [List.getElem?_cons_zero] at h2
      have h3 := of_decide_eq_true h2.symm
      rw [putA, if_neg (by omega), if_pos h3]
      rfl
    | succ i =>
      have hlt : B.r < A.r := by
        have h2 := h.eq
        rw [List.getElem?_cons_succ] at h2
        cases hx : t[i]? with
        | none => rw [hx] at h2; cases h2
        | some x =>
          rw [hx] at h2
          simp only at h2
          have h3 := of_decide_eq_true h2.symm
          have := p1 x (List.mem_of_getElem? hx)
          omega
      have hq : PlP t A.r i true := by
        refine ⟨by have := h.le; simp only [List.length_cons] at this; omega, fun x hx hg => ?_, fun x hg => h.hi x (by rw [List.getElem?_cons_succ]; exact hg), by have := h.eq; rw [List.getElem?_cons_succ] at this; exact this⟩
        obtain ⟨j, rfl⟩ : ∃ j, i = j + 1 := ⟨i - 1, by omega⟩
        exact h.lo x (by omega) (by show (B :: t)[j + 1]? = _; rw [List.getElem?_cons_succ]; exact hg)
      rw [putA, if_pos hlt, ih p2 hq]
      rfl
/-! What is found in what Put and Merge give. -/
set_option maxRecDepth 100000 in
theorem fnd_cons (B : Ad) (t : List Ad) (r : Int) : fndA (B :: t) r = if B.r = r then some B else fndA t r := by
  unfold fndA
  rw [List.find?_cons]
  unfold isR
  by_cases h : B.r = r
  · rw [decide_eq_true h, if_pos h]
  · rw [decide_eq_false h, if_neg h]
set_option maxRecDepth 100000 in
theorem fnd_none {l : List Ad} {k r : Int} (h : ascD k l = true) (hr : r ≤ k) : fndA l r = none := by
  refine List.find?_eq_none.2 fun B hB => ?_
  have := (asc_pair l k h).1 B hB
  unfold isR
  rw [decide_eq_false (by omega)]
  decide
set_option maxRecDepth 100000 in
theorem chg_none {l : List Ad} {A : Ad} (h : fndA l A.r = none) : chg l A = true := by unfold chg; rw [h]
set_option maxRecDepth 100000 in
theorem chg_some {l : List Ad} {A B : Ad} (h : fndA l A.r = some B) : chg l A = nwA A B := by unfold chg; rw [h]
set_option maxRecDepth 100000 in
/-- Ascending adverts are what is found in them. -/
theorem fnd_ext : ∀ {l m : List Ad} {k : Int}, ascD k l = true → ascD k m = true → (∀ r, fndA l r = fndA m r) → l = m
  | [], [], _, _, _, _ => rfl
  | [], B :: t, _, _, _, h => by have := h B.r; rw [fnd_cons, if_pos rfl] at this; cases this
  | A :: s, [], _, _, _, h => by have := h A.r; rw [fnd_cons, if_pos rfl] at this; cases this
  | A :: s, B :: t, k, h1, h2, h => by
    rw [ascD, Bool.and_eq_true] at h1 h2
    have hAB : A = B := by
      rcases Int.lt_trichotomy A.r B.r with h3 | h3 | h3
      · have := h A.r
        rw [fnd_cons, if_pos rfl, fnd_cons, if_neg (by omega), fnd_none h2.2 (by omega)] at this
        cases this
      · have := h A.r
        rw [fnd_cons, if_pos rfl, fnd_cons, if_pos h3.symm] at this
        exact Option.some.inj this
      · have := h B.r
        rw [fnd_cons, if_neg (by omega), fnd_none h1.2 (by omega), fnd_cons, if_pos rfl] at this
        cases this
    subst hAB
    rw [fnd_ext h1.2 h2.2 (fun r => by
      have := h r
      rw [fnd_cons, fnd_cons] at this
      by_cases e : A.r = r
      · rw [fnd_none h1.2 (by omega), fnd_none h2.2 (by omega)]
      · rw [if_neg e, if_neg e] at this; exact this)]
/-! The newer one of two: an algebra. -/
end Go.Proofs.Ytnpkihioklpnmaa

/- The reference's Reach and linked. -/
namespace Go.Proofs.Ytnpkihioklpnmaa
open Go.RowKit Bs
section
variable {W w : World} {bu bv : Nat} {u v : T3}
end
end Go.Proofs.Ytnpkihioklpnmaa

/- View: where lists lie does not matter, nor how often one looks; a router that nobody names changes nothing. The mathematics. -/
namespace Go.Proofs.Ytnpkihioklpnmaa
open Go.RowKit Bs
set_option maxRecDepth 100000 in
theorem add_in : ∀ (M : List Ad) (st : List Int × List Ad) (y : Int), inS (M.foldl addA st).1 y = true → inS st.1 y = true ∨ ∃ B ∈ M, B.r = y
  | [], st, y, h => .inl h
  | B :: M, st, y, h => by
    rw [List.foldl_cons] at h
    rcases add_in M _ y h with h | ⟨C, h1, h2⟩
    · unfold addA at h
      split at h
      · exact .inl h
      · rw [inS_app, inS_one, Bool.or_eq_true] at h
        rcases h with h | h
        · exact .inl h
        · exact .inr ⟨B, List.mem_cons_self, of_decide_eq_true h⟩
    · exact .inr ⟨C, List.mem_cons_of_mem _ h1, h2⟩
set_option maxRecDepth 100000 in
theorem bfs_in {l : List Ad} : ∀ (n : Nat) (S : List Int) (W : List Ad) (y : Int), inS (bfs l n S W) y = true → inS S y = true ∨ ∃ B ∈ l, B.r = y
  | 0, S, W, y, h => .inl h
  | n + 1, S, [], y, h => .inl h
  | n + 1, S, A :: W, y, h => by
    rw [bfs] at h
    rcases bfs_in n _ _ y h with h | h
    · rcases add_in _ _ y h with h | ⟨B, h1, h2⟩
      · exact .inl h
      · exact .inr ⟨B, lnk_mem h1, h2⟩
    · exact .inr h
/-! A router behind all others, whom nobody names. -/
section
variable {d : List Ad} {x : Ad}
set_option maxRecDepth 100000 in
theorem putA_end : ∀ {d : List Ad} {x : Ad}, (∀ A ∈ d, A.r < x.r) → putA d x = d ++ [x]
  | [], x, _ => rfl
  | B :: t, x, h => by rw [putA, if_pos (h B List.mem_cons_self), putA_end (fun A hA => h A (List.mem_cons_of_mem _ hA))]; rfl
end
end Go.Proofs.Ytnpkihioklpnmaa

/- The reference's View: the mathematics. -/
namespace Go.Proofs.Ytnpkihioklpnmaa
open Go.RowKit Bs
/-- Two adverts name each other. -/
def lkAd (A B : Ad) : Bool := (rcA A B.r).isSome && (rcA B A.r).isSome
set_option maxRecDepth 100000 in
theorem fnd_selfV : ∀ {l : List Ad} {k : Int}, ascD k l = true → ∀ A ∈ l, fndA l A.r = some A
  | [], _, _, A, h => by cases h
  | B :: t, k, h, A, hA => by
    rw [ascD, Bool.and_eq_true] at h
    rw [fnd_cons]
    rcases List.mem_cons.1 hA with rfl | hA
    · rw [if_pos rfl]
    · have := (asc_pair t B.r h.2).1 A hA
      rw [if_neg (by omega), fnd_selfV h.2 A hA]
set_option maxRecDepth 100000 in
theorem ascD_mono : ∀ {l : List Ad} {k j : Int}, ascD k l = true → j ≤ k → ascD j l = true
  | [], _, _, _, _ => rfl
  | A :: t, k, j, h, hj => by
    rw [ascD, Bool.and_eq_true] at h
    have := of_decide_eq_true h.1
    rw [ascD, decide_eq_true (by omega), h.2]; rfl
set_option maxRecDepth 100000 in
theorem ascD_flt (f : Ad → Bool) : ∀ {l : List Ad} {k : Int}, ascD k l = true → ascD k (l.filter f) = true
  | [], _, _ => rfl
  | A :: t, k, h => by
    rw [ascD, Bool.and_eq_true] at h
    have h1 := of_decide_eq_true h.1
    rw [List.filter_cons]
    split
    · rw [ascD, h.1, ascD_flt f h.2]; rfl
    · exact ascD_mono (ascD_flt f h.2) (by omega)
set_option maxRecDepth 100000 in
theorem ascD_ext {l m : List Ad} {k : Int} (hl : ascD k l = true) (hm : ascD k m = true) (h : ∀ B, B ∈ l ↔ B ∈ m) : l = m := fnd_ext hl hm (fun r => by
  cases hf : fndA l r with
  | none =>
    cases hg : fndA m r with
    | none => rfl
    | some B =>
      obtain ⟨h1, h2⟩ := fndA_some hg
      have := fnd_selfV hl B ((h B).2 h1)
      rw [h2, hf] at this; cases this
  | some B =>
    obtain ⟨h1, h2⟩ := fndA_some hf
    have := fnd_selfV hm B ((h B).1 h1)
    rw [h2] at this
    exact this.symm)
set_option maxRecDepth 100000 in
theorem asc_lnk {l : List Ad} {A : Ad} {r : Int} : ∀ {M : List T3} {last : Int}, vRe r last M = true → ascD last (M.flatMap (lk1 l A)) = true
  | [], _, _ => rfl
  | x :: t, last, h => by
    rw [vRe, Bool.and_eq_true] at h
    have h1 : last < x.a := by have := h.1; unfold okRe at this; exact (of_decide_eq_true this).1
    have ih := asc_lnk (l := l) (A := A) h.2
    rw [List.flatMap_cons]
    have e : lk1 l A x = [] ∨ ∃ B, lk1 l A x = [B] ∧ B.r = x.a := by
      unfold lk1
      cases hf : fndA l x.a with
      | none => exact .inl rfl
      | some B =>
        simp only
        split
        · exact .inr ⟨B, rfl, (fndA_some hf).2⟩
        · exact .inl rfl
    rcases e with e | ⟨B, e, hB⟩
    · rw [e]
      exact ascD_mono ih (by omega)
    · rw [e]
      show ascD last (B :: t.flatMap (lk1 l A)) = true
      rw [ascD, decide_eq_true (by omega), hB, ih]; rfl
set_option maxRecDepth 100000 in
theorem vAd_re {A : Ad} (h : vAd A = true) : vRe A.r 0 A.L = true := by
  unfold vAd at h
  rw [Bool.and_eq_true, Bool.and_eq_true] at h
  exact h.2.1
set_option maxRecDepth 100000 in
theorem rcA_some {A : Ad} {r : Int} {x : T3} (h : rcA A r = some x) : x ∈ A.L ∧ x.a = r := by
  have h2 : isN r x = true := List.find?_some h
  exact ⟨List.mem_of_find?_eq_some h, of_decide_eq_true h2⟩
set_option maxRecDepth 100000 in
theorem lnk_flt {l : List Ad} (h : OkD l) {A : Ad} (hA : A ∈ l) : lnk l A = l.filter (lkAd A) := by
  refine ascD_ext (k := 0) (asc_lnk (vAd_re (h.v A hA))) (ascD_flt _ h.asc) (fun B => ?_)
  rw [List.mem_filter]
  constructor
  · intro hB
    refine ⟨lnk_mem hB, ?_⟩
    unfold lnk at hB
    obtain ⟨x, hx, hx2⟩ := List.mem_flatMap.1 hB
    unfold lk1 at hx2
    cases hf : fndA l x.a with
    | none => rw [hf] at hx2; cases hx2
    | some C =>
      rw [hf] at hx2
      simp only at hx2
      split at hx2
      · rename_i hs
        rw [List.mem_singleton] at hx2
        subst hx2
        unfold lkAd
        have hr := (fndA_some hf).2
        have : (rcA A B.r).isSome = true := by
          unfold rcA
          rw [List.find?_isSome]
          exact ⟨x, hx, by unfold isN; rw [decide_eq_true hr.symm]⟩
        rw [this, hs]; rfl
      · cases hx2
  · rintro ⟨hB, hk⟩
    unfold lkAd at hk
    rw [Bool.and_eq_true] at hk
    obtain ⟨x, hx⟩ := Option.isSome_iff_exists.1 hk.1
    obtain ⟨h1, h2⟩ := rcA_some hx
    unfold lnk
    refine List.mem_flatMap.2 ⟨x, h1, ?_⟩
    unfold lk1
    rw [h2, fnd_selfV h.asc B hB]
    simp only
    rw [if_pos hk.2]
    exact List.mem_singleton_self _
end Go.Proofs.Ytnpkihioklpnmaa

/- copy, clear, append within a row of structs of the call's own; append of zeros. -/
namespace Go.Proofs.Ytnpkihioklpnmaa
open Go.RowKit Bs
/-- Cells laid over others. -/
def setAt (xs : List Value) (o : Nat) : List Value → List Value
  | [] => xs
  | v :: r => setAt (xs.set o v) (o + 1) r
set_option maxRecDepth 100000 in
theorem setAt_len : ∀ (vs : List Value) (o : Nat) (xs : List Value), (setAt xs o vs).length = xs.length
  | [], _, _ => rfl
  | v :: r, o, xs => by
    show (setAt (xs.set o v) (o + 1) r).length = _
    rw [setAt_len r, List.length_set]
set_option maxRecDepth 100000 in
theorem setAt_get : ∀ (vs : List Value) (o : Nat) (xs : List Value) (j : Nat), o + vs.length ≤ xs.length → (setAt xs o vs)[j]? = if o ≤ j ∧ j < o + vs.length then vs[j - o]? else xs[j]?
  | [], o, xs, j, _ => by
    rw [if_neg (by simp only [List.length_nil]; omega)]
    rfl
  | v :: r, o, xs, j, h => by
    rw [List.length_cons] at h ⊢
    show (setAt (xs.set o v) (o + 1) r)[j]? = _
    rw [setAt_get r (o + 1) (xs.set o v) j (by rw [List.length_set]; omega), List.getElem?_set]
    by_cases h1 : j = o
    · subst h1
      rw [if_neg (by omega), if_pos rfl, if_pos (by omega), if_pos (by omega), Nat.sub_self]
      rfl
    · by_cases h2 : o + 1 ≤ j ∧ j < o + 1 + r.length
      · rw [if_pos h2, if_pos (by omega), show j - o = (j - (o + 1)) + 1 by omega]
        rfl
      · rw [if_neg h2, if_neg (by omega), if_neg (by omega)]
set_option maxRecDepth 100000 in
theorem own_setCells {base size n cap g : Nat} {e : TypeId} : ∀ (vs : List Value) (o : Nat) (w : World) (xs : List Value), w.ownsRow base e size (.slice (some ⟨g, 0, none⟩) n cap) n xs → (w.setCells g o vs).ownsRow base e size (.slice (some ⟨g, 0, none⟩) n cap) n (setAt xs o vs) ∧ w.grownBy (w.setCells g o vs) (some g)
  | [], _, w, xs, h => ⟨h, grown_refl _ _⟩
  | v :: r, o, w, xs, h => by
    obtain ⟨s1, s2⟩ := h.stored o v
    obtain ⟨i1, i2⟩ := own_setCells r (o + 1) _ _ s1
    exact ⟨i1, grown_trans s2 i2⟩
set_option maxRecDepth 100000 in
/-- A row, looked at shorter or longer. -/
theorem own_len {w : World} {base size n cap g : Nat} {e : TypeId} {xs : List Value} (h : w.ownsRow base e size (.slice (some ⟨g, 0, none⟩) n cap) n xs) (m : Nat) (hm : m ≤ cap) : ∃ ys, ys.take (min n m * size) = xs.take (min n m * size) ∧ w.ownsRow base e size (.slice (some ⟨g, 0, none⟩) m cap) m ys := by
  rcases h.2 with ⟨e1, _⟩ | ⟨g', cap', cur, e1, hb, hg, hn, hcm, hcs, ht⟩
  · cases e1
  · injection e1 with e2 e3 e4
    injection e2 with e2
    injection e2 with e5 e6
    subst e5
    subst e4
    refine ⟨cur.toList.take (m * size), ?_, ?_, .inr ⟨g, cap, cur, rfl, hb, hg, hm, hcm, hcs, rfl⟩⟩
    · rw [← ht, List.take_take, List.take_take]
      have h1 : min n m * size ≤ m * size := Nat.mul_le_mul_right _ (Nat.min_le_right _ _)
      have h2 : min n m * size ≤ n * size := Nat.mul_le_mul_right _ (Nat.min_le_left _ _)
      rw [Nat.min_eq_left h1, Nat.min_eq_left h2]
    · rw [List.length_take, Array.length_toList, hcs]
      have := Nat.mul_le_mul_right size hm
      omega
set_option maxRecDepth 100000 in
theorem own_cellOk {w : World} {base size n cap g : Nat} {e : TypeId} {xs : List Value} (h : w.ownsRow base e size (.slice (some ⟨g, 0, none⟩) n cap) n xs) (j : Nat) (hj : j < cap * size) : (w.cell? ⟨g, j, none⟩).isSome = true ∧ w.frozen? ⟨g, j, none⟩ = false := by
  obtain ⟨ys, -, hy⟩ := own_len h cap (Nat.le_refl _)
  refine ⟨?_, hy.frozenAt j⟩
  rw [hy.cellAt j hj, List.getElem?_eq_getElem (by rw [hy.1]; exact hj)]
  rfl
section
variable {e t : TypeId} {i : TypeInfo} (ht : Try.prog.underlying t = some (.slice e)) (hi : Try.prog.info? e = some i)
include ht hi
set_option maxRecDepth 100000 in
/-- copy. -/
theorem run_copy_k (w : World) (ty : TypeId) (b o dLen dCap : Nat) (a : Addr) (sLen sCap : Nat) (cs : List Value) (m : Nat) (hm : Nat.min sLen dLen = m) (hl : cs.length = m * i.size) (hsrc : ∀ j v, cs[j]? = some v → w.cell? (a.add j) = some v)
    (hc : ∀ j, j < cs.length → (w.cell? ⟨b, o + j, none⟩).isSome = true) (hf : ∀ j, j < cs.length → w.frozen? ⟨b, o + j, none⟩ = false) (h1 : ∀ v ∈ cs, v.oneCell' = true) :
    (Builtin.copy_ #[t, t] ty #[.slice (some ⟨b, o, none⟩) dLen dCap, .slice (some a) sLen sCap]).run Try.prog w = .ok (goInt m) (w.setCells b o cs) := by
  have hfc := run_firstCells_some (P := Try.prog) w i.size m a sLen sCap cs hl hsrc
  have hst := run_storeCells_cells (P := Try.prog) b o cs 0 w (by simpa using hc) (by simpa using hf) h1
  simp only [Nat.add_zero] at hst
  simp [Builtin.copy_, run_underlying ht, Builtin.lenOf, sizeOf, typeInfo, hi, hm, hfc, hst]
set_option maxRecDepth 100000 in
/-- append(s[:n], make([]T, k)...) where there is no room: a new row. -/
theorem run_append_zeros_k (w : World) (tn ty : TypeId) (htn : Try.prog.underlying tn = some (.int .i64)) (z : Value) (hz : i.zero = some z) (hs : 0 < i.size) (b : Addr) (n cap : Nat) (olds : List Value) (hlo : olds.length = n * i.size) (holds : ∀ j v, olds[j]? = some v → w.cell? (b.add j) = some v)
    (k : Nat) (hk : 0 < k) (hg : cap < n + k) (h63 : n + k ≤ 100000) (hb : i.bytes ≤ 1000) :
    (Builtin.append_ #[t, tn] ty #[.slice (some b) n cap, .int .i64 (k : Int)]).run Try.prog w =
      .ok (.slice (some ⟨w.heap.size, 0, none⟩) (n + k) (grownCap w (n + k) cap e))
        (w.drew.alloc (.cells (olds.toArray ++ Builtin.zeroCells z.cells k ++ Builtin.zeroCells z.cells (grownCap w (n + k) cap e - (n + k))) e)) := by
  have hn : ¬ (n + k ≤ cap) := by omega
  have hw : IntKind.i64.wrap (k : Int) = k := by rw [IntKind.wrap_i64]; omega
  have hkb : k * i.bytes ≤ 100000 * 1000 := Nat.mul_le_mul (by omega) hb
  have hnb : Builtin.nextslicecap (n + k) cap * i.bytes ≤ 200000 * 1000 := Nat.mul_le_mul (Nat.le_trans (nextslicecap_le hg) (by omega)) hb
  have h63' : ¬ (9223372036854775807 < ((n : Int) + (k : Int))) := by omega
  have h48' : ¬ (281474976710656 < Builtin.nextslicecap (n + k) cap * i.bytes) := by omega
  have h48i : ¬ (281474976710656 < (k : Int) * (i.bytes : Int)) := by
    rw [← Int.natCast_mul]
    omega
  have hneg : ¬ ((k : Int) < 0) := by omega
  have hk0 : k ≠ 0 := by omega
  have hns : ¬ (k * i.size = 0) := Nat.mul_ne_zero hk0 (by omega)
  have hfo := run_firstCells_some (P := Try.prog) w.drew i.size n b n cap olds hlo (by simpa using holds)
  simp [Builtin.append_, run_underlying ht, run_underlying htn, sizeOf, typeInfo, zeroValue, hi, hz, asInt, asIntOf, hw, hn, hneg, hns, h63', h48', h48i, Question.forced, hfo, newRow, grownCap]
end
section
variable {ops : Array Oper} {rest : List Oper} {o : Oper} {a : Act} {w : World} {K : Act → World → Prop} {Q : Exit → Act → World → Prop} {E : Prop}
set_option maxRecDepth 100000 in
/-- append, copy, clear whose run is known, in a walk and at a step of a drawn region. -/
theorem wpList_append_runC (hgd : o.guard = none) (s x : Operand) (t tn : TypeId) (ho : o.op = .call { callee := .builtin .append, args := #[s, x], argTypes := #[t, tn] }) (vs vx : Value) (hs : a.eval s = vs) (hx : a.eval x = vx)
    {v' : Value} {w' : World} (hr : (Builtin.append_ #[t, tn] o.type #[vs, vx]).run Try.prog w = .ok v' w') (h : wpList Try.prog ops Q rest (a.put o.dst v') w') : wpList Try.prog ops Q (o :: rest) a w := by
  refine wpList_plain hgd fun K' hK => ?_
  unfold Oper.wp execOp
  simp only [ho, resolve, invoke, builtin, Sem.run_bind, Sem.run_pure, Result.andThen_ok, List.map_toArray, List.map_cons, List.map_nil, hs, hx, hr]
  exact hK _ _ h
set_option maxRecDepth 100000 in
theorem wpList_copy_run (hgd : o.guard = none) (s x : Operand) (t tn : TypeId) (ho : o.op = .call { callee := .builtin .copy, args := #[s, x], argTypes := #[t, tn] }) (vs vx : Value) (hs : a.eval s = vs) (hx : a.eval x = vx)
    {v' : Value} {w' : World} (hr : (Builtin.copy_ #[t, tn] o.type #[vs, vx]).run Try.prog w = .ok v' w') (h : wpList Try.prog ops Q rest (a.put o.dst v') w') : wpList Try.prog ops Q (o :: rest) a w := by
  refine wpList_plain hgd fun K' hK => ?_
  unfold Oper.wp execOp
  simp only [ho, resolve, invoke, builtin, Sem.run_bind, Sem.run_pure, Result.andThen_ok, List.map_toArray, List.map_cons, List.map_nil, hs, hx, hr]
  exact hK _ _ h
set_option maxRecDepth 100000 in
theorem step_copy_run (hgd : o.guard = none) (s x : Operand) (t tn : TypeId) (ho : o.op = .call { callee := .builtin .copy, args := #[s, x], argTypes := #[t, tn] }) (vs vx : Value) (hs : a.eval s = vs) (hx : a.eval x = vx)
    {v' : Value} {w' : World} (hr : (Builtin.copy_ #[t, tn] o.type #[vs, vx]).run Try.prog w = .ok v' w') (h : K (a.put o.dst v') w') : if Region.wanted o (yielded ops a.tmps) = true then Oper.wp Try.prog o a w K Q else E := by
  have hw : Region.wanted o (yielded ops a.tmps) = true := by simp [Region.wanted, hgd]
  rw [if_pos hw]
  unfold Oper.wp execOp
  simp only [ho, resolve, invoke, builtin, Sem.run_bind, Sem.run_pure, Result.andThen_ok, List.map_toArray, List.map_cons, List.map_nil, hs, hx, hr]
  exact h
end
end Go.Proofs.Ytnpkihioklpnmaa
