/- Parts of the proof, packed: DbVwS, DbFnd, DbFin, DbSam, DbPtM, DbCop. -/
import Derived.Test.YtnpkihioklpnmaaPu10
import Derived.Test.YtnpkihioklpnmaaPu3
import Derived.Maps.AppendAt
import Derived.Test.YtnpkihioklpnmaaPu7
import Derived.Test.YtnpkihioklpnmaaPu6
import Derived.Deep.CutBlock
import Derived.Test.YtnpkihioklpnmaaPu8
/- While database.View makes a topology: the boxes and the rows. -/
namespace Go.Proofs.Ytnpkihioklpnmaa
open Go.RowKit Bs
set_option maxRecDepth 100000 in
theorem info_rtV : (Try.prog.info? 69).map (fun i => (i.zero, i.size, i.bytes)) = some (some (.agg #[.int .i64 0, .bool false]), 2, 16) := by kernel_rfl
set_option maxRecDepth 100000 in
theorem info_lkV : (Try.prog.info? 71).map (fun i => (i.zero, i.size, i.bytes)) = some (some (.agg #[.int .i64 0, .int .i64 0, .int .i64 0, .int .i64 0, .int .i64 0]), 5, 40) := by kernel_rfl
set_option maxRecDepth 100000 in
theorem topo_sizeV : (Try.prog.info? 59).map (·.size) = some 2 := by kernel_rfl
set_option maxRecDepth 100000 in
theorem res_topoV {fn : Func} {p : Tmp} (h : fn.results = #[.cell p 59]) (tmps : Array Value) (w : World) (g : Nat) (x y : Value) (hp : tmps.getD p undef = .pointer (some ⟨g, 0, none⟩)) (hg : w.heap[g]? = some (.cells #[x, y] 59 (0, 0))) :
    (results fn tmps).run Try.prog w = .ok (.agg #[x, y]) w :=
  results_cell_row h tmps w g _ _ _ _ hp hg Try.underlying59 rfl topo_sizeV
set_option maxRecDepth 100000 in
theorem rtV_one (x : Rt) : ∀ u ∈ rtC x, u.oneCell' = true := by
  intro u hu
  simp [rtC] at hu
  rcases hu with rfl | rfl <;> rfl
set_option maxRecDepth 100000 in
theorem lkV_one (x : Lk) : ∀ u ∈ lkC x, u.oneCell' = true := by
  intro u hu
  simp [lkC] at hu
  rcases hu with rfl | rfl | rfl | rfl | rfl <;> rfl
set_option maxRecDepth 100000 in
theorem cells2V (w : World) (x y : Value) (t : TypeId) : ∀ j u, [x, y][j]? = some u → (w.alloc (.cells #[x, y] t)).cell? ((⟨w.heap.size, 0, none⟩ : Addr).add j) = some u := by
  intro j u hj
  rw [add_plain]
  have hb := heap_alloc_new w (.cells #[x, y] t)
  rcases j with _ | _ | j
  · cases hj; exact cell_of_row _ _ _ _ _ _ hb
  · cases hj; exact cell_of_row _ _ _ _ _ _ hb
  · simp at hj
set_option maxRecDepth 100000 in
theorem cells5V (w : World) (x y z u v : Value) (t : TypeId) : ∀ j a, [x, y, z, u, v][j]? = some a → (w.alloc (.cells #[x, y, z, u, v] t)).cell? ((⟨w.heap.size, 0, none⟩ : Addr).add j) = some a := by
  intro j a hj
  rw [add_plain]
  have hb := heap_alloc_new w (.cells #[x, y, z, u, v] t)
  rcases j with _ | _ | _ | _ | _ | j
  · cases hj; exact cell_of_row _ _ _ _ _ _ hb
  · cases hj; exact cell_of_row _ _ _ _ _ _ hb
  · cases hj; exact cell_of_row _ _ _ _ _ _ hb
  · cases hj; exact cell_of_row _ _ _ _ _ _ hb
  · cases hj; exact cell_of_row _ _ _ _ _ _ hb
  · simp at hj
/-- While a view is made: the database and its box, the result's box, the box of what is made in block B (it holds uR, uL), the rows vR, vL of the call's own, the map. -/
structure VS (W : World) (l : List Ad) (p : Option Addr) (c B : Nat) (S : List Int) (vm uR uL vR vL : Value) (R : List Rt) (L : List Lk) (w : World) : Prop where
  db : RdA w (· < W.heap.size) (.slice p l.length c) l
  d : w.heap[W.heap.size]? = some (.cells #[.slice p l.length c] 25 (0, 0))
  z : w.heap[W.heap.size + 1]? = some (.cells #[.slice none 0 0, .slice none 0 0] 59 (0, 0))
  t : w.heap[B]? = some (.cells #[uR, uL] 59 (0, 0))
  oR : w.ownsRow (B + 1) 69 2 vR R.length (R.flatMap rtC)
  oL : w.ownsRow (B + 1) 71 5 vL L.length (L.flatMap lkC)
  ap : ∀ g, vR.ownBlock = some g → vL.ownBlock ≠ some g
  mp : MVb w (fun b => W.heap.size ≤ b ∧ b < B) vm (inS S)
  lo : W.heap.size + 1 < B
  sz : B < w.heap.size
  gr : W.grownBy w none
section
variable {W w w1 : World} {l : List Ad} {p : Option Addr} {c B : Nat} {S : List Int} {vm uR uL vR vL v' : Value} {R R2 : List Rt} {L L2 : List Lk}
set_option maxRecDepth 100000 in
theorem VS.keep (h : VS W l p c B S vm uR uL vR vL R L w) (g : w.grownBy w1 none) : VS W l p c B S vm uR uL vR vL R L w1 :=
  ⟨h.db.keep g, kept_row h.d g (by simp), kept_row h.z g (by simp), kept_row h.t g (by simp), h.oR.kept g (by cases vR.ownBlock <;> simp), h.oL.kept g (by cases vL.ownBlock <;> simp), h.ap, h.mp.keep g, h.lo, Nat.lt_of_lt_of_le h.sz g.size, grown_trans h.gr g⟩
set_option maxRecDepth 100000 in
theorem VS.row {r : Option Nat} (h : VS W l p c B S vm uR uL vR vL R L w) (hg : w.grownBy w1 r) (hr : ∀ g, r = some g → B + 1 ≤ g) :
    RdA w1 (· < W.heap.size) (.slice p l.length c) l ∧ w1.heap[W.heap.size]? = some (.cells #[.slice p l.length c] 25 (0, 0)) ∧ w1.heap[W.heap.size + 1]? = some (.cells #[.slice none 0 0, .slice none 0 0] 59 (0, 0)) ∧ w1.heap[B]? = some (.cells #[uR, uL] 59 (0, 0)) ∧ MVb w1 (fun b => W.heap.size ≤ b ∧ b < B) vm (inS S) ∧ W.grownBy w1 none := by
  have hlo := h.lo
  have hne : ∀ k, k < B + 1 → some k ≠ r := fun k hk e => by have := hr k e.symm; omega
  refine ⟨h.db.grown hg (fun b hb => hne _ (by omega)), kept_row h.d hg (hne _ (by omega)), kept_row h.z hg (hne _ (by omega)), kept_row h.t hg (hne _ (by omega)), h.mp.grown hg (fun b hb => hne _ (by omega)), ?_⟩
  cases hv : r with
  | none => rw [hv] at hg; exact grown_trans h.gr hg
  | some b => rw [hv] at hg; exact grown_new h.gr hg (by have := hr b hv; omega)
set_option maxRecDepth 100000 in
theorem VS.addR (h : VS W l p c B S vm uR uL vR vL R L w) (hown : w1.ownsRow (B + 1) 69 2 v' R2.length (R2.flatMap rtC)) (hg : w.grownBy w1 vR.ownBlock) (hat : v'.ownBlock = vR.ownBlock ∨ v'.ownBlock = some w.heap.size) : VS W l p c B S vm uR uL v' vL R2 L w1 := by
  obtain ⟨r1, r2, r3, r4, r5, r6⟩ := h.row hg (fun g e => (h.oR.lt g e).1)
  refine ⟨r1, r2, r3, r4, hown, h.oL.kept hg ?_, ?_, r5, h.lo, Nat.lt_of_lt_of_le h.sz hg.size, r6⟩
  · cases hv : vL.ownBlock with
    | none => exact .inl rfl
    | some k => exact .inr (fun e => h.ap k e.symm hv)
  · intro g2 hg2 e
    rcases hat with h1 | h1
    · exact h.ap g2 (by rw [← h1]; exact hg2) e
    · rw [h1] at hg2
      have := Option.some.inj hg2
      have := (h.oL.lt g2 e).2
      omega
set_option maxRecDepth 100000 in
theorem VS.addL (h : VS W l p c B S vm uR uL vR vL R L w) (hown : w1.ownsRow (B + 1) 71 5 v' L2.length (L2.flatMap lkC)) (hg : w.grownBy w1 vL.ownBlock) (hat : v'.ownBlock = vL.ownBlock ∨ v'.ownBlock = some w.heap.size) : VS W l p c B S vm uR uL vR v' R L2 w1 := by
  obtain ⟨r1, r2, r3, r4, r5, r6⟩ := h.row hg (fun g e => (h.oL.lt g e).1)
  refine ⟨r1, r2, r3, r4, h.oR.kept hg ?_, hown, ?_, r5, h.lo, Nat.lt_of_lt_of_le h.sz hg.size, r6⟩
  · cases hv : vR.ownBlock with
    | none => exact .inl rfl
    | some k => exact .inr (fun e => h.ap k hv e.symm)
  · intro g2 hg2 e
    rcases hat with h1 | h1
    · exact h.ap g2 hg2 (by rw [← h1]; exact e)
    · rw [h1] at e
      have := Option.some.inj e
      have := (h.oR.lt g2 hg2).2
      omega
set_option maxRecDepth 100000 in
theorem own_otherV {base size n b : Nat} {e : TypeId} {v : Value} {xs : List Value} (h : w.ownsRow base e size v n xs) (g : w.grownBy w1 (some b)) (hb : b < base) : w1.ownsRow base e size v n xs := by
  refine h.kept g ?_
  cases hv : v.ownBlock with
  | none => exact .inl rfl
  | some k => exact .inr (fun e => by have := (h.lt k hv).1; have := Option.some.inj e; omega)
set_option maxRecDepth 100000 in
theorem VS.putR (h : VS W l p c B S vm uR uL vR vL R L w) : VS W l p c B S vm vR uL vR vL R L (w.setCell ⟨B, 0, none⟩ vR) := by
  have g := grown_setCell w ⟨B, 0, none⟩ vR
  have hlo := h.lo
  have hne : ∀ k, k < B → some k ≠ some B := fun k hk e => by have := Option.some.inj e; omega
  refine ⟨h.db.grown g (fun b hb => hne _ (by omega)), kept_row h.d g (hne _ (by omega)), kept_row h.z g (hne _ (by omega)), ?_, own_otherV h.oR g (Nat.lt_succ_self _), own_otherV h.oL g (Nat.lt_succ_self _), h.ap, h.mp.grown g (fun b hb => hne _ (by omega)), h.lo, Nat.lt_of_lt_of_le h.sz g.size, grown_new h.gr g (show W.heap.size ≤ B by omega)⟩
  have h1 := heap_setCell_same w B 0 _ _ vR h.t
  rw [h1]; rfl
set_option maxRecDepth 100000 in
theorem VS.putL (h : VS W l p c B S vm uR uL vR vL R L w) : VS W l p c B S vm uR vL vR vL R L (w.setCell ⟨B, 1, none⟩ vL) := by
  have g := grown_setCell w ⟨B, 1, none⟩ vL
  have hlo := h.lo
  have hne : ∀ k, k < B → some k ≠ some B := fun k hk e => by have := Option.some.inj e; omega
  refine ⟨h.db.grown g (fun b hb => hne _ (by omega)), kept_row h.d g (hne _ (by omega)), kept_row h.z g (hne _ (by omega)), ?_, own_otherV h.oR g (Nat.lt_succ_self _), own_otherV h.oL g (Nat.lt_succ_self _), h.ap, h.mp.grown g (fun b hb => hne _ (by omega)), h.lo, Nat.lt_of_lt_of_le h.sz g.size, grown_new h.gr g (show W.heap.size ≤ B by omega)⟩
  have h1 := heap_setCell_same w B 1 _ _ vL h.t
  rw [h1]; rfl
end
/-- And an advert's box, in block X. -/
structure VB (W : World) (l : List Ad) (p : Option Addr) (c B : Nat) (S : List Int) (vm uR uL vR vL : Value) (R : List Rt) (L : List Lk) (A : Ad) (X : Nat) (w : World) : Prop where
  s : VS W l p c B S vm uR uL vR vL R L w
  a : w.heap[X]? = some (.cells #[.int .i64 A.r, .int .i64 A.q, .bool A.cp, .slice A.pL A.L.length A.cL, .slice A.pC A.C.length A.cC] 38 (0, 0))
  nR : vR.ownBlock ≠ some X
  nL : vL.ownBlock ≠ some X
  lo : B < X ∧ X < w.heap.size
/-- And linked adverts in a row that came while blocks h7 to h8 came. -/
structure VI (W : World) (l : List Ad) (p : Option Addr) (c B : Nat) (S : List Int) (vm uR uL vR vL : Value) (R : List Rt) (L : List Lk) (A : Ad) (X : Nat) (pm : Option Addr) (cm : Nat) (M : List Ad) (h7 h8 : Nat) (w : World) : Prop where
  b : VB W l p c B S vm uR uL vR vL R L A X w
  m : RdF w (fun b => h7 ≤ b ∧ b < h8) (.slice pm M.length cm) M.length (M.flatMap adL)
  sep : ∀ g, vL.ownBlock = some g → g < h7 ∨ h8 ≤ g
  lo : B < h7 ∧ h8 ≤ w.heap.size
section
variable {W w w1 : World} {l M : List Ad} {p pm : Option Addr} {c B X cm h7 h8 : Nat} {S : List Int} {vm uR uL vR vL v' : Value} {R R2 : List Rt} {L L2 : List Lk} {A : Ad}
set_option maxRecDepth 100000 in
theorem VB.keep (h : VB W l p c B S vm uR uL vR vL R L A X w) (g : w.grownBy w1 none) : VB W l p c B S vm uR uL vR vL R L A X w1 :=
  ⟨h.s.keep g, kept_row h.a g (by simp), h.nR, h.nL, h.lo.1, Nat.lt_of_lt_of_le h.lo.2 g.size⟩
set_option maxRecDepth 100000 in
theorem VB.addR (h : VB W l p c B S vm uR uL vR vL R L A X w) (hown : w1.ownsRow (B + 1) 69 2 v' R2.length (R2.flatMap rtC)) (hg : w.grownBy w1 vR.ownBlock) (hat : v'.ownBlock = vR.ownBlock ∨ v'.ownBlock = some w.heap.size) : VB W l p c B S vm uR uL v' vL R2 L A X w1 := by
  refine ⟨h.s.addR hown hg hat, kept_row h.a hg (fun e => h.nR e.symm), fun e => ?_, h.nL, h.lo.1, Nat.lt_of_lt_of_le h.lo.2 hg.size⟩
  rcases hat with h1 | h1
  · exact h.nR (h1.symm.trans e)
  · have := Option.some.inj (h1.symm.trans e); have := h.lo.2; omega
set_option maxRecDepth 100000 in
theorem VB.addL (h : VB W l p c B S vm uR uL vR vL R L A X w) (hown : w1.ownsRow (B + 1) 71 5 v' L2.length (L2.flatMap lkC)) (hg : w.grownBy w1 vL.ownBlock) (hat : v'.ownBlock = vL.ownBlock ∨ v'.ownBlock = some w.heap.size) : VB W l p c B S vm uR uL vR v' R L2 A X w1 := by
  refine ⟨h.s.addL hown hg hat, kept_row h.a hg (fun e => h.nL e.symm), h.nR, fun e => ?_, h.lo.1, Nat.lt_of_lt_of_le h.lo.2 hg.size⟩
  rcases hat with h1 | h1
  · exact h.nL (h1.symm.trans e)
  · have := Option.some.inj (h1.symm.trans e); have := h.lo.2; omega
set_option maxRecDepth 100000 in
theorem VB.putR (h : VB W l p c B S vm uR uL vR vL R L A X w) : VB W l p c B S vm vR uL vR vL R L A X (w.setCell ⟨B, 0, none⟩ vR) := by
  have g := grown_setCell w ⟨B, 0, none⟩ vR
  exact ⟨h.s.putR, kept_row h.a g (fun e => by have : X = B := Option.some.inj e; have := h.lo.1; omega), h.nR, h.nL, h.lo.1, Nat.lt_of_lt_of_le h.lo.2 g.size⟩
set_option maxRecDepth 100000 in
theorem VB.putL (h : VB W l p c B S vm uR uL vR vL R L A X w) : VB W l p c B S vm uR vL vR vL R L A X (w.setCell ⟨B, 1, none⟩ vL) := by
  have g := grown_setCell w ⟨B, 1, none⟩ vL
  exact ⟨h.s.putL, kept_row h.a g (fun e => by have : X = B := Option.some.inj e; have := h.lo.1; omega), h.nR, h.nL, h.lo.1, Nat.lt_of_lt_of_le h.lo.2 g.size⟩
set_option maxRecDepth 100000 in
theorem VI.keep (h : VI W l p c B S vm uR uL vR vL R L A X pm cm M h7 h8 w) (g : w.grownBy w1 none) : VI W l p c B S vm uR uL vR vL R L A X pm cm M h7 h8 w1 :=
  ⟨h.b.keep g, h.m.grown g (fun _ _ => by simp), h.sep, h.lo.1, Nat.le_trans h.lo.2 g.size⟩
set_option maxRecDepth 100000 in
theorem VI.addL (h : VI W l p c B S vm uR uL vR vL R L A X pm cm M h7 h8 w) (hown : w1.ownsRow (B + 1) 71 5 v' L2.length (L2.flatMap lkC)) (hg : w.grownBy w1 vL.ownBlock) (hat : v'.ownBlock = vL.ownBlock ∨ v'.ownBlock = some w.heap.size) : VI W l p c B S vm uR uL vR v' R L2 A X pm cm M h7 h8 w1 := by
  refine ⟨h.b.addL hown hg hat, h.m.grown hg (fun b hb e => by have := h.sep b e.symm; omega), fun g hgg => ?_, h.lo.1, Nat.le_trans h.lo.2 hg.size⟩
  rcases hat with h1 | h1
  · exact h.sep g (by rw [← h1]; exact hgg)
  · rw [h1] at hgg; have := Option.some.inj hgg; have := h.lo.2; omega
set_option maxRecDepth 100000 in
theorem VI.putL (h : VI W l p c B S vm uR uL vR vL R L A X pm cm M h7 h8 w) : VI W l p c B S vm uR vL vR vL R L A X pm cm M h7 h8 (w.setCell ⟨B, 1, none⟩ vL) := by
  have g := grown_setCell w ⟨B, 1, none⟩ vL
  exact ⟨h.b.putL, h.m.grown g (fun b hb e => by have : b = B := Option.some.inj e; have := h.lo.1; omega), h.sep, h.lo.1, Nat.le_trans h.lo.2 g.size⟩
end
set_option maxRecDepth 100000 in
theorem flt_step {M : List Ad} {j : Nat} {x A : Ad} (h : M[j]? = some x) : ((M.take (j + 1)).filter (ltA A)).map (btw A) = ((M.take j).filter (ltA A)).map (btw A) ++ (if A.r < x.r then [btw A x] else []) := by
  rw [List.take_add_one, h, List.filter_append, List.map_append]
  congr 1
  show ([x].filter (ltA A)).map (btw A) = _
  by_cases e : A.r < x.r
  · rw [if_pos e, List.filter_cons, show ltA A x = true from decide_eq_true e]; rfl
  · rw [if_neg e, List.filter_cons, show ltA A x = false from decide_eq_false e]; rfl
set_option maxRecDepth 100000 in
theorem vw_step {l : List Ad} {k : Nat} {A : Ad} {S : List Int} (h : l[k]? = some A) : ((l.take (k + 1)).filter (inV S)).map toR = ((l.take k).filter (inV S)).map toR ++ (if inS S A.r = true then [toR A] else []) ∧ ((l.take (k + 1)).filter (inV S)).flatMap (vL1 l) = ((l.take k).filter (inV S)).flatMap (vL1 l) ++ (if inS S A.r = true then vL1 l A else []) := by
  rw [List.take_add_one, h, List.filter_append, List.map_append, List.flatMap_append]
  have e : ((some A).toList.filter (inV S)) = if inS S A.r = true then [A] else [] := by
    show [A].filter (inV S) = _
    rw [List.filter_cons]
    rfl
  rw [e]
  cases inS S A.r <;> simp
/-- What View returns. -/
def VwPost (l : List Ad) (r : Int) (w : World) (e : Ending) (w' : World) : Prop :=
  ∃ T : Tg, e = .returned (.agg #[.slice T.pR T.R.length T.cR, .slice T.pL T.L.length T.cL]) ∧ (T.R, T.L) = viewV l r ∧ TgOk w' (w.heap.size ≤ ·) T ∧ w.grownBy w' none
set_option maxRecDepth 100000 in
theorem vw_no {l : List Ad} {r : Int} {w w' : World} (h : viewV l r = ([], [])) (g : w.grownBy w' none) : VwPost l r w (.returned (.agg #[.slice none 0 0, .slice none 0 0])) w' :=
  ⟨⟨[], [], none, 0, none, 0⟩, rfl, h.symm, ⟨⟨none, 0, rfl, fun h => absurd rfl h⟩, ⟨none, 0, rfl, fun h => absurd rfl h⟩, ⟨Nat.le_refl _, by decide⟩, ⟨Nat.le_refl _, by decide⟩⟩, g⟩
end Go.Proofs.Ytnpkihioklpnmaa

/- database: copied, Find. -/
namespace Go.Proofs.Ytnpkihioklpnmaa
open Go.RowKit Bs
set_option maxRecDepth 100000 in
theorem own_nl {w : World} {base size n m c : Nat} {e : TypeId} {p : Option Addr} {xs : List Value} (h : w.ownsRow base e size (.slice p m c) n xs) : p = none → c = 0 := by
  rintro rfl
  rcases h.2 with ⟨e1, _⟩ | ⟨g', cap', cur, hv, _⟩
  · injection e1
  · cases hv
/-- While an advert is copied: its box, the result's. -/
structure CP (W : World) (A : Ad) (v1 v2 : Value) (wr : World) : Prop where
  ab : wr.heap[W.heap.size]? = some (.cells #[.int .i64 A.r, .int .i64 A.q, .bool A.cp, v1, v2] 38 (0, 0))
  rb : wr.heap[W.heap.size + 1]? = some (.cells #[.int .i64 0, .int .i64 0, .bool false, .slice none 0 0, .slice none 0 0] 38 (0, 0))
  ok : AdOk wr (· < W.heap.size) A
  gr : W.grownBy wr none
section
variable {W w w1 : World} {A : Ad} {v1 v2 v : Value}
set_option maxRecDepth 100000 in
theorem CP.keep (h : CP W A v1 v2 w) (g : w.grownBy w1 none) : CP W A v1 v2 w1 := ⟨kept_row h.ab g (by simp), kept_row h.rb g (by simp), h.ok.keep g, grown_trans h.gr g⟩
set_option maxRecDepth 100000 in
theorem CP.set3 (h : CP W A v1 v2 w) (v : Value) : CP W A v v2 (w.setCell ⟨W.heap.size, 3, none⟩ v) := by
  have g := grown_setCell w ⟨W.heap.size, 3, none⟩ v
  refine ⟨?_, kept_row h.rb g (fun e => by have : W.heap.size + 1 = W.heap.size := Option.some.inj e; omega), h.ok.grown g (fun b hb e => by have : b = W.heap.size := Option.some.inj e; omega), grown_new h.gr g (Nat.le_refl _)⟩
  have h1 := heap_setCell_same w W.heap.size 3 _ _ v h.ab
  rw [h1]; rfl
set_option maxRecDepth 100000 in
theorem CP.set4 (h : CP W A v1 v2 w) (v : Value) : CP W A v1 v (w.setCell ⟨W.heap.size, 4, none⟩ v) := by
  have g := grown_setCell w ⟨W.heap.size, 4, none⟩ v
  refine ⟨?_, kept_row h.rb g (fun e => by have : W.heap.size + 1 = W.heap.size := Option.some.inj e; omega), h.ok.grown g (fun b hb e => by have : b = W.heap.size := Option.some.inj e; omega), grown_new h.gr g (Nat.le_refl _)⟩
  have h1 := heap_setCell_same w W.heap.size 4 _ _ v h.ab
  rw [h1]; rfl
end
set_option maxRecDepth 100000 in
theorem cp_start {w : World} {A : Ad} {q : Nat → Prop} (hA : AdOk w q A) : CP w A (.slice A.pL A.L.length A.cL) (.slice A.pC A.C.length A.cC) ((w.alloc (.cells #[.int .i64 A.r, .int .i64 A.q, .bool A.cp, .slice A.pL A.L.length A.cL, .slice A.pC A.C.length A.cC] 38)).alloc (.cells #[.int .i64 0, .int .i64 0, .bool false, .slice none 0 0, .slice none 0 0] 38)) ∧ w.heap.size + 2 ≤ ((w.alloc (.cells #[.int .i64 A.r, .int .i64 A.q, .bool A.cp, .slice A.pL A.L.length A.cL, .slice A.pC A.C.length A.cC] 38)).alloc (.cells #[.int .i64 0, .int .i64 0, .bool false, .slice none 0 0, .slice none 0 0] 38)).heap.size := by
  obtain ⟨k1, k2, k3, k4⟩ := two_boxes w #[.int .i64 A.r, .int .i64 A.q, .bool A.cp, .slice A.pL A.L.length A.cL, .slice A.pC A.C.length A.cC] #[.int .i64 0, .int .i64 0, .bool false, .slice none 0 0, .slice none 0 0] 38 38
  exact ⟨⟨k1, k2, hA.old.keep k3, k3⟩, Nat.le_of_eq k4.symm⟩
/-- A copy: the same fields, lists elsewhere. -/
def CpPost (A : Ad) (w : World) (e : Ending) (w' : World) : Prop :=
  ∃ pL cL pC cC, e = .returned (.agg #[.int .i64 A.r, .int .i64 A.q, .bool A.cp, .slice pL A.L.length cL, .slice pC A.C.length cC]) ∧ AdOk w' (w.heap.size ≤ ·) ⟨A.r, A.q, A.cp, A.L, A.C, pL, cL, pC, cC⟩ ∧ AdNl ⟨A.r, A.q, A.cp, A.L, A.C, pL, cL, pC, cC⟩ ∧ w.grownBy w' none
set_option maxRecDepth 100000 in
set_option maxHeartbeats 3200000 in
theorem dcopied_any (A : Ad) (q : Nat → Prop) (w : World) (hA : AdOk w q A) (hn : AdNl A) (hm : A.L.length ≤ 1000 ∧ A.C.length ≤ 1000) :
    Calls Try.prog 54 #[.agg #[.int .i64 A.r, .int .i64 A.q, .bool A.cp, .slice A.pL A.L.length A.cL, .slice A.pC A.C.length A.cC]] w fun e w' => CpPost A w e w' := by
  have H0 := Lib.hid (cp_start hA).1
  have HS := Lib.hid (cp_start hA).2
  clear hA
  go_enter Try.func54, Try.ntmps54
  go_upto_region 1 with fail
  generalize (w.alloc _).alloc _ = wa at *
  obtain ⟨c0, c1, c2, c3, c4⟩ := row5 H0.out.ab
  go_wp2_with fail
  refine (dclR_any A.L A.pL A.cL _ wa H0.out.ok.l hn.1 H0.out.ok.hl hm.1).mono ?_
  rintro e w1 ⟨v, rfl, hown, hg⟩
  obtain ⟨pL, cL, rfl, n1, m1⟩ := own_shape hown
  have H1 := Lib.hid (H0.out.keep hg)
  have HL : Hid (RdF w1 (w.heap.size + 2 ≤ ·) (.slice pL A.L.length cL) A.L.length (A.L.flatMap t3C) ∧ (A.L.length ≤ cL ∧ cL ≤ 9223372036854775807) ∧ (pL = none → cL = 0)) := Lib.hid ⟨(rdf_of_own hown).mono (fun b hb => Nat.le_trans HS.out hb), ⟨n1, m1⟩, own_nl hown⟩
  clear hown hg n1 m1 H0 HS c0 c1 c2 c3 c4
  obtain ⟨c0, c1, c2, c3, c4⟩ := row5 H1.out.ab
  have f3 := frozen_of_row _ _ 3 _ _ H1.out.ab
  have H2 := Lib.hid (H1.out.set3 (.slice pL A.L.length cL))
  have HL2 := Lib.hid (HL.out.1.grown (grown_setCell w1 ⟨w.heap.size, 3, none⟩ (.slice pL A.L.length cL)) (fun b hb e => by have : b = w.heap.size := Option.some.inj e; omega))
  go_upto_region 2 with fail
  clear c0 c1 c2 c3 c4 f3 H1
  generalize w1.setCell _ _ = w2 at *
  obtain ⟨c0, c1, c2, c3, c4⟩ := row5 H2.out.ab
  go_wp2_with fail
  refine (dclC_any A.C A.pC A.cC _ w2 H2.out.ok.c hn.2 H2.out.ok.hc hm.2).mono ?_
  rintro e w3 ⟨v, rfl, hown, hg⟩
  obtain ⟨pC, cC, rfl, n1, m1⟩ := own_shape hown
  have hsz : w.heap.size + 2 ≤ w2.heap.size := World.lt_of_row' H2.out.rb
  have H3 := Lib.hid (H2.out.keep hg)
  have HL3 := Lib.hid (HL2.out.grown hg (fun _ _ => by simp))
  have HC : Hid (RdF w3 (w.heap.size + 2 ≤ ·) (.slice pC A.C.length cC) A.C.length (A.C.flatMap t3C) ∧ (A.C.length ≤ cC ∧ cC ≤ 9223372036854775807) ∧ (pC = none → cC = 0)) := Lib.hid ⟨(rdf_of_own hown).mono (fun b hb => Nat.le_trans hsz hb), ⟨n1, m1⟩, own_nl hown⟩
  clear hown hg n1 m1 hsz H2 HL2 c0 c1 c2 c3 c4
  obtain ⟨c0, c1, c2, c3, c4⟩ := row5 H3.out.ab
  have f4 := frozen_of_row _ _ 4 _ _ H3.out.ab
  have H4 := Lib.hid (H3.out.set4 (.slice pC A.C.length cC))
  have gs := grown_setCell w3 ⟨w.heap.size, 4, none⟩ (.slice pC A.C.length cC)
  have HO : Hid (RdF (w3.setCell ⟨w.heap.size, 4, none⟩ (.slice pC A.C.length cC)) (w.heap.size + 2 ≤ ·) (.slice pL A.L.length cL) A.L.length (A.L.flatMap t3C) ∧ RdF (w3.setCell ⟨w.heap.size, 4, none⟩ (.slice pC A.C.length cC)) (w.heap.size + 2 ≤ ·) (.slice pC A.C.length cC) A.C.length (A.C.flatMap t3C)) := Lib.hid ⟨HL3.out.grown gs (fun b hb e => by have : b = w.heap.size := Option.some.inj e; omega), HC.out.1.grown gs (fun b hb e => by have : b = w.heap.size := Option.some.inj e; omega)⟩
  clear gs
  go_upto_region 3 with fail
  clear c0 c1 c2 c3 c4 f4 H3
  generalize w3.setCell _ _ = w4 at *
  obtain ⟨c0, c1, c2, c3, c4⟩ := row5 H4.out.ab
  obtain ⟨z0, z1, z2, z3, z4⟩ := row5 H4.out.rb
  have f0 := frozen_of_row _ _ 0 _ _ H4.out.rb
  have f1 := frozen_of_row _ _ 1 _ _ H4.out.rb
  have f2 := frozen_of_row _ _ 2 _ _ H4.out.rb
  have f3 := frozen_of_row _ _ 3 _ _ H4.out.rb
  have f4 := frozen_of_row _ _ 4 _ _ H4.out.rb
  obtain ⟨t1, t2⟩ := store5 (.int .i64 A.r) (.int .i64 A.q) (.bool A.cp) (.slice pL A.L.length cL) (.slice pC A.C.length cC) H4.out.rb
  have hq : ∀ b, w.heap.size + 2 ≤ b → some b ≠ some (w.heap.size + 1) := fun b hb e => by have := Option.some.inj e; omega
  have HT := Lib.hid (And.intro t1 (And.intro (grown_new H4.out.gr t2 (by omega)) (And.intro (HO.out.1.grown t2 hq) (HO.out.2.grown t2 hq))))
  clear t1 t2 H4 HO hq
  go_wp2_with fail
  refine bodyPost_ret (res_adv rfl _ _ (w.heap.size + 1) _ _ _ _ _ rfl HT.out.1) rfl ?_
  exact ⟨pL, cL, pC, cC, rfl, ⟨HT.out.2.2.1.mono (fun b hb => by omega), HT.out.2.2.2.mono (fun b hb => by omega), HL.out.2.1, HC.out.2.1⟩, ⟨HL.out.2.2, HC.out.2.2⟩, HT.out.2.1⟩
end Go.Proofs.Ytnpkihioklpnmaa

/- database: Find. -/
namespace Go.Proofs.Ytnpkihioklpnmaa
open Go.RowKit Bs
set_option maxRecDepth 100000 in
theorem rdf_and {w : World} {q : Nat → Prop} {v : Value} {n : Nat} {xs : List Value} (h : RdF w q v n xs) : RdF w (fun b => q b ∧ b < w.heap.size) v n xs := by
  obtain ⟨p, c, hv, hc⟩ := h
  refine ⟨p, c, hv, fun hne => ?_⟩
  obtain ⟨b, off, hp, hb, hx⟩ := hc hne
  obtain ⟨x, hx0⟩ : ∃ x, xs[0]? = some x := by
    cases xs with
    | nil => exact absurd rfl hne
    | cons a t => exact ⟨a, rfl⟩
  exact ⟨b, off, hp, ⟨hb, World.block_lt_of_cell? w ⟨b, off + 0, none⟩ (hx 0 x hx0)⟩, hx⟩
set_option maxRecDepth 100000 in
theorem AdOk.and {w : World} {q : Nat → Prop} {A : Ad} (h : AdOk w q A) : AdOk w (fun b => q b ∧ b < w.heap.size) A := ⟨rdf_and h.l, rdf_and h.c, h.hl, h.hc⟩
set_option maxRecDepth 100000 in
theorem res_adv_b {fn : Func} {p u : Tmp} (h : fn.results = #[.cell p 38, .tmp u]) (tmps : Array Value) (w : World) (g : Nat) (x y z s t : Value) (hp : tmps.getD p undef = .pointer (some ⟨g, 0, none⟩)) (hg : w.heap[g]? = some (.cells #[x, y, z, s, t] 38 (0, 0))) :
    (results fn tmps).run Try.prog w = .ok (.tuple #[.agg #[x, y, z, s, t], tmps.getD u undef]) w := by
  have hp' : tmps[p]?.getD undef = .pointer (some ⟨g, 0, none⟩) := by simpa using hp
  rw [results_cell_tmp h]
  simp [hp', asAddr, run_loadVar_row w g _ _ _ _ _ hg Try.underlying38 rfl adv_size, Result.andThen]
def zAd : Ad := ⟨0, 0, false, [], [], none, 0, none, 0⟩
set_option maxRecDepth 100000 in
theorem zAd_ok (w : World) (q : Nat → Prop) : AdOk w q zAd := ⟨⟨none, 0, rfl, fun h => absurd rfl h⟩, ⟨none, 0, rfl, fun h => absurd rfl h⟩, ⟨Nat.le_refl _, by show (0 : Nat) ≤ _; omega⟩, ⟨Nat.le_refl _, by show (0 : Nat) ≤ _; omega⟩⟩
set_option maxRecDepth 100000 in
theorem fn_take {l : List Ad} {r : Int} {k : Nat} {A : Ad} (h : (l.take k).find? (isR r) = none) (hx : l[k]? = some A) : (l.take (k + 1)).find? (isR r) = if A.r = r then some A else none := by
  rw [List.take_add_one, hx, List.find?_append, h]
  unfold isR
  by_cases e : A.r = r <;> simp [e]
set_option maxRecDepth 100000 in
theorem fn_hit {l : List Ad} {r : Int} {k : Nat} {A : Ad} (h : (l.take k).find? (isR r) = none) (hx : l[k]? = some A) (e : A.r = r) : fndA l r = some A := by
  unfold fndA
  have h2 := fn_take h hx
  rw [if_pos e] at h2
  rw [← List.take_append_drop (k + 1) l, List.find?_append, h2]
  rfl
set_option maxRecDepth 100000 in
theorem fn_end {l : List Ad} {r : Int} (h : (l.take l.length).find? (isR r) = none) : fndA l r = none := by
  rw [List.take_length] at h
  exact h
/-- What Find returns. -/
def FinPost (l : List Ad) (r : Int) (q : Nat → Prop) (w : World) (e : Ending) (w' : World) : Prop :=
  ∃ X : Ad, e = .returned (.tuple #[.agg #[.int .i64 X.r, .int .i64 X.q, .bool X.cp, .slice X.pL X.L.length X.cL, .slice X.pC X.C.length X.cC], .bool (fndA l r).isSome]) ∧ (X.r = ((fndA l r).getD zAd).r ∧ X.q = ((fndA l r).getD zAd).q ∧ X.cp = ((fndA l r).getD zAd).cp ∧ X.L = ((fndA l r).getD zAd).L ∧ X.C = ((fndA l r).getD zAd).C) ∧ AdOk w' q X ∧ w.grownBy w' none
/-- While Find looks: the database and its box, the result's box. -/
structure FB (W : World) (l : List Ad) (p : Option Addr) (c : Nat) (w : World) : Prop where
  db : RdA w (· < W.heap.size) (.slice p l.length c) l
  d : w.heap[W.heap.size]? = some (.cells #[.slice p l.length c] 25 (0, 0))
  z : w.heap[W.heap.size + 1]? = some (.cells #[.int .i64 0, .int .i64 0, .bool false, .slice none 0 0, .slice none 0 0] 38 (0, 0))
  gr : W.grownBy w none
set_option maxRecDepth 100000 in
theorem FB.keep {W w w1 : World} {l : List Ad} {p : Option Addr} {c : Nat} (h : FB W l p c w) (g : w.grownBy w1 none) : FB W l p c w1 := ⟨h.db.keep g, kept_row h.d g (by simp), kept_row h.z g (by simp), grown_trans h.gr g⟩
set_option maxRecDepth 100000 in
theorem fb_start {w : World} {l : List Ad} {p : Option Addr} {c : Nat} {q : Nat → Prop} (hR : RdA w q (.slice p l.length c) l) : FB w l p c ((w.alloc (.cells #[.slice p l.length c] 25)).alloc (.cells #[.int .i64 0, .int .i64 0, .bool false, .slice none 0 0, .slice none 0 0] 38)) := by
  obtain ⟨k1, k2, k3, k4⟩ := two_boxes w #[.slice p l.length c] #[.int .i64 0, .int .i64 0, .bool false, .slice none 0 0, .slice none 0 0] 25 38
  exact ⟨(RdA.old hR).keep k3, k1, k2, k3⟩
end Go.Proofs.Ytnpkihioklpnmaa

/- database: Same (slices.EqualFunc of adverts). -/
namespace Go.Proofs.Ytnpkihioklpnmaa
open Go.RowKit Bs
def smD : List Ad → List Ad → Bool
  | [], [] => true
  | A :: s, B :: t => decide (cmpA A B = 0) && smD s t
  | _, _ => false
set_option maxRecDepth 100000 in
theorem smD_len : ∀ (s t : List Ad), s.length ≠ t.length → smD s t = false
  | [], [], h => absurd rfl h
  | [], _ :: _, _ => rfl
  | _ :: _, [], _ => rfl
  | A :: s, B :: t, h => by rw [smD, smD_len s t (fun e => h (by simp [e])), Bool.and_false]
set_option maxRecDepth 100000 in
theorem smD_step {s t : List Ad} {k : Nat} {x y : Ad} (hx : s[k]? = some x) (hy : t[k]? = some y) : smD (s.drop k) (t.drop k) = (decide (cmpA x y = 0) && smD (s.drop (k + 1)) (t.drop (k + 1))) := by
  rw [dropA_at hx, dropA_at hy, smD]
set_option maxRecDepth 100000 in
theorem smD_end {s t : List Ad} (h : s.length = t.length) : smD (s.drop s.length) (t.drop s.length) = true := by
  rw [List.drop_length, h, List.drop_length]
  rfl
end Go.Proofs.Ytnpkihioklpnmaa

/- Put and Merge: the mathematics. -/
namespace Go.Proofs.Ytnpkihioklpnmaa
open Go.RowKit Bs
/-- An advert without the place of its lists. -/
def fz (A : Ad) : Ad := ⟨A.r, A.q, A.cp, A.L, A.C, none, 0, none, 0⟩
set_option maxRecDepth 100000 in
theorem fz_eq {A B : Ad} : fz A = fz B ↔ smA A B := by
  unfold fz smA
  simp only [Ad.mk.injEq, and_true]
set_option maxRecDepth 100000 in
theorem smD_fz : ∀ {s t : List Ad}, smD s t = true ↔ s.map fz = t.map fz
  | [], [] => by simp [smD]
  | [], _ :: _ => by simp [smD]
  | _ :: _, [] => by simp [smD]
  | A :: s, B :: t => by rw [smD, Bool.and_eq_true, decide_eq_true_eq, cmpA_zero, smD_fz (s := s) (t := t), List.map_cons, List.map_cons, List.cons.injEq, fz_eq]
set_option maxRecDepth 100000 in
theorem fnd_fz (l : List Ad) (r : Int) : fndA (l.map fz) r = (fndA l r).map fz := by
  unfold fndA
  rw [List.find?_map]
  rfl
set_option maxRecDepth 100000 in
theorem asc_fz : ∀ (l : List Ad) (k : Int), ascD k (l.map fz) = ascD k l
  | [], _ => rfl
  | A :: t, k => by rw [List.map_cons, ascD, ascD, asc_fz t]; rfl
set_option maxRecDepth 100000 in
theorem okD_fz (l : List Ad) : okD (l.map fz) = okD l := by
  unfold okD chkD
  rw [List.length_map, List.any_map, asc_fz]
  rfl
set_option maxRecDepth 100000 in
theorem okD_OkD {l : List Ad} (h : okD l = true) : OkD l := chk_OkD (by unfold okD at h; simpa using h)
/-- An advert takes the place of the one with its router, or is added. -/
def putA : List Ad → Ad → List Ad
  | [], A => [A]
  | B :: t, A => if B.r < A.r then B :: putA t A else if B.r = A.r then A :: t else A :: B :: t
set_option maxRecDepth 100000 in
theorem putA_fz : ∀ (l : List Ad) (A : Ad), putA (l.map fz) (fz A) = (putA l A).map fz
  | [], _ => rfl
  | B :: t, A => by
    rw [List.map_cons, putA, putA, putA_fz t]
    show (if B.r < A.r then _ else if B.r = A.r then _ else _) = _
    split
    · rfl
    · split <;> rfl
set_option maxRecDepth 100000 in
theorem putA_mem : ∀ {l : List Ad} {A B : Ad}, B ∈ putA l A → B = A ∨ B ∈ l
  | [], A, B, h => by rw [putA, List.mem_singleton] at h; exact .inl h
  | C :: t, A, B, h => by
    rw [putA] at h
    split at h
    · rcases List.mem_cons.1 h with h | h
      · exact .inr (h ▸ List.mem_cons_self)
      · rcases putA_mem h with h | h
        · exact .inl h
        · exact .inr (List.mem_cons_of_mem _ h)
    · split at h
      · rcases List.mem_cons.1 h with h | h
        · exact .inl h
        · exact .inr (List.mem_cons_of_mem _ h)
      · rcases List.mem_cons.1 h with h | h
        · exact .inl h
        · exact .inr h
set_option maxRecDepth 100000 in
theorem putA_asc : ∀ {l : List Ad} {A : Ad} {k : Int}, ascD k l = true → k < A.r → ascD k (putA l A) = true
  | [], A, k, _, h => by rw [putA, ascD, decide_eq_true h]; rfl
  | B :: t, A, k, hl, h => by
    rw [ascD, Bool.and_eq_true] at hl
    have h1 := of_decide_eq_true hl.1
    rw [putA]
    split
    · rename_i h2
      rw [ascD, decide_eq_true h1, putA_asc hl.2 h2]; rfl
    · rename_i h2
      split
      · rename_i h3
        rw [ascD, decide_eq_true h, ← h3, hl.2]; rfl
      · rename_i h3
        rw [ascD, decide_eq_true h, ascD, decide_eq_true (by omega), hl.2]; rfl
set_option maxRecDepth 100000 in
theorem vAd_r {A : Ad} (h : vAd A = true) : 1 ≤ A.r ∧ A.r ≤ 99 := by
  unfold vAd at h
  rw [Bool.and_eq_true] at h
  have h1 := h.1
  unfold vHd at h1
  exact (of_decide_eq_true h1).1
set_option maxRecDepth 100000 in
theorem asc_len : ∀ {l : List Ad} {k : Int}, ascD k l = true → (∀ A ∈ l, A.r ≤ 99) → l ≠ [] → k + l.length ≤ 99
  | [], _, _, _, h => absurd rfl h
  | [A], k, h, h99, _ => by
    rw [ascD, Bool.and_eq_true] at h
    have h1 := of_decide_eq_true h.1
    have := h99 A List.mem_cons_self
    simp only [List.length_singleton]; omega
  | A :: B :: t, k, h, h99, _ => by
    rw [ascD, Bool.and_eq_true] at h
    have h1 := of_decide_eq_true h.1
    have := asc_len h.2 (fun C hC => h99 C (List.mem_cons_of_mem _ hC)) (by simp)
    simp only [List.length_cons] at *; omega
set_option maxRecDepth 100000 in
theorem OkD_of {l : List Ad} (hv : ∀ A ∈ l, vAd A = true) (ha : ascD 0 l = true) : OkD l := by
  refine ⟨?_, hv, ha⟩
  by_cases h : l = []
  · subst h; exact Nat.zero_le _
  · have := asc_len ha (fun A hA => (vAd_r (hv A hA)).2) h; omega
set_option maxRecDepth 100000 in
theorem OkD.ok {l : List Ad} (h : OkD l) : okD l = true := by
  unfold okD chkD
  have h1 := h.len
  rw [if_neg (by omega), if_neg (by
    rw [Bool.not_eq_true, List.any_eq_false]
    intro A hA
    unfold notV
    rw [h.v A hA]
    decide), h.asc]
  rfl
set_option maxRecDepth 100000 in
theorem OkD.put {l : List Ad} {A : Ad} (h : OkD l) (hA : vAd A = true) : OkD (putA l A) :=
  OkD_of (fun B hB => by
    rcases putA_mem hB with e | hB
    · rw [e]; exact hA
    · exact h.v B hB) (putA_asc h.asc (by have := (vAd_r hA).1; omega))
/-- Does an advert change a database? -/
def chg (l : List Ad) (A : Ad) : Bool := match fndA l A.r with
  | none => true
  | some B => nwA A B
/-- What put does to a valid database. -/
def put1 (l : List Ad) (A : Ad) : List Ad := if chg l A = true then putA l A else l
def pD (l : List Ad) (A : Ad) : Bool := okD l && (vAd A && chg l A)
def putV (l : List Ad) (A : Ad) : List Ad := if pD l A = true then putA l A else l
set_option maxRecDepth 100000 in
theorem chg_fz (l : List Ad) (A : Ad) : chg (l.map fz) (fz A) = chg l A := by
  unfold chg
  show (match fndA (l.map fz) A.r with | none => true | some B => nwA (fz A) B) = _
  rw [fnd_fz]
  cases fndA l A.r <;> rfl
set_option maxRecDepth 100000 in
theorem put1_fz (l : List Ad) (A : Ad) : put1 (l.map fz) (fz A) = (put1 l A).map fz := by
  unfold put1
  rw [chg_fz, putA_fz]
  split <;> rfl
set_option maxRecDepth 100000 in
theorem pD_fz (l : List Ad) (A : Ad) : pD (l.map fz) (fz A) = pD l A := by
  unfold pD
  rw [chg_fz, okD_fz]
  rfl
set_option maxRecDepth 100000 in
theorem putV_fz (l : List Ad) (A : Ad) : putV (l.map fz) (fz A) = (putV l A).map fz := by
  unfold putV
  rw [pD_fz, putA_fz]
  split <;> rfl
set_option maxRecDepth 100000 in
theorem OkD.put1 {l : List Ad} {A : Ad} (h : OkD l) (hA : vAd A = true) : OkD (put1 l A) := by
  unfold Go.Proofs.Ytnpkihioklpnmaa.put1
  split
  · exact h.put hA
  · exact h
set_option maxRecDepth 100000 in
theorem PlP.ins {l : List Ad} {A : Ad} {i : Nat} (hp : l.Pairwise (fun A B => A.r < B.r)) (h : PlP l A.r i false) : putA l A = l.take i ++ A :: l.drop i := by
  induction l generalizing i with
  | nil =>
    obtain rfl : i = 0 := Nat.le_zero.1 h.le
    rfl
  | cons B t ih =>
    obtain ⟨p1, p2⟩ := List.pairwise_cons.1 hp
    cases i with
    | zero =>
      have h1 := h.hi B rfl
      have h2 := h.eq
      simp only [List.getElem?_cons_zero] at h2
      have h3 := of_decide_eq_false h2.symm
      rw [putA, if_neg (by omega), if_neg h3]
      rfl
    | succ i =>
      have hlt : B.r < A.r := by
        cases i with
        | zero => exact h.lo B (by decide) rfl
        | succ i =>
          have hil : i < t.length := by have := h.le; simp only [List.length_cons] at this; omega
          have h1 := h.lo t[i] (by omega) (by
            show (B :: t)[i + 1]? = _
            rw [List.getElem?_cons_succ]; exact List.getElem?_eq_getElem hil)
          have := p1 t[i] (List.getElem_mem hil)
          omega
      have hq : PlP t A.r i false := by
        refine ⟨by have := h.le; simp only [List.length_cons] at this; omega, fun x hx hg => ?_, fun x hg => h.hi x (by rw [List.getElem?_cons_succ]; exact hg), by have := h.eq; rw [List.getElem?_cons_succ] at this; exact this⟩
        obtain ⟨j, rfl⟩ : ∃ j, i = j + 1 := ⟨i - 1, by omega⟩
        exact h.lo x (by omega) (by show (B :: t)[j + 1]? = _; rw [List.getElem?_cons_succ]; exact hg)
      rw [putA, if_pos hlt, ih p2 hq]
      rfl
set_option maxRecDepth 100000 in
theorem PlP.set {l : List Ad} {A : Ad} {i : Nat} (hp : l.Pairwise (fun A B => A.r < B.r)) (h : PlP l A.r i true) : putA l A = l.set i A := by
  induction l generalizing i with
  | nil => have := h.eq; simp at this
  | cons B t ih =>
    obtain ⟨p1, p2⟩ := List.pairwise_cons.1 hp
    cases i with
    | zero =>
      have h2 := h.eq
      simp only [List.getElem?_cons_zero] at h2
      have h3 := of_decide_eq_true h2.symm
      rw [putA, if_neg (by omega), if_pos h3]
      rfl
    | succ i =>
      have hlt : B.r < A.r := by
        have h2 := h.eq
        rw [List.getElem?_cons_succ] at h2
        cases hx : t[i]? with
        | none => rw [hx] at h2; cases h2
        | some x =>
          rw [hx] at h2
          simp only at h2
          have h3 := of_decide_eq_true h2.symm
          have := p1 x (List.mem_of_getElem? hx)
          omega
      have hq : PlP t A.r i true := by
        refine ⟨by have := h.le; simp only [List.length_cons] at this; omega, fun x hx hg => ?_, fun x hg => h.hi x (by rw [List.getElem?_cons_succ]; exact hg), by have := h.eq; rw [List.getElem?_cons_succ] at this; exact this⟩
        obtain ⟨j, rfl⟩ : ∃ j, i = j + 1 := ⟨i - 1, by omega⟩
        exact h.lo x (by omega) (by show (B :: t)[j + 1]? = _; rw [List.getElem?_cons_succ]; exact hg)
      rw [putA, if_pos hlt, ih p2 hq]
      rfl
/-! What is found in what Put and Merge give. -/
set_option maxRecDepth 100000 in
theorem chg_none {l : List Ad} {A : Ad} (h : fndA l A.r = none) : chg l A = true := by unfold chg; rw [h]
set_option maxRecDepth 100000 in
theorem chg_some {l : List Ad} {A B : Ad} (h : fndA l A.r = some B) : chg l A = nwA A B := by unfold chg; rw [h]
end Go.Proofs.Ytnpkihioklpnmaa

/- database: copies and put. -/
namespace Go.Proofs.Ytnpkihioklpnmaa
open Go.RowKit Bs
/-- Where lists of adverts lie whose row is v. -/
def qO (base : Nat) (v : Value) (w : World) (b : Nat) : Prop := base ≤ b ∧ b < w.heap.size ∧ v.ownBlock ≠ some b
/-- A row of adverts of the call's own, lists and all. -/
structure OwnD (base : Nat) (l : List Ad) (v : Value) (w : World) : Prop where
  own : w.ownsRow base 38 5 v l.length (l.flatMap adL)
  ok : ∀ A ∈ l, AdOk w (qO base v w) A
  nl : ∀ A ∈ l, AdNl A
set_option maxRecDepth 100000 in
theorem OwnD.grown {base : Nat} {l : List Ad} {v : Value} {w w1 : World} {r : Option Nat} (h : OwnD base l v w) (g : w.grownBy w1 r) (hr : ∀ b, r = some b → b < base) : OwnD base l v w1 := by
  refine ⟨h.own.kept g ?_, fun A hA => ((h.ok A hA).grown g (fun b hb e => by have := hr b e.symm; have := hb.1; omega)).mono (fun b hb => ⟨hb.1, Nat.lt_of_lt_of_le hb.2.1 g.size, hb.2.2⟩), h.nl⟩
  cases hv : v.ownBlock with
  | none => exact .inl rfl
  | some k => exact .inr (fun e => by have := hr k e.symm; have := (h.own.lt k hv).1; omega)
set_option maxRecDepth 100000 in
theorem OwnD.keep {base : Nat} {l : List Ad} {v : Value} {w w1 : World} (h : OwnD base l v w) (g : w.grownBy w1 none) : OwnD base l v w1 := h.grown g (fun b e => by cases e)
set_option maxRecDepth 100000 in
theorem OwnD.rda {base : Nat} {l : List Ad} {p : Option Addr} {n c : Nat} {w : World} (h : OwnD base l (.slice p n c) w) : n = l.length ∧ RdA w (base ≤ ·) (.slice p n c) l := by
  obtain ⟨p', c', e, -, -⟩ := own_shape h.own
  injection e with e1 e2 e3
  exact ⟨e2, rdf_of_own h.own, fun A hA => (h.ok A hA).mono (fun b hb => hb.1), h.nl⟩
set_option maxRecDepth 100000 in
theorem OwnD.shape {base : Nat} {l : List Ad} {v : Value} {w : World} (h : OwnD base l v w) : ∃ p c, v = .slice p l.length c ∧ (l.length ≤ c ∧ c ≤ 9223372036854775807) ∧ (p = none → c = 0) := by
  obtain ⟨p, c, rfl, h1, h2⟩ := own_shape h.own
  exact ⟨p, c, rfl, ⟨h1, h2⟩, own_nl h.own⟩
set_option maxRecDepth 100000 in
theorem fz_mem {l m : List Ad} (h : m.map fz = l.map fz) {A : Ad} (hA : A ∈ m) : ∃ B ∈ l, fz B = fz A := by
  have : fz A ∈ m.map fz := List.mem_map_of_mem hA
  rw [h] at this
  obtain ⟨B, h1, h2⟩ := List.mem_map.1 this
  exact ⟨B, h1, h2⟩
set_option maxRecDepth 100000 in
theorem fz_L {A B : Ad} (h : fz A = fz B) : A.L = B.L ∧ A.C = B.C := ⟨(fz_eq.1 h).2.2.2.1, (fz_eq.1 h).2.2.2.2⟩
set_option maxRecDepth 100000 in
theorem fz_set {m : List Ad} {k : Nat} {A B : Ad} (hA : m[k]? = some A) (h : fz B = fz A) : (m.set k B).map fz = m.map fz := by
  rw [List.map_set, h]
  refine List.ext_getElem? fun i => ?_
  by_cases e : k = i
  · subst e
    rw [List.getElem?_set_self (by rw [List.length_map]; exact (List.getElem?_eq_some_iff.1 hA).1), List.getElem?_map, hA]; rfl
  · rw [List.getElem?_set_ne e]
set_option maxRecDepth 100000 in
theorem take_set {m : List Ad} {k : Nat} {A B : Ad} (hA : m[k]? = some A) : (m.set k B).take (k + 1) = m.take k ++ [B] := by
  have hk := (List.getElem?_eq_some_iff.1 hA).1
  rw [List.take_add_one, List.getElem?_set_self hk, List.take_set_of_le (Nat.le_refl _)]; rfl
set_option maxRecDepth 100000 in
theorem drop_set {m : List Ad} {k : Nat} {B : Ad} : (m.set k B).drop (k + 1) = m.drop (k + 1) := List.drop_set_of_lt (Nat.lt_succ_self k)
/-- While adverts are copied within a row. -/
structure CW (W : World) (l : List Ad) (v : Value) (k : Nat) (m : List Ad) (w : World) : Prop where
  own : w.ownsRow W.heap.size 38 5 v l.length (m.flatMap adL)
  len : m.length = l.length
  fe : m.map fz = l.map fz
  new : ∀ A ∈ m.take k, AdOk w (qO W.heap.size v w) A ∧ AdNl A
  old : ∀ A ∈ m.drop k, AdOk w (· < W.heap.size) A ∧ AdNl A
  gr : W.grownBy w none
set_option maxRecDepth 100000 in
theorem CW.keep {W w w1 : World} {l m : List Ad} {v : Value} {k : Nat} (h : CW W l v k m w) (g : w.grownBy w1 none) : CW W l v k m w1 :=
  ⟨h.own.kept g (by cases hv : v.ownBlock with
    | none => exact .inl rfl
    | some k => exact .inr (by simp)), h.len, h.fe, fun A hA => ⟨((h.new A hA).1.keep g).mono (fun b hb => ⟨hb.1, Nat.lt_of_lt_of_le hb.2.1 g.size, hb.2.2⟩), (h.new A hA).2⟩, fun A hA => ⟨(h.old A hA).1.keep g, (h.old A hA).2⟩, grown_trans h.gr g⟩
set_option maxRecDepth 100000 in
/-- One more is copied. -/
theorem CW.put {W w w1 : World} {l m : List Ad} {g n cap k : Nat} {A B : Ad} (h : CW W l (.slice (some ⟨g, 0, none⟩) n cap) k m w) (hA : m[k]? = some A) (hB : fz B = fz A) (hown : w1.ownsRow W.heap.size 38 5 (.slice (some ⟨g, 0, none⟩) n cap) l.length ((m.set k B).flatMap adL)) (hg : w.grownBy w1 (some g)) (hok : AdOk w (qO W.heap.size (.slice (some ⟨g, 0, none⟩) n cap) w) B) (hnl : AdNl B) : CW W l (.slice (some ⟨g, 0, none⟩) n cap) (k + 1) (m.set k B) w1 := by
  have hgb : W.heap.size ≤ g := (h.own.lt g rfl).1
  have hq : ∀ b, qO W.heap.size (.slice (some ⟨g, 0, none⟩) n cap) w b → some b ≠ some g := fun b hb e => hb.2.2 (by rw [Option.some.inj e]; rfl)
  have hm : ∀ b, qO W.heap.size (.slice (some ⟨g, 0, none⟩) n cap) w b → qO W.heap.size (.slice (some ⟨g, 0, none⟩) n cap) w1 b := fun b hb => ⟨hb.1, Nat.lt_of_lt_of_le hb.2.1 hg.size, hb.2.2⟩
  refine ⟨hown, by rw [List.length_set, h.len], by rw [fz_set hA hB, h.fe], fun C hC => ?_, fun C hC => ?_, grown_new h.gr hg hgb⟩
  · rw [take_set hA] at hC
    rcases List.mem_append.1 hC with hC | hC
    · exact ⟨((h.new C hC).1.grown hg hq).mono hm, (h.new C hC).2⟩
    · rw [List.mem_singleton] at hC; subst hC; exact ⟨(hok.grown hg hq).mono hm, hnl⟩
  · rw [drop_set] at hC
    have hC2 : C ∈ m.drop k := by rw [dropA_at hA]; exact List.mem_cons_of_mem _ hC
    exact ⟨(h.old C hC2).1.grown hg (fun b hb e => by have := Option.some.inj e; omega), (h.old C hC2).2⟩
set_option maxRecDepth 100000 in
theorem CW.fin {W w : World} {l m : List Ad} {v : Value} (h : CW W l v l.length m w) : OwnD W.heap.size m v w := by
  have e : m.take l.length = m := by rw [← h.len, List.take_length]
  refine ⟨by rw [h.len]; exact h.own, fun A hA => (h.new A (by rw [e]; exact hA)).1, fun A hA => (h.new A (by rw [e]; exact hA)).2⟩
set_option maxRecDepth 100000 in
set_option maxHeartbeats 3200000 in
theorem dcopies_any (l : List Ad) (p : Option Addr) (c : Nat) (q : Nat → Prop) (w : World) (hR : RdA w q (.slice p l.length c) l) (hn : p = none → c = 0) (hc : l.length ≤ c ∧ c ≤ 9223372036854775807) (hm : l.length ≤ 1000) (hs : ∀ A ∈ l, A.L.length ≤ 1000 ∧ A.C.length ≤ 1000) :
    Calls Try.prog 59 #[.slice p l.length c] w fun e w' => ∃ (m : List Ad) (v : Value), e = .returned v ∧ m.map fz = l.map fz ∧ OwnD w.heap.size m v w' ∧ w.grownBy w' none := by
  have HR := Lib.hid hR
  have HS := Lib.hid hs
  clear hR hs
  go_enter Try.func59, Try.ntmps59
  go_wp2_with fail
  refine (dclA_any l p c q w HR.out.row hn hc hm).mono ?_
  rintro e w1 ⟨v, rfl, hown, hg⟩
  have K : Hid (CW w l v 0 l w1) := Lib.hid ⟨hown, rfl, rfl, fun A hA => by simp at hA, fun A hA => ⟨(HR.out.old.ok A hA).keep hg, HR.out.nl A hA⟩, hg⟩
  obtain ⟨p1, c1, rfl, hc1, hc2⟩ := own_shape hown
  clear hown hg HR hn hc
  obtain ⟨N, hN⟩ : ∃ N, l.length = N := ⟨_, rfl⟩
  rw [hN] at K hm hc1 ⊢
  have HN := Lib.hid hN
  clear hN
  go_wp2_with fail
  go_loopw [9] (fun x wr => ∃ (k : Nat) (m : List Ad), k ≤ N ∧ x = .int .i64 (k : Int) ∧ Hid (CW w l (.slice p1 N c1) k m wr)) (fun x _ => N - (RowKit.intOf x).toNat)
  case atStart => exact ⟨0, l, Nat.zero_le _, rfl, K⟩
  case round =>
  obtain ⟨k, m, hk, rfl, K2⟩ := hrel
  clear K
  by_cases hlt : k < N
  · obtain ⟨g, cap, e, -, -⟩ := K2.out.own.form (by rw [HN.out]; omega)
    injection e with e1 e2 e3
    subst e1 e3
    clear e2
    obtain ⟨A, hA⟩ : ∃ A, m[k]? = some A := ⟨_, List.getElem?_eq_getElem (by rw [K2.out.len, HN.out]; exact hlt)⟩
    have HA := Lib.hid hA
    have hrd : RdF wr (w.heap.size ≤ ·) (.slice (some ⟨g, 0, none⟩) N c1) m.length (m.flatMap adL) := by
      have := rdf_of_own K2.out.own
      rw [K2.out.len]
      exact this
    obtain ⟨-, b, off, hbo, -, hcl⟩ := RdF.cells (f := adL) (k := 5) adL_len (by decide) hrd (by rw [K2.out.len, HN.out]; omega)
    injection hbo with hbo
    injection hbo with hb1 hb2
    subst hb1 hb2
    have a0 : wr.cell? ⟨g, 0 + k * 5, none⟩ = some (.int .i64 A.r) := hcl k A hA 0 _ rfl
    have a1 : wr.cell? ⟨g, 0 + k * 5 + 1, none⟩ = some (.int .i64 A.q) := hcl k A hA 1 _ rfl
    have a2 : wr.cell? ⟨g, 0 + k * 5 + 2, none⟩ = some (.bool A.cp) := hcl k A hA 2 _ rfl
    have a3 : wr.cell? ⟨g, 0 + k * 5 + 3, none⟩ = some (.slice A.pL A.L.length A.cL) := hcl k A hA 3 _ rfl
    have a4 : wr.cell? ⟨g, 0 + k * 5 + 4, none⟩ = some (.slice A.pC A.C.length A.cC) := hcl k A hA 4 _ rfl
    rw [Nat.zero_add] at a0 a1 a2 a3 a4
    have gal := World.grownBy_alloc wr (.cells #[.int .i64 A.r, .int .i64 A.q, .bool A.cp, .slice A.pL A.L.length A.cL, .slice A.pC A.C.length A.cC] 38) none
    have K3 := Lib.hid (And.intro (K2.out.keep gal) (heap_alloc_new wr (.cells #[.int .i64 A.r, .int .i64 A.q, .bool A.cp, .slice A.pL A.L.length A.cL, .slice A.pC A.C.length A.cC] 38)))
    clear hA gal K2 hrd hcl
    go_upto_region 5 with fail
    clear a0 a1 a2 a3 a4
    generalize wr.alloc _ = wy at *
    obtain ⟨d0, d1, d2, d3, d4⟩ := row5 K3.out.2
    obtain ⟨B, hB1, hB2⟩ := fz_mem K3.out.1.fe (List.mem_of_getElem? HA.out)
    have hsz : A.L.length ≤ 1000 ∧ A.C.length ≤ 1000 := by
      have := HS.out B hB1
      rw [(fz_L hB2).1, (fz_L hB2).2] at this
      exact this
    have hmem : A ∈ m.drop k := by rw [dropA_at HA.out]; exact List.mem_cons_self
    go_wp2_with fail
    refine (dcopied_any A _ wy (K3.out.1.old A hmem).1 (K3.out.1.old A hmem).2 hsz).mono ?_
    rintro e w2 ⟨pL, cL, pC, cC, rfl, hok, hnl, hg⟩
    have K4 := Lib.hid (K3.out.1.keep hg)
    have hgl : g < wy.heap.size := (K3.out.1.own.lt g rfl).2
    have hgw : w.heap.size ≤ g := (K3.out.1.own.lt g rfl).1
    have hkl : k < m.length := (List.getElem?_eq_some_iff.1 HA.out).1
    have hown4 : w2.ownsRow w.heap.size 38 5 (.slice (some ⟨g, 0, none⟩) N c1) N (m.flatMap adL) := by
      have := K4.out.own
      rw [HN.out] at this
      exact this
    obtain ⟨s1, s2⟩ := own_set5 ⟨A.r, A.q, A.cp, A.L, A.C, pL, cL, pC, cC⟩ hown4 hkl
    dsimp only at s1 s2
    have HK := Lib.hid (K4.out.put (B := ⟨A.r, A.q, A.cp, A.L, A.C, pL, cL, pC, cC⟩) HA.out rfl (by rw [HN.out]; exact s1) s2 (hok.and.mono (fun b hb => ⟨by have := hb.1; omega, hb.2, fun e => by have h9 : g = b := Option.some.inj e; have := hb.1; omega⟩)) hnl)
    have f0 := own_cellOk hown4 (k * 5) (by omega)
    have f1 := own_cellOk hown4 (k * 5 + 1) (by omega)
    have f2 := own_cellOk hown4 (k * 5 + 2) (by omega)
    have f3 := own_cellOk hown4 (k * 5 + 3) (by omega)
    have f4 := own_cellOk hown4 (k * 5 + 4) (by omega)
    obtain ⟨x0, g0⟩ := Option.isSome_iff_exists.1 f0.1
    obtain ⟨x1, g1⟩ := Option.isSome_iff_exists.1 f1.1
    obtain ⟨x2, g2⟩ := Option.isSome_iff_exists.1 f2.1
    obtain ⟨x3, g3⟩ := Option.isSome_iff_exists.1 f3.1
    obtain ⟨x4, g4⟩ := Option.isSome_iff_exists.1 f4.1
    replace f0 := f0.2
    replace f1 := f1.2
    replace f2 := f2.2
    replace f3 := f3.2
    replace f4 := f4.2
    clear hown4 s1 s2 hok hnl hg hgl hgw hkl K3 K4 d0 d1 d2 d3 d4 hmem hsz hB1 hB2
    go_wp2_with fail
    exact ⟨⟨k + 1, _, by omega, congrArg _ (by omega), HK⟩, by simp only [RowKit.intOf]; omega⟩
  · obtain rfl : k = N := by omega
    have HF : Hid (OwnD w.heap.size m (.slice p1 k c1) wr) := Lib.hid (by
      have h := K2.out
      have e := HN.out
      subst e
      exact h.fin)
    have HG := Lib.hid (And.intro K2.out.fe K2.out.gr)
    clear K2
    go_wp2_with fail
    go_ret
    exact ⟨m, _, rfl, HG.out.1, HF.out, HG.out.2⟩
end Go.Proofs.Ytnpkihioklpnmaa
