/- Parts of the proof, packed: DbAwk, DbRs, DbCkM, DbRCl, DbRWi, AdNwM, IoOwnR, IoOwnA, AdROw, AdREn, AdRNw, DbRPu, DbMrg, DbRMg, DbMgM. -/
import Derived.Test.YtnpkihioklpnmaaVw8
import Derived.Test.YtnpkihioklpnmaaVw10
import Derived.Test.YtnpkihioklpnmaaVw11
import Derived.Test.YtnpkihioklpnmaaVw13
import Derived.Test.YtnpkihioklpnmaaVw14
import Derived.Test.YtnpkihioklpnmaaVw4
import Derived.BigQuiet
import Derived.Sort.Walk0
import Derived.Test.YtnpkihioklpnmaaVw5
import Derived.Deep.CutBlock
import Derived.Deep.CutRange
import Derived.Laws.Cover1
import Derived.Test.YtnpkihioklpnmaaVw6
/- The laws of databases: the example. -/
namespace Go.Proofs.Ytnpkihioklpnmaa
open Go.RowKit Bs
set_option maxRecDepth 100000 in
theorem rdf_rowD {w : World} {g : Nat} {t : TypeId} {n c : Nat} {xs : List Value} (h : w.heap[g]? = some (.cells xs.toArray t (0, 0))) : RdF w (· = g) (.slice (some ⟨g, 0, none⟩) n c) n xs :=
  ⟨some ⟨g, 0, none⟩, c, rfl, fun _ => ⟨g, 0, rfl, rfl, fun i x hi => by
    rw [cell_of_row _ _ _ _ _ _ h, Nat.zero_add]
    simpa using hi⟩⟩
def xD (p1 p2 : Option Addr) : List Ad := [⟨1, 1, false, [⟨2, 1, 0⟩, ⟨3, 1, 0⟩], [], p1, 2, none, 0⟩, ⟨2, 1, false, [⟨1, 4, 0⟩], [], p2, 1, none, 0⟩, ⟨3, 1, false, [], [], none, 0, none, 0⟩]
set_option maxRecDepth 100000 in
theorem xD_chk (p1 p2 : Option Addr) : chkD (xD p1 p2) = 0 := by kernel_rfl
set_option maxRecDepth 100000 in
theorem xD_view (p1 p2 : Option Addr) : viewV (xD p1 p2) 1 = ([⟨1, false⟩, ⟨2, false⟩], [⟨1, 2, 1, 4, 0⟩]) := by kernel_rfl
/-- The example in memory. -/
structure XM (w : World) (wb : World) : Prop where
  box : wb.heap[w.heap.size + 1 + 1 + 1]? = some (.cells #[.slice (some ⟨w.heap.size + 1 + 1, 0, none⟩) 3 3] 25 (0, 0))
  r : RdA wb (fun _ => True) (.slice (some ⟨w.heap.size + 1 + 1, 0, none⟩) 3 3) (xD (some ⟨w.heap.size, 0, none⟩) (some ⟨w.heap.size + 1, 0, none⟩))
  gr : w.grownBy wb none
set_option maxRecDepth 100000 in
theorem XM.keep {w wb w1 : World} (h : XM w wb) (g : wb.grownBy w1 none) : XM w w1 := ⟨kept_row h.box g (by simp), h.r.keep g, grown_trans h.gr g⟩
set_option maxRecDepth 100000 in
theorem xm_start (w : World) : XM w ((((w.alloc (.cells #[.int .i64 2, .int .i64 1, .int .i64 0, .int .i64 3, .int .i64 1, .int .i64 0] 73)).alloc (.cells #[.int .i64 1, .int .i64 4, .int .i64 0] 73)).alloc (.cells #[.int .i64 1, .int .i64 1, .bool false, .slice (some ⟨w.heap.size, 0, none⟩) 2 2, .slice none 0 0, .int .i64 2, .int .i64 1, .bool false, .slice (some ⟨w.heap.size + 1, 0, none⟩) 1 1, .slice none 0 0, .int .i64 3, .int .i64 1, .bool false, .slice none 0 0, .slice none 0 0] 38)).alloc (.cells #[.slice (some ⟨w.heap.size + 1 + 1, 0, none⟩) 3 3] 25)) := by
  obtain ⟨k1, k2, k3, k4⟩ := two_boxes w #[.int .i64 2, .int .i64 1, .int .i64 0, .int .i64 3, .int .i64 1, .int .i64 0] #[.int .i64 1, .int .i64 4, .int .i64 0] 73 73
  obtain ⟨wb, hwb⟩ : ∃ wb, wb = (w.alloc (.cells #[.int .i64 2, .int .i64 1, .int .i64 0, .int .i64 3, .int .i64 1, .int .i64 0] 73)).alloc (.cells #[.int .i64 1, .int .i64 4, .int .i64 0] 73) := ⟨_, rfl⟩
  rw [← hwb] at k1 k2 k3 k4 ⊢
  obtain ⟨j1, j2, j3, j4⟩ := two_boxes wb #[.int .i64 1, .int .i64 1, .bool false, .slice (some ⟨w.heap.size, 0, none⟩) 2 2, .slice none 0 0, .int .i64 2, .int .i64 1, .bool false, .slice (some ⟨w.heap.size + 1, 0, none⟩) 1 1, .slice none 0 0, .int .i64 3, .int .i64 1, .bool false, .slice none 0 0, .slice none 0 0] #[.slice (some ⟨w.heap.size + 1 + 1, 0, none⟩) 3 3] 38 25
  rw [k4] at j1 j2
  have a1 := kept_row k1 j3 (by simp)
  have a2 := kept_row k2 j3 (by simp)
  refine ⟨j2, ⟨(rdf_rowD (xs := (xD (some ⟨w.heap.size, 0, none⟩) (some ⟨w.heap.size + 1, 0, none⟩)).flatMap adL) j1).mono (fun _ _ => trivial), fun A hA => ?_, fun A hA => ?_⟩, grown_trans k3 j3⟩
  · simp only [xD, List.mem_cons, List.not_mem_nil, or_false] at hA
    rcases hA with rfl | rfl | rfl
    · exact ⟨(rdf_rowD (xs := [(⟨2, 1, 0⟩ : T3), ⟨3, 1, 0⟩].flatMap t3C) a1).mono (fun _ _ => trivial), ⟨none, 0, rfl, fun h => absurd rfl h⟩, ⟨Nat.le_refl 2, by show (2 : Nat) ≤ _; decide⟩, ⟨Nat.le_refl 0, by show (0 : Nat) ≤ _; decide⟩⟩
    · exact ⟨(rdf_rowD (xs := [(⟨1, 4, 0⟩ : T3)].flatMap t3C) a2).mono (fun _ _ => trivial), ⟨none, 0, rfl, fun h => absurd rfl h⟩, ⟨Nat.le_refl 1, by show (1 : Nat) ≤ _; decide⟩, ⟨Nat.le_refl 0, by show (0 : Nat) ≤ _; decide⟩⟩
    · exact ⟨⟨none, 0, rfl, fun h => absurd rfl h⟩, ⟨none, 0, rfl, fun h => absurd rfl h⟩, ⟨Nat.le_refl 0, by show (0 : Nat) ≤ _; decide⟩, ⟨Nat.le_refl 0, by show (0 : Nat) ≤ _; decide⟩⟩
  · simp only [xD, List.mem_cons, List.not_mem_nil, or_false] at hA
    rcases hA with rfl | rfl | rfl
    · exact ⟨fun h => (by cases h), fun _ => rfl⟩
    · exact ⟨fun h => (by cases h), fun _ => rfl⟩
    · exact ⟨fun _ => rfl, fun _ => rfl⟩
set_option maxRecDepth 100000 in
set_option maxHeartbeats 3200000 in
theorem dawake_any (w : World) : Calls Try.prog 22 #[] w fun e w' => e = .returned (.bool true) ∧ w.grownBy w' none := by
  have H0 := Lib.hid (xm_start w)
  go_enter Try.func22, Try.ntmps22
  go_upto_region 2 with fail
  generalize World.alloc (((w.alloc _).alloc _).alloc _) _ = wb at *
  have c0 : wb.cell? ⟨w.heap.size + 1 + 1 + 1, 0, none⟩ = some (.slice (some ⟨w.heap.size + 1 + 1, 0, none⟩) 3 3) := cell_of_row _ _ _ _ _ _ H0.out.box
  go_wp2_with fail
  refine (dview_any (xD (some ⟨w.heap.size, 0, none⟩) (some ⟨w.heap.size + 1, 0, none⟩)) 1 (some ⟨w.heap.size + 1 + 1, 0, none⟩) 3 _ wb H0.out.r (show 3 ≤ 9223372036854775807 by decide)).mono ?_
  rintro e w1 ⟨⟨R, L, pR, cR, pL, cL⟩, rfl, hv, hT, hg⟩
  rw [xD_view] at hv
  injection hv with e1 e2
  simp only at e1 e2
  subst e1 e2
  have gal := World.grownBy_alloc w1 (.cells #[.slice pR 2 cR, .slice pL 1 cL] 59) none
  have H1 := Lib.hid (And.intro (H0.out.keep (grown_trans hg gal)) (And.intro (heap_alloc_new w1 (.cells #[.slice pR 2 cR, .slice pL 1 cL] 59)) (hT.keep gal)))
  clear hT hg gal H0 c0
  go_upto_region 3 with fail
  generalize w1.alloc _ = w2 at *
  have c0 : w2.cell? ⟨w.heap.size + 1 + 1 + 1, 0, none⟩ = some (.slice (some ⟨w.heap.size + 1 + 1, 0, none⟩) 3 3) := cell_of_row _ _ _ _ _ _ H1.out.1.box
  go_wp2_with fail
  refine (dcheck_any (xD (some ⟨w.heap.size, 0, none⟩) (some ⟨w.heap.size + 1, 0, none⟩)) (some ⟨w.heap.size + 1 + 1, 0, none⟩) 3 _ w2 H1.out.1.r (show 3 ≤ 9223372036854775807 by decide)).mono ?_
  rw [xD_chk]
  rintro e w3 ⟨rfl, hg⟩
  have H2 := Lib.hid (And.intro (kept_row H1.out.2.1 hg (by simp)) (And.intro (grown_trans H1.out.1.gr hg) (H1.out.2.2.keep hg)))
  clear hg H1 c0
  obtain ⟨b0, b1⟩ := row_cells H2.out.1
  obtain ⟨-, b, off, rfl, -, hc⟩ := RdF.cells (f := lkC) (k := 5) (fun _ => rfl) (by decide) H2.out.2.2.l (show 0 < 1 by decide)
  have l0 := hc 0 ⟨1, 2, 1, 4, 0⟩ rfl 0 _ rfl
  have l1 := hc 0 ⟨1, 2, 1, 4, 0⟩ rfl 1 _ rfl
  have l2 := hc 0 ⟨1, 2, 1, 4, 0⟩ rfl 2 _ rfl
  have l3 := hc 0 ⟨1, 2, 1, 4, 0⟩ rfl 3 _ rfl
  have l4 := hc 0 ⟨1, 2, 1, 4, 0⟩ rfl 4 _ rfl
  simp only [Nat.zero_mul, Nat.add_zero] at l0 l1 l2 l3 l4
  clear hc
  go_wp2_with fail
  go_ret
  exact ⟨rfl, H2.out.2.1⟩
end Go.Proofs.Ytnpkihioklpnmaa

/- The reference's Same of databases. -/
namespace Go.Proofs.Ytnpkihioklpnmaa
open Go.RowKit Bs
end Go.Proofs.Ytnpkihioklpnmaa

/- The law DatabaseChecks: what memory holds. -/
namespace Go.Proofs.Ytnpkihioklpnmaa
open Go.RowKit Bs
/-- A database as it lies in memory. -/
structure Dv where
  l : List Ad
  p : Option Addr
  c : Nat
structure Dv.Sm (x : Dv) : Prop where
  n : x.l.length ≤ 120
  s : ∀ A ∈ x.l, A.L.length ≤ 60 ∧ A.C.length ≤ 60
/-- Databases while the tape makes more of them; raw lies in a box of the call's. -/
structure LW (W : World) (a : Nat) (raw : Dv) (X : List Dv) (w : World) : Prop where
  ok : ∀ x ∈ X, RdA w (· ≠ a) (.slice x.p x.l.length x.c) x.l
  bx : w.heap[W.heap.size]? = some (.cells #[.slice raw.p raw.l.length raw.c] 25 (0, 0))
  gr : W.grownBy w none
  tp : Tp w a
  al : W.heap.size < a
section
variable {W w w1 : World} {a : Nat} {raw : Dv} {X : List Dv}
set_option maxRecDepth 100000 in
theorem LW.keep (h : LW W a raw X w) (g : w.grownBy w1 none) : LW W a raw X w1 := ⟨fun x hx => (h.ok x hx).keep g, kept_row h.bx g (by simp), grown_trans h.gr g, h.tp.keep g, h.al⟩
set_option maxRecDepth 100000 in
theorem LW.tape (h : LW W a raw X w) (k : St a w w1) : LW W a raw X w1 := by
  have hal := h.al
  exact ⟨fun x hx => (h.ok x hx).grown k.1 (fun _ hb e => hb (Option.some.inj e)), kept_row h.bx k.1 (fun e => by have := Option.some.inj e; omega), grown_new h.gr k.1 (by omega), k.2, h.al⟩
set_option maxRecDepth 100000 in
theorem LW.add (h : LW W a raw X w) (k : St a w w1) {x : Dv} (hx : RdA w1 (w.heap.size ≤ ·) (.slice x.p x.l.length x.c) x.l) : LW W a raw (X ++ [x]) w1 := by
  have h1 := h.tape k
  have hlt := h.tp.lt
  refine ⟨fun y hy => ?_, h1.bx, h1.gr, h1.tp, h1.al⟩
  rcases List.mem_append.1 hy with hy | hy
  · exact h1.ok y hy
  · rw [List.mem_singleton] at hy; subst hy; exact hx.mono fun b hb => by omega
set_option maxRecDepth 100000 in
theorem LW.e0 (h : LW W a raw X w) : w.cell? ⟨W.heap.size, 0, none⟩ = some (.slice raw.p raw.l.length raw.c) := cell_of_row _ _ _ _ _ _ h.bx
end
/-- Databases in a row in block D. -/
structure OW (W : World) (a D : Nat) (raw : Dv) (X : List Dv) (w : World) : Prop where
  b : LW W a raw X w
  row : ∀ (i : Nat) (x : Dv), X[i]? = some x → w.cell? ⟨D, i, none⟩ = some (.slice x.p x.l.length x.c)
  dl : D ≠ a ∧ D < w.heap.size
section
variable {W w w1 : World} {a D E : Nat} {raw : Dv} {X : List Dv} {R : List Int}
set_option maxRecDepth 100000 in
theorem OW.keep (h : OW W a D raw X w) (g : w.grownBy w1 none) : OW W a D raw X w1 := ⟨h.b.keep g, fun i x hx => g.cell (h.row i x hx) (by simp), h.dl.1, Nat.lt_of_lt_of_le h.dl.2 g.size⟩
set_option maxRecDepth 100000 in
theorem OW.tape (h : OW W a D raw X w) (k : St a w w1) : OW W a D raw X w1 := ⟨h.b.tape k, fun i x hx => k.1.cell (h.row i x hx) (fun e => h.dl.1 (Option.some.inj e)), h.dl.1, Nat.lt_of_lt_of_le h.dl.2 k.1.size⟩
set_option maxRecDepth 100000 in
theorem OW.start {x y : Dv} (h : LW W a raw ([raw] ++ [x] ++ [y]) w) : OW W a w.heap.size raw [x, y, raw] (w.alloc (.cells #[.slice x.p x.l.length x.c, .slice y.p y.l.length y.c, .slice raw.p raw.l.length raw.c] 25)) := by
  have g := World.grownBy_alloc w (.cells #[.slice x.p x.l.length x.c, .slice y.p y.l.length y.c, .slice raw.p raw.l.length raw.c] 25) none
  have hb := heap_alloc_new w (.cells #[.slice x.p x.l.length x.c, .slice y.p y.l.length y.c, .slice raw.p raw.l.length raw.c] 25)
  have h1 := h.keep g
  have hlt := h.tp.lt
  refine ⟨⟨fun z hz => h1.ok z ?_, h1.bx, h1.gr, h1.tp, h1.al⟩, fun i z hz => ?_, by omega, World.lt_of_row' hb⟩
  · simp only [List.mem_cons, List.not_mem_nil, or_false] at hz
    rcases hz with rfl | rfl | rfl <;> simp
  · rw [cell_of_row _ _ _ _ _ _ hb]
    match i, hz with
    | 0, hz => cases hz; rfl
    | 1, hz => cases hz; rfl
    | 2, hz => cases hz; rfl
end
/-- A box for an advert has come since w. -/
structure NA (w : World) (b : Nat) (wr : World) : Prop where
  ab : wr.heap[b]? = some (.cells #[.int .i64 0, .int .i64 0, .bool false, .slice none 0 0, .slice none 0 0] 38 (0, 0))
  lo : w.heap.size ≤ b
set_option maxRecDepth 100000 in
theorem NA.keep {w w1 w2 : World} {b : Nat} (h : NA w b w1) (g : w1.grownBy w2 none) : NA w b w2 := ⟨kept_row h.ab g (by simp), h.lo⟩
/-- An advert that was found lies in a box. -/
structure FA (w : World) (l : List Ad) (r : Int) (b : Nat) (A : Ad) (wr : World) : Prop where
  ab : wr.heap[b]? = some (.cells #[.int .i64 A.r, .int .i64 A.q, .bool A.cp, .slice A.pL A.L.length A.cL, .slice A.pC A.C.length A.cC] 38 (0, 0))
  sm : A.r = ((fndA l r).getD zAd).r ∧ A.q = ((fndA l r).getD zAd).q ∧ A.cp = ((fndA l r).getD zAd).cp ∧ A.L = ((fndA l r).getD zAd).L ∧ A.C = ((fndA l r).getD zAd).C
  ok : ∃ q, AdOk wr q A
  gr : w.grownBy wr none
set_option maxRecDepth 100000 in
theorem FA.keep {w w1 w2 : World} {l : List Ad} {r : Int} {b : Nat} {A : Ad} (h : FA w l r b A w1) (g : w1.grownBy w2 none) : FA w l r b A w2 := by
  obtain ⟨q, hq⟩ := h.ok
  exact ⟨kept_row h.ab g (by simp), h.sm, ⟨q, hq.keep g⟩, grown_trans h.gr g⟩
end Go.Proofs.Ytnpkihioklpnmaa

/- The reference's Claims. -/
namespace Go.Proofs.Ytnpkihioklpnmaa
open Go.RowKit Bs
def fdA (l : List Ad) (t : Rt) : Ad := (fndA l t.id).getD zAd
set_option maxRecDepth 100000 in
theorem clT_fd (l : List Ad) (t : Rt) : clT l t = if (fdA l t).cp = true then clA (fdA l t) else [] := by
  unfold clT fdA
  cases fndA l t.id <;> rfl
set_option maxRecDepth 100000 in
theorem fd_c8 {l : List Ad} {r : Int} {t : Rt} (h : t ∈ (viewV l r).1) : (fdA l t).C.length ≤ 8 := by
  rcases view_cases l r with h1 | ⟨h1, -, -⟩
  · rw [h1] at h; cases h
  · unfold fdA
    cases hf : fndA l t.id with
    | none => show (0 : Nat) ≤ 8; omega
    | some A => exact vAd_cl ((okD_OkD h1).v A (fndA_some hf).1)
set_option maxRecDepth 100000 in
theorem clT_take {l : List Ad} {R : List Rt} {i : Nat} {t : Rt} (h : R[i]? = some t) : (R.take (i + 1)).flatMap (clT l) = (R.take i).flatMap (clT l) ++ clT l t := by
  rw [List.take_add_one, h, List.flatMap_append]
  show _ ++ (clT l t ++ []) = _
  rw [List.append_nil]
set_option maxRecDepth 100000 in
theorem nac_start {w w1 : World} (g : w.grownBy w1 none) : ∀ b, b = w1.heap.size → NA w b (w1.alloc (.cells #[.int .i64 0, .int .i64 0, .bool false, .slice none 0 0, .slice none 0 0] 38)) := by
  rintro b rfl
  exact ⟨heap_alloc_new _ _, g.size⟩
/-- An advert in a box of its own; its lists in old memory. -/
structure AX (W : World) (b : Nat) (r : Int) (cp : Bool) (Cl : List T3) (A : Ad) (w : World) : Prop where
  bx : w.heap[b]? = some (.cells #[.int .i64 A.r, .int .i64 A.q, .bool A.cp, .slice A.pL A.L.length A.cL, .slice A.pC A.C.length A.cC] 38 (0, 0))
  ok : AdOk w (· < W.heap.size) A
  f : A.r = r ∧ A.cp = cp ∧ A.C = Cl
set_option maxRecDepth 100000 in
theorem AX.keep {W w w1 : World} {b : Nat} {r : Int} {cp : Bool} {Cl : List T3} {A : Ad} (h : AX W b r cp Cl A w) (g : w.grownBy w1 none) : AX W b r cp Cl A w1 := ⟨kept_row h.bx g (by simp), h.ok.keep g, h.f⟩
set_option maxRecDepth 100000 in
theorem AX.row {W w w1 : World} {b : Nat} {r : Int} {cp : Bool} {Cl : List T3} {A : Ad} {o : Option Nat} (h : AX W b r cp Cl A w) (g : w.grownBy w1 o) (hb : some b ≠ o) (ho : ∀ x, o = some x → W.heap.size ≤ x) : AX W b r cp Cl A w1 := ⟨kept_row h.bx g hb, h.ok.grown g (fun x hx e => by have := ho x e.symm; omega), h.f⟩
set_option maxRecDepth 100000 in
theorem rdr_at2 {w : World} {q : Nat → Prop} {b off n c k : Nat} {R : List Rt} {t : Rt} (h : RdR w q (.slice (some ⟨b, off, none⟩) n c) R) (hx : R[k]? = some t) : w.cell? ⟨b, off + k * 2, none⟩ = some (.int .i64 t.id) ∧ w.cell? ⟨b, off + k * 2 + 1, none⟩ = some (.bool t.cap) := by
  obtain ⟨-, b', o', e, -, hc⟩ := rdr_cells h (by have := (List.getElem?_eq_some_iff.1 hx).1; omega)
  injection e with e
  injection e with e1 e2
  subst e1
  subst e2
  exact hc k t hx
set_option maxRecDepth 100000 in
set_option maxHeartbeats 12800000 in
theorem rclaims_any (l : List Ad) (r : Int) (p : Option Addr) (c : Nat) (q : Nat → Prop) (w : World) (hR : RdA w q (.slice p l.length c) l) (hm : l.length ≤ 900) :
    Calls Try.prog 32 #[.agg #[.slice p l.length c], .int .i64 r] w fun e w' => ClPost l r w e w' := by
  obtain ⟨io, hio, ho0, ho1, ho2⟩ := info_parts info_ow
  obtain ⟨k1, k2⟩ := tone_box w #[.slice p l.length c] 25
  have H0 := Lib.hid (And.intro k1 (And.intro k2 ((RdA.old hR).keep k2)))
  clear k1 k2 hR
  go_enter Try.func32, Try.ntmps32
  go_upto_region 1 with fail
  generalize w.alloc _ = wa at *
  have c0 := cell_of_row _ _ 0 _ _ _ H0.out.1
  go_wp2_with fail
  refine (rview_any l r p c _ wa H0.out.2.2 (by omega)).mono ?_
  rintro e w1 ⟨T, rfl, hv, hok, hg⟩
  have K0 := Lib.hid (cg_start (H0.out.2.2.keep hg) (kept_row H0.out.1 hg (by simp)) hok (grown_trans H0.out.2.1 hg))
  have hTR : T.R = (viewV l r).1 := congrArg Prod.fst hv
  have HT := Lib.hid hTR
  have HTL : T.R.length ≤ 900 := by
    rw [hTR]
    rcases view_cases l r with h1 | ⟨-, h2, -⟩
    · rw [h1]; simp
    · rw [h2]
      show (vwR l (reS l r)).length ≤ _
      unfold vwR
      rw [List.length_map]
      have := List.length_filter_le (inV (reS l r)) l
      omega
  clear hv hok hg H0 c0 hTR
  go_upto_region 2 with fail
  generalize hw : w1.alloc _ = w2 at *
  generalize w1.heap.size = Bx at *
  clear hw w1
  go_wp2_with fail
  go_loopw [6, 7] (fun v x wr => ∃ (i : Nat) (out : List Ow), i ≤ T.R.length ∧ x = .int .i64 (i : Int) ∧ out.length ≤ 8 * i ∧ Hid ((T.R.take i).flatMap (clT l) = out) ∧ Hid (CG w l p c (Bx + 1) Bx T v out wr)) (fun _ x _ => T.R.length - (RowKit.intOf x).toNat)
  case atStart => exact ⟨0, [], Nat.zero_le _, rfl, Nat.le_refl _, Lib.hid rfl, K0⟩
  case round =>
  obtain ⟨i, out, hi, rfl, hol, HI, K⟩ := hrel
  clear K0
  obtain ⟨wq, hwq⟩ : ∃ wq, wq = wr := ⟨_, rfl⟩
  rw [← hwq] at K ⊢
  clear hwq
  obtain ⟨po, co, rfl, -, -⟩ := own_shape K.out.own
  obtain ⟨t0, t1⟩ := row_cells K.out.t
  by_cases hlt : i < T.R.length
  · obtain ⟨-, g1, o1, e1, -, -⟩ := rdr_cells K.out.tg.r (by omega)
    obtain ⟨t, ht⟩ : ∃ t, T.R[i]? = some t := ⟨_, List.getElem?_eq_getElem hlt⟩
    have HTT := Lib.hid ht
    have HCT := Lib.hid (clT_take (l := l) ht)
    have hc8 : (fdA l t).C.length ≤ 8 := fd_c8 (r := r) (by rw [← HT.out]; exact List.mem_of_getElem? ht)
    clear ht
    have HE1 := Lib.hid e1
    clear e1
    have hOB : ∀ b, (Value.slice po out.length co).ownBlock = some b → b < wq.heap.size := fun b hb => (K.out.own.lt b hb).2
    have HOB := Lib.hid hOB
    clear hOB
    go_upto_region 6 with fail
    clear t0 t1
    go_cut [8, 9] from 21 to 31 (fun u _ wx => ∃ (b : Nat) (A1 : Ad), u = .pointer (some ⟨b, 0, none⟩) ∧ wq.heap.size ≤ b ∧ Hid (AX w b (fdA l t).r (fdA l t).cp (fdA l t).C A1 wx ∧ wq.grownBy wx none))
    case first =>
      have HD := Lib.hid (grown_drew (grown_refl wq none))
      refine wp_region_held_drew (S := fun w' => Hid (wq.grownBy w' none)) (by kernel_rfl) (HD) (fun hHeld => ?_)
      generalize hwd : wq.drew = wd at *
      clear hwd
      refine wpAnyH_take (i := 0) (oi := { dst := some 22, op := Op.load 25 (Operand.tmp 2), type := 25, pos := "ref.go:155", after := #[], guard := none }) (v := ?_) rfl (by kernel_rfl) (by kernel_rfl) (by kernel_rfl) (fun _ _ _ h => h) (Or.inl ⟨by rfl, ?_⟩) hHeld ?_
      rotate_left 1
      · intro u hSu
        have hO := K.out.keep hSu.out
        have c0 := cell_of_row _ _ 0 _ _ _ hO.d
        obtain ⟨t0, t1⟩ := row_cells hO.t
        have hrr := hO.tg.r
        rw [HE1.out] at hrr t0
        obtain ⟨r0, r1⟩ := rdr_at2 hrr HTT.out
        go_simp
        first | done | with_reducible rfl
      (try simp only [Act.put, List.setIfInBounds_toArray, List.set_cons_zero, List.set_cons_succ])
      refine wpAnyH_take (i := 1) (oi := { dst := some 23, op := Op.fieldAddr 59 (Operand.tmp 5) 0, type := 0, pos := "ref.go:155", after := #[], guard := none }) (v := ?_) rfl (by kernel_rfl) (by kernel_rfl) (by kernel_rfl) (fun _ _ _ h => h) (Or.inl ⟨by rfl, ?_⟩) hHeld ?_
      rotate_left 1
      · intro u hSu
        have hO := K.out.keep hSu.out
        have c0 := cell_of_row _ _ 0 _ _ _ hO.d
        obtain ⟨t0, t1⟩ := row_cells hO.t
        have hrr := hO.tg.r
        rw [HE1.out] at hrr t0
        obtain ⟨r0, r1⟩ := rdr_at2 hrr HTT.out
        go_simp
        first | done | with_reducible rfl
      (try simp only [Act.put, List.setIfInBounds_toArray, List.set_cons_zero, List.set_cons_succ])
      refine wpAnyH_take (i := 2) (oi := { dst := some 24, op := Op.load 56 (Operand.tmp 23), type := 56, pos := "ref.go:155", after := #[{ on := 1, ground := Ground.data }], guard := none }) (v := ?_) rfl (by kernel_rfl) (by kernel_rfl) (by kernel_rfl) (fun _ _ _ h => h) (Or.inl ⟨by rfl, ?_⟩) hHeld ?_
      rotate_left 1
      · intro u hSu
        have hO := K.out.keep hSu.out
        have c0 := cell_of_row _ _ 0 _ _ _ hO.d
        obtain ⟨t0, t1⟩ := row_cells hO.t
        have hrr := hO.tg.r
        rw [HE1.out] at hrr t0
        obtain ⟨r0, r1⟩ := rdr_at2 hrr HTT.out
        go_simp
        first | done | with_reducible rfl
      (try simp only [Act.put, List.setIfInBounds_toArray, List.set_cons_zero, List.set_cons_succ])
      refine wpAnyH_take (i := 3) (oi := { dst := some 25, op := Op.move (Operand.tmp 7), type := 3, pos := "ref.go:155", after := #[], guard := none }) (v := ?_) rfl (by kernel_rfl) (by kernel_rfl) (by kernel_rfl) (fun _ _ _ h => h) (Or.inl ⟨by rfl, ?_⟩) hHeld ?_
      rotate_left 1
      · intro u hSu
        have hO := K.out.keep hSu.out
        have c0 := cell_of_row _ _ 0 _ _ _ hO.d
        obtain ⟨t0, t1⟩ := row_cells hO.t
        have hrr := hO.tg.r
        rw [HE1.out] at hrr t0
        obtain ⟨r0, r1⟩ := rdr_at2 hrr HTT.out
        go_simp
        first | done | with_reducible rfl
      (try simp only [Act.put, List.setIfInBounds_toArray, List.set_cons_zero, List.set_cons_succ])
      refine wpAnyH_take (i := 4) (oi := { dst := some 26, op := Op.indexAddr 56 (Operand.tmp 24) (Operand.tmp 25), type := 0, pos := "ref.go:155", after := #[{ on := 2, ground := Ground.data }, { on := 3, ground := Ground.data }], guard := none }) (v := ?_) rfl (by kernel_rfl) (by kernel_rfl) (by kernel_rfl) (fun _ _ _ h => h) (Or.inl ⟨by rfl, ?_⟩) hHeld ?_
      rotate_left 1
      · intro u hSu
        have hO := K.out.keep hSu.out
        have c0 := cell_of_row _ _ 0 _ _ _ hO.d
        obtain ⟨t0, t1⟩ := row_cells hO.t
        have hrr := hO.tg.r
        rw [HE1.out] at hrr t0
        obtain ⟨r0, r1⟩ := rdr_at2 hrr HTT.out
        go_simp
        first | done | with_reducible rfl
      (try simp only [Act.put, List.setIfInBounds_toArray, List.set_cons_zero, List.set_cons_succ])
      refine wpAnyH_take (i := 5) (oi := { dst := some 27, op := Op.fieldAddr 69 (Operand.tmp 26) 0, type := 0, pos := "ref.go:155", after := #[{ on := 4, ground := Ground.data }], guard := none }) (v := ?_) rfl (by kernel_rfl) (by kernel_rfl) (by kernel_rfl) (fun _ _ _ h => h) (Or.inl ⟨by rfl, ?_⟩) hHeld ?_
      rotate_left 1
      · intro u hSu
        have hO := K.out.keep hSu.out
        have c0 := cell_of_row _ _ 0 _ _ _ hO.d
        obtain ⟨t0, t1⟩ := row_cells hO.t
        have hrr := hO.tg.r
        rw [HE1.out] at hrr t0
        obtain ⟨r0, r1⟩ := rdr_at2 hrr HTT.out
        go_simp
        first | done | with_reducible rfl
      (try simp only [Act.put, List.setIfInBounds_toArray, List.set_cons_zero, List.set_cons_succ])
      refine wpAnyH_take (i := 6) (oi := { dst := some 28, op := Op.load 3 (Operand.tmp 27), type := 3, pos := "ref.go:155", after := #[{ on := 5, ground := Ground.data }], guard := none }) (v := ?_) rfl (by kernel_rfl) (by kernel_rfl) (by kernel_rfl) (fun _ _ _ h => h) (Or.inl ⟨by rfl, ?_⟩) hHeld ?_
      rotate_left 1
      · intro u hSu
        have hO := K.out.keep hSu.out
        have c0 := cell_of_row _ _ 0 _ _ _ hO.d
        obtain ⟨t0, t1⟩ := row_cells hO.t
        have hrr := hO.tg.r
        rw [HE1.out] at hrr t0
        obtain ⟨r0, r1⟩ := rdr_at2 hrr HTT.out
        go_simp
        first | done | with_reducible rfl
      (try simp only [Act.put, List.setIfInBounds_toArray, List.set_cons_zero, List.set_cons_succ])
      refine wpAnyH_ready (rs := [7, 11]) (by kernel_rfl) (by simp) ?_
      refine AllReadyH.cons (o := { dst := some 29, op := Op.call { callee := Callee.value (Operand.func 20), args := #[Operand.tmp 22, Operand.tmp 28], argTypes := #[25, 3] }, type := 39, pos := "ref.go:155", after := #[{ on := 0, ground := Ground.data }, { on := 6, ground := Ground.data }], guard := none }) rfl (fun Kz hK => ?_) (AllReadyH.cons (o := { dst := some 8, op := Op.alloc 38, type := 0, pos := "ref.go:155", after := #[], guard := none }) rfl (fun Kz hK => ?_) AllReadyH.nil)
      · go_simp
        go_at_call 20
        refine (rfind_any l t.id p c _ _ ((K.out.keep hHeld.out).db) (by omega)).mono ?_
        rintro e w5 ⟨A1, rfl, hsm, hok, hg⟩
        have HA := Lib.hid (And.intro hsm hok)
        have hHn := Lib.hid (grown_trans hHeld.out hg)
        try replace HS9 := Lib.hid (show ∀ b, b = _ → _ from fun b hb => (HS9.out b hb).keep hg)
        obtain ⟨pz, hpz⟩ : ∃ z, (fndA l t.id).isSome = z := ⟨_, rfl⟩
        rw [hpz]
        clear hg hsm hok hpz
        refine hK.out _ _ (hHn) (fun hH2 => ?_)
        clear hK Kz hHeld
        have hHeld := hH2
        clear hH2
        (try simp only [Act.put, List.setIfInBounds_toArray, List.set_cons_zero, List.set_cons_succ])
        refine wpAnyH_take (i := 8) (oi := { dst := some 21, op := Op.move (Operand.tmp 29), type := 39, pos := "ref.go:155", after := #[{ on := 7, ground := Ground.data }], guard := none }) (v := ?_) rfl (by kernel_rfl) (by kernel_rfl) (by kernel_rfl) (fun _ _ _ h => h) (Or.inl ⟨by rfl, ?_⟩) hHeld ?_
        rotate_left 1
        · intro u hSu
          have hO := K.out.keep hSu.out
          have c0 := cell_of_row _ _ 0 _ _ _ hO.d
          obtain ⟨t0, t1⟩ := row_cells hO.t
          have hrr := hO.tg.r
          rw [HE1.out] at hrr t0
          obtain ⟨r0, r1⟩ := rdr_at2 hrr HTT.out
          go_simp
          first | done | with_reducible rfl
        (try simp only [Act.put, List.setIfInBounds_toArray, List.set_cons_zero, List.set_cons_succ])
        refine wpAnyH_take (i := 9) (oi := { dst := some 30, op := Op.extract (Operand.tmp 21) 0, type := 38, pos := "ref.go:155", after := #[{ on := 8, ground := Ground.data }], guard := none }) (v := ?_) rfl (by kernel_rfl) (by kernel_rfl) (by kernel_rfl) (fun _ _ _ h => h) (Or.inl ⟨by rfl, ?_⟩) hHeld ?_
        rotate_left 1
        · intro u hSu
          have hO := K.out.keep hSu.out
          have c0 := cell_of_row _ _ 0 _ _ _ hO.d
          obtain ⟨t0, t1⟩ := row_cells hO.t
          have hrr := hO.tg.r
          rw [HE1.out] at hrr t0
          obtain ⟨r0, r1⟩ := rdr_at2 hrr HTT.out
          go_simp
          first | done | with_reducible rfl
        (try simp only [Act.put, List.setIfInBounds_toArray, List.set_cons_zero, List.set_cons_succ])
        refine wpAnyH_take (i := 10) (oi := { dst := some 31, op := Op.extract (Operand.tmp 21) 1, type := 4, pos := "ref.go:155", after := #[{ on := 8, ground := Ground.data }, { on := 12, ground := Ground.gcOnly Departure.lateStores }], guard := none }) (v := ?_) rfl (by kernel_rfl) (by kernel_rfl) (by kernel_rfl) (fun _ _ _ h => h) (Or.inl ⟨by rfl, ?_⟩) hHeld ?_
        rotate_left 1
        · intro u hSu
          have hO := K.out.keep hSu.out
          have c0 := cell_of_row _ _ 0 _ _ _ hO.d
          obtain ⟨t0, t1⟩ := row_cells hO.t
          have hrr := hO.tg.r
          rw [HE1.out] at hrr t0
          obtain ⟨r0, r1⟩ := rdr_at2 hrr HTT.out
          go_simp
          first | done | with_reducible rfl
        (try simp only [Act.put, List.setIfInBounds_toArray, List.set_cons_zero, List.set_cons_succ])
        refine wpAnyH_ready (rs := [11]) (by kernel_rfl) (by simp) ?_
        refine AllReadyH.cons (o := { dst := some 8, op := Op.alloc 38, type := 0, pos := "ref.go:155", after := #[], guard := none }) rfl (fun Kz hK => ?_) AllReadyH.nil
        go_simp
        try replace HA := Lib.hid (And.intro HA.out.1 (HA.out.2.keep (World.grownBy_alloc _ (.cells #[.int .i64 0, .int .i64 0, .bool false, .slice none 0 0, .slice none 0 0] 38) none)))
        have HSN := nac_start hHeld.out
        have hHn := Lib.hid (grown_trans hHeld.out (World.grownBy_alloc _ (.cells #[.int .i64 0, .int .i64 0, .bool false, .slice none 0 0, .slice none 0 0] 38) none))
        have HS9 := Lib.hid HSN
        clear HSN
        generalize hwa : World.alloc _ _ = wA at *
        clear hwa
        refine hK.out _ _ (hHn) (fun hH2 => ?_)
        clear hK Kz hHeld
        have hHeld := hH2
        clear hH2
        (try simp only [Act.put, List.setIfInBounds_toArray, List.set_cons_zero, List.set_cons_succ])
        refine wpAnyH_ready (rs := [12]) (by kernel_rfl) (by simp) ?_
        refine AllReadyH.cons (o := { dst := none, op := Op.store 38 (Operand.tmp 8) (Operand.tmp 30), type := 0, pos := "ref.go:155", after := #[{ on := 11, ground := Ground.data }, { on := 9, ground := Ground.data }, { on := 7, ground := Ground.chain }, { on := 0, ground := Ground.phase }, { on := 1, ground := Ground.phase }, { on := 2, ground := Ground.phase }, { on := 3, ground := Ground.phase }, { on := 4, ground := Ground.phase }, { on := 5, ground := Ground.phase }, { on := 6, ground := Ground.phase }, { on := 7, ground := Ground.phase }, { on := 8, ground := Ground.phase }, { on := 9, ground := Ground.phase }, { on := 10, ground := Ground.textOnly Departure.lateStores }, { on := 11, ground := Ground.phase }], guard := none }) rfl (fun Kz hK => ?_) AllReadyH.nil
        have hna := HS9.out _ rfl
        obtain ⟨k0, k1, k2, k3, k4⟩ := row5 hna.ab
        have f0 := frozen_of_row _ _ 0 _ _ hna.ab
        have f1 := frozen_of_row _ _ 1 _ _ hna.ab
        have f2 := frozen_of_row _ _ 2 _ _ hna.ab
        have f3 := frozen_of_row _ _ 3 _ _ hna.ab
        have f4 := frozen_of_row _ _ 4 _ _ hna.ab
        obtain ⟨s1, s2⟩ := store5 (.int .i64 A1.r) (.int .i64 A1.q) (.bool A1.cp) (.slice A1.pL A1.L.length A1.cL) (.slice A1.pC A1.C.length A1.cC) hna.ab
        have HE : Hid (AX w _ (fdA l t).r (fdA l t).cp (fdA l t).C A1 _ ∧ wq.grownBy _ none) := Lib.hid ⟨⟨s1, HA.out.2.grown s2 (fun x hx e => by have h9 := Option.some.inj e; have := hna.lo; have := K.out.gr.size; omega), HA.out.1.1, HA.out.1.2.2.1, HA.out.1.2.2.2.2⟩, grown_new hHeld.out s2 hna.lo⟩
        go_simp
        have HLO := Lib.hid hna.lo
        clear k0 k1 k2 k3 k4 f0 f1 f2 f3 f4 s1 s2 hna
        refine hK.out _ _ (Lib.hid HE.out.2) (fun hH2 => ?_)
        clear hK Kz hHeld
        have hHeld := hH2
        clear hH2
        (try simp only [Act.put, List.setIfInBounds_toArray, List.set_cons_zero, List.set_cons_succ])
        refine wpAnyH_take (i := 13) (oi := { dst := some 9, op := Op.assign (Operand.tmp 31), type := 4, pos := "ref.go:155", after := #[{ on := 10, ground := Ground.data }, { on := 12, ground := Ground.chain }, { on := 0, ground := Ground.phase }, { on := 1, ground := Ground.phase }, { on := 2, ground := Ground.phase }, { on := 3, ground := Ground.phase }, { on := 4, ground := Ground.phase }, { on := 5, ground := Ground.phase }, { on := 6, ground := Ground.phase }, { on := 7, ground := Ground.phase }, { on := 8, ground := Ground.phase }, { on := 9, ground := Ground.phase }, { on := 10, ground := Ground.phase }, { on := 11, ground := Ground.phase }, { on := 12, ground := Ground.phase }], guard := none }) (v := ?_) rfl (by kernel_rfl) (by kernel_rfl) (by kernel_rfl) (fun _ _ _ h => h) (Or.inl ⟨by rfl, ?_⟩) hHeld ?_
        rotate_left 1
        · intro u hSu
          have hO := K.out.keep hSu.out
          have c0 := cell_of_row _ _ 0 _ _ _ hO.d
          obtain ⟨t0, t1⟩ := row_cells hO.t
          have hrr := hO.tg.r
          rw [HE1.out] at hrr t0
          obtain ⟨r0, r1⟩ := rdr_at2 hrr HTT.out
          go_simp
          first | done | with_reducible rfl
        (try simp only [Act.put, List.setIfInBounds_toArray, List.set_cons_zero, List.set_cons_succ])
        refine wpAnyH_done (by kernel_rfl) ?_ _
        clear HD hHeld hHn HS9
        go_wp2_with fail
        go_meet
        exact ⟨_, A1, rfl, HLO.out, HE⟩
      · go_simp
        try replace HA := Lib.hid (And.intro HA.out.1 (HA.out.2.keep (World.grownBy_alloc _ (.cells #[.int .i64 0, .int .i64 0, .bool false, .slice none 0 0, .slice none 0 0] 38) none)))
        have HSN := nac_start hHeld.out
        have hHn := Lib.hid (grown_trans hHeld.out (World.grownBy_alloc _ (.cells #[.int .i64 0, .int .i64 0, .bool false, .slice none 0 0, .slice none 0 0] 38) none))
        have HS9 := Lib.hid HSN
        clear HSN
        generalize hwa : World.alloc _ _ = wA at *
        clear hwa
        refine hK.out _ _ (hHn) (fun hH2 => ?_)
        clear hK Kz hHeld
        have hHeld := hH2
        clear hH2
        (try simp only [Act.put, List.setIfInBounds_toArray, List.set_cons_zero, List.set_cons_succ])
        refine wpAnyH_ready (rs := [7]) (by kernel_rfl) (by simp) ?_
        refine AllReadyH.cons (o := { dst := some 29, op := Op.call { callee := Callee.value (Operand.func 20), args := #[Operand.tmp 22, Operand.tmp 28], argTypes := #[25, 3] }, type := 39, pos := "ref.go:155", after := #[{ on := 0, ground := Ground.data }, { on := 6, ground := Ground.data }], guard := none }) rfl (fun Kz hK => ?_) AllReadyH.nil
        go_simp
        go_at_call 20
        refine (rfind_any l t.id p c _ _ ((K.out.keep hHeld.out).db) (by omega)).mono ?_
        rintro e w5 ⟨A1, rfl, hsm, hok, hg⟩
        have HA := Lib.hid (And.intro hsm hok)
        have hHn := Lib.hid (grown_trans hHeld.out hg)
        try replace HS9 := Lib.hid (show ∀ b, b = _ → _ from fun b hb => (HS9.out b hb).keep hg)
        obtain ⟨pz, hpz⟩ : ∃ z, (fndA l t.id).isSome = z := ⟨_, rfl⟩
        rw [hpz]
        clear hg hsm hok hpz
        refine hK.out _ _ (hHn) (fun hH2 => ?_)
        clear hK Kz hHeld
        have hHeld := hH2
        clear hH2
        (try simp only [Act.put, List.setIfInBounds_toArray, List.set_cons_zero, List.set_cons_succ])
        refine wpAnyH_take (i := 8) (oi := { dst := some 21, op := Op.move (Operand.tmp 29), type := 39, pos := "ref.go:155", after := #[{ on := 7, ground := Ground.data }], guard := none }) (v := ?_) rfl (by kernel_rfl) (by kernel_rfl) (by kernel_rfl) (fun _ _ _ h => h) (Or.inl ⟨by rfl, ?_⟩) hHeld ?_
        rotate_left 1
        · intro u hSu
          have hO := K.out.keep hSu.out
          have c0 := cell_of_row _ _ 0 _ _ _ hO.d
          obtain ⟨t0, t1⟩ := row_cells hO.t
          have hrr := hO.tg.r
          rw [HE1.out] at hrr t0
          obtain ⟨r0, r1⟩ := rdr_at2 hrr HTT.out
          go_simp
          first | done | with_reducible rfl
        (try simp only [Act.put, List.setIfInBounds_toArray, List.set_cons_zero, List.set_cons_succ])
        refine wpAnyH_take (i := 9) (oi := { dst := some 30, op := Op.extract (Operand.tmp 21) 0, type := 38, pos := "ref.go:155", after := #[{ on := 8, ground := Ground.data }], guard := none }) (v := ?_) rfl (by kernel_rfl) (by kernel_rfl) (by kernel_rfl) (fun _ _ _ h => h) (Or.inl ⟨by rfl, ?_⟩) hHeld ?_
        rotate_left 1
        · intro u hSu
          have hO := K.out.keep hSu.out
          have c0 := cell_of_row _ _ 0 _ _ _ hO.d
          obtain ⟨t0, t1⟩ := row_cells hO.t
          have hrr := hO.tg.r
          rw [HE1.out] at hrr t0
          obtain ⟨r0, r1⟩ := rdr_at2 hrr HTT.out
          go_simp
          first | done | with_reducible rfl
        (try simp only [Act.put, List.setIfInBounds_toArray, List.set_cons_zero, List.set_cons_succ])
        refine wpAnyH_take (i := 10) (oi := { dst := some 31, op := Op.extract (Operand.tmp 21) 1, type := 4, pos := "ref.go:155", after := #[{ on := 8, ground := Ground.data }, { on := 12, ground := Ground.gcOnly Departure.lateStores }], guard := none }) (v := ?_) rfl (by kernel_rfl) (by kernel_rfl) (by kernel_rfl) (fun _ _ _ h => h) (Or.inl ⟨by rfl, ?_⟩) hHeld ?_
        rotate_left 1
        · intro u hSu
          have hO := K.out.keep hSu.out
          have c0 := cell_of_row _ _ 0 _ _ _ hO.d
          obtain ⟨t0, t1⟩ := row_cells hO.t
          have hrr := hO.tg.r
          rw [HE1.out] at hrr t0
          obtain ⟨r0, r1⟩ := rdr_at2 hrr HTT.out
          go_simp
          first | done | with_reducible rfl
        (try simp only [Act.put, List.setIfInBounds_toArray, List.set_cons_zero, List.set_cons_succ])
        refine wpAnyH_ready (rs := [12]) (by kernel_rfl) (by simp) ?_
        refine AllReadyH.cons (o := { dst := none, op := Op.store 38 (Operand.tmp 8) (Operand.tmp 30), type := 0, pos := "ref.go:155", after := #[{ on := 11, ground := Ground.data }, { on := 9, ground := Ground.data }, { on := 7, ground := Ground.chain }, { on := 0, ground := Ground.phase }, { on := 1, ground := Ground.phase }, { on := 2, ground := Ground.phase }, { on := 3, ground := Ground.phase }, { on := 4, ground := Ground.phase }, { on := 5, ground := Ground.phase }, { on := 6, ground := Ground.phase }, { on := 7, ground := Ground.phase }, { on := 8, ground := Ground.phase }, { on := 9, ground := Ground.phase }, { on := 10, ground := Ground.textOnly Departure.lateStores }, { on := 11, ground := Ground.phase }], guard := none }) rfl (fun Kz hK => ?_) AllReadyH.nil
        have hna := HS9.out _ rfl
        obtain ⟨k0, k1, k2, k3, k4⟩ := row5 hna.ab
        have f0 := frozen_of_row _ _ 0 _ _ hna.ab
        have f1 := frozen_of_row _ _ 1 _ _ hna.ab
        have f2 := frozen_of_row _ _ 2 _ _ hna.ab
        have f3 := frozen_of_row _ _ 3 _ _ hna.ab
        have f4 := frozen_of_row _ _ 4 _ _ hna.ab
        obtain ⟨s1, s2⟩ := store5 (.int .i64 A1.r) (.int .i64 A1.q) (.bool A1.cp) (.slice A1.pL A1.L.length A1.cL) (.slice A1.pC A1.C.length A1.cC) hna.ab
        have HE : Hid (AX w _ (fdA l t).r (fdA l t).cp (fdA l t).C A1 _ ∧ wq.grownBy _ none) := Lib.hid ⟨⟨s1, HA.out.2.grown s2 (fun x hx e => by have h9 := Option.some.inj e; have := hna.lo; have := K.out.gr.size; omega), HA.out.1.1, HA.out.1.2.2.1, HA.out.1.2.2.2.2⟩, grown_new hHeld.out s2 hna.lo⟩
        go_simp
        have HLO := Lib.hid hna.lo
        clear k0 k1 k2 k3 k4 f0 f1 f2 f3 f4 s1 s2 hna
        refine hK.out _ _ (Lib.hid HE.out.2) (fun hH2 => ?_)
        clear hK Kz hHeld
        have hHeld := hH2
        clear hH2
        (try simp only [Act.put, List.setIfInBounds_toArray, List.set_cons_zero, List.set_cons_succ])
        refine wpAnyH_take (i := 13) (oi := { dst := some 9, op := Op.assign (Operand.tmp 31), type := 4, pos := "ref.go:155", after := #[{ on := 10, ground := Ground.data }, { on := 12, ground := Ground.chain }, { on := 0, ground := Ground.phase }, { on := 1, ground := Ground.phase }, { on := 2, ground := Ground.phase }, { on := 3, ground := Ground.phase }, { on := 4, ground := Ground.phase }, { on := 5, ground := Ground.phase }, { on := 6, ground := Ground.phase }, { on := 7, ground := Ground.phase }, { on := 8, ground := Ground.phase }, { on := 9, ground := Ground.phase }, { on := 10, ground := Ground.phase }, { on := 11, ground := Ground.phase }, { on := 12, ground := Ground.phase }], guard := none }) (v := ?_) rfl (by kernel_rfl) (by kernel_rfl) (by kernel_rfl) (fun _ _ _ h => h) (Or.inl ⟨by rfl, ?_⟩) hHeld ?_
        rotate_left 1
        · intro u hSu
          have hO := K.out.keep hSu.out
          have c0 := cell_of_row _ _ 0 _ _ _ hO.d
          obtain ⟨t0, t1⟩ := row_cells hO.t
          have hrr := hO.tg.r
          rw [HE1.out] at hrr t0
          obtain ⟨r0, r1⟩ := rdr_at2 hrr HTT.out
          go_simp
          first | done | with_reducible rfl
        (try simp only [Act.put, List.setIfInBounds_toArray, List.set_cons_zero, List.set_cons_succ])
        refine wpAnyH_done (by kernel_rfl) ?_ _
        clear HD hHeld hHn HS9
        go_wp2_with fail
        go_meet
        exact ⟨_, A1, rfl, HLO.out, HE⟩
    case rest =>
    obtain ⟨b1, A1, rfl, hb1, HAX⟩ := hcut
    have K2 := Lib.hid (And.intro (K.out.keep HAX.out.2) (And.intro HAX.out.1 (show (Value.slice po out.length co).ownBlock ≠ some b1 from fun e => by have := HOB.out b1 e; omega)))
    have hAC : A1.C.length = (fdA l t).C.length := by rw [HAX.out.1.f.2.2]
    clear K HAX HOB hb1
    go_wp2_with fail
    go_loopw [6, 10] (fun v x wz => ∃ (j : Nat) (o2 : List Ow), j ≤ A1.C.length ∧ x = .int .i64 (j : Int) ∧ o2.length ≤ out.length + j ∧ (A1.cp = false → j = 0) ∧ Hid (out ++ (A1.C.take j).map (Ow.mk A1.r) = o2) ∧ Hid (CG w l p c (Bx + 1) Bx T v o2 wz ∧ AX w b1 (fdA l t).r (fdA l t).cp (fdA l t).C A1 wz ∧ v.ownBlock ≠ some b1)) (fun _ x _ => A1.C.length - (RowKit.intOf x).toNat)
    case atStart => exact ⟨0, out, Nat.zero_le _, rfl, Nat.le_refl _, fun _ => rfl, Lib.hid (by simp), K2⟩
    case round =>
    obtain ⟨j, o2, hj, rfl, ho2l, hj0, HO, D⟩ := hrel
    clear K2
    obtain ⟨wz, hwz⟩ : ∃ wz, wz = wr := ⟨_, rfl⟩
    rw [← hwz] at D ⊢
    clear hwz
    obtain ⟨po2, co2, rfl, -, -⟩ := own_shape D.out.1.own
    obtain ⟨d0, d1, d2, d3, d4⟩ := row5 D.out.2.1.bx
    have HEX : Hid ((j < A1.C.length → A1.cp = false) → (T.R.take (i + 1)).flatMap (clT l) = o2) := Lib.hid (fun hex => by
      have hf := D.out.2.1.f
      rw [HCT.out, HI.out, clT_fd, ← HO.out]
      congr 1
      by_cases hcp : (fdA l t).cp = true
      · rw [if_pos hcp]
        have : j = A1.C.length := by
          rcases Nat.lt_or_ge j A1.C.length with h1 | h1
          · have := hex h1; rw [hf.2.1, hcp] at this; cases this
          · omega
        rw [this, List.take_length]
        unfold clA
        rw [hf.1, hf.2.2]
      · rw [if_neg hcp]
        have h0 : j = 0 := hj0 (by rw [hf.2.1]; simpa using hcp)
        rw [h0, List.take_zero]; rfl)
    by_cases hlt2 : j < A1.C.length
    · have hd2 : decide ((j : Int) < (A1.C.length : Int)) = true := decide_eq_true (by omega)
      obtain ⟨cp, hcp⟩ : ∃ cp, A1.cp = cp := ⟨_, rfl⟩
      cases cp with
      | false =>
        have HF := Lib.hid (HEX.out (fun _ => hcp))
        have KN := Lib.hid D.out.1
        rw [hcp] at d2
        clear HEX HO D hcp hj0
        go_wp2_with fail
        exact ⟨⟨i + 1, o2, by omega, congrArg _ (by omega), by omega, HF, KN⟩, by simp only [RowKit.intOf]; omega⟩
      | true =>
        obtain ⟨-, b3, off3, hpc, -, -⟩ := rd3_cells D.out.2.1.ok.c (by omega)
        obtain ⟨x, hx⟩ : ∃ x, A1.C[j]? = some x := ⟨_, List.getElem?_eq_getElem hlt2⟩
        have HX := Lib.hid hx
        have HOS := Lib.hid (cla_take (A := A1) hx)
        have HCP := Lib.hid hcp
        have HPC := Lib.hid hpc
        rw [hcp] at d2
        clear hx hcp HEX hpc hj0
        go_upto_region 10 with fail
        clear d0 d1 d2 d3 d4
        have HD := Lib.hid (And.intro (D.out.1.keep (grown_drew (grown_refl wz none))) (D.out.2.1.keep (grown_drew (grown_refl wz none))))
        have HNB := Lib.hid D.out.2.2
        clear D
        refine region_until (S := fun w' => Hid (CG w l p c (Bx + 1) Bx T (.slice po2 o2.length co2) o2 w' ∧ AX w b1 (fdA l t).r (fdA l t).cp (fdA l t).C A1 w')) (fun j => j == 10 || j == 11) (by kernel_rfl) (HD) (fun hHeld => ?_)
        generalize hwd : wz.drew = wd at *
        clear hwd
        refine anyU_take (i := 0) (oi := { dst := some 43, op := Op.move (Operand.tmp 6), type := 53, pos := "ref.go:157", after := #[], guard := none }) (v := ?_) rfl (by kernel_rfl) (by kernel_rfl) (by kernel_rfl) (by kernel_rfl) (by kernel_rfl) (fun _ _ _ h => h) (Or.inl ⟨by rfl, ?_⟩) hHeld ?_
        rotate_left 1
        · intro u hSu
          obtain ⟨d0, d1, d2, d3, d4⟩ := row5 hSu.out.2.bx
          have hac := hSu.out.2.ok.c
          rw [HPC.out] at hac d4
          obtain ⟨a0, a1, a2⟩ := rd3_at hac HX.out
          go_simp
          first | done | with_reducible rfl
        (try simp only [Act.put, List.setIfInBounds_toArray, List.set_cons_zero, List.set_cons_succ])
        refine anyU_take (i := 1) (oi := { dst := some 44, op := Op.fieldAddr 38 (Operand.tmp 8) 0, type := 0, pos := "ref.go:157", after := #[], guard := none }) (v := ?_) rfl (by kernel_rfl) (by kernel_rfl) (by kernel_rfl) (by kernel_rfl) (by kernel_rfl) (fun _ _ _ h => h) (Or.inl ⟨by rfl, ?_⟩) hHeld ?_
        rotate_left 1
        · intro u hSu
          obtain ⟨d0, d1, d2, d3, d4⟩ := row5 hSu.out.2.bx
          have hac := hSu.out.2.ok.c
          rw [HPC.out] at hac d4
          obtain ⟨a0, a1, a2⟩ := rd3_at hac HX.out
          go_simp
          first | done | with_reducible rfl
        (try simp only [Act.put, List.setIfInBounds_toArray, List.set_cons_zero, List.set_cons_succ])
        refine anyU_take (i := 2) (oi := { dst := some 45, op := Op.load 3 (Operand.tmp 44), type := 3, pos := "ref.go:157", after := #[{ on := 1, ground := Ground.data }], guard := none }) (v := ?_) rfl (by kernel_rfl) (by kernel_rfl) (by kernel_rfl) (by kernel_rfl) (by kernel_rfl) (fun _ _ _ h => h) (Or.inl ⟨by rfl, ?_⟩) hHeld ?_
        rotate_left 1
        · intro u hSu
          obtain ⟨d0, d1, d2, d3, d4⟩ := row5 hSu.out.2.bx
          have hac := hSu.out.2.ok.c
          rw [HPC.out] at hac d4
          obtain ⟨a0, a1, a2⟩ := rd3_at hac HX.out
          go_simp
          first | done | with_reducible rfl
        (try simp only [Act.put, List.setIfInBounds_toArray, List.set_cons_zero, List.set_cons_succ])
        refine anyU_take (i := 3) (oi := { dst := some 46, op := Op.fieldAddr 38 (Operand.tmp 8) 4, type := 0, pos := "ref.go:157", after := #[], guard := none }) (v := ?_) rfl (by kernel_rfl) (by kernel_rfl) (by kernel_rfl) (by kernel_rfl) (by kernel_rfl) (fun _ _ _ h => h) (Or.inl ⟨by rfl, ?_⟩) hHeld ?_
        rotate_left 1
        · intro u hSu
          obtain ⟨d0, d1, d2, d3, d4⟩ := row5 hSu.out.2.bx
          have hac := hSu.out.2.ok.c
          rw [HPC.out] at hac d4
          obtain ⟨a0, a1, a2⟩ := rd3_at hac HX.out
          go_simp
          first | done | with_reducible rfl
        (try simp only [Act.put, List.setIfInBounds_toArray, List.set_cons_zero, List.set_cons_succ])
        refine anyU_take (i := 4) (oi := { dst := some 47, op := Op.load 36 (Operand.tmp 46), type := 36, pos := "ref.go:157", after := #[{ on := 3, ground := Ground.data }], guard := none }) (v := ?_) rfl (by kernel_rfl) (by kernel_rfl) (by kernel_rfl) (by kernel_rfl) (by kernel_rfl) (fun _ _ _ h => h) (Or.inl ⟨by rfl, ?_⟩) hHeld ?_
        rotate_left 1
        · intro u hSu
          obtain ⟨d0, d1, d2, d3, d4⟩ := row5 hSu.out.2.bx
          have hac := hSu.out.2.ok.c
          rw [HPC.out] at hac d4
          obtain ⟨a0, a1, a2⟩ := rd3_at hac HX.out
          go_simp
          first | done | with_reducible rfl
        (try simp only [Act.put, List.setIfInBounds_toArray, List.set_cons_zero, List.set_cons_succ])
        refine anyU_take (i := 5) (oi := { dst := some 48, op := Op.move (Operand.tmp 10), type := 3, pos := "ref.go:157", after := #[], guard := none }) (v := ?_) rfl (by kernel_rfl) (by kernel_rfl) (by kernel_rfl) (by kernel_rfl) (by kernel_rfl) (fun _ _ _ h => h) (Or.inl ⟨by rfl, ?_⟩) hHeld ?_
        rotate_left 1
        · intro u hSu
          obtain ⟨d0, d1, d2, d3, d4⟩ := row5 hSu.out.2.bx
          have hac := hSu.out.2.ok.c
          rw [HPC.out] at hac d4
          obtain ⟨a0, a1, a2⟩ := rd3_at hac HX.out
          go_simp
          first | done | with_reducible rfl
        (try simp only [Act.put, List.setIfInBounds_toArray, List.set_cons_zero, List.set_cons_succ])
        refine anyU_take (i := 6) (oi := { dst := some 49, op := Op.indexAddr 36 (Operand.tmp 47) (Operand.tmp 48), type := 0, pos := "ref.go:157", after := #[{ on := 4, ground := Ground.data }, { on := 5, ground := Ground.data }], guard := none }) (v := ?_) rfl (by kernel_rfl) (by kernel_rfl) (by kernel_rfl) (by kernel_rfl) (by kernel_rfl) (fun _ _ _ h => h) (Or.inl ⟨by rfl, ?_⟩) hHeld ?_
        rotate_left 1
        · intro u hSu
          obtain ⟨d0, d1, d2, d3, d4⟩ := row5 hSu.out.2.bx
          have hac := hSu.out.2.ok.c
          rw [HPC.out] at hac d4
          obtain ⟨a0, a1, a2⟩ := rd3_at hac HX.out
          go_simp
          first | done | with_reducible rfl
        (try simp only [Act.put, List.setIfInBounds_toArray, List.set_cons_zero, List.set_cons_succ])
        refine anyU_take (i := 7) (oi := { dst := some 50, op := Op.load 62 (Operand.tmp 49), type := 62, pos := "ref.go:157", after := #[{ on := 6, ground := Ground.data }], guard := none }) (v := ?_) rfl (by kernel_rfl) (by kernel_rfl) (by kernel_rfl) (by kernel_rfl) (by kernel_rfl) (fun _ _ _ h => h) (Or.inl ⟨by rfl, ?_⟩) hHeld ?_
        rotate_left 1
        · intro u hSu
          obtain ⟨d0, d1, d2, d3, d4⟩ := row5 hSu.out.2.bx
          have hac := hSu.out.2.ok.c
          rw [HPC.out] at hac d4
          obtain ⟨a0, a1, a2⟩ := rd3_at hac HX.out
          go_simp
          first | done | with_reducible rfl
        (try simp only [Act.put, List.setIfInBounds_toArray, List.set_cons_zero, List.set_cons_succ])
        refine anyU_take (i := 8) (oi := { dst := some 51, op := Op.build 64 #[(0, Operand.tmp 45), (1, Operand.tmp 50)], type := 64, pos := "ref.go:157", after := #[{ on := 2, ground := Ground.data }, { on := 7, ground := Ground.data }], guard := none }) (v := ?_) rfl (by kernel_rfl) (by kernel_rfl) (by kernel_rfl) (by kernel_rfl) (by kernel_rfl) (fun _ _ _ h => h) (Or.inl ⟨by rfl, ?_⟩) hHeld ?_
        rotate_left 1
        · intro u hSu
          obtain ⟨d0, d1, d2, d3, d4⟩ := row5 hSu.out.2.bx
          have hac := hSu.out.2.ok.c
          rw [HPC.out] at hac d4
          obtain ⟨a0, a1, a2⟩ := rd3_at hac HX.out
          go_simp
          first | done | with_reducible rfl
        (try simp only [Act.put, List.setIfInBounds_toArray, List.set_cons_zero, List.set_cons_succ])
        refine anyU_ready (rs := [9]) (by kernel_rfl) (by simp) ?_
        refine EachU.cons (o := { dst := some 52, op := Op.buildSlice 53 1 #[(0, Operand.tmp 51)], type := 53, pos := "ref.go:157", after := #[{ on := 8, ground := Ground.data }], guard := none }) rfl (fun Kz hK => ?_) EachU.nil
        go_simp
        have HQ := Lib.hid (And.intro (hHeld.out.1.keep (World.grownBy_alloc _ (.cells #[.int .i64 A1.r, .int .i64 x.a, .int .i64 x.b, .int .i64 x.c] 64) none)) (hHeld.out.2.keep (World.grownBy_alloc _ (.cells #[.int .i64 A1.r, .int .i64 x.a, .int .i64 x.b, .int .i64 x.c] 64) none)))
        have HBZ := Lib.hid (World.lt_of_row' HQ.out.2.bx)
        refine hK.out _ _ (fun _ => HQ) (fun hH2 => ?_)
        clear hK Kz hHeld
        have hHeld := hH2 rfl
        clear hH2
        (try simp only [Act.put, List.setIfInBounds_toArray, List.set_cons_zero, List.set_cons_succ])
        refine anyU_ready (rs := [10]) (by kernel_rfl) (by simp) ?_
        refine EachU.cons (o := { dst := some 53, op := Op.call { callee := Callee.builtin Builtin.append, args := #[Operand.tmp 43, Operand.tmp 52], argTypes := #[53, 53] }, type := 53, pos := "ref.go:157", after := #[{ on := 0, ground := Ground.data }, { on := 9, ground := Ground.data }], guard := none }) rfl (fun Kz hK => ?_) EachU.nil
        refine (astep_app owC 4 32 (by decide) ow_len ow_one 64 53 io _ Try.underlying53 hio ho0 ho1 ho2 rfl (by decide) (by rfl) _ _ (by rfl) (Bx + 1) _ o2 (by rfl) HQ.out.1.own (some ⟨_, 0, none⟩) 1 1 [⟨A1.r, x⟩] (by rfl) rfl (by simp) (fun _ => True) (rdf_one _ trivial (cells4V _ _ _ _ _ _) 1) (by omega) (by simp; omega) HQ.out.1.lo.2.2 ?_)
        intro p4 c4 w8 hown hg hat
        have HD5 := Lib.hid (And.intro (HQ.out.1.app hown hg) (And.intro (AX.row HQ.out.2 hg (fun e => HNB.out e.symm) (fun x h => by have := (HQ.out.1.own.lt x h).1; have := HQ.out.1.lo; omega)) (show (Value.slice p4 (o2.length + [(⟨A1.r, x⟩ : Ow)].length) c4).ownBlock ≠ some b1 from fun e => by rcases hat with h1 | h1; (exact HNB.out (h1.symm.trans e)); (have := Option.some.inj (h1.symm.trans e); have := HBZ.out; omega))))
        clear hown hg hat HQ
        refine hK.out _ _ (fun h => by cases h) (fun _ => ?_)
        clear hK Kz
        (try simp only [Act.put, List.setIfInBounds_toArray, List.set_cons_zero, List.set_cons_succ])
        refine anyU_ready (rs := [11]) (by kernel_rfl) (by simp) ?_
        refine EachU.cons (o := { dst := some 6, op := Op.assign (Operand.tmp 53), type := 53, pos := "ref.go:157", after := #[{ on := 10, ground := Ground.data }, { on := 10, ground := Ground.chain }, { on := 0, ground := Ground.phase }, { on := 1, ground := Ground.phase }, { on := 2, ground := Ground.phase }, { on := 3, ground := Ground.phase }, { on := 4, ground := Ground.phase }, { on := 5, ground := Ground.phase }, { on := 6, ground := Ground.phase }, { on := 7, ground := Ground.phase }, { on := 8, ground := Ground.phase }, { on := 9, ground := Ground.phase }, { on := 10, ground := Ground.phase }], guard := none }) rfl (fun Kz hK => ?_) EachU.nil
        go_simp
        refine hK.out _ _ (fun h => by cases h) (fun _ => ?_)
        clear hK Kz
        (try simp only [Act.put, List.setIfInBounds_toArray, List.set_cons_zero, List.set_cons_succ])
        refine anyU_done (by kernel_rfl) ?_ _
        have HO2 : Hid (out ++ (A1.C.take (j + 1)).map (Ow.mk A1.r) = o2 ++ [⟨A1.r, x⟩]) := Lib.hid (by rw [HOS.out, ← List.append_assoc, HO.out])
        clear hHeld HD HOS HO
        go_wp2_with fail
        exact ⟨⟨j + 1, o2 ++ [⟨A1.r, x⟩], by omega, congrArg _ (by omega), by simp; omega, (fun h => by rw [HCP.out] at h; cases h), HO2, HD5⟩, by simp only [RowKit.intOf]; omega⟩
    · have hd2 : decide ((j : Int) < (A1.C.length : Int)) = false := decide_eq_false (by omega)
      have HF := Lib.hid (HEX.out (fun h => absurd h hlt2))
      have KN := Lib.hid D.out.1
      clear HEX HO D hj0
      go_wp2_with fail
      exact ⟨⟨i + 1, o2, by omega, congrArg _ (by omega), by omega, HF, KN⟩, by simp only [RowKit.intOf]; omega⟩
  · obtain rfl : i = T.R.length := by omega
    have hI := HI.out
    rw [List.take_length, HT.out, clm_ref] at hI
    have HF : Hid (ClPost l r w (.returned (.slice po out.length co)) wq) := Lib.hid ⟨po, co, by rw [hI], by rw [hI]; exact (rdf_of_own K.out.own).mono (fun b hb => by have := K.out.lo; omega), K.out.gr⟩
    clear hI K HI
    go_wp2_with fail
    go_ret
    exact HF.out
end Go.Proofs.Ytnpkihioklpnmaa

/- The reference's With. -/
namespace Go.Proofs.Ytnpkihioklpnmaa
open Go.RowKit Bs
/-! With, step by step. -/
section
variable {W w w1 : World} {l acc : List Ad} {p : Option Addr} {c : Nat} {A B : Ad} {q : Nat → Prop} {u v v' : Value}
end
end Go.Proofs.Ytnpkihioklpnmaa

/- advert: the order of the encodings of valid adverts is that of their fields. -/
namespace Go.Proofs.Ytnpkihioklpnmaa
open Go.RowKit Bs
end Go.Proofs.Ytnpkihioklpnmaa

/- What the reference's Append gives lies in memory of the call's own. -/
namespace Go.Proofs.Ytnpkihioklpnmaa
open Go.RowKit Bs
end Go.Proofs.Ytnpkihioklpnmaa

/- What the reference's Align gives back, where its argument lies in memory of the call's own. -/
namespace Go.Proofs.Ytnpkihioklpnmaa
open Go.RowKit Bs
end Go.Proofs.Ytnpkihioklpnmaa

/- The reference's put of adverts: its bytes are new; Align of bytes of one's own. -/
namespace Go.Proofs.Ytnpkihioklpnmaa
open Go.RowKit Bs
end Go.Proofs.Ytnpkihioklpnmaa

/- The reference's Encode of adverts. -/
namespace Go.Proofs.Ytnpkihioklpnmaa
open Go.RowKit Bs
end Go.Proofs.Ytnpkihioklpnmaa

/- The reference's Newer of adverts. -/
namespace Go.Proofs.Ytnpkihioklpnmaa
open Go.RowKit Bs
end Go.Proofs.Ytnpkihioklpnmaa

/- The reference's Put. -/
namespace Go.Proofs.Ytnpkihioklpnmaa
open Go.RowKit Bs
section
variable {W w w1 : World} {l : List Ad} {p : Option Addr} {c : Nat} {A B : Ad} {q : Nat → Prop} {u v v' : Value}
end
end Go.Proofs.Ytnpkihioklpnmaa

/- database: Merge. -/
namespace Go.Proofs.Ytnpkihioklpnmaa
open Go.RowKit Bs
section
variable {W w w1 : World} {a b m : List Ad} {p p2 p' : Option Addr} {c c2 c' base : Nat} {v : Value}
end
end Go.Proofs.Ytnpkihioklpnmaa

/- The reference's Merge. -/
namespace Go.Proofs.Ytnpkihioklpnmaa
open Go.RowKit Bs
set_option maxRecDepth 100000 in
theorem RdA.and {w : World} {q : Nat → Prop} {v : Value} {l : List Ad} (h : RdA w q v l) : RdA w (fun b => q b ∧ b < w.heap.size) v l := ⟨rdf_and h.row, fun A hA => (h.ok A hA).and, h.nl⟩
section
variable {W w w1 : World} {m m2 b : List Ad} {p p2 p3 : Option Addr} {c c2 c3 : Nat} {q : Nat → Prop}
end
end Go.Proofs.Ytnpkihioklpnmaa

/- The law DatabaseMerges: the mathematics, what memory holds. -/
namespace Go.Proofs.Ytnpkihioklpnmaa
open Go.RowKit Bs
set_option maxRecDepth 100000 in
theorem intsIn_grown {w w' : World} {v : Value} (h : IntsIn w v) (g : w.grownBy w' none) : IntsIn w' v := by
  obtain ⟨p, n, c, rfl, h1, h2, h3⟩ := h
  refine ⟨p, n, c, rfl, h1, h2, fun hn => ?_⟩
  obtain ⟨b, off, hp, hb, hx⟩ := h3 hn
  refine ⟨b, off, hp, Nat.lt_of_lt_of_le hb g.size, fun i hi => ?_⟩
  obtain ⟨x, hx1, hx2⟩ := hx i hi
  exact ⟨x, hx1, g.cell hx2 (by simp)⟩
section
variable {w w' : World} {q q' : Nat → Prop} {l m a b : List Ad} {p : Option Addr} {c n : Nat}
end
/-! Merge is commutative, associative, idempotent. -/
section
variable {a b c a' b' : List Ad}
end
end Go.Proofs.Ytnpkihioklpnmaa
