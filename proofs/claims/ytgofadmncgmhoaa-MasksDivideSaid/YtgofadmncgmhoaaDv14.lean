/- Parts of the proof, packed: TaTb, IdRsM, IdCnt, IdSeek, IdChk, IdFre, IdCon, IdLen, IdLay, IdSrt, IdEdg, IdRes, IdRsW, IdRtw, IdPln, IdVpl, IdRck, IdRcn, IdAwk, IdInt, IdRep. -/
import Derived.Test.YtgofadmncgmhoaaDv13
import Derived.Test.YtgofadmncgmhoaaDv11
import Derived.Test.YtgofadmncgmhoaaDv1
import Derived.Lib.SliceRun
import Derived.Deep.CutRange
import Derived.Laws.StructEq
/- tables: lists of tables in memory. -/
namespace Go.Proofs.Ytgofadmncgmhoaa
open Go.RowKit Bs
/-- A table, and where its rows lie. -/
structure Tb where
  r : Int
  s : Int
  n : Int
  L : List Rw
  p : Option Addr
  c : Nat
def tbC (x : Tb) : List Value := [.int .i64 x.r, .int .i64 x.s, .int .i64 x.n, .slice x.p x.L.length x.c]
set_option maxRecDepth 100000 in
theorem tb_one (x : Tb) : ∀ u ∈ tbC x, u.oneCell' = true := by
  intro u hu
  simp [tbC] at hu
  rcases hu with rfl | rfl | rfl | rfl <;> rfl
/-- The rows of a table lie in blocks that are there and not v's own. -/
structure TbX (lo : Nat) (w : World) (v : Value) (x : Tb) : Prop where
  rd : RdW w (fun b => lo ≤ b ∧ b < w.heap.size ∧ some b ≠ v.ownBlock) x.p x.c x.L
  hn : x.p = none → x.c = 0
  hc : x.L.length ≤ x.c ∧ x.c ≤ 9223372036854775807
  hy : ∀ y ∈ x.L, y.p = none → y.c = 0
set_option maxRecDepth 100000 in
theorem TbX.keep {lo : Nat} {w w1 : World} {v : Value} {x : Tb} (h : TbX lo w v x) (g : w.grownBy w1 none) : TbX lo w1 v x :=
  ⟨(h.rd.keep g).mono (fun b hb => ⟨hb.1, Nat.lt_of_lt_of_le hb.2.1 g.size, hb.2.2⟩), h.hn, h.hc, h.hy⟩
set_option maxRecDepth 100000 in
theorem TbX.put {lo : Nat} {w w1 : World} {v v' : Value} {x : Tb} (h : TbX lo w v x) (g : w.grownBy w1 v.ownBlock) (hv : v'.ownBlock = v.ownBlock ∨ ∀ b, some b = v'.ownBlock → w.heap.size ≤ b) : TbX lo w1 v' x :=
  ⟨(h.rd.grown g (fun b hb => hb.2.2)).mono (fun b hb => ⟨hb.1, Nat.lt_of_lt_of_le hb.2.1 g.size, fun e => by
    rcases hv with hv | hv
    · rw [hv] at e; exact hb.2.2 e
    · have := hv b e; have := hb.2.1; omega⟩), h.hn, h.hc, h.hy⟩
set_option maxRecDepth 100000 in
theorem TbX.over {lo : Nat} {w w1 : World} {v : Value} {x : Tb} {r : Nat} (h : TbX lo w v x) (g : w.grownBy w1 (some r)) (hr : ∀ b, lo ≤ b → b ≠ r) : TbX lo w1 v x :=
  ⟨(h.rd.grown g (fun b hb e => hr b hb.1 (Option.some.inj e))).mono (fun b hb => ⟨hb.1, Nat.lt_of_lt_of_le hb.2.1 g.size, hb.2.2⟩), h.hn, h.hc, h.hy⟩
set_option maxRecDepth 100000 in
/-- What build gives is such a table. -/
theorem tbx_of_bld {lo base : Nat} {w : World} {v : Value} {L : List Rw} {p : Option Addr} {c : Nat} (r s n : Int) (hown : w.ownsRow base 35 2 (.slice p L.length c) L.length (L.flatMap rwC)) (hr : ∀ x ∈ L, RdX base w (.slice p L.length c) x.p x.c x.nx) (hv : ∀ b, v.ownBlock = some b → b < base) (hlo : lo ≤ base) : TbX lo w v ⟨r, s, n, L, p, c⟩ := by
  have hq : ∀ b, base ≤ b → some b ≠ v.ownBlock := fun b hb e => by have := hv b e.symm; omega
  refine ⟨⟨(rdf_of_own2 hown).mono (fun b hb => ⟨by omega, hb.2, hq b hb.1⟩), fun x hx => ⟨(hr x hx).1.mono (fun b hb => ⟨by have := hb.1; omega, hb.2.1, hq b hb.1⟩), (hr x hx).2.2⟩⟩, ?_, ?_, fun x hx => (hr x hx).2.1⟩
  · intro hp
    rcases own_formF hown with ⟨e, h0⟩ | ⟨g, cap, e, -⟩
    · injection e
    · injection e with e1; subst hp; cases e1
  · rcases own_formF hown with ⟨e, h0⟩ | ⟨g, cap, e, h1, h2⟩
    · injection e with e1 e2 e3; subst e3; exact ⟨by show L.length ≤ 0; omega, by show (0 : Nat) ≤ _; omega⟩
    · injection e with e1 e2 e3; subst e3; exact ⟨h1, h2⟩
set_option maxRecDepth 100000 in
theorem tb_cells {w : World} {q : Nat → Prop} {p : Option Addr} {n c : Nat} {Ts : List Tb} (h : RdF w q (.slice p n c) Ts.length (Ts.flatMap tbC)) (hn : 0 < Ts.length) :
    n = Ts.length ∧ ∃ b off, p = some ⟨b, off, none⟩ ∧ q b ∧ ∀ i x, Ts[i]? = some x → w.cell? ⟨b, off + i * 4, none⟩ = some (.int .i64 x.r) ∧ w.cell? ⟨b, off + i * 4 + 1, none⟩ = some (.int .i64 x.s) ∧ w.cell? ⟨b, off + i * 4 + 2, none⟩ = some (.int .i64 x.n) ∧ w.cell? ⟨b, off + i * 4 + 3, none⟩ = some (.slice x.p x.L.length x.c) := by
  obtain ⟨h0, b, off, hp, hq, hc⟩ := RdF.cells (f := tbC) (k := 4) (fun _ => rfl) (by decide) h hn
  exact ⟨h0, b, off, hp, hq, fun i x hi => ⟨hc i x hi 0 _ rfl, hc i x hi 1 _ rfl, hc i x hi 2 _ rfl, hc i x hi 3 _ rfl⟩⟩
/-- What All keeps in memory. -/
structure AlT (W : World) (T : Tg) (s n : Int) (E : List Ed) (pE : Option Addr) (cE : Nat) (v : Value) (Ts : List Tb) (w : World) : Prop where
  bT : w.heap[W.heap.size]? = some (.cells #[.slice T.pR T.R.length T.cR, .slice T.pL T.L.length T.cL] 55 (0, 0))
  bP : w.heap[W.heap.size + 1]? = some (.cells #[.int .i64 s, .int .i64 n, .slice pE E.length cE] 59 (0, 0))
  t : TgOk w (· < W.heap.size) T
  e : RdF w (· < W.heap.size) (.slice pE E.length cE) E.length (E.flatMap edC)
  own : w.ownsRow (W.heap.size + 2) 27 4 v Ts.length (Ts.flatMap tbC)
  tabs : ∀ x ∈ Ts, TbX (W.heap.size + 2) w v x
  gr : W.grownBy w none
  lo : W.heap.size + 2 ≤ w.heap.size
set_option maxRecDepth 100000 in
theorem AlT.keep {W : World} {T : Tg} {s n : Int} {E : List Ed} {pE : Option Addr} {cE : Nat} {v : Value} {Ts : List Tb} {w w1 : World} (h : AlT W T s n E pE cE v Ts w) (g : w.grownBy w1 none) : AlT W T s n E pE cE v Ts w1 :=
  ⟨kept_row h.bT g (by simp), kept_row h.bP g (by simp), h.t.keep g, h.e.keep g, h.own.kept g (by cases v.ownBlock <;> simp), fun x hx => (h.tabs x hx).keep g, grown_trans h.gr g, Nat.le_trans h.lo g.size⟩
set_option maxRecDepth 100000 in
theorem AlT.push {W : World} {T : Tg} {s n : Int} {E : List Ed} {pE : Option Addr} {cE : Nat} {v v' : Value} {Ts : List Tb} {x : Tb} {w w1 : World} (h : AlT W T s n E pE cE v Ts w) (hx : TbX (W.heap.size + 2) w v x) (hown : w1.ownsRow (W.heap.size + 2) 27 4 v' (Ts ++ [x]).length ((Ts ++ [x]).flatMap tbC)) (g : w.grownBy w1 v.ownBlock) (hv : v'.ownBlock = v.ownBlock ∨ ∀ b, some b = v'.ownBlock → w.heap.size ≤ b) : AlT W T s n E pE cE v' (Ts ++ [x]) w1 := by
  have hne : ∀ b, b < W.heap.size + 2 → some b ≠ v.ownBlock := fun b hb e => by have := (h.own.lt b e.symm).1; omega
  refine ⟨kept_row h.bT g (hne _ (by omega)), kept_row h.bP g (hne _ (by omega)), h.t.grown g (fun b hb => hne b (by omega)), h.e.grown g (fun b hb => hne b (by omega)), hown, fun y hy => ?_, grown_any h.gr g (fun b hb => hne b (by omega)), Nat.le_trans h.lo g.size⟩
  rcases List.mem_append.1 hy with hm | hm
  · exact (h.tabs y hm).put g hv
  · rw [List.mem_singleton.1 hm]; exact hx.put g hv
set_option maxRecDepth 100000 in
theorem alT_start {w : World} {T : Tg} {q q2 : Nat → Prop} (s n : Int) {E : List Ed} {pE : Option Addr} {cE : Nat} (hT : TgOk w q T) (hE : RdF w q2 (.slice pE E.length cE) E.length (E.flatMap edC)) :
    AlT w T s n E pE cE (.slice none 0 0) [] ((w.alloc (.cells #[.slice T.pR T.R.length T.cR, .slice T.pL T.L.length T.cL] 55)).alloc (.cells #[.int .i64 s, .int .i64 n, .slice pE E.length cE] 59)) := by
  obtain ⟨a1, g1, z1⟩ := alloc_row (w := w) #[.slice T.pR T.R.length T.cR, .slice T.pL T.L.length T.cL] 55 rfl
  generalize w.alloc _ = w1 at *
  obtain ⟨a2, g2, z2⟩ := alloc_row (w := w1) #[.int .i64 s, .int .i64 n, .slice pE E.length cE] 59 z1
  generalize w1.alloc _ = w2 at *
  have gg := grown_trans g1 g2
  exact ⟨kept_row a1 g2 (by simp), a2, hT.old.keep gg, hE.old.keep gg, World.ownsRow_nil _ _ _ _, fun x hx => (by cases hx), gg, by omega⟩
set_option maxRecDepth 100000 in
theorem tb_row (w : World) (x : Tb) (t : TypeId) : ∀ j u, (tbC x)[j]? = some u → (w.alloc (.cells #[.int .i64 x.r, .int .i64 x.s, .int .i64 x.n, .slice x.p x.L.length x.c] t)).cell? ((⟨w.heap.size, 0, none⟩ : Addr).add j) = some u := by
  intro j u hu
  rw [add_plain]
  have hb := heap_alloc_new w (.cells #[.int .i64 x.r, .int .i64 x.s, .int .i64 x.n, .slice x.p x.L.length x.c] t)
  rcases j with _ | _ | _ | _ | j
  · cases hu; exact cell_of_row _ _ _ _ _ _ hb
  · cases hu; exact cell_of_row _ _ _ _ _ _ hb
  · cases hu; exact cell_of_row _ _ _ _ _ _ hb
  · cases hu; exact cell_of_row _ _ _ _ _ _ hb
  · simp [tbC] at hu
/-- What is known of the tables that All makes. -/
def AllM (R : List Rt) (Lk0 : List Lk) (s n : Int) (E : List Ed) (rs : List Rt) (Ts : List Tb) : Prop := Ts.map (·.r) = (rs.filter (·.cap)).map (·.id) ∧ ∀ x ∈ Ts, x.s = s ∧ x.n = n ∧ BldM R Lk0 x.r E x.L
set_option maxRecDepth 100000 in
theorem AllM.nil {R : List Rt} {Lk0 : List Lk} {s n : Int} {E : List Ed} : AllM R Lk0 s n E [] [] := ⟨rfl, fun x hx => (by cases hx)⟩
set_option maxRecDepth 100000 in
theorem AllM.skip {R : List Rt} {Lk0 : List Lk} {s n : Int} {E : List Ed} {k : Nat} {y : Rt} {Ts : List Tb} (h : AllM R Lk0 s n E (R.take k) Ts) (hy : R[k]? = some y) (hc : y.cap = false) : AllM R Lk0 s n E (R.take (k + 1)) Ts := by
  refine ⟨?_, h.2⟩
  rw [List.take_add_one, hy, List.filter_append, List.map_append, ← h.1]
  simp [hc]
set_option maxRecDepth 100000 in
theorem AllM.push {R : List Rt} {Lk0 : List Lk} {s n : Int} {E : List Ed} {k : Nat} {y : Rt} {Ts : List Tb} (h : AllM R Lk0 s n E (R.take k) Ts) (hy : R[k]? = some y) (hc : y.cap = true) {L : List Rw} (hL : BldM R Lk0 y.id E L) (p : Option Addr) (c : Nat) : AllM R Lk0 s n E (R.take (k + 1)) (Ts ++ [⟨y.id, s, n, L, p, c⟩]) := by
  refine ⟨?_, fun x hx => ?_⟩
  · rw [List.take_add_one, hy, List.filter_append, List.map_append, List.map_append, ← h.1]
    simp [hc]
  · rcases List.mem_append.1 hx with hx | hx
    · exact h.2 x hx
    · rw [List.mem_singleton.1 hx]; exact ⟨rfl, rfl, hL⟩
set_option maxRecDepth 100000 in
theorem AllM.len {R : List Rt} {Lk0 : List Lk} {s n : Int} {E : List Ed} {rs : List Rt} {Ts : List Tb} (h : AllM R Lk0 s n E rs Ts) : Ts.length ≤ rs.length := by
  have := congrArg List.length h.1
  rw [List.length_map, List.length_map] at this
  rw [this]
  exact List.length_filter_le _ _
/-- What All returns. -/
def RAllPost (R : List Rt) (Lk0 : List Lk) (s n : Int) (E : List Ed) (w : World) (e : Ending) (w' : World) : Prop :=
  ∃ (Ts : List Tb) (p : Option Addr) (c : Nat) (er : Int), e = .returned (.tuple #[.slice p Ts.length c, .int .i64 er]) ∧ ((er = 0 ∧ okT R Lk0 = true ∧ vPl s n E = true ∧ AllM R Lk0 s n E R Ts) ∨ (er = 1 ∧ ¬ (okT R Lk0 = true ∧ vPl s n E = true) ∧ Ts = [])) ∧ w'.ownsRow w.heap.size 27 4 (.slice p Ts.length c) Ts.length (Ts.flatMap tbC) ∧ (∀ x ∈ Ts, TbX w.heap.size w' (.slice p Ts.length c) x) ∧ w.grownBy w' none
set_option maxRecDepth 100000 in
theorem info_tabT : (Try.prog.info? 27).map (fun i => (i.zero, i.size, i.bytes)) = some (some (.agg #[.int .i64 0, .int .i64 0, .int .i64 0, .slice none 0 0]), 4, 48) := by kernel_rfl
end Go.Proofs.Ytgofadmncgmhoaa

/- empty -/
namespace Go.Proofs.Ytgofadmncgmhoaa
end Go.Proofs.Ytgofadmncgmhoaa

/- empty -/
namespace Go.Proofs.Ytgofadmncgmhoaa
end Go.Proofs.Ytgofadmncgmhoaa

/- empty -/
namespace Go.Proofs.Ytgofadmncgmhoaa
end Go.Proofs.Ytgofadmncgmhoaa

/- empty -/
namespace Go.Proofs.Ytgofadmncgmhoaa
end Go.Proofs.Ytgofadmncgmhoaa

/- empty -/
namespace Go.Proofs.Ytgofadmncgmhoaa
end Go.Proofs.Ytgofadmncgmhoaa

/- identify: Conflicts, Length, Free. -/
namespace Go.Proofs.Ytgofadmncgmhoaa
open Go.RowKit Bs
def ivC (z : Int) : List Value := [.int .i64 z]
set_option maxRecDepth 100000 in
theorem ivC_one (z : Int) : ∀ u ∈ ivC z, u.oneCell' = true := by
  intro u hu
  simp [ivC] at hu
  subst hu
  rfl
set_option maxRecDepth 100000 in
theorem flat_iv : ∀ X : List Int, X.flatMap ivC = X.map (fun z => Value.int .i64 z)
  | [] => rfl
  | a :: t => by rw [List.flatMap_cons, flat_iv t]; rfl
set_option maxRecDepth 100000 in
theorem iv_row (w : World) (z : Int) (t : TypeId) (j : Nat) (u : Value) (hu : ([z].flatMap ivC)[j]? = some u) : (w.alloc (.cells #[.int .i64 z] t)).cell? ((⟨w.heap.size, 0, none⟩ : Addr).add j) = some u :=
  cell_one w (.int .i64 z) t j u (by simpa [ivC] using hu)
end Go.Proofs.Ytgofadmncgmhoaa

/- empty -/
namespace Go.Proofs.Ytgofadmncgmhoaa
end Go.Proofs.Ytgofadmncgmhoaa

/- empty -/
namespace Go.Proofs.Ytgofadmncgmhoaa
end Go.Proofs.Ytgofadmncgmhoaa

/- empty -/
namespace Go.Proofs.Ytgofadmncgmhoaa
end Go.Proofs.Ytgofadmncgmhoaa

/- empty -/
namespace Go.Proofs.Ytgofadmncgmhoaa
end Go.Proofs.Ytgofadmncgmhoaa

/- empty -/
namespace Go.Proofs.Ytgofadmncgmhoaa
end Go.Proofs.Ytgofadmncgmhoaa

/- empty -/
namespace Go.Proofs.Ytgofadmncgmhoaa
end Go.Proofs.Ytgofadmncgmhoaa

/- identify: routerTwice. -/
namespace Go.Proofs.Ytgofadmncgmhoaa
open Go.RowKit Bs
section
variable {W w w1 : World} {E : List Ed} {p : Option Addr} {c B : Nat} {kf : Nat → Bool}
end
/-- The routers of edges. -/
def rsE (E : List Ed) : List Int := E.map Ed.r
end Go.Proofs.Ytgofadmncgmhoaa

/- identify: Plan. -/
namespace Go.Proofs.Ytgofadmncgmhoaa
open Go.RowKit Bs
set_option maxRecDepth 100000 in
theorem row3i {w : World} {b : Nat} {t : TypeId} {x y z : Value} (h : w.heap[b]? = some (.cells #[x, y, z] t (0, 0))) : (w.cell? ⟨b, 0, none⟩ = some x ∧ w.cell? ⟨b, 1, none⟩ = some y ∧ w.cell? ⟨b, 2, none⟩ = some z) ∧ ∀ o, w.frozen? ⟨b, o, none⟩ = false :=
  ⟨⟨cell_of_row _ _ _ _ _ _ h, cell_of_row _ _ _ _ _ _ h, cell_of_row _ _ _ _ _ _ h⟩, fun o => frozen_of_row _ _ o _ _ h⟩
end Go.Proofs.Ytgofadmncgmhoaa

/- empty -/
namespace Go.Proofs.Ytgofadmncgmhoaa
end Go.Proofs.Ytgofadmncgmhoaa

/- empty -/
namespace Go.Proofs.Ytgofadmncgmhoaa
end Go.Proofs.Ytgofadmncgmhoaa

/- empty -/
namespace Go.Proofs.Ytgofadmncgmhoaa
end Go.Proofs.Ytgofadmncgmhoaa

/- empty -/
namespace Go.Proofs.Ytgofadmncgmhoaa
end Go.Proofs.Ytgofadmncgmhoaa

/- empty -/
namespace Go.Proofs.Ytgofadmncgmhoaa
end Go.Proofs.Ytgofadmncgmhoaa

/- The reference's Repeats. -/
namespace Go.Proofs.Ytgofadmncgmhoaa
open Go.RowKit Bs
set_option maxRecDepth 100000 in
theorem rdi_cellsI {w : World} {q : Nat → Prop} {p : Option Addr} {n c : Nat} {r : List Int} (h : Rd w q (.slice p n c) (r.map fun z => Value.int .i64 z)) (hn : 0 < r.length) :
    ∃ b off, p = some ⟨b, off, none⟩ ∧ q b ∧ ∀ i, i < r.length → w.cell? ⟨b, off + i, none⟩ = some (.int .i64 (r.getD i 0)) := by
  obtain ⟨p1, c1, e1, hx⟩ := h
  injection e1 with a1 a2 a3
  subst a1
  obtain ⟨b, off, hp, hq, hc⟩ := hx (by intro e; have := congrArg List.length e; simp only [List.length_map, List.length_nil] at this; omega)
  refine ⟨b, off, hp, hq, fun i hi => hc i _ ?_⟩
  rw [List.getElem?_map, List.getElem?_eq_getElem hi, List.getD_eq_getElem?_getD, List.getElem?_eq_getElem hi]; rfl
set_option maxRecDepth 100000 in
theorem rep_hitI {r : List Int} {k : Nat} {y : Int} (hk : k < r.length) (hy : r.getD k 0 = y) (h : (r.take k).contains y = true) : repI r = true := by
  refine List.any_eq_true.2 ⟨k, List.mem_range.2 hk, ?_⟩
  rw [hy]; exact h
set_option maxRecDepth 100000 in
theorem rep_missI {r : List Int} (h : ∀ j, j < r.length → (r.take j).contains (r.getD j 0) = false) : repI r = false := by
  rw [Bool.eq_false_iff]
  intro hr
  obtain ⟨k, hk, h2⟩ := List.any_eq_true.1 hr
  rw [h k (List.mem_range.1 hk)] at h2
  cases h2
set_option maxRecDepth 100000 in
set_option maxHeartbeats 3200000 in
theorem irep_any (r : List Int) (p : Option Addr) (c : Nat) (q : Nat → Prop) (w : World) (hR : Rd w q (.slice p r.length c) (r.map fun z => Value.int .i64 z)) (hm : r.length ≤ 9223372036854775807) :
    Calls Try.prog 58 #[.slice p r.length c] w fun e w' => e = .returned (.bool (repI r)) ∧ w.grownBy w' none := by
  have HR := Lib.hid hR
  clear hR
  go_enter Try.func58, Try.ntmps58
  go_wp2_with fail
  go_loopw [3] (fun a wr => ∃ k : Nat, k ≤ r.length ∧ a = .int .i64 (k : Int) ∧ Hid (w.grownBy wr none) ∧ Hid (∀ j, j < k → (r.take j).contains (r.getD j 0) = false)) (fun a _ => r.length - (RowKit.intOf a).toNat)
  case atStart => exact ⟨0, Nat.zero_le _, rfl, Lib.hid (grown_refl _ _), Lib.hid fun j hj => absurd hj (Nat.not_lt_zero _)⟩
  case round =>
    obtain ⟨k, hk, rfl, hG, hN⟩ := hrel
    by_cases hlt : k < r.length
    · obtain ⟨y, hy⟩ : ∃ y, r.getD k 0 = y := ⟨_, rfl⟩
      have HY := Lib.hid hy
      clear hy
      go_wp2_with fail
      go_loopw [4] (fun a wi => ∃ m : Nat, m ≤ k ∧ a = .int .i64 (m : Int) ∧ Hid (w.grownBy wi none) ∧ Hid (∀ j, j < m → r.getD j 0 ≠ y)) (fun a _ => k - (RowKit.intOf a).toNat)
      case atStart => exact ⟨0, Nat.zero_le _, rfl, hG, Lib.hid fun j hj => absurd hj (Nat.not_lt_zero _)⟩
      case round =>
        obtain ⟨m, hmk, rfl, hG2, hN2⟩ := hrel
        by_cases hm2 : m < k
        · obtain ⟨b, off, rfl, _, hc⟩ := rdi_cellsI (HR.out.keep hG2.out) (by omega)
          have c0 := hc k hlt
          have c1 := hc m (by omega)
          rw [HY.out] at c0
          obtain ⟨z, hz⟩ : ∃ z, r.getD m 0 = z := ⟨_, rfl⟩
          rw [hz] at c1
          have HZ := Lib.hid hz
          have hml : m < r.length := by omega
          clear hc hz
          by_cases e : y = z
          · subst e
            go_wp2_with fail
            go_region
            change Exit.then _ _ _ _ wr.drew
            have HG3 := Lib.hid (grown_drew hG2.out)
            clear c0 c1 hG2 hG
            generalize wr.drew = w2 at *
            go_wp2_with fail
            go_ret
            rw [rep_hitI hlt HY.out (by
              rw [List.contains_iff_mem]
              have h3 := HZ.out
              rw [List.getD_eq_getElem?_getD, List.getElem?_eq_getElem hml] at h3
              rw [← show r[m] = y from h3]
              exact List.mem_of_getElem? (i := m) (by rw [List.getElem?_take, if_pos hm2, List.getElem?_eq_getElem hml]))]
            exact ⟨rfl, HG3.out⟩
          · have eb : (y == z) = false := by simpa using e
            go_wp2_with fail
            go_region
            change Exit.then _ _ _ _ wr.drew
            have HG3 := Lib.hid (grown_drew hG2.out)
            clear c0 c1 hG2 hG
            generalize wr.drew = w2 at *
            go_wp2_with fail
            refine ⟨⟨m + 1, by omega, by go_num, HG3, Lib.hid fun j hj => ?_⟩, by simp [RowKit.intOf]; omega⟩
            by_cases h2 : j = m
            · subst h2
              rw [HZ.out]
              exact fun h => e h.symm
            · exact hN2.out j (by omega)
        · obtain rfl : m = k := by omega
          go_wp2_with fail
          refine ⟨⟨m + 1, by omega, by go_num, hG2, Lib.hid fun j hj => ?_⟩, by simp [RowKit.intOf]; omega⟩
          by_cases h2 : j = m
          · subst h2
            rw [HY.out, Bool.eq_false_iff]
            intro hcn
            rw [List.contains_iff_mem] at hcn
            obtain ⟨i, hi, he⟩ := List.getElem_of_mem hcn
            rw [List.length_take] at hi
            refine hN2.out i (by omega) ?_
            rw [List.getD_eq_getElem?_getD, List.getElem?_eq_getElem (by omega)]
            rw [List.getElem_take] at he
            exact he
          · exact hN.out j (by omega)
    · obtain rfl : k = r.length := by omega
      go_wp2_with fail
      go_ret
      rw [rep_missI hN.out]
      exact ⟨rfl, hG.out⟩
end Go.Proofs.Ytgofadmncgmhoaa
