/- Parts of the proof, packed: TaTb, IdRsM, IdCnt, IdSeek, IdChk, IdFre, IdCon, IdLen, IdLay, IdSrt, IdEdg, IdRes, IdRsW, IdRtw, IdPln, IdVpl, IdRck, IdRcn, IdAwk, IdInt, IdRep, IdRvp. -/
import Derived.Test.YtpogblengagpaaaGreatDoorLo15
import Derived.Test.YtpogblengagpaaaGreatDoorLo3
import Derived.Test.YtpogblengagpaaaGreatDoorLo4
import Derived.Lib.SliceRun
import Derived.Deep.CutRange
import Derived.Test.YtpogblengagpaaaGreatDoorLo5
import Derived.Laws.StructEq
/- tables: lists of tables in memory. -/
namespace Go.Proofs.YtpogblengagpaaaGreatDoor
set_option maxRecDepth 100000
open Go.RowKit Bs
structure TbS where
 r : Int
 s : Int
 n : Int
 L : List Rw
 p : Option Addr
 c : Nat
def tbC (x : TbS) : List Value := [.int .i64 x.r, .int .i64 x.s, .int .i64 x.n, .slice x.p x.L.length x.c]
theorem tb_one (x : TbS) : ∀ u ∈ tbC x, u.oneCell' = true := by
 intro u hu
 simp [tbC] at hu
 rcases hu with rfl | rfl | rfl | rfl <;> rfl
structure TbX (lo : Nat) (w : World) (v : Value) (x : TbS) : Prop where
 rd : RdW w (fun b => lo ≤ b ∧ b < w.heap.size ∧ some b ≠ v.ownBlock) x.p x.c x.L
 hn : x.p = none → x.c = 0
 hc : x.L.length ≤ x.c ∧ x.c ≤ 9223372036854775807
 hy : ∀ y ∈ x.L, y.p = none → y.c = 0
theorem TbX.keep {lo : Nat} {w w1 : World} {v : Value} {x : TbS} (h : TbX lo w v x) (g : w.grownBy w1 none) : TbX lo w1 v x :=
 ⟨(h.rd.keep g).mono (fun b hb => ⟨hb.1, Nat.lt_of_lt_of_le hb.2.1 g.size, hb.2.2⟩), h.hn, h.hc, h.hy⟩
theorem TbX.put {lo : Nat} {w w1 : World} {v v' : Value} {x : TbS} (h : TbX lo w v x) (g : w.grownBy w1 v.ownBlock) (hv : v'.ownBlock = v.ownBlock ∨ ∀ b, some b = v'.ownBlock → w.heap.size ≤ b) : TbX lo w1 v' x :=
 ⟨(h.rd.grown g (fun b hb => hb.2.2)).mono (fun b hb => ⟨hb.1, Nat.lt_of_lt_of_le hb.2.1 g.size, fun e => by
  rcases hv with hv | hv
  ·rw [hv] at e; exact hb.2.2 e
  ·have := hv b e; have := hb.2.1; omega⟩), h.hn, h.hc, h.hy⟩
theorem TbX.over {lo : Nat} {w w1 : World} {v : Value} {x : TbS} {r : Nat} (h : TbX lo w v x) (g : w.grownBy w1 (some r)) (hr : ∀ b, lo ≤ b → b ≠ r) : TbX lo w1 v x :=
 ⟨(h.rd.grown g (fun b hb e => hr b hb.1 (Option.some.inj e))).mono (fun b hb => ⟨hb.1, Nat.lt_of_lt_of_le hb.2.1 g.size, hb.2.2⟩), h.hn, h.hc, h.hy⟩
theorem tbx_of_bld {lo base : Nat} {w : World} {v : Value} {L : List Rw} {p : Option Addr} {c : Nat} (r s n : Int) (hown : w.ownsRow base 80 2 (.slice p L.length c) L.length (L.flatMap rwC)) (hr : ∀ x ∈ L, RdX base w (.slice p L.length c) x.p x.c x.nx) (hv : ∀ b, v.ownBlock = some b → b < base) (hlo : lo ≤ base) : TbX lo w v ⟨r, s, n, L, p, c⟩ := by
 have hq : ∀ b, base ≤ b → some b ≠ v.ownBlock := fun b hb e => by have := hv b e.symm; omega
 refine ⟨⟨(rdf_of_own2 hown).mono (fun b hb => ⟨by omega, hb.2, hq b hb.1⟩), fun x hx => ⟨(hr x hx).1.mono (fun b hb => ⟨by have := hb.1; omega, hb.2.1, hq b hb.1⟩), (hr x hx).2.2⟩⟩, ?_, ?_, fun x hx => (hr x hx).2.1⟩
 ·intro hp
  rcases own_formF hown with ⟨e, h0⟩ | ⟨g, cap, e, -⟩
  ·injection e
  ·injection e with e1; subst hp; cases e1
 ·rcases own_formF hown with ⟨e, h0⟩ | ⟨g, cap, e, h1, h2⟩
  ·injection e with e1 e2 e3; subst e3; exact ⟨by show L.length ≤ 0; omega, by show (0 : Nat) ≤ _; omega⟩
  ·injection e with e1 e2 e3; subst e3; exact ⟨h1, h2⟩
theorem tb_cells {w : World} {q : Nat → Prop} {p : Option Addr} {n c : Nat} {Ts : List TbS} (h : RdF w q (.slice p n c) Ts.length (Ts.flatMap tbC)) (hn : 0 < Ts.length) :
  n = Ts.length ∧ ∃ b off, p = some ⟨b, off, none⟩ ∧ q b ∧ ∀ i x, Ts[i]? = some x → w.cell? ⟨b, off + i * 4, none⟩ = some (.int .i64 x.r) ∧ w.cell? ⟨b, off + i * 4 + 1, none⟩ = some (.int .i64 x.s) ∧ w.cell? ⟨b, off + i * 4 + 2, none⟩ = some (.int .i64 x.n) ∧ w.cell? ⟨b, off + i * 4 + 3, none⟩ = some (.slice x.p x.L.length x.c) := by
 obtain ⟨h0, b, off, hp, hq, hc⟩ := RdF.cells (f := tbC) (k := 4) (fun _ => rfl) (by decide) h hn
 exact ⟨h0, b, off, hp, hq, fun i x hi => ⟨hc i x hi 0 _ rfl, hc i x hi 1 _ rfl, hc i x hi 2 _ rfl, hc i x hi 3 _ rfl⟩⟩
structure AlT (W : World) (T : Tg) (s n : Int) (E : List Ed) (pE : Option Addr) (cE : Nat) (v : Value) (Ts : List TbS) (w : World) : Prop where
 bT : w.heap[W.heap.size]? = some (.cells #[.slice T.pR T.R.length T.cR, .slice T.pL T.L.length T.cL] 68 (0, 0))
 bP : w.heap[W.heap.size + 1]? = some (.cells #[.int .i64 s, .int .i64 n, .slice pE E.length cE] 72 (0, 0))
 t : TgOk w (· < W.heap.size) T
 e : RdF w (· < W.heap.size) (.slice pE E.length cE) E.length (E.flatMap edC)
 own : w.ownsRow (W.heap.size + 2) 25 4 v Ts.length (Ts.flatMap tbC)
 tabs : ∀ x ∈ Ts, TbX (W.heap.size + 2) w v x
 gr : W.grownBy w none
 lo : W.heap.size + 2 ≤ w.heap.size
theorem AlT.keep {W : World} {T : Tg} {s n : Int} {E : List Ed} {pE : Option Addr} {cE : Nat} {v : Value} {Ts : List TbS} {w w1 : World} (h : AlT W T s n E pE cE v Ts w) (g : w.grownBy w1 none) : AlT W T s n E pE cE v Ts w1 :=
 ⟨kept_row h.bT g (by simp), kept_row h.bP g (by simp), h.t.keep g, h.e.keep g, h.own.kept g (by cases v.ownBlock <;> simp), fun x hx => (h.tabs x hx).keep g, grown_trans h.gr g, Nat.le_trans h.lo g.size⟩
theorem AlT.push {W : World} {T : Tg} {s n : Int} {E : List Ed} {pE : Option Addr} {cE : Nat} {v v' : Value} {Ts : List TbS} {x : TbS} {w w1 : World} (h : AlT W T s n E pE cE v Ts w) (hx : TbX (W.heap.size + 2) w v x) (hown : w1.ownsRow (W.heap.size + 2) 25 4 v' (Ts ++ [x]).length ((Ts ++ [x]).flatMap tbC)) (g : w.grownBy w1 v.ownBlock) (hv : v'.ownBlock = v.ownBlock ∨ ∀ b, some b = v'.ownBlock → w.heap.size ≤ b) : AlT W T s n E pE cE v' (Ts ++ [x]) w1 := by
 have hne : ∀ b, b < W.heap.size + 2 → some b ≠ v.ownBlock := fun b hb e => by have := (h.own.lt b e.symm).1; omega
 refine ⟨kept_row h.bT g (hne _ (by omega)), kept_row h.bP g (hne _ (by omega)), h.t.grown g (fun b hb => hne b (by omega)), h.e.grown g (fun b hb => hne b (by omega)), hown, fun y hy => ?_, grown_any h.gr g (fun b hb => hne b (by omega)), Nat.le_trans h.lo g.size⟩
 rcases List.mem_append.1 hy with hm | hm
 ·exact (h.tabs y hm).put g hv
 ·rw [List.mem_singleton.1 hm]; exact hx.put g hv
theorem alT_start {w : World} {T : Tg} {q q2 : Nat → Prop} (s n : Int) {E : List Ed} {pE : Option Addr} {cE : Nat} (hT : TgOk w q T) (hE : RdF w q2 (.slice pE E.length cE) E.length (E.flatMap edC)) :
  AlT w T s n E pE cE (.slice none 0 0) [] ((w.alloc (.cells #[.slice T.pR T.R.length T.cR, .slice T.pL T.L.length T.cL] 68)).alloc (.cells #[.int .i64 s, .int .i64 n, .slice pE E.length cE] 72)) := by
 obtain ⟨a1, g1, z1⟩ := alloc_row (w := w) #[.slice T.pR T.R.length T.cR, .slice T.pL T.L.length T.cL] 68 rfl
 generalize w.alloc _ = w1 at *
 obtain ⟨a2, g2, z2⟩ := alloc_row (w := w1) #[.int .i64 s, .int .i64 n, .slice pE E.length cE] 72 z1
 generalize w1.alloc _ = w2 at *
 have gg := grown_trans g1 g2
 exact ⟨kept_row a1 g2 (by simp), a2, hT.old.keep gg, hE.old.keep gg, World.ownsRow_nil _ _ _ _, fun x hx => (by cases hx), gg, by omega⟩
theorem tb_row (w : World) (x : TbS) (t : TypeId) : ∀ j u, (tbC x)[j]? = some u → (w.alloc (.cells #[.int .i64 x.r, .int .i64 x.s, .int .i64 x.n, .slice x.p x.L.length x.c] t)).cell? ((⟨w.heap.size, 0, none⟩ : Addr).add j) = some u := by
 intro j u hu
 rw [add_plain]
 have hb := heap_alloc_new w (.cells #[.int .i64 x.r, .int .i64 x.s, .int .i64 x.n, .slice x.p x.L.length x.c] t)
 rcases j with _ | _ | _ | _ | j
 ·cases hu; exact cell_of_row _ _ _ _ _ _ hb
 ·cases hu; exact cell_of_row _ _ _ _ _ _ hb
 ·cases hu; exact cell_of_row _ _ _ _ _ _ hb
 ·cases hu; exact cell_of_row _ _ _ _ _ _ hb
 ·simp [tbC] at hu
def AllM (R : List Rt) (Lk0 : List Lk) (s n : Int) (E : List Ed) (rs : List Rt) (Ts : List TbS) : Prop := Ts.map (·.r) = (rs.filter (·.cap)).map (·.id) ∧ ∀ x ∈ Ts, x.s = s ∧ x.n = n ∧ BldM R Lk0 x.r E x.L
theorem AllM.nil {R : List Rt} {Lk0 : List Lk} {s n : Int} {E : List Ed} : AllM R Lk0 s n E [] [] := ⟨rfl, fun x hx => (by cases hx)⟩
theorem AllM.skip {R : List Rt} {Lk0 : List Lk} {s n : Int} {E : List Ed} {k : Nat} {y : Rt} {Ts : List TbS} (h : AllM R Lk0 s n E (R.take k) Ts) (hy : R[k]? = some y) (hc : y.cap = false) : AllM R Lk0 s n E (R.take (k + 1)) Ts := by
 refine ⟨?_, h.2⟩
 rw [List.take_add_one, hy, List.filter_append, List.map_append, ← h.1]
 simp [hc]
theorem AllM.push {R : List Rt} {Lk0 : List Lk} {s n : Int} {E : List Ed} {k : Nat} {y : Rt} {Ts : List TbS} (h : AllM R Lk0 s n E (R.take k) Ts) (hy : R[k]? = some y) (hc : y.cap = true) {L : List Rw} (hL : BldM R Lk0 y.id E L) (p : Option Addr) (c : Nat) : AllM R Lk0 s n E (R.take (k + 1)) (Ts ++ [⟨y.id, s, n, L, p, c⟩]) := by
 refine ⟨?_, fun x hx => ?_⟩
 ·rw [List.take_add_one, hy, List.filter_append, List.map_append, List.map_append, ← h.1]
  simp [hc]
 ·rcases List.mem_append.1 hx with hx | hx
  ·exact h.2 x hx
  ·rw [List.mem_singleton.1 hx]; exact ⟨rfl, rfl, hL⟩
theorem AllM.len {R : List Rt} {Lk0 : List Lk} {s n : Int} {E : List Ed} {rs : List Rt} {Ts : List TbS} (h : AllM R Lk0 s n E rs Ts) : Ts.length ≤ rs.length := by
 have := congrArg List.length h.1
 rw [List.length_map, List.length_map] at this
 rw [this]
 exact List.length_filter_le _ _
def RAllPost (R : List Rt) (Lk0 : List Lk) (s n : Int) (E : List Ed) (w : World) (e : Ending) (w' : World) : Prop :=
 ∃ (Ts : List TbS) (p : Option Addr) (c : Nat) (er : Int), e = .returned (.tuple #[.slice p Ts.length c, .int .i64 er]) ∧ ((er = 0 ∧ okT R Lk0 = true ∧ vPl s n E = true ∧ AllM R Lk0 s n E R Ts) ∨ (er = 1 ∧ ¬ (okT R Lk0 = true ∧ vPl s n E = true) ∧ Ts = [])) ∧ w'.ownsRow w.heap.size 25 4 (.slice p Ts.length c) Ts.length (Ts.flatMap tbC) ∧ (∀ x ∈ Ts, TbX w.heap.size w' (.slice p Ts.length c) x) ∧ w.grownBy w' none
theorem info_tabT : (Tryz.prog.info? 25).map (fun i => (i.zero, i.size, i.bytes)) = some (some (.agg #[.int .i64 0, .int .i64 0, .int .i64 0, .slice none 0 0]), 4, 48) := by kernel_rfl
end Go.Proofs.YtpogblengagpaaaGreatDoor

/- empty -/
namespace Go.Proofs.YtpogblengagpaaaGreatDoor
set_option maxRecDepth 100000
end Go.Proofs.YtpogblengagpaaaGreatDoor

/- empty -/
namespace Go.Proofs.YtpogblengagpaaaGreatDoor
set_option maxRecDepth 100000
end Go.Proofs.YtpogblengagpaaaGreatDoor

/- empty -/
namespace Go.Proofs.YtpogblengagpaaaGreatDoor
set_option maxRecDepth 100000
end Go.Proofs.YtpogblengagpaaaGreatDoor

/- empty -/
namespace Go.Proofs.YtpogblengagpaaaGreatDoor
set_option maxRecDepth 100000
end Go.Proofs.YtpogblengagpaaaGreatDoor

/- empty -/
namespace Go.Proofs.YtpogblengagpaaaGreatDoor
set_option maxRecDepth 100000
end Go.Proofs.YtpogblengagpaaaGreatDoor

/- identify: Conflicts, Length, Free. -/
namespace Go.Proofs.YtpogblengagpaaaGreatDoor
set_option maxRecDepth 100000
open Go.RowKit Bs
def ivC (z : Int) : List Value := [.int .i64 z]
theorem ivC_one (z : Int) : ∀ u ∈ ivC z, u.oneCell' = true := by
 intro u hu
 simp [ivC] at hu
 subst hu
 rfl
theorem flat_iv : ∀ X : List Int, X.flatMap ivC = X.map (fun z => Value.int .i64 z)
 | [] => rfl
 | a :: t => by rw [List.flatMap_cons, flat_iv t]; rfl
theorem iv_rowI (w : World) (z : Int) (t : TypeId) (j : Nat) (u : Value) (hu : ([z].flatMap ivC)[j]? = some u) : (w.alloc (.cells #[.int .i64 z] t)).cell? ((⟨w.heap.size, 0, none⟩ : Addr).add j) = some u :=
 cell_one w (.int .i64 z) t j u (by simpa [ivC] using hu)
end Go.Proofs.YtpogblengagpaaaGreatDoor

/- empty -/
namespace Go.Proofs.YtpogblengagpaaaGreatDoor
set_option maxRecDepth 100000
end Go.Proofs.YtpogblengagpaaaGreatDoor

/- empty -/
namespace Go.Proofs.YtpogblengagpaaaGreatDoor
set_option maxRecDepth 100000
end Go.Proofs.YtpogblengagpaaaGreatDoor

/- empty -/
namespace Go.Proofs.YtpogblengagpaaaGreatDoor
set_option maxRecDepth 100000
end Go.Proofs.YtpogblengagpaaaGreatDoor

/- empty -/
namespace Go.Proofs.YtpogblengagpaaaGreatDoor
set_option maxRecDepth 100000
end Go.Proofs.YtpogblengagpaaaGreatDoor

/- empty -/
namespace Go.Proofs.YtpogblengagpaaaGreatDoor
set_option maxRecDepth 100000
end Go.Proofs.YtpogblengagpaaaGreatDoor

/- empty -/
namespace Go.Proofs.YtpogblengagpaaaGreatDoor
set_option maxRecDepth 100000
end Go.Proofs.YtpogblengagpaaaGreatDoor

/- identify: routerTwice. -/
namespace Go.Proofs.YtpogblengagpaaaGreatDoor
set_option maxRecDepth 100000
open Go.RowKit Bs
section
variable {W w w1 : World} {E : List Ed} {p : Option Addr} {c B : Nat} {kf : Nat → Bool}
end
def rsE (E : List Ed) : List Int := E.map Ed.r
end Go.Proofs.YtpogblengagpaaaGreatDoor

/- identify: Plan. -/
namespace Go.Proofs.YtpogblengagpaaaGreatDoor
set_option maxRecDepth 100000
open Go.RowKit Bs
theorem row3i {w : World} {b : Nat} {t : TypeId} {x y z : Value} (h : w.heap[b]? = some (.cells #[x, y, z] t (0, 0))) : (w.cell? ⟨b, 0, none⟩ = some x ∧ w.cell? ⟨b, 1, none⟩ = some y ∧ w.cell? ⟨b, 2, none⟩ = some z) ∧ ∀ o, w.frozen? ⟨b, o, none⟩ = false :=
 ⟨⟨cell_of_row _ _ _ _ _ _ h, cell_of_row _ _ _ _ _ _ h, cell_of_row _ _ _ _ _ _ h⟩, fun o => frozen_of_row _ _ o _ _ h⟩
end Go.Proofs.YtpogblengagpaaaGreatDoor

/- empty -/
namespace Go.Proofs.YtpogblengagpaaaGreatDoor
set_option maxRecDepth 100000
end Go.Proofs.YtpogblengagpaaaGreatDoor

/- empty -/
namespace Go.Proofs.YtpogblengagpaaaGreatDoor
set_option maxRecDepth 100000
end Go.Proofs.YtpogblengagpaaaGreatDoor

/- empty -/
namespace Go.Proofs.YtpogblengagpaaaGreatDoor
set_option maxRecDepth 100000
end Go.Proofs.YtpogblengagpaaaGreatDoor

/- empty -/
namespace Go.Proofs.YtpogblengagpaaaGreatDoor
set_option maxRecDepth 100000
end Go.Proofs.YtpogblengagpaaaGreatDoor

/- empty -/
namespace Go.Proofs.YtpogblengagpaaaGreatDoor
set_option maxRecDepth 100000
end Go.Proofs.YtpogblengagpaaaGreatDoor

/- The reference's Repeats. -/
namespace Go.Proofs.YtpogblengagpaaaGreatDoor
set_option maxRecDepth 100000
open Go.RowKit Bs
theorem rdi_cellsI {w : World} {q : Nat → Prop} {p : Option Addr} {n c : Nat} {r : List Int} (h : Rd w q (.slice p n c) (r.map fun z => Value.int .i64 z)) (hn : 0 < r.length) :
  ∃ b off, p = some ⟨b, off, none⟩ ∧ q b ∧ ∀ i, i < r.length → w.cell? ⟨b, off + i, none⟩ = some (.int .i64 (r.getD i 0)) := by
 obtain ⟨p1, c1, e1, hx⟩ := h
 injection e1 with a1 a2 a3
 subst a1
 obtain ⟨b, off, hp, hq, hc⟩ := hx (by intro e; have := congrArg List.length e; simp only [List.length_map, List.length_nil] at this; omega)
 refine ⟨b, off, hp, hq, fun i hi => hc i _ ?_⟩
 rw [List.getElem?_map, List.getElem?_eq_getElem hi, List.getD_eq_getElem?_getD, List.getElem?_eq_getElem hi]; rfl
theorem rep_hitI {r : List Int} {k : Nat} {y : Int} (hk : k < r.length) (hy : r.getD k 0 = y) (h : (r.take k).contains y = true) : repI r = true := by
 refine List.any_eq_true.2 ⟨k, List.mem_range.2 hk, ?_⟩
 rw [hy]; exact h
theorem rep_missI {r : List Int} (h : ∀ j, j < r.length → (r.take j).contains (r.getD j 0) = false) : repI r = false := by
 rw [Bool.eq_false_iff]
 intro hr
 obtain ⟨k, hk, h2⟩ := List.any_eq_true.1 hr
 rw [h k (List.mem_range.1 hk)] at h2
 cases h2
set_option maxHeartbeats 3200000 in
theorem irep_any (r : List Int) (p : Option Addr) (c : Nat) (q : Nat → Prop) (w : World) (hR : Rd w q (.slice p r.length c) (r.map fun z => Value.int .i64 z)) (hm : r.length ≤ 9223372036854775807) :
  Calls Tryz.prog 89 #[.slice p r.length c] w fun e w' => e = .returned (.bool (repI r)) ∧ w.grownBy w' none := by
 have HR := Lib.hid hR
 clear hR
 go_enter Tryz.func89, Tryz.ntmps89
 go_wp2_with fail
 go_loopw [3] (fun a wr => ∃ k : Nat, k ≤ r.length ∧ a = .int .i64 (k : Int) ∧ Hid (w.grownBy wr none) ∧ Hid (∀ j, j < k → (r.take j).contains (r.getD j 0) = false)) (fun a _ => r.length - (RowKit.intOf a).toNat)
 case atStart => exact ⟨0, Nat.zero_le _, rfl, Lib.hid (grown_refl _ _), Lib.hid fun j hj => absurd hj (Nat.not_lt_zero _)⟩
 case round =>
  obtain ⟨k, hk, rfl, hG, hN⟩ := hrel
  by_cases hlt : k < r.length
  ·obtain ⟨y, hy⟩ : ∃ y, r.getD k 0 = y := ⟨_, rfl⟩
   have HY := Lib.hid hy
   clear hy
   go_wp2_with fail
   go_loopw [4] (fun a wi => ∃ m : Nat, m ≤ k ∧ a = .int .i64 (m : Int) ∧ Hid (w.grownBy wi none) ∧ Hid (∀ j, j < m → r.getD j 0 ≠ y)) (fun a _ => k - (RowKit.intOf a).toNat)
   case atStart => exact ⟨0, Nat.zero_le _, rfl, hG, Lib.hid fun j hj => absurd hj (Nat.not_lt_zero _)⟩
   case round =>
    obtain ⟨m, hmk, rfl, hG2, hN2⟩ := hrel
    by_cases hm2 : m < k
    ·obtain ⟨b, off, rfl, _, hc⟩ := rdi_cellsI (HR.out.keep hG2.out) (by omega)
     have c0 := hc k hlt
     have c1 := hc m (by omega)
     rw [HY.out] at c0
     obtain ⟨z, hz⟩ : ∃ z, r.getD m 0 = z := ⟨_, rfl⟩
     rw [hz] at c1
     have HZ := Lib.hid hz
     have hml : m < r.length := by omega
     clear hc hz
     by_cases e : y = z
     ·subst e
      go_wp2_with fail
      go_region
      change Exit.then _ _ _ _ wr.drew
      have HG3 := Lib.hid (grown_drew hG2.out)
      clear c0 c1 hG2 hG
      generalize wr.drew = w2 at *
      go_wp2_with fail
      go_ret
      rw [rep_hitI hlt HY.out (by
       rw [List.contains_iff_mem]
       have h3 := HZ.out
       rw [List.getD_eq_getElem?_getD, List.getElem?_eq_getElem hml] at h3
       rw [← show r[m] = y from h3]
       exact List.mem_of_getElem? (i := m) (by rw [List.getElem?_take, if_pos hm2, List.getElem?_eq_getElem hml]))]
      exact ⟨rfl, HG3.out⟩
     ·have eb : (y == z) = false := by simpa using e
      go_wp2_with fail
      go_region
      change Exit.then _ _ _ _ wr.drew
      have HG3 := Lib.hid (grown_drew hG2.out)
      clear c0 c1 hG2 hG
      generalize wr.drew = w2 at *
      go_wp2_with fail
      refine ⟨⟨m + 1, by omega, by go_num, HG3, Lib.hid fun j hj => ?_⟩, by simp [RowKit.intOf]; omega⟩
      by_cases h2 : j = m
      ·subst h2
       rw [HZ.out]
       exact fun h => e h.symm
      ·exact hN2.out j (by omega)
    ·obtain rfl : m = k := by omega
     go_wp2_with fail
     refine ⟨⟨m + 1, by omega, by go_num, hG2, Lib.hid fun j hj => ?_⟩, by simp [RowKit.intOf]; omega⟩
     by_cases h2 : j = m
     ·subst h2
      rw [HY.out, Bool.eq_false_iff]
      intro hcn
      rw [List.contains_iff_mem] at hcn
      obtain ⟨i, hi, he⟩ := List.getElem_of_mem hcn
      rw [List.length_take] at hi
      refine hN2.out i (by omega) ?_
      rw [List.getD_eq_getElem?_getD, List.getElem?_eq_getElem (by omega)]
      rw [List.getElem_take] at he
      exact he
     ·exact hN.out j (by omega)
  ·obtain rfl : k = r.length := by omega
   go_wp2_with fail
   go_ret
   rw [rep_missI hN.out]
   exact ⟨rfl, hG.out⟩
end Go.Proofs.YtpogblengagpaaaGreatDoor

/- The reference's ValidPlan. -/
namespace Go.Proofs.YtpogblengagpaaaGreatDoor
set_option maxRecDepth 100000
open Go.RowKit Bs
structure RQ (W : World) (sub n : Int) (E : List Ed) (p : Option Addr) (c : Nat) (v : Value) (M : List Int) (w : World) : Prop where
 bx : w.heap[W.heap.size]? = some (.cells #[.int .i64 sub, .int .i64 n, .slice p E.length c] 72 (0, 0))
 rd : RdF w (· < W.heap.size) (.slice p E.length c) E.length (E.flatMap edC)
 own : w.ownsRow (W.heap.size + 1) 3 1 v M.length (M.flatMap ivC)
 gr : W.grownBy w none
 sz : W.heap.size + 1 ≤ w.heap.size
section
variable {W w w1 : World} {sub n : Int} {E : List Ed} {p : Option Addr} {c : Nat} {v v' : Value} {M N : List Int}
theorem RQ.keep (h : RQ W sub n E p c v M w) (g : w.grownBy w1 none) : RQ W sub n E p c v M w1 :=
 ⟨kept_row h.bx g (by simp), h.rd.keep g, h.own.kept g (by cases v.ownBlock <;> simp), grown_trans h.gr g, Nat.le_trans h.sz g.size⟩
theorem RQ.app {o : Obj} (h : RQ W sub n E p c v M w) (hown : w1.ownsRow (W.heap.size + 1) 3 1 v' N.length (N.flatMap ivC)) (hg : (w.alloc o).grownBy w1 v.ownBlock) : RQ W sub n E p c v' N w1 := by
 have h1 := h.keep (World.grownBy_alloc w o none)
 have hne : ∀ b, b < W.heap.size + 1 → some b ≠ v.ownBlock := fun b hb e => by have := (h.own.lt b e.symm).1; omega
 exact ⟨kept_row h1.bx hg (hne _ (by omega)), h1.rd.grown hg (fun b hb => hne b (by omega)), hown, grown_any h1.gr hg (fun b hb => hne b (by omega)), Nat.le_trans h1.sz hg.size⟩
theorem keep4q {a1 a2 a3 a4 : Addr} {x1 x2 x3 x4 : Value} (h : w.cell? a1 = some x1 ∧ w.cell? a2 = some x2 ∧ w.cell? a3 = some x3 ∧ w.cell? a4 = some x4) (hg : Hid (w.grownBy w1 none)) :
  w1.cell? a1 = some x1 ∧ w1.cell? a2 = some x2 ∧ w1.cell? a3 = some x3 ∧ w1.cell? a4 = some x4 ∧ Hid (w.grownBy w1 none) := ⟨hg.out.cell h.1 (by simp), hg.out.cell h.2.1 (by simp), hg.out.cell h.2.2.1 (by simp), hg.out.cell h.2.2.2 (by simp), hg⟩
end
theorem vpl_wr {sub n : Int} {E : List Ed} {k : Nat} {y : Ed} (hy : E[k]? = some y) (h : wrE y = true) : vPl sub n E = false := by
 unfold vPl
 rw [any_at hy h]
 simp
theorem vpl_as {sub n : Int} {E : List Ed} {j : Nat} {x y : Ed} (hx : E[j]? = some x) (hy : E[j + 1]? = some y) (h : ¬ x.i < y.i) : vPl sub n E = false := by
 have : ascB ltE E = false := by
  rw [Bool.eq_false_iff]
  intro ha
  exact h (of_decide_eq_true ((ascB_iff ltE E).1 ha j x y hx hy))
 unfold vPl
 rw [this]
 simp
theorem rsE_snoc {E : List Ed} {k : Nat} {y : Ed} (hy : E[k]? = some y) : rsE (E.take (k + 1)) = rsE (E.take k) ++ [y.r] := by
 unfold rsE
 rw [List.take_add_one, hy, List.map_append]
 rfl
set_option maxHeartbeats 12800000 in
theorem irvplan_any (sub n : Int) (E : List Ed) (p : Option Addr) (c : Nat) (q : Nat → Prop) (w : World) (hR : RdF w q (.slice p E.length c) E.length (E.flatMap edC)) (hm : E.length ≤ 9223372036854775807) :
  Calls Tryz.prog 62 #[.agg #[.int .i64 sub, .int .i64 n, .slice p E.length c]] w fun e w' => e = .returned (.bool (vPl sub n E)) ∧ w.grownBy w' none := by
 obtain ⟨ii, hi, hi0, hi1, hi2⟩ := info_parts info_int
 obtain ⟨k1, k2⟩ := tone_box w #[.int .i64 sub, .int .i64 n, .slice p E.length c] 72
 have H0 : Hid (RQ w sub n E p c (.slice none 0 0) (rsE (E.take 0)) _) := Lib.hid ⟨k1, hR.old.keep k2, World.ownsRow_nil _ _ _ _, k2, by simp⟩
 clear k1 k2 hR
 go_enter Tryz.func62, Tryz.ntmps62
 go_upto_region 1 with fail
 generalize w.alloc _ = w1 at *
 obtain ⟨⟨d0, d1, d2⟩, -⟩ := row3i H0.out.bx
 obtain ⟨b1, hb1⟩ : ∃ b, inV sub 0 7 = b := ⟨_, rfl⟩
 have B1 := Lib.hid hb1
 clear hb1
 go_wp2_with fail
 refine (rin10_lit sub 0 7 _ B1.out w1).mono ?_
 rintro e w' ⟨rfl, rfl⟩
 cases b1
 case false =>
  go_wp2_with fail
  go_ret
  exact ⟨by unfold vPl; rw [B1.out]; rfl, H0.out.gr⟩
 obtain ⟨b2, hb2⟩ : ∃ b, vl n = b := ⟨_, rfl⟩
 have B2 := Lib.hid hb2
 clear hb2
 go_wp2_with fail
 refine (vlr10_lit n _ B2.out w1).mono ?_
 rintro e w' ⟨rfl, rfl⟩
 cases b2
 case true =>
  have HP : Hid (E.length ≤ 24 → vPl sub n E = (!E.any wrE && ascB ltE E && !repI (rsE E))) := Lib.hid (fun h => by
   unfold vPl rsE
   rw [B1.out, B2.out, decide_eq_true h]
   simp)
  by_cases h24 : 24 < E.length
  case pos =>
   have h24' : (24 : Int) < (E.length : Int) := by omega
   have HF0 : Hid (vPl sub n E = false) := Lib.hid (by unfold vPl; rw [decide_eq_false (show ¬ E.length ≤ 24 by omega)]; simp)
   go_wp2_with fail
   go_ret
   rw [HF0.out]
   exact ⟨rfl, H0.out.gr⟩
  have h24' : ¬ (24 : Int) < (E.length : Int) := by omega
  have HP2 := Lib.hid (HP.out (by omega))
  have HA0 : Hid ((E.take 0).any wrE = false ∧ ∀ i x y, i + 1 < 0 → E[i]? = some x → E[i + 1]? = some y → ltE x y = true) := Lib.hid ⟨rfl, fun i x y h => by omega⟩
  clear HP
  go_wp2_with fail
  clear d0 d1 d2
  go_loopw [3, 4] (fun u a wr => ∃ (k : Nat) (v : Value), v = u ∧ k ≤ E.length ∧ a = .int .i64 (k : Int) ∧ Hid ((E.take k).any wrE = false ∧ ∀ i x y, i + 1 < k → E[i]? = some x → E[i + 1]? = some y → ltE x y = true) ∧ Hid (RQ w sub n E p c v (rsE (E.take k)) wr)) (fun _ a _ => E.length - (RowKit.intOf a).toNat)
  case atStart => exact ⟨0, _, rfl, Nat.zero_le _, rfl, HA0, H0⟩
  case round =>
  clear HA0 H0
  obtain ⟨k, v, rfl, hk, rfl, HN, N⟩ := hrel
  obtain ⟨w2, hw2⟩ : ∃ w2, w2 = wr := ⟨_, rfl⟩
  rw [← hw2] at N ⊢
  clear hw2
  obtain ⟨⟨d0, d1, d2⟩, -⟩ := row3i N.out.bx
  by_cases hlt : k < E.length
  case neg =>
   obtain rfl : k = E.length := by omega
   have hnl : ¬ (E.length : Int) < (E.length : Int) := by omega
   have HV : Hid (vPl sub n E = !repI (rsE E)) := Lib.hid (by
    have h1 : E.any wrE = false := any_end HN.out.1 (Nat.le_refl _)
    have h2 : ascB ltE E = true := (ascB_iff ltE E).2 fun i x y hx hy => HN.out.2 i x y (List.getElem?_eq_some_iff.1 hy).1 hx hy
    rw [HP2.out, h1, h2]
    rfl)
   have hown := N.out.own
   rw [List.take_length] at hown
   obtain ⟨pv, cv, rfl, -, -⟩ := own_shape hown
   have HR2 := Lib.hid (rd_of_own (xs := (rsE E).map fun z => Value.int .i64 z) (by rw [← flat_iv]; exact hown))
   have hrl : (rsE E).length ≤ 24 := by unfold rsE; rw [List.length_map]; omega
   clear hown
   go_wp2_with fail
   refine (irep_any (rsE E) pv cv _ w2 HR2.out (by omega)).mono ?_
   rintro e w4 ⟨rfl, hg⟩
   have G2 := Lib.hid (grown_trans N.out.gr hg)
   clear hg N
   go_wp2_with fail
   go_ret
   rw [HV.out]
   exact ⟨rfl, G2.out⟩
  have hlt' : (k : Int) < (E.length : Int) := by omega
  obtain ⟨-, b, off, rfl, -, hcc⟩ := ed_cells N.out.rd (by omega)
  obtain ⟨y, hy⟩ : ∃ y, E[k]? = some y := ⟨_, List.getElem?_eq_getElem hlt⟩
  obtain ⟨a0, a1⟩ := hcc k y hy
  have HCC := Lib.hid hcc
  have HY := Lib.hid hy
  have HB0 := Lib.hid (tone_box w2 #[.int .i64 y.r, .int .i64 y.i] 78)
  clear hcc hy
  go_upto_region 8 with fail
  clear a0 a1 d0 d1 d2
  generalize w2.alloc _ = w3 at *
  generalize w2.heap.size = By at *
  have N1 := Lib.hid (N.out.keep HB0.out.2)
  have HB := Lib.hid HB0.out.1
  have GZ : Hid (w3.grownBy w3 none) := Lib.hid (grown_refl _ _)
  obtain ⟨b3, hb3⟩ : ∃ z, inV y.i 1 256 = z := ⟨_, rfl⟩
  obtain ⟨b4, hb4⟩ : ∃ z, inV y.r 1 99 = z := ⟨_, rfl⟩
  have HW : Hid (wrE y = !(b4 && b3)) := Lib.hid (by unfold wrE; rw [hb3, hb4])
  have B3 := Lib.hid hb3
  have B4 := Lib.hid hb4
  clear hb3 hb4
  have HK3 : Hid (w3.heap[By]? = some (.cells #[.int .i64 y.r, .int .i64 y.i] 78 (0, 0))) := HB
  obtain ⟨e0, e1⟩ := row_cells HB.out
  obtain ⟨⟨d0, d1, d2⟩, -⟩ := row3i N1.out.bx
  cases b3
  case false =>
   have HF0 : Hid (vPl sub n E = false) := Lib.hid (vpl_wr HY.out (by rw [HW.out]; cases b4 <;> rfl))
   have HF := Lib.hid (And.intro e0 (And.intro e1 d2))
   clear d0 d1
   refine wp_region_held_drew (S := fun w' => Hid (w3.grownBy w' none)) (by kernel_rfl) (hid_drew GZ) (fun hHeld => ?_)
   refine zT (i := 0) (v := ?_) rfl ?_ hHeld ?_
   rotate_left 1
   ·intro u hSu
    go_simp
    first | done | with_reducible rfl
   try simp only [Act.put, zA, zB, zC]
   refine zT (i := 1) (v := ?_) rfl ?_ hHeld ?_
   rotate_left 1
   ·intro u hSu
    have c0 := hSu.out.cell HF.out.1 (by simp)
    have c1 := hSu.out.cell HF.out.2.1 (by simp)
    have c2 := hSu.out.cell HF.out.2.2 (by simp)
    go_simp
    first | done | with_reducible rfl
   try simp only [Act.put, zA, zB, zC]
   refine wpAnyH_ready (rs := [2]) (by kernel_rfl) (by simp) ?_
   refine AllReadyH.cons (o := ⟨_, _, _, _, _, _⟩) rfl (fun Kz hK => ?_) AllReadyH.nil
   go_simp
   go_at_call 86
   refine (rin10_lit y.i 1 256 _ B3.out _).mono ?_
   rintro e w5 ⟨rfl, rfl⟩
   refine hK.out _ _ (hHeld) (fun hH2 => ?_)
   clear hK Kz hHeld
   have hHeld := hH2
   clear hH2
   try simp only [Act.put, zA, zB, zC]
   refine zT (i := 3) (v := ?_) rfl ?_ hHeld ?_
   rotate_left 1
   ·intro u hSu
    go_simp
    first | done | with_reducible rfl
   try simp only [Act.put, zA, zB, zC]
   refine zT (i := 4) (v := ?_) rfl ?_ hHeld ?_
   rotate_left 1
   ·intro u hSu
    go_simp
    first | done | with_reducible rfl
   try simp only [Act.put, zA, zB, zC]
   refine zS (i := 5) rfl hHeld ?_
   try simp only [Act.put, zA, zB, zC]
   refine zS (i := 6) rfl hHeld ?_
   try simp only [Act.put, zA, zB, zC]
   refine zS (i := 7) rfl hHeld ?_
   try simp only [Act.put, zA, zB, zC]
   refine zS (i := 8) rfl hHeld ?_
   try simp only [Act.put, zA, zB, zC]
   refine zT (i := 9) (v := ?_) rfl ?_ hHeld ?_
   rotate_left 1
   ·intro u hSu
    go_simp
    first | done | with_reducible rfl
   try simp only [Act.put, zA, zB, zC]
   refine zT (i := 10) (v := ?_) rfl ?_ hHeld ?_
   rotate_left 1
   ·intro u hSu
    go_simp
    first | done | with_reducible rfl
   try simp only [Act.put, zA, zB, zC]
   refine zS (i := 11) rfl hHeld ?_
   try simp only [Act.put, zA, zB, zC]
   refine zS (i := 12) rfl hHeld ?_
   try simp only [Act.put, zA, zB, zC]
   refine zS (i := 13) rfl hHeld ?_
   try simp only [Act.put, zA, zB, zC]
   refine zS (i := 14) rfl hHeld ?_
   try simp only [Act.put, zA, zB, zC]
   refine zS (i := 15) rfl hHeld ?_
   try simp only [Act.put, zA, zB, zC]
   refine zS (i := 16) rfl hHeld ?_
   try simp only [Act.put, zA, zB, zC]
   refine zS (i := 17) rfl hHeld ?_
   try simp only [Act.put, zA, zB, zC]
   refine zS (i := 18) rfl hHeld ?_
   try simp only [Act.put, zA, zB, zC]
   refine zS (i := 19) rfl hHeld ?_
   try simp only [Act.put, zA, zB, zC]
   refine zS (i := 20) rfl hHeld ?_
   try simp only [Act.put, zA, zB, zC]
   refine zS (i := 21) rfl hHeld ?_
   try simp only [Act.put, zA, zB, zC]
   refine zS (i := 22) rfl hHeld ?_
   try simp only [Act.put, zA, zB, zC]
   refine zS (i := 23) rfl hHeld ?_
   try simp only [Act.put, zA, zB, zC]
   refine zS (i := 24) rfl hHeld ?_
   try simp only [Act.put, zA, zB, zC]
   refine zT (i := 25) (v := ?_) rfl ?_ hHeld ?_
   rotate_left 1
   ·intro u hSu
    go_simp
    first | done | with_reducible rfl
   try simp only [Act.put, zA, zB, zC]
   refine wpAnyH_done (by kernel_rfl) ?_ _
   have G2 := Lib.hid (grown_trans N1.out.gr hHeld.out)
   clear hHeld N1 N
   go_wp2_with fail
   go_ret
   rw [HF0.out]
   exact ⟨rfl, G2.out⟩
  cases b4
  case false =>
   have HF0 : Hid (vPl sub n E = false) := Lib.hid (vpl_wr HY.out (by rw [HW.out]; rfl))
   have HF := Lib.hid (And.intro e0 (And.intro e1 d2))
   clear d0 d1
   refine wp_region_held_drew (S := fun w' => Hid (w3.grownBy w' none)) (by kernel_rfl) (hid_drew GZ) (fun hHeld => ?_)
   refine zT (i := 0) (v := ?_) rfl ?_ hHeld ?_
   rotate_left 1
   ·intro u hSu
    go_simp
    first | done | with_reducible rfl
   try simp only [Act.put, zA, zB, zC]
   refine zT (i := 1) (v := ?_) rfl ?_ hHeld ?_
   rotate_left 1
   ·intro u hSu
    have c0 := hSu.out.cell HF.out.1 (by simp)
    have c1 := hSu.out.cell HF.out.2.1 (by simp)
    have c2 := hSu.out.cell HF.out.2.2 (by simp)
    go_simp
    first | done | with_reducible rfl
   try simp only [Act.put, zA, zB, zC]
   refine wpAnyH_ready (rs := [2]) (by kernel_rfl) (by simp) ?_
   refine AllReadyH.cons (o := ⟨_, _, _, _, _, _⟩) rfl (fun Kz hK => ?_) AllReadyH.nil
   go_simp
   go_at_call 86
   refine (rin10_lit y.i 1 256 _ B3.out _).mono ?_
   rintro e w5 ⟨rfl, rfl⟩
   refine hK.out _ _ (hHeld) (fun hH2 => ?_)
   clear hK Kz hHeld
   have hHeld := hH2
   clear hH2
   try simp only [Act.put, zA, zB, zC]
   refine zT (i := 3) (v := ?_) rfl ?_ hHeld ?_
   rotate_left 1
   ·intro u hSu
    go_simp
    first | done | with_reducible rfl
   try simp only [Act.put, zA, zB, zC]
   refine zT (i := 4) (v := ?_) rfl ?_ hHeld ?_
   rotate_left 1
   ·intro u hSu
    go_simp
    first | done | with_reducible rfl
   try simp only [Act.put, zA, zB, zC]
   refine zT (i := 5) (v := ?_) rfl ?_ hHeld ?_
   rotate_left 1
   ·intro u hSu
    go_simp
    first | done | with_reducible rfl
   try simp only [Act.put, zA, zB, zC]
   refine zT (i := 6) (v := ?_) rfl ?_ hHeld ?_
   rotate_left 1
   ·intro u hSu
    have c0 := hSu.out.cell HF.out.1 (by simp)
    have c1 := hSu.out.cell HF.out.2.1 (by simp)
    have c2 := hSu.out.cell HF.out.2.2 (by simp)
    go_simp
    first | done | with_reducible rfl
   try simp only [Act.put, zA, zB, zC]
   refine wpAnyH_ready (rs := [7]) (by kernel_rfl) (by simp) ?_
   refine AllReadyH.cons (o := ⟨_, _, _, _, _, _⟩) rfl (fun Kz hK => ?_) AllReadyH.nil
   go_simp
   go_at_call 86
   refine (rin10_lit y.r 1 99 _ B4.out _).mono ?_
   rintro e w5 ⟨rfl, rfl⟩
   refine hK.out _ _ (hHeld) (fun hH2 => ?_)
   clear hK Kz hHeld
   have hHeld := hH2
   clear hH2
   try simp only [Act.put, zA, zB, zC]
   refine zT (i := 8) (v := ?_) rfl ?_ hHeld ?_
   rotate_left 1
   ·intro u hSu
    go_simp
    first | done | with_reducible rfl
   try simp only [Act.put, zA, zB, zC]
   refine zT (i := 9) (v := ?_) rfl ?_ hHeld ?_
   rotate_left 1
   ·intro u hSu
    go_simp
    first | done | with_reducible rfl
   try simp only [Act.put, zA, zB, zC]
   refine zT (i := 10) (v := ?_) rfl ?_ hHeld ?_
   rotate_left 1
   ·intro u hSu
    go_simp
    first | done | with_reducible rfl
   try simp only [Act.put, zA, zB, zC]
   refine zS (i := 11) rfl hHeld ?_
   try simp only [Act.put, zA, zB, zC]
   refine zS (i := 12) rfl hHeld ?_
   try simp only [Act.put, zA, zB, zC]
   refine zS (i := 13) rfl hHeld ?_
   try simp only [Act.put, zA, zB, zC]
   refine zS (i := 14) rfl hHeld ?_
   try simp only [Act.put, zA, zB, zC]
   refine zS (i := 15) rfl hHeld ?_
   try simp only [Act.put, zA, zB, zC]
   refine zS (i := 16) rfl hHeld ?_
   try simp only [Act.put, zA, zB, zC]
   refine zS (i := 17) rfl hHeld ?_
   try simp only [Act.put, zA, zB, zC]
   refine zS (i := 18) rfl hHeld ?_
   try simp only [Act.put, zA, zB, zC]
   refine zS (i := 19) rfl hHeld ?_
   try simp only [Act.put, zA, zB, zC]
   refine zS (i := 20) rfl hHeld ?_
   try simp only [Act.put, zA, zB, zC]
   refine zS (i := 21) rfl hHeld ?_
   try simp only [Act.put, zA, zB, zC]
   refine zS (i := 22) rfl hHeld ?_
   try simp only [Act.put, zA, zB, zC]
   refine zS (i := 23) rfl hHeld ?_
   try simp only [Act.put, zA, zB, zC]
   refine zS (i := 24) rfl hHeld ?_
   try simp only [Act.put, zA, zB, zC]
   refine zT (i := 25) (v := ?_) rfl ?_ hHeld ?_
   rotate_left 1
   ·intro u hSu
    go_simp
    first | done | with_reducible rfl
   try simp only [Act.put, zA, zB, zC]
   refine wpAnyH_done (by kernel_rfl) ?_ _
   have G2 := Lib.hid (grown_trans N1.out.gr hHeld.out)
   clear hHeld N1 N
   go_wp2_with fail
   go_ret
   rw [HF0.out]
   exact ⟨rfl, G2.out⟩
  have HWY : Hid (wrE y = false) := Lib.hid (by rw [HW.out]; rfl)
  clear HW
  have HA : Hid ((E.take (k + 1)).any wrE = false) := Lib.hid (any_take HN.out.1 HY.out HWY.out)
  by_cases hk1 : 0 < k
  case neg =>
   have hk0 : ¬ (0 : Int) < (k : Int) := by omega
   have HF := Lib.hid (And.intro e0 (And.intro e1 d2))
   have HS2 : Hid ((E.take (k + 1)).any wrE = false ∧ ∀ i x z, i + 1 < k + 1 → E[i]? = some x → E[i + 1]? = some z → ltE x z = true) := Lib.hid ⟨HA.out, fun i x z h => by omega⟩
   clear d0 d1 HA
   refine wp_region_held_drew (S := fun w' => Hid (w3.grownBy w' none)) (by kernel_rfl) (hid_drew GZ) (fun hHeld => ?_)
   refine zT (i := 0) (v := ?_) rfl ?_ hHeld ?_
   rotate_left 1
   ·intro u hSu
    go_simp
    first | done | with_reducible rfl
   try simp only [Act.put, zA, zB, zC]
   refine zT (i := 1) (v := ?_) rfl ?_ hHeld ?_
   rotate_left 1
   ·intro u hSu
    have c0 := hSu.out.cell HF.out.1 (by simp)
    have c1 := hSu.out.cell HF.out.2.1 (by simp)
    have c2 := hSu.out.cell HF.out.2.2 (by simp)
    go_simp
    first | done | with_reducible rfl
   try simp only [Act.put, zA, zB, zC]
   refine wpAnyH_ready (rs := [2]) (by kernel_rfl) (by simp) ?_
   refine AllReadyH.cons (o := ⟨_, _, _, _, _, _⟩) rfl (fun Kz hK => ?_) AllReadyH.nil
   go_simp
   go_at_call 86
   refine (rin10_lit y.i 1 256 _ B3.out _).mono ?_
   rintro e w5 ⟨rfl, rfl⟩
   refine hK.out _ _ (hHeld) (fun hH2 => ?_)
   clear hK Kz hHeld
   have hHeld := hH2
   clear hH2
   try simp only [Act.put, zA, zB, zC]
   refine zT (i := 3) (v := ?_) rfl ?_ hHeld ?_
   rotate_left 1
   ·intro u hSu
    go_simp
    first | done | with_reducible rfl
   try simp only [Act.put, zA, zB, zC]
   refine zT (i := 4) (v := ?_) rfl ?_ hHeld ?_
   rotate_left 1
   ·intro u hSu
    go_simp
    first | done | with_reducible rfl
   try simp only [Act.put, zA, zB, zC]
   refine zT (i := 5) (v := ?_) rfl ?_ hHeld ?_
   rotate_left 1
   ·intro u hSu
    go_simp
    first | done | with_reducible rfl
   try simp only [Act.put, zA, zB, zC]
   refine zT (i := 6) (v := ?_) rfl ?_ hHeld ?_
   rotate_left 1
   ·intro u hSu
    have c0 := hSu.out.cell HF.out.1 (by simp)
    have c1 := hSu.out.cell HF.out.2.1 (by simp)
    have c2 := hSu.out.cell HF.out.2.2 (by simp)
    go_simp
    first | done | with_reducible rfl
   try simp only [Act.put, zA, zB, zC]
   refine wpAnyH_ready (rs := [7]) (by kernel_rfl) (by simp) ?_
   refine AllReadyH.cons (o := ⟨_, _, _, _, _, _⟩) rfl (fun Kz hK => ?_) AllReadyH.nil
   go_simp
   go_at_call 86
   refine (rin10_lit y.r 1 99 _ B4.out _).mono ?_
   rintro e w5 ⟨rfl, rfl⟩
   refine hK.out _ _ (hHeld) (fun hH2 => ?_)
   clear hK Kz hHeld
   have hHeld := hH2
   clear hH2
   try simp only [Act.put, zA, zB, zC]
   refine zT (i := 8) (v := ?_) rfl ?_ hHeld ?_
   rotate_left 1
   ·intro u hSu
    go_simp
    first | done | with_reducible rfl
   try simp only [Act.put, zA, zB, zC]
   refine zT (i := 9) (v := ?_) rfl ?_ hHeld ?_
   rotate_left 1
   ·intro u hSu
    go_simp
    first | done | with_reducible rfl
   try simp only [Act.put, zA, zB, zC]
   refine zT (i := 10) (v := ?_) rfl ?_ hHeld ?_
   rotate_left 1
   ·intro u hSu
    go_simp
    first | done | with_reducible rfl
   try simp only [Act.put, zA, zB, zC]
   refine zT (i := 11) (v := ?_) rfl ?_ hHeld ?_
   rotate_left 1
   ·intro u hSu
    go_simp
    first | done | with_reducible rfl
   try simp only [Act.put, zA, zB, zC]
   refine zT (i := 12) (v := ?_) rfl ?_ hHeld ?_
   rotate_left 1
   ·intro u hSu
    go_simp
    first | done | with_reducible rfl
   try simp only [Act.put, zA, zB, zC]
   refine zT (i := 13) (v := ?_) rfl ?_ hHeld ?_
   rotate_left 1
   ·intro u hSu
    go_simp
    first | done | with_reducible rfl
   try simp only [Act.put, zA, zB, zC]
   refine zS (i := 14) rfl hHeld ?_
   try simp only [Act.put, zA, zB, zC]
   refine zS (i := 15) rfl hHeld ?_
   try simp only [Act.put, zA, zB, zC]
   refine zS (i := 16) rfl hHeld ?_
   try simp only [Act.put, zA, zB, zC]
   refine zS (i := 17) rfl hHeld ?_
   try simp only [Act.put, zA, zB, zC]
   refine zS (i := 18) rfl hHeld ?_
   try simp only [Act.put, zA, zB, zC]
   refine zS (i := 19) rfl hHeld ?_
   try simp only [Act.put, zA, zB, zC]
   refine zS (i := 20) rfl hHeld ?_
   try simp only [Act.put, zA, zB, zC]
   refine zS (i := 21) rfl hHeld ?_
   try simp only [Act.put, zA, zB, zC]
   refine zS (i := 22) rfl hHeld ?_
   try simp only [Act.put, zA, zB, zC]
   refine zS (i := 23) rfl hHeld ?_
   try simp only [Act.put, zA, zB, zC]
   refine zT (i := 24) (v := ?_) rfl ?_ hHeld ?_
   rotate_left 1
   ·intro u hSu
    go_simp
    first | done | with_reducible rfl
   try simp only [Act.put, zA, zB, zC]
   refine zT (i := 25) (v := ?_) rfl ?_ hHeld ?_
   rotate_left 1
   ·intro u hSu
    go_simp
    first | done | with_reducible rfl
   try simp only [Act.put, zA, zB, zC]
   refine wpAnyH_done (by kernel_rfl) ?_ _
   have N2 := Lib.hid (And.intro (N1.out.keep hHeld.out) (kept_row HB.out hHeld.out (by simp)))
   clear hHeld N1 N HB HF GZ HK3 HB0
   generalize w3.drew = w5 at *
   obtain ⟨d0, d1⟩ := row_cells N2.out.2
   have hbs : w.heap.size + 1 ≤ w5.heap.size := N2.out.1.sz
   have hml : (rsE (E.take (k))).length ≤ 24 := by unfold rsE; rw [List.length_map, List.length_take]; omega
   have HRS : Hid (rsE (E.take (k + 1)) = rsE (E.take (k)) ++ [y.r]) := Lib.hid (rsE_snoc HY.out)
   obtain ⟨M, hM⟩ : ∃ M, rsE (E.take (k)) = M := ⟨_, rfl⟩
   rw [hM] at HRS hml N2
   clear hM
   obtain ⟨pv, cv, rfl, -, -⟩ := own_shape N2.out.1.own
   have HO := Lib.hid N2.out.1.own
   go_wp2_with (at_builtin; refine wpList_append_f ivC 1 8 (by decide) (fun _ => rfl) ivC_one 3 22 ii _ Tryz.underlying22 hi hi0 hi1 hi2 rfl (by decide) rfl _ _ rfl (w.heap.size + 1) _ M _ ?c0 rfl (HO.out.alloc _) (some ⟨w5.heap.size, 0, none⟩) 1 1 [y.r] rfl rfl (by simp) (fun _ => True) (rdf_one _ trivial (fun j u hu => iv_rowI _ _ _ _ _ hu) 1) (by decide) (by simp; omega) (by simp; omega) ?_)
   try (case c0 => rfl)
   intro v' w9 hown' hg
   have N3 : Hid (RQ w sub n E (some ⟨b, off, none⟩) c v' (rsE (E.take (k + 1))) w9) := Lib.hid (by rw [HRS.out]; exact N2.out.1.app (by simpa using hown') hg)
   obtain ⟨p1, c1, rfl, -, -⟩ := own_shape hown'
   clear hown' hg HO N2 d0 d1
   go_wp2_with fail
   exact ⟨⟨k + 1, _, rfl, by omega, congrArg _ (by omega), HS2, N3⟩, by simp only [RowKit.intOf]; omega⟩
  obtain ⟨j, rfl⟩ : ∃ j, k = j + 1 := ⟨k - 1, by omega⟩
  obtain ⟨x, hx⟩ : ∃ x, E[j]? = some x := ⟨_, List.getElem?_eq_getElem (by omega)⟩
  have a1 := HB0.out.2.cell (HCC.out j x hx).2 (by simp)
  have HF := Lib.hid (And.intro e0 (And.intro e1 (And.intro d2 a1)))
  have HX := Lib.hid hx
  have ew1 : ((j : Int) + 1 - 1) = (j : Int) := by omega
  have ew2 : IntKind.i64.wrap ((j : Int) + 1 - 1) = (j : Int) := by rw [ew1, IntWalk.i64_in _ (by omega)]
  have ew3 : IntKind.i64.wrap (j : Int) = (j : Int) := IntWalk.i64_in _ (by omega)
  have j0 : (0 : Int) ≤ (j : Int) := by omega
  have j1 : (0 : Int) < (j : Int) + 1 := by omega
  have j2 : (j : Int) < (E.length : Int) := by omega
  clear d0 d1 hx hk1
  by_cases hxy : x.i < y.i
  case neg =>
   have hxy' : y.i ≤ x.i := by omega
   have HF0 : Hid (vPl sub n E = false) := Lib.hid (vpl_as HX.out HY.out hxy)
   have hcast : ((j + 1 : Nat) : Int) = (j : Int) + 1 := by omega
   rw [hcast]
   clear hcast hxy
   go_region_held3 (fun w' => w'.cell? ⟨By, 0, none⟩ = some (.int .i64 y.r) ∧ w'.cell? ⟨By, 1, none⟩ = some (.int .i64 y.i) ∧ w'.cell? ⟨w.heap.size, 2, none⟩ = some (.slice (some ⟨b, off, none⟩) E.length c) ∧ w'.cell? ⟨b, off + j * 2 + 1, none⟩ = some (.int .i64 x.i) ∧ Hid (w3.grownBy w' none))
    (first | with_reducible exact keep4q HF.out (hid_drew GZ) | (go_split_ands; with_reducible refine keep4q HF.out ?_; with_reducible assumption) | (go_split_ands; with_reducible refine keep4q HF.out (hid_drew ?_); with_reducible assumption))
    ((go_at_call 86; go_split_ands; (first | with_reducible refine (rin10_lit y.i 1 256 _ B3.out _).mono ?_ | with_reducible refine (rin10_lit y.r 1 99 _ B4.out _).mono ?_); rintro e w' ⟨rfl, rfl⟩))
   all_goals
    go_split_ands
    have HG1 := (by assumption : Hid (w3.grownBy _ none))
    have G2 := Lib.hid (grown_trans N1.out.gr HG1.out)
    clear HG1 N1 N
    go_wp2_with fail
    go_ret
    rw [HF0.out]
    exact ⟨rfl, G2.out⟩
  have hxy' : ¬ y.i ≤ x.i := by omega
  have HS2 : Hid ((E.take (j + 1 + 1)).any wrE = false ∧ ∀ i x z, i + 1 < j + 1 + 1 → E[i]? = some x → E[i + 1]? = some z → ltE x z = true) := Lib.hid ⟨HA.out, fun i u z h hu hz => by
   by_cases hij : i + 1 < j + 1
   ·exact HN.out.2 i u z hij hu hz
   ·obtain rfl : i = j := by omega
    rw [HX.out] at hu
    rw [HY.out] at hz
    obtain rfl := Option.some.inj hu
    obtain rfl := Option.some.inj hz
    exact decide_eq_true hxy⟩
  have hcast : ((j + 1 : Nat) : Int) = (j : Int) + 1 := by omega
  rw [hcast]
  clear hcast HA
  go_region_held3 (fun w' => w'.cell? ⟨By, 0, none⟩ = some (.int .i64 y.r) ∧ w'.cell? ⟨By, 1, none⟩ = some (.int .i64 y.i) ∧ w'.cell? ⟨w.heap.size, 2, none⟩ = some (.slice (some ⟨b, off, none⟩) E.length c) ∧ w'.cell? ⟨b, off + j * 2 + 1, none⟩ = some (.int .i64 x.i) ∧ Hid (w3.grownBy w' none))
   (first | with_reducible exact keep4q HF.out (hid_drew GZ) | (go_split_ands; with_reducible refine keep4q HF.out ?_; with_reducible assumption) | (go_split_ands; with_reducible refine keep4q HF.out (hid_drew ?_); with_reducible assumption))
   ((go_at_call 86; go_split_ands; (first | with_reducible refine (rin10_lit y.i 1 256 _ B3.out _).mono ?_ | with_reducible refine (rin10_lit y.r 1 99 _ B4.out _).mono ?_); rintro e w' ⟨rfl, rfl⟩))
  all_goals
   go_split_ands
   have HG1 := (by assumption : Hid (w3.grownBy _ none))
   have N2 := Lib.hid (And.intro (N1.out.keep HG1.out) (kept_row HB.out HG1.out (by simp)))
   clear HG1 N1 N HB HF GZ HK3 HB0
   generalize w3.drew = w5 at *
   obtain ⟨d0, d1⟩ := row_cells N2.out.2
   have hbs : w.heap.size + 1 ≤ w5.heap.size := N2.out.1.sz
   have hml : (rsE (E.take (j + 1))).length ≤ 24 := by unfold rsE; rw [List.length_map, List.length_take]; omega
   have HRS : Hid (rsE (E.take (j + 1 + 1)) = rsE (E.take (j + 1)) ++ [y.r]) := Lib.hid (rsE_snoc HY.out)
   obtain ⟨M, hM⟩ : ∃ M, rsE (E.take (j + 1)) = M := ⟨_, rfl⟩
   rw [hM] at HRS hml N2
   clear hM
   obtain ⟨pv, cv, rfl, -, -⟩ := own_shape N2.out.1.own
   have HO := Lib.hid N2.out.1.own
   go_wp2_with (at_builtin; refine wpList_append_f ivC 1 8 (by decide) (fun _ => rfl) ivC_one 3 22 ii _ Tryz.underlying22 hi hi0 hi1 hi2 rfl (by decide) rfl _ _ rfl (w.heap.size + 1) _ M _ ?c0 rfl (HO.out.alloc _) (some ⟨w5.heap.size, 0, none⟩) 1 1 [y.r] rfl rfl (by simp) (fun _ => True) (rdf_one _ trivial (fun j u hu => iv_rowI _ _ _ _ _ hu) 1) (by decide) (by simp; omega) (by simp; omega) ?_)
   try (case c0 => rfl)
   intro v' w9 hown' hg
   have N3 : Hid (RQ w sub n E (some ⟨b, off, none⟩) c v' (rsE (E.take (j + 1 + 1))) w9) := Lib.hid (by rw [HRS.out]; exact N2.out.1.app (by simpa using hown') hg)
   obtain ⟨p1, c1, rfl, -, -⟩ := own_shape hown'
   clear hown' hg HO N2 d0 d1
   go_wp2_with fail
   exact ⟨⟨j + 1 + 1, _, rfl, by omega, congrArg _ (by omega), HS2, N3⟩, by simp only [RowKit.intOf]; omega⟩
 by_cases hn0 : n = 0
 case neg =>
  have hn0' : (n != 0) = true := by simpa using hn0
  have HF : Hid (vPl sub n E = false) := Lib.hid (by unfold vPl; rw [B2.out, decide_eq_false hn0]; simp)
  clear hn0
  go_wp2_with fail
  go_ret
  rw [HF.out]
  exact ⟨rfl, H0.out.gr⟩
 have hn0' : (n != 0) = false := by simpa using hn0
 by_cases hE : 0 < E.length
 case pos =>
  have hE' : (0 : Int) < (E.length : Int) := by omega
  have HF : Hid (vPl sub n E = false) := Lib.hid (by unfold vPl; rw [B2.out, decide_eq_false (show ¬ E.length = 0 by omega)]; simp)
  clear hn0
  go_wp2_with fail
  go_ret
  rw [HF.out]
  exact ⟨rfl, H0.out.gr⟩
 have hE' : ¬ (0 : Int) < (E.length : Int) := by omega
 have HP : Hid (E.length ≤ 24 → vPl sub n E = (!E.any wrE && ascB ltE E && !repI (rsE E))) := Lib.hid (fun h => by
  unfold vPl rsE
  rw [B1.out, decide_eq_true h, decide_eq_true hn0, decide_eq_true (show E.length = 0 by omega)]
  simp)
 clear hn0
 by_cases h24 : 24 < E.length
 case pos => omega
 have h24' : ¬ (24 : Int) < (E.length : Int) := by omega
 have HP2 := Lib.hid (HP.out (by omega))
 have HA0 : Hid ((E.take 0).any wrE = false ∧ ∀ i x y, i + 1 < 0 → E[i]? = some x → E[i + 1]? = some y → ltE x y = true) := Lib.hid ⟨rfl, fun i x y h => by omega⟩
 clear HP
 go_wp2_with fail
 clear d0 d1 d2
 go_loopw [3, 4] (fun u a wr => ∃ (k : Nat) (v : Value), v = u ∧ k ≤ E.length ∧ a = .int .i64 (k : Int) ∧ Hid ((E.take k).any wrE = false ∧ ∀ i x y, i + 1 < k → E[i]? = some x → E[i + 1]? = some y → ltE x y = true) ∧ Hid (RQ w sub n E p c v (rsE (E.take k)) wr)) (fun _ a _ => E.length - (RowKit.intOf a).toNat)
 case atStart => exact ⟨0, _, rfl, Nat.zero_le _, rfl, HA0, H0⟩
 case round =>
 clear HA0 H0
 obtain ⟨k, v, rfl, hk, rfl, HN, N⟩ := hrel
 obtain ⟨w2, hw2⟩ : ∃ w2, w2 = wr := ⟨_, rfl⟩
 rw [← hw2] at N ⊢
 clear hw2
 obtain ⟨⟨d0, d1, d2⟩, -⟩ := row3i N.out.bx
 by_cases hlt : k < E.length
 case neg =>
  obtain rfl : k = E.length := by omega
  have hnl : ¬ (E.length : Int) < (E.length : Int) := by omega
  have HV : Hid (vPl sub n E = !repI (rsE E)) := Lib.hid (by
   have h1 : E.any wrE = false := any_end HN.out.1 (Nat.le_refl _)
   have h2 : ascB ltE E = true := (ascB_iff ltE E).2 fun i x y hx hy => HN.out.2 i x y (List.getElem?_eq_some_iff.1 hy).1 hx hy
   rw [HP2.out, h1, h2]
   rfl)
  have hown := N.out.own
  rw [List.take_length] at hown
  obtain ⟨pv, cv, rfl, -, -⟩ := own_shape hown
  have HR2 := Lib.hid (rd_of_own (xs := (rsE E).map fun z => Value.int .i64 z) (by rw [← flat_iv]; exact hown))
  have hrl : (rsE E).length ≤ 24 := by unfold rsE; rw [List.length_map]; omega
  clear hown
  go_wp2_with fail
  refine (irep_any (rsE E) pv cv _ w2 HR2.out (by omega)).mono ?_
  rintro e w4 ⟨rfl, hg⟩
  have G2 := Lib.hid (grown_trans N.out.gr hg)
  clear hg N
  go_wp2_with fail
  go_ret
  rw [HV.out]
  exact ⟨rfl, G2.out⟩
 omega
end Go.Proofs.YtpogblengagpaaaGreatDoor
