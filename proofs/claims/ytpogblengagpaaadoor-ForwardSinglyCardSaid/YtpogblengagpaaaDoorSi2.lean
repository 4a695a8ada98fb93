/- Parts of the proof, packed: ToMem, ToLeaf, ToFuns, ToSeek, ToRow, ToJoin, ToCheck, ToNear, ToHop, ToCheckR, ToFail, ToWith, ToRws, ToCpy, ToBs, ToOrdM, ToWoM, ToLkM, ToLook, ToCln, ToDel, ShMath, ShDij, ShNear, ShMap, ToHasF, ToWiW, ToSort, ToSrt2, ShNst, ShDel, ShStp, ToDfs, ToDfsK, ToDfsW, ToComp, ToComp2, ShCfM, ShCf, ShDst, ShCst, ShNxt, ToApM, ShCto, ShPass, ShUse, ShRt, ShLay, ShSrt, ShCnt, ShPts, ShSrn, ShPtw, ShExm, ToCompW, ToConn, ToBri, ToCuts, ToAwake, ShAwk, ToTopK. -/
import Derived.Test.YtpogblengagpaaaDoorSi1
import Derived.Shelf.Abstract
import Derived.Deep.CutRange
import Derived.Deep.RegionHeld3
import Derived.Deep.QuietTactic
import Derived.BigQuiet
import Derived.IntWalk
import Derived.Lib.SmallJoins
import Derived.ArgAppend
import Derived.Laws.IdiomCopy
import Derived.Laws.BitsLemmas
import Derived.Deep.AppendLies
import Derived.Deep.CutBlock
import Derived.Lib.SliceRun
import Derived.Maps.OwnSet
import Derived.Maps.OwnOps
import Derived.WalkMore
import Derived.Deep.LoopGhost
import Derived.Deep.Onto
import Derived.Laws.OwnMore
/- Topologies in memory. -/
namespace Go.Proofs.YtpogblengagpaaaDoor
set_option maxRecDepth 100000
open Go.RowKit Bs
theorem tone_box (w : World) (A : Array Value) (t : TypeId) : (w.alloc (.cells A t)).heap[w.heap.size]? = some (.cells A t (0, 0)) ∧ w.grownBy (w.alloc (.cells A t)) none :=
 ⟨heap_alloc_new w _, World.grownBy_alloc w _ _⟩
def RdF (w : World) (q : Nat → Prop) (v : Value) (n : Nat) (xs : List Value) : Prop :=
 ∃ p c, v = .slice p n c ∧ (xs ≠ [] → ∃ b off, p = some ⟨b, off, none⟩ ∧ q b ∧ ∀ i x, xs[i]? = some x → w.cell? ⟨b, off + i, none⟩ = some x)
theorem RdF.grown {w w' : World} {q : Nat → Prop} {v : Value} {n : Nat} {xs : List Value} {r : Option Nat} (h : RdF w q v n xs) (g : w.grownBy w' r) (hq : ∀ b, q b → some b ≠ r) : RdF w' q v n xs := by
 obtain ⟨p, c, hv, hc⟩ := h
 refine ⟨p, c, hv, fun hne => ?_⟩
 obtain ⟨b, off, hp, hb, hx⟩ := hc hne
 exact ⟨b, off, hp, hb, fun i x hi => g.cell (hx i x hi) (hq b hb)⟩
theorem RdF.keep {w w' : World} {q : Nat → Prop} {v : Value} {n : Nat} {xs : List Value} (h : RdF w q v n xs) (g : w.grownBy w' none) : RdF w' q v n xs := h.grown g (fun _ _ => by simp)
theorem RdF.mono {w : World} {q q' : Nat → Prop} {v : Value} {n : Nat} {xs : List Value} (h : RdF w q v n xs) (hq : ∀ b, q b → q' b) : RdF w q' v n xs := by
 obtain ⟨p, c, hv, hc⟩ := h
 refine ⟨p, c, hv, fun hne => ?_⟩
 obtain ⟨b, off, hp, hb, hx⟩ := hc hne
 exact ⟨b, off, hp, hq b hb, hx⟩
theorem rdf_nil (w : World) (q : Nat → Prop) (p : Option Addr) (c : Nat) : RdF w q (.slice p 0 c) 0 [] := ⟨p, c, rfl, fun h => absurd rfl h⟩
theorem rdf_of_own {w : World} {base size : Nat} {e : TypeId} {v : Value} {n : Nat} {xs : List Value} (h : w.ownsRow base e size v n xs) : RdF w (base ≤ ·) v n xs := by
 rcases h.2 with ⟨rfl, h0⟩ | ⟨g, cap, cur, rfl, hb, hg, _⟩
 ·subst h0
  have hl : xs = [] := List.eq_nil_of_length_eq_zero (by have := h.1; omega)
  exact ⟨none, 0, rfl, fun hne => absurd hl hne⟩
 ·refine ⟨some ⟨g, 0, none⟩, cap, rfl, fun _ => ⟨g, 0, rfl, hb, fun i x hi => ?_⟩⟩
  have := h.cells (g := g) rfl i x hi
  have hadd : (⟨g, 0, none⟩ : Addr).add i = ⟨g, 0 + i, none⟩ := by unfold Addr.add; split <;> simp_all
  rw [hadd] at this
  exact this
theorem RdF.cells {α : Type} {f : α → List Value} {k : Nat} (hf : ∀ x, (f x).length = k) (hk : 0 < k) {w : World} {q : Nat → Prop} {p : Option Addr} {n c : Nat} {l : List α} (h : RdF w q (.slice p n c) l.length (l.flatMap f)) (hn : 0 < l.length) :
  n = l.length ∧ ∃ b off, p = some ⟨b, off, none⟩ ∧ q b ∧ ∀ i x, l[i]? = some x → ∀ j y, (f x)[j]? = some y → w.cell? ⟨b, off + i * k + j, none⟩ = some y := by
 obtain ⟨p1, c1, e1, hx⟩ := h
 injection e1 with a1 a2 a3
 subst a1
 have hne : l.flatMap f ≠ [] := by
  intro e
  have h2 := flat_len f k hf l
  rw [e, List.length_nil] at h2
  have := Nat.mul_pos hn hk
  omega
 obtain ⟨b, off, hp, hq, hc⟩ := hx hne
 refine ⟨a2, b, off, hp, hq, fun i x hi j y hj => ?_⟩
 have hjk : j < k := by
  have := (List.getElem?_eq_some_iff.1 hj).1
  rw [hf] at this
  exact this
 rw [Nat.add_assoc]
 exact hc _ _ ((flat_at f k hf l i j x hi hjk).trans hj)
abbrev RdR (w : World) (q : Nat → Prop) (v : Value) (R : List Rt) : Prop := RdF w q v R.length (R.flatMap rtC)
abbrev RdL5 (w : World) (q : Nat → Prop) (v : Value) (L : List Lk) : Prop := RdF w q v L.length (L.flatMap lkC)
theorem rdr_cells {w : World} {q : Nat → Prop} {p : Option Addr} {n c : Nat} {R : List Rt} (h : RdR w q (.slice p n c) R) (hn : 0 < R.length) :
  n = R.length ∧ ∃ b off, p = some ⟨b, off, none⟩ ∧ q b ∧ ∀ i x, R[i]? = some x → w.cell? ⟨b, off + i * 2, none⟩ = some (.int .i64 x.id) ∧ w.cell? ⟨b, off + i * 2 + 1, none⟩ = some (.bool x.cap) := by
 obtain ⟨h0, b, off, hp, hq, hc⟩ := RdF.cells (f := rtC) (k := 2) (fun _ => rfl) (by decide) h hn
 exact ⟨h0, b, off, hp, hq, fun i x hi => ⟨hc i x hi 0 _ rfl, hc i x hi 1 _ rfl⟩⟩
theorem rdl_cells {w : World} {q : Nat → Prop} {p : Option Addr} {n c : Nat} {L : List Lk} (h : RdL5 w q (.slice p n c) L) (hn : 0 < L.length) :
  n = L.length ∧ ∃ b off, p = some ⟨b, off, none⟩ ∧ q b ∧ ∀ i x, L[i]? = some x → w.cell? ⟨b, off + i * 5, none⟩ = some (.int .i64 x.a) ∧ w.cell? ⟨b, off + i * 5 + 1, none⟩ = some (.int .i64 x.b) ∧ w.cell? ⟨b, off + i * 5 + 2, none⟩ = some (.int .i64 x.ca) ∧ w.cell? ⟨b, off + i * 5 + 3, none⟩ = some (.int .i64 x.cb) ∧ w.cell? ⟨b, off + i * 5 + 4, none⟩ = some (.int .i64 x.cp) := by
 obtain ⟨h0, b, off, hp, hq, hc⟩ := RdF.cells (f := lkC) (k := 5) (fun _ => rfl) (by decide) h hn
 exact ⟨h0, b, off, hp, hq, fun i x hi => ⟨hc i x hi 0 _ rfl, hc i x hi 1 _ rfl, hc i x hi 2 _ rfl, hc i x hi 3 _ rfl, hc i x hi 4 _ rfl⟩⟩
structure Tg where
 R : List Rt
 L : List Lk
 pR : Option Addr
 cR : Nat
 pL : Option Addr
 cL : Nat
def Tg.vR (T : Tg) : Value := .slice T.pR T.R.length T.cR
def Tg.vL (T : Tg) : Value := .slice T.pL T.L.length T.cL
structure TgOk (w : World) (q : Nat → Prop) (T : Tg) : Prop where
 r : RdR w q (.slice T.pR T.R.length T.cR) T.R
 l : RdL5 w q (.slice T.pL T.L.length T.cL) T.L
 cr : T.R.length ≤ T.cR ∧ T.cR ≤ 9223372036854775807
 cl : T.L.length ≤ T.cL ∧ T.cL ≤ 9223372036854775807
theorem TgOk.keep {w w' : World} {q : Nat → Prop} {T : Tg} (h : TgOk w q T) (g : w.grownBy w' none) : TgOk w' q T := ⟨h.r.keep g, h.l.keep g, h.cr, h.cl⟩
theorem TgOk.grown {w w' : World} {q : Nat → Prop} {T : Tg} {r : Option Nat} (h : TgOk w q T) (g : w.grownBy w' r) (hq : ∀ b, q b → some b ≠ r) : TgOk w' q T := ⟨h.r.grown g hq, h.l.grown g hq, h.cr, h.cl⟩
theorem TgOk.mono {w : World} {q q' : Nat → Prop} {T : Tg} (h : TgOk w q T) (hq : ∀ b, q b → q' b) : TgOk w q' T := ⟨h.r.mono hq, h.l.mono hq, h.cr, h.cl⟩
end Go.Proofs.YtpogblengagpaaaDoor

/- topology: within, wrongID, wrongNumbers, the comparisons. -/
namespace Go.Proofs.YtpogblengagpaaaDoor
set_option maxRecDepth 100000
open Go.RowKit Bs
end Go.Proofs.YtpogblengagpaaaDoor

/- topology: lists that are searched by functions; what is ascending. -/
namespace Go.Proofs.YtpogblengagpaaaDoor
set_option maxRecDepth 100000
open Go.RowKit Bs
end Go.Proofs.YtpogblengagpaaaDoor

/- topology: IndexFunc, ContainsFunc and ascending at routers and at links. -/
namespace Go.Proofs.YtpogblengagpaaaDoor
set_option maxRecDepth 100000
open Go.RowKit Bs
abbrev EnterF (g : Nat) : Prop := ∀ (args : Array Value) (w : World), (callFunc g args).run Tryd.prog w = .ok (.enter g args) w

end Go.Proofs.YtpogblengagpaaaDoor

/- empty -/
namespace Go.Proofs.YtpogblengagpaaaDoor
set_option maxRecDepth 100000
end Go.Proofs.YtpogblengagpaaaDoor

/- empty -/
namespace Go.Proofs.YtpogblengagpaaaDoor
set_option maxRecDepth 100000
end Go.Proofs.YtpogblengagpaaaDoor

/- topology: Check, valid. -/
namespace Go.Proofs.YtpogblengagpaaaDoor
set_option maxRecDepth 100000
open Go.RowKit Bs
def okT (R : List Rt) (L : List Lk) : Bool := chk R L == 0
end Go.Proofs.YtpogblengagpaaaDoor

/- topology: neighbours. -/
namespace Go.Proofs.YtpogblengagpaaaDoor
set_option maxRecDepth 100000
open Go.RowKit Bs
def tv (z : Int) : Value := .int .i64 z
end Go.Proofs.YtpogblengagpaaaDoor

/- topology: Contains of numbers and of hops; the closures of Without. -/
namespace Go.Proofs.YtpogblengagpaaaDoor
set_option maxRecDepth 100000
open Go.RowKit Bs
structure Hp where
 f : Int
 t : Int
def hasI (X : List Int) (x : Int) : Bool := X.any fun y => decide (y = x)
end Go.Proofs.YtpogblengagpaaaDoor

/- empty -/
namespace Go.Proofs.YtpogblengagpaaaDoor
set_option maxRecDepth 100000
end Go.Proofs.YtpogblengagpaaaDoor

/- topology: the closures of Without; what memory holds while it runs. -/
namespace Go.Proofs.YtpogblengagpaaaDoor
set_option maxRecDepth 100000
open Go.RowKit Bs
theorem RdF.old {w : World} {q : Nat → Prop} {v : Value} {n : Nat} {xs : List Value} (h : RdF w q v n xs) : RdF w (· < w.heap.size) v n xs := by
 obtain ⟨p, c, hv, hc⟩ := h
 refine ⟨p, c, hv, fun hne => ?_⟩
 obtain ⟨b, off, hp, hb, hx⟩ := hc hne
 obtain ⟨x, hx0⟩ : ∃ x, xs[0]? = some x := by
  cases xs with
  | nil => exact absurd rfl hne
  | cons a t => exact ⟨a, rfl⟩
 exact ⟨b, off, hp, World.block_lt_of_cell? w ⟨b, off + 0, none⟩ (hx 0 x hx0), hx⟩
theorem Rd.old {w : World} {q : Nat → Prop} {v : Value} {xs : List Value} (h : Rd w q v xs) : Rd w (· < w.heap.size) v xs := by
 obtain ⟨p, c, hv, hc⟩ := h
 refine ⟨p, c, hv, fun hne => ?_⟩
 obtain ⟨b, off, hp, hb, hx⟩ := hc hne
 obtain ⟨x, hx0⟩ : ∃ x, xs[0]? = some x := by
  cases xs with
  | nil => exact absurd rfl hne
  | cons a t => exact ⟨a, rfl⟩
 exact ⟨b, off, hp, World.block_lt_of_cell? w ⟨b, off + 0, none⟩ (hx 0 x hx0), hx⟩
theorem TgOk.old {w : World} {q : Nat → Prop} {T : Tg} (h : TgOk w q T) : TgOk w (· < w.heap.size) T := ⟨h.r.old, h.l.old, h.cr, h.cl⟩
theorem info_rt : (Tryd.prog.info? 89).map (fun i => (i.zero, i.size, i.bytes)) = some (some (.agg #[.int .i64 0, .bool false]), 2, 16) := by kernel_rfl
theorem info_lk : (Tryd.prog.info? 105).map (fun i => (i.zero, i.size, i.bytes)) = some (some (.agg #[.int .i64 0, .int .i64 0, .int .i64 0, .int .i64 0, .int .i64 0]), 5, 40) := by kernel_rfl
end Go.Proofs.YtpogblengagpaaaDoor

/- topology: Without. -/
namespace Go.Proofs.YtpogblengagpaaaDoor
set_option maxRecDepth 100000
open Go.RowKit Bs
theorem grown_any {w w1 w2 : World} {r : Option Nat} (h : w.grownBy w1 none) (k : w1.grownBy w2 r) (hr : ∀ b, b < w.heap.size → some b ≠ r) : w.grownBy w2 none :=
 ⟨k.os.trans h.os, k.tape.trans h.tape, k.output.trans h.output, Nat.le_trans h.size k.size, fun b hb _ => (k.block b (Nat.lt_of_lt_of_le hb h.size) (hr b hb)).trans (h.block b hb (by simp))⟩
theorem rdf_of_own2 {w : World} {base size : Nat} {e : TypeId} {v : Value} {n : Nat} {xs : List Value} (h : w.ownsRow base e size v n xs) : RdF w (fun b => base ≤ b ∧ b < w.heap.size) v n xs := by
 obtain ⟨p, c, hv, hc⟩ := rdf_of_own h
 refine ⟨p, c, hv, fun hne => ?_⟩
 obtain ⟨b, off, hp, hb, hx⟩ := hc hne
 obtain ⟨x, hx0⟩ : ∃ x, xs[0]? = some x := by
  cases xs with
  | nil => exact absurd rfl hne
  | cons a t => exact ⟨a, rfl⟩
 exact ⟨b, off, hp, ⟨hb, World.block_lt_of_cell? w ⟨b, off + 0, none⟩ (hx 0 x hx0)⟩, hx⟩
theorem topo_size : (Tryd.prog.info? 58).map (·.size) = some 2 := by kernel_rfl
theorem res_topo {fn : Func} {p : Tmp} (h : fn.results = #[.cell p 58]) (tmps : Array Value) (w : World) (g : Nat) (x y : Value) (hp : tmps.getD p undef = .pointer (some ⟨g, 0, none⟩)) (hg : w.heap[g]? = some (.cells #[x, y] 58 (0, 0))) :
  (results fn tmps).run Tryd.prog w = .ok (.agg #[x, y]) w :=
 results_cell_row h tmps w g _ _ _ _ hp hg Tryd.underlying58 rfl topo_size
theorem own_shape {w : World} {base size n : Nat} {e : TypeId} {v : Value} {xs : List Value} (h : w.ownsRow base e size v n xs) : ∃ p c, v = .slice p n c ∧ n ≤ c ∧ c ≤ 9223372036854775807 := by
 rcases h.2 with ⟨rfl, h0⟩ | ⟨g, cap, cur, rfl, _, _, hn, hm, _⟩
 ·subst h0
  exact ⟨none, 0, rfl, Nat.le_refl _, by omega⟩
 ·unfold maxLen at hm
  exact ⟨_, cap, rfl, hn, by omega⟩
theorem cells2 (w : World) (x y : Value) (t : TypeId) : ∀ j u, [x, y][j]? = some u → (w.alloc (.cells #[x, y] t)).cell? ((⟨w.heap.size, 0, none⟩ : Addr).add j) = some u := by
 intro j u hj
 have hb : (w.alloc (.cells #[x, y] t)).heap[w.heap.size]? = some (.cells #[x, y] t (0, 0)) := heap_alloc_new w _
 have hadd : (⟨w.heap.size, 0, none⟩ : Addr).add j = ⟨w.heap.size, j, none⟩ := by rw [add_plain, Nat.zero_add]
 rw [hadd, cell_of_row _ _ _ _ _ _ hb]
 simpa using hj
theorem cells5 (w : World) (a b c d e : Value) (t : TypeId) : ∀ j u, [a, b, c, d, e][j]? = some u → (w.alloc (.cells #[a, b, c, d, e] t)).cell? ((⟨w.heap.size, 0, none⟩ : Addr).add j) = some u := by
 intro j u hj
 have hb : (w.alloc (.cells #[a, b, c, d, e] t)).heap[w.heap.size]? = some (.cells #[a, b, c, d, e] t (0, 0)) := heap_alloc_new w _
 have hadd : (⟨w.heap.size, 0, none⟩ : Addr).add j = ⟨w.heap.size, j, none⟩ := by rw [add_plain, Nat.zero_add]
 rw [hadd, cell_of_row _ _ _ _ _ _ hb]
 simpa using hj
end Go.Proofs.YtpogblengagpaaaDoor

/- Rows of structs: parts of them, and append. -/
namespace Go.Proofs.YtpogblengagpaaaDoor
set_option maxRecDepth 100000
open Go.RowKit Bs
theorem hold_on {p : Prop} (h : Hid p) : p := h.out
theorem flat_drop {α : Type} (f : α → List Value) (k : Nat) (hf : ∀ x, (f x).length = k) : ∀ (l : List α) (j : Nat), (l.drop j).flatMap f = (l.flatMap f).drop (j * k)
 | [], j => by simp
 | a :: t, 0 => by simp
 | a :: t, j + 1 => by
  rw [List.drop_succ_cons, flat_drop f k hf t j, List.flatMap_cons, Nat.add_mul, Nat.one_mul, Nat.add_comm, ← List.drop_drop, List.drop_append_of_le_length (by rw [hf]; exact Nat.le_refl _), ← hf a, List.drop_length, List.nil_append]
theorem flat_take {α : Type} (f : α → List Value) (k : Nat) (hf : ∀ x, (f x).length = k) : ∀ (l : List α) (j : Nat), (l.take j).flatMap f = (l.flatMap f).take (j * k)
 | [], j => by simp
 | a :: t, 0 => by simp
 | a :: t, j + 1 => by
  rw [List.take_succ_cons, List.flatMap_cons, flat_take f k hf t j, List.flatMap_cons, List.take_append, hf, List.take_of_length_le (l := f a) (by rw [hf, Nat.add_mul]; omega), Nat.add_mul, Nat.one_mul, Nat.add_sub_cancel]
theorem RdF.part {α : Type} {f : α → List Value} {k : Nat} (hf : ∀ x, (f x).length = k) {w : World} {q : Nat → Prop} {p : Option Addr} {c : Nat} {l : List α} (h : RdF w q (.slice p l.length c) l.length (l.flatMap f)) (j : Nat) (hj : j ≤ l.length) (c' : Nat) :
  RdF w q (.slice p j c') (l.take j).length ((l.take j).flatMap f) := by
 obtain ⟨p1, c1, e1, hx⟩ := h
 injection e1 with a1 a2 a3
 subst a1
 have hlen : (l.take j).length = j := by rw [List.length_take]; omega
 rw [hlen]
 refine ⟨p, c', rfl, fun hne => ?_⟩
 rw [flat_take f k hf] at hne ⊢
 obtain ⟨b, off, hp, hq, hc⟩ := hx (by intro e; rw [e] at hne; simp at hne)
 refine ⟨b, off, hp, hq, fun i x hi => hc i x ?_⟩
 rw [List.getElem?_take] at hi
 split at hi
 ·exact hi
 ·cases hi
theorem RdF.rest {α : Type} {f : α → List Value} {k : Nat} (hf : ∀ x, (f x).length = k) {w : World} {q : Nat → Prop} {b off c : Nat} {l : List α} (h : RdF w q (.slice (some ⟨b, off, none⟩) l.length c) l.length (l.flatMap f)) (j : Nat) (c' : Nat) :
  RdF w q (.slice (some ⟨b, off + j * k, none⟩) (l.length - j) c') (l.drop j).length ((l.drop j).flatMap f) := by
 obtain ⟨p1, c1, e1, hx⟩ := h
 injection e1 with a1 a2 a3
 subst a1
 have hlen : (l.drop j).length = l.length - j := by rw [List.length_drop]
 rw [hlen]
 refine ⟨_, c', rfl, fun hne => ?_⟩
 rw [flat_drop f k hf] at hne ⊢
 obtain ⟨b1, off1, hp, hq, hc⟩ := hx (by intro e; rw [e] at hne; simp at hne)
 injection hp with hp
 injection hp with hb ho
 subst hb
 subst ho
 refine ⟨b, off + j * k, rfl, hq, fun i x hi => ?_⟩
 rw [List.getElem?_drop] at hi
 rw [Nat.add_assoc]
 exact hc _ x hi
theorem rdf_news {w : World} {q : Nat → Prop} {ad : Addr} {n c m : Nat} {xs : List Value} (hR : RdF w q (.slice (some ad) n c) m xs) : ∀ j u, xs[j]? = some u → w.cell? (ad.add j) = some u := by
 intro j u hj
 obtain ⟨p1, c1, e1, hx⟩ := hR
 injection e1 with a1 a2 a3
 subst a1
 obtain ⟨b, off, hp, hq, hc⟩ := hx (by intro e; rw [e] at hj; simp at hj)
 injection hp with hp
 subst hp
 rw [add_plain]
 exact hc j u hj
theorem rdf_one {w : World} {b off n : Nat} {xs : List Value} (q : Nat → Prop) (hq : q b) (h : ∀ j u, xs[j]? = some u → w.cell? ((⟨b, off, none⟩ : Addr).add j) = some u) (c : Nat) : RdF w q (.slice (some ⟨b, off, none⟩) n c) n xs :=
 ⟨_, c, rfl, fun _ => ⟨b, off, rfl, hq, fun i x hi => by have := h i x hi; rw [add_plain] at this; exact this⟩⟩
theorem wpList_append_f {α : Type} (f : α → List Value) (size bytes : Nat) (hsz : 0 < size) (hf : ∀ x, (f x).length = size) (hone : ∀ x, ∀ u ∈ f x, u.oneCell' = true) (e t : TypeId) (i : TypeInfo) (z : Value)
  (ht : Tryd.prog.underlying t = some (.slice e)) (hi : Tryd.prog.info? e = some i) (hz : i.zero = some z) (hsize : i.size = size) (hby : i.bytes = bytes) (hzs : z.cells.size = size) (hb40 : bytes ≤ 1000)
  {w : World} {ops : Array Oper} {rest : List Oper} {o : Oper} {a : Act} {Q : Exit → Act → World → Prop} (hgd : o.guard = none) (s x : Operand)
  (ho : o.op = .call { callee := .builtin .append, args := #[s, x], argTypes := #[t, t] }) (base : Nat) (v : Value) (l : List α) (n : Nat) (hn : n = l.length) (hs : a.eval s = v) (hown : w.ownsRow base e size v n (l.flatMap f))
  (p : Option Addr) (k c : Nat) (r : List α) (hx : a.eval x = .slice p k c) (hk : k = r.length) (hn0 : p = none → c = 0) (q : Nat → Prop) (hR : RdF w q (.slice p k c) r.length (r.flatMap f)) (hkc : k ≤ c) (h63 : n + r.length ≤ 100000) (hbase : base ≤ w.heap.size)
  (h : ∀ v' w', w'.ownsRow base e size v' (l ++ r).length ((l ++ r).flatMap f) → w.grownBy w' v.ownBlock → wpList Tryd.prog ops Q rest (a.put o.dst v') w') : wpList Tryd.prog ops Q (o :: rest) a w := by
 subst hn
 cases p with
 | none =>
  obtain rfl := hn0 rfl
  have hr : r.length = 0 := by omega
  obtain rfl := List.eq_nil_of_length_eq_zero hr
  obtain rfl : k = 0 := hk
  refine wpList_append_own_none hgd s x t ho base e i size ht hi v l.length (l.flatMap f) hs hown hx ?_
  refine h v w ?_ (grown_refl _ _)
  rw [List.append_nil]; exact hown
 | some ad =>
  have hb2 : (l.length + k) * bytes ≤ 140737488355328 := Nat.le_trans (Nat.mul_le_mul (show l.length + k ≤ 100000 by omega) hb40) (by decide)
  refine wpList_append_own w hgd s x t ho base e i z size bytes ht hi hz hsize hby hzs hsz v l.length (l.flatMap f) hs hown ad k c (r.flatMap f) hx (by rw [flat_len f size hf, hk]) (rdf_news hR) ?_ (by unfold maxLen; omega) hb2 hbase ?_
  ·intro u hu
   obtain ⟨y, _, hy⟩ := List.mem_flatMap.1 hu
   exact hone y u hy
  ·intro v' w' h1 h2 _
   refine h v' w' ?_ h2
   rw [List.length_append, List.flatMap_append, ← hk]; exact h1
theorem own_apartF {w w1 : World} {base base2 size size2 : Nat} {e e2 : TypeId} {v v2 : Value} {n m : Nat} {xs ys : List Value} (h : w.ownsRow base e size v n xs) (hv : w.ownsRow base2 e2 size2 v2 m ys) (hg : ∀ g, v.ownBlock = some g → g < base2) (k : w.grownBy w1 v2.ownBlock) : w1.ownsRow base e size v n xs := by
 refine h.kept k ?_
 cases hb : v.ownBlock with
 | none => exact .inl rfl
 | some g =>
  refine .inr fun e => ?_
  have := (hv.lt g e.symm).1
  have := hg g hb
  omega
theorem old_grow {w w1 : World} {base2 size2 : Nat} {e2 : TypeId} {v2 : Value} {m : Nat} {ys : List Value} {W : World} (g : W.grownBy w none) (hv : w.ownsRow base2 e2 size2 v2 m ys) (hb : W.heap.size ≤ base2) (k : w.grownBy w1 v2.ownBlock) : W.grownBy w1 none :=
 grown_any g k (fun b hlt e => by have := (hv.lt b e.symm).1; omega)
theorem lk_one (x : Lk) : ∀ u ∈ lkC x, u.oneCell' = true := by
 intro u hu
 simp [lkC] at hu
 rcases hu with rfl | rfl | rfl | rfl | rfl <;> rfl
end Go.Proofs.YtpogblengagpaaaDoor

/- empty -/
namespace Go.Proofs.YtpogblengagpaaaDoor
set_option maxRecDepth 100000
end Go.Proofs.YtpogblengagpaaaDoor

/- empty -/
namespace Go.Proofs.YtpogblengagpaaaDoor
set_option maxRecDepth 100000
end Go.Proofs.YtpogblengagpaaaDoor

/- Links in order, and the tape's topologies: the mathematics. -/
namespace Go.Proofs.YtpogblengagpaaaDoor
set_option maxRecDepth 100000
open Go.RowKit Bs
def insL (O : List Lk) (y : Lk) : List Lk := O.takeWhile (fun x => ltL x y) ++ y :: O.dropWhile (fun x => ltL x y)
def ordL (L : List Lk) : List Lk := L.foldl insL []
theorem insL_cons (a : Lk) (t : List Lk) (y : Lk) : insL (a :: t) y = if ltL a y then a :: insL t y else y :: a :: t := by
 unfold insL
 rw [List.takeWhile_cons, List.dropWhile_cons]
 split <;> rfl
theorem insL_len (O : List Lk) (y : Lk) : (insL O y).length = O.length + 1 := by
 unfold insL
 rw [List.length_append, List.length_cons]
 have := congrArg List.length (List.takeWhile_append_dropWhile (p := fun x => ltL x y) (l := O))
 rw [List.length_append] at this
 omega
theorem ordL_take (L : List Lk) (k : Nat) (y : Lk) (h : L[k]? = some y) : ordL (L.take (k + 1)) = insL (ordL (L.take k)) y := by
 unfold ordL
 rw [List.take_add_one, h, List.foldl_append]
 rfl
theorem foldl_insL_len : ∀ (L O : List Lk), (L.foldl insL O).length = O.length + L.length
 | [], O => by simp
 | a :: t, O => by rw [List.foldl_cons, foldl_insL_len t, insL_len, List.length_cons]; omega
theorem ordL_len (L : List Lk) : (ordL L).length = L.length := by
 unfold ordL
 rw [foldl_insL_len]; simp
theorem insL_at (y : Lk) : ∀ (O : List Lk) (j : Nat), j ≤ O.length → (∀ i x, i < j → O[i]? = some x → ltL x y = true) → (∀ x, O[j]? = some x → ltL x y = false) → insL O y = O.take j ++ y :: O.drop j
 | [], j, hj, _, _ => by
  obtain rfl : j = 0 := by simpa using hj
  rfl
 | a :: t, 0, _, _, h2 => by
  rw [insL_cons, h2 a rfl]
  rfl
 | a :: t, j + 1, hj, h1, h2 => by
  rw [insL_cons, if_pos (h1 0 a (by omega) rfl), insL_at y t j (by simpa using hj) (fun i x hi hx => h1 (i + 1) x (by omega) (by simpa using hx)) (fun x hx => h2 x (by simpa using hx))]
  rfl
theorem mem_insL (y z : Lk) : ∀ O : List Lk, z ∈ insL O y ↔ z = y ∨ z ∈ O
 | [] => by simp [insL]
 | a :: t => by
  rw [insL_cons]
  split
  ·rw [List.mem_cons, List.mem_cons, mem_insL y z t]
   constructor
   ·rintro (h | h | h)
    ·exact .inr (.inl h)
    ·exact .inl h
    ·exact .inr (.inr h)
   ·rintro (h | h | h)
    ·exact .inr (.inl h)
    ·exact .inl h
    ·exact .inr (.inr h)
  ·simp
theorem ltL_trans {x y z : Lk} (h1 : ltL x y = true) (h2 : ltL y z = true) : ltL x z = true := by
 unfold ltL at *
 have h1 := of_decide_eq_true h1
 have h2 := of_decide_eq_true h2
 exact decide_eq_true (by omega)
def EndsNe (x y : Lk) : Prop := x.a ≠ y.a ∨ x.b ≠ y.b
theorem ltL_flip {x y : Lk} (h : ltL x y = false) (hn : EndsNe x y) : ltL y x = true := by
 unfold ltL at *
 have h := of_decide_eq_false h
 unfold EndsNe at hn
 exact decide_eq_true (by omega)
theorem insL_pair (y : Lk) : ∀ O : List Lk, O.Pairwise (fun x z => ltL x z = true) → (∀ x ∈ O, EndsNe x y) → (insL O y).Pairwise (fun x z => ltL x z = true)
 | [], _, _ => by simp [insL]
 | a :: t, hp, hn => by
  rw [insL_cons]
  obtain ⟨h1, h2⟩ := List.pairwise_cons.1 hp
  split
  ·next hlt =>
   refine List.pairwise_cons.2 ⟨fun z hz => ?_, insL_pair y t h2 (fun x hx => hn x (List.mem_cons_of_mem _ hx))⟩
   rcases (mem_insL y z t).1 hz with rfl | hz
   ·exact hlt
   ·exact h1 z hz
  ·next hlt =>
   have hya := ltL_flip (by simpa using hlt) (hn a (by simp))
   refine List.pairwise_cons.2 ⟨fun z hz => ?_, hp⟩
   rcases List.mem_cons.1 hz with rfl | hz
   ·exact hya
   ·exact ltL_trans hya (h1 z hz)
theorem foldl_insL_pair : ∀ (L O : List Lk), O.Pairwise (fun x z => ltL x z = true) → L.Pairwise EndsNe → (∀ x ∈ O, ∀ y ∈ L, EndsNe x y) → (L.foldl insL O).Pairwise (fun x z => ltL x z = true)
 | [], O, h, _, _ => h
 | a :: t, O, h, hL, hx => by
  obtain ⟨h1, h2⟩ := List.pairwise_cons.1 hL
  rw [List.foldl_cons]
  refine foldl_insL_pair t _ (insL_pair a O h (fun x hx1 => hx x hx1 a (by simp))) h2 (fun x hx1 y hy => ?_)
  rcases (mem_insL a x O).1 hx1 with rfl | h3
  ·exact h1 y hy
  ·exact hx x h3 y (List.mem_cons_of_mem _ hy)
theorem foldl_insL_mem (z : Lk) : ∀ (L O : List Lk), z ∈ L.foldl insL O ↔ z ∈ O ∨ z ∈ L
 | [], O => by simp
 | a :: t, O => by
  rw [List.foldl_cons, foldl_insL_mem z t, mem_insL, List.mem_cons]
  constructor
  ·rintro ((h | h) | h)
   ·exact .inr (.inl h)
   ·exact .inl h
   ·exact .inr (.inr h)
  ·rintro (h | h | h)
   ·exact .inl (.inr h)
   ·exact .inl (.inl h)
   ·exact .inr h
theorem ordL_mem (L : List Lk) (z : Lk) : z ∈ ordL L ↔ z ∈ L := by
 unfold ordL
 rw [foldl_insL_mem]
 simp
theorem ordL_pair (L : List Lk) (h : L.Pairwise EndsNe) : (ordL L).Pairwise (fun x z => ltL x z = true) :=
 foldl_insL_pair L [] List.Pairwise.nil h (fun x hx => by simp at hx)
theorem asc_of_pair {α : Type} (f : α → α → Bool) : ∀ l : List α, l.Pairwise (fun x z => f x z = true) → ascB f l = true
 | [], _ => rfl
 | [a], _ => rfl
 | a :: b :: t, h => by
  obtain ⟨h1, h2⟩ := List.pairwise_cons.1 h
  rw [ascB, h1 b (by simp), asc_of_pair f (b :: t) h2]
  rfl
def rts (k : Nat) : List Rt := (List.range k).map fun (i : Nat) => (⟨(i : Int) + 1, true⟩ : Rt)
theorem rts_succ (k : Nat) : rts (k + 1) = rts k ++ [⟨(k : Int) + 1, true⟩] := by
 unfold rts
 rw [List.range_succ, List.map_append]
 rfl
theorem rts_len (k : Nat) : (rts k).length = k := by unfold rts; simp
theorem rts_mem (k : Nat) (r : Rt) : r ∈ rts k ↔ ∃ i : Nat, i < k ∧ r = ⟨(i : Int) + 1, true⟩ := by
 unfold rts
 rw [List.mem_map]
 constructor
 ·rintro ⟨i, hi, rfl⟩; exact ⟨i, List.mem_range.1 hi, rfl⟩
 ·rintro ⟨i, hi, rfl⟩; exact ⟨i, List.mem_range.2 hi, rfl⟩
structure GoodL (k b a : Int) (L : List Lk) : Prop where
 ok : ∀ l ∈ L, (1 ≤ l.a ∧ l.a < l.b ∧ l.b ≤ k) ∧ wrNum l = false
 lt : ∀ l ∈ L, l.b < b ∨ (l.b = b ∧ l.a < a)
 ne : L.Pairwise EndsNe
theorem GoodL.nil (k b a : Int) : GoodL k b a [] := ⟨by simp, by simp, List.Pairwise.nil⟩
theorem GoodL.next {k b a : Int} {L : List Lk} (h : GoodL k b a L) : GoodL k b (a + 1) L := ⟨h.ok, fun l hl => by rcases h.lt l hl with h1 | h1 <;> omega, h.ne⟩
theorem GoodL.row {k b a : Int} {L : List Lk} (h : GoodL k b a L) : GoodL k (b + 1) 1 L := ⟨h.ok, fun l hl => by rcases h.lt l hl with h1 | h1 <;> omega, h.ne⟩
theorem GoodL.add {k b a : Int} {L : List Lk} (h : GoodL k b a L) (y : Lk) (ha : y.a = a) (hb : y.b = b) (h1 : 1 ≤ a) (h2 : a < b) (h3 : b ≤ k) (hw : wrNum y = false) : GoodL k b (a + 1) (L ++ [y]) := by
 refine ⟨fun l hl => ?_, fun l hl => ?_, ?_⟩
 ·rcases List.mem_append.1 hl with hl | hl
  ·exact h.ok l hl
  ·obtain rfl : l = y := by simpa using hl
   exact ⟨by omega, hw⟩
 ·rcases List.mem_append.1 hl with hl | hl
  ·rcases h.lt l hl with h4 | h4 <;> omega
  ·obtain rfl : l = y := by simpa using hl
   omega
 ·refine List.pairwise_append.2 ⟨h.ne, by simp, fun x hx z hz => ?_⟩
  obtain rfl : z = y := by simpa using hz
  unfold EndsNe
  rcases h.lt x hx with h4 | h4 <;> omega
theorem chk_good {k : Nat} {b a : Int} {L : List Lk} (h : GoodL k b a L) (hk : k ≤ 24) (hl : L.length ≤ 60) : chk (rts k) (ordL L) = 0 := by
 unfold chk
 rw [if_neg (by rw [rts_len, ordL_len]; omega), if_neg, if_neg, if_neg, if_neg, if_neg, if_neg]
 ·rw [asc_of_pair ltL _ (ordL_pair L h.ne)]
  simp
 ·rw [List.any_eq_true]
  rintro ⟨l, hl1, hw⟩
  have := (h.ok l ((ordL_mem L l).1 hl1)).1
  unfold wrEnd at hw
  have := of_decide_eq_true hw
  omega
 ·rw [List.any_eq_true]
  rintro ⟨l, hl1, hw⟩
  have := (h.ok l ((ordL_mem L l).1 hl1)).1
  have hh : ∀ x : Int, 1 ≤ x → x ≤ k → hasR (rts k) x = true := fun x h1 h2 => by
   unfold hasR
   refine List.any_eq_true.2 ⟨⟨x, true⟩, (rts_mem k _).2 ⟨(x - 1).toNat, by omega, ?_⟩, by simp⟩
   congr 1
   omega
  unfold unk at hw
  rw [hh _ this.1 (by omega), hh _ (by omega) this.2.2] at hw
  simp at hw
 ·rw [List.any_eq_true]
  rintro ⟨l, hl1, hw⟩
  rw [(h.ok l ((ordL_mem L l).1 hl1)).2] at hw
  cases hw
 ·rw [asc_of_pair ltR (rts k)]
  ·simp
  ·unfold rts
   rw [List.pairwise_map]
   exact List.pairwise_lt_range.imp (fun {a b} hab => decide_eq_true (by show (a : Int) + 1 < (b : Int) + 1; omega))
 ·rw [List.any_eq_true]
  rintro ⟨r, hr, hw⟩
  obtain ⟨i, hi, rfl⟩ := (rts_mem k r).1 hr
  have : wrId ⟨(i : Int) + 1, true⟩ = false := by
   unfold wrId
   rw [decide_eq_true (by constructor <;> (dsimp; omega))]
   rfl
  rw [this] at hw
  cases hw
def TopOf (most : Nat) (n : Int) (R : List Rt) (L : List Lk) : Prop :=
 1 ≤ R.length ∧ (R.length ≤ most + 1 ∨ 25 ≤ R.length) ∧ R.length ≤ most + 25 ∧ L.length ≤ 60 ∧ (n ≤ 0 → chk R L = 0 ∧ R.length ≤ most)
end Go.Proofs.YtpogblengagpaaaDoor

/- What is left of a valid topology is valid. -/
namespace Go.Proofs.YtpogblengagpaaaDoor
set_option maxRecDepth 100000
open Go.RowKit Bs
structure OkAll (R : List Rt) (L : List Lk) : Prop where
 l1 : R.length ≤ 24
 l2 : L.length ≤ 60
 id : R.any wrId = false
 rs : ascB ltR R = true
 nm : L.any wrNum = false
 un : L.any (unk R) = false
 en : L.any wrEnd = false
 ls : ascB ltL L = true
theorem chk_okAll {R : List Rt} {L : List Lk} (h : chk R L = 0) : OkAll R L := by
 unfold chk at h
 by_cases h1 : 24 < R.length ∨ 60 < L.length
 ·rw [if_pos h1] at h; cases h
 rw [if_neg h1] at h
 cases h2 : R.any wrId
 case true => rw [h2] at h; cases h
 cases h3 : ascB ltR R
 case false => rw [h2, h3] at h; cases h
 cases h4 : L.any wrNum
 case true => rw [h2, h3, h4] at h; cases h
 cases h5 : L.any (unk R)
 case true => rw [h2, h3, h4, h5] at h; cases h
 cases h6 : L.any wrEnd
 case true => rw [h2, h3, h4, h5, h6] at h; cases h
 cases h7 : ascB ltL L
 case false => rw [h2, h3, h4, h5, h6, h7] at h; cases h
 exact ⟨by omega, by omega, h2, h3, h4, h5, h6, h7⟩
end Go.Proofs.YtpogblengagpaaaDoor

/- What is looked up in a valid topology: the mathematics. -/
namespace Go.Proofs.YtpogblengagpaaaDoor
set_option maxRecDepth 100000
open Go.RowKit Bs
def capR (R : List Rt) (x : Int) : Bool := match R.find? (fun r => decide (r.id = x)) with
 | some r => r.cap
 | none => false
def priceB (a b : Int) (l : Lk) : Option Int := if l.a = a ∧ l.b = b then some l.ca else if l.b = a ∧ l.a = b then some l.cb else none
def priceV (L : List Lk) (a b : Int) : Int × Bool := match L.findSome? (priceB a b) with
 | some c => (c, true)
 | none => (0, false)
def nearR (R : List Rt) (L : List Lk) (x : Int) : List Int := (R.filter fun r => (priceV L x r.id).2).map (·.id)
end Go.Proofs.YtpogblengagpaaaDoor

/- topology: routerAt, linkAt, Has, Capable, Cost, Neighbours. -/
namespace Go.Proofs.YtpogblengagpaaaDoor
set_option maxRecDepth 100000
open Go.RowKit Bs
def hasV (R : List Rt) (L : List Lk) (x : Int) : Bool := okT R L && hasR R x
def capV (R : List Rt) (L : List Lk) (x : Int) : Bool := okT R L && capR R x
theorem okT_all {R : List Rt} {L : List Lk} (h : okT R L = true) : OkAll R L := chk_okAll (by unfold okT at h; simpa using h)
end Go.Proofs.YtpogblengagpaaaDoor

/- empty -/
namespace Go.Proofs.YtpogblengagpaaaDoor
set_option maxRecDepth 100000
end Go.Proofs.YtpogblengagpaaaDoor

/- empty -/
namespace Go.Proofs.YtpogblengagpaaaDoor
set_option maxRecDepth 100000
end Go.Proofs.YtpogblengagpaaaDoor

/- Least costs: walks, what a closed table of costs says, what rounds of relaxing give. -/
namespace Go.Proofs.YtpogblengagpaaaDoor
set_option maxRecDepth 100000
def edg (L : List Lk) (u v c : Int) : Prop := ∃ l ∈ L, (l.a = u ∧ l.b = v ∧ l.ca = c) ∨ (l.b = u ∧ l.a = v ∧ l.cb = c)
def Wk (L : List Lk) (s v n : Int) : Prop := ∀ P : Int → Int → Prop, P s 0 → (∀ u m v c, P u m → edg L u v c → P v (m + c)) → P v n
theorem Wk.nil (L : List Lk) (s : Int) : Wk L s s 0 := fun _ h _ => h
theorem Wk.step {L : List Lk} {s u m v c : Int} (h : Wk L s u m) (e : edg L u v c) : Wk L s v (m + c) := fun P h0 hs => hs u m v c (h P h0 hs) e
theorem Wk.ind {L : List Lk} {s : Int} {Q : Int → Int → Prop} (h0 : Q s 0) (hs : ∀ u m v c, Wk L s u m → Q u m → edg L u v c → Q v (m + c)) {v n : Int} (h : Wk L s v n) : Q v n :=
 (h (fun v n => Wk L s v n ∧ Q v n) ⟨Wk.nil L s, h0⟩ (fun u m v c hu e => ⟨hu.1.step e, hs u m v c hu.1 hu.2 e⟩)).2
theorem Wk.last {L : List Lk} {s v n : Int} (h : Wk L s v n) : (v = s ∧ n = 0) ∨ ∃ u m c, Wk L s u m ∧ edg L u v c ∧ n = m + c :=
 Wk.ind (Q := fun v n => (v = s ∧ n = 0) ∨ ∃ u m c, Wk L s u m ∧ edg L u v c ∧ n = m + c) (.inl ⟨rfl, rfl⟩) (fun u m _ c hu _ e => .inr ⟨u, m, c, hu, e, rfl⟩) h
def IsD (L : List Lk) (s v d : Int) : Prop := Wk L s v d ∧ ∀ n, Wk L s v n → d ≤ n
def farN : Int := 1073741824
open Classical in
open Classical in
def Ends (L : List Lk) (V : List Int) : Prop := ∀ l ∈ L, l.a ∈ V ∧ l.b ∈ V
theorem Ends.edg {L : List Lk} {V : List Int} (h : Ends L V) {u v c : Int} (e : edg L u v c) : u ∈ V ∧ v ∈ V := by
 obtain ⟨l, hl, ⟨rfl, rfl, -⟩ | ⟨rfl, rfl, -⟩⟩ := e
 ·exact h l hl
 ·exact ⟨(h l hl).2, (h l hl).1⟩
end Go.Proofs.YtpogblengagpaaaDoor

/- empty -/
namespace Go.Proofs.YtpogblengagpaaaDoor
set_option maxRecDepth 100000
end Go.Proofs.YtpogblengagpaaaDoor

/- empty -/
namespace Go.Proofs.YtpogblengagpaaaDoor
set_option maxRecDepth 100000
end Go.Proofs.YtpogblengagpaaaDoor

/- empty -/
namespace Go.Proofs.YtpogblengagpaaaDoor
set_option maxRecDepth 100000
end Go.Proofs.YtpogblengagpaaaDoor

/- The reference's Has and Named; Same of equal topologies. -/
namespace Go.Proofs.YtpogblengagpaaaDoor
set_option maxRecDepth 100000
open Go.RowKit Bs
end Go.Proofs.YtpogblengagpaaaDoor

/- empty -/
namespace Go.Proofs.YtpogblengagpaaaDoor
set_option maxRecDepth 100000
end Go.Proofs.YtpogblengagpaaaDoor

/- empty -/
namespace Go.Proofs.YtpogblengagpaaaDoor
set_option maxRecDepth 100000
end Go.Proofs.YtpogblengagpaaaDoor

/- empty -/
namespace Go.Proofs.YtpogblengagpaaaDoor
set_option maxRecDepth 100000
end Go.Proofs.YtpogblengagpaaaDoor

/- empty -/
namespace Go.Proofs.YtpogblengagpaaaDoor
set_option maxRecDepth 100000
end Go.Proofs.YtpogblengagpaaaDoor

/- empty -/
namespace Go.Proofs.YtpogblengagpaaaDoor
set_option maxRecDepth 100000
end Go.Proofs.YtpogblengagpaaaDoor

/- empty -/
namespace Go.Proofs.YtpogblengagpaaaDoor
set_option maxRecDepth 100000
end Go.Proofs.YtpogblengagpaaaDoor

/- empty -/
namespace Go.Proofs.YtpogblengagpaaaDoor
set_option maxRecDepth 100000
end Go.Proofs.YtpogblengagpaaaDoor

/- empty -/
namespace Go.Proofs.YtpogblengagpaaaDoor
set_option maxRecDepth 100000
end Go.Proofs.YtpogblengagpaaaDoor

/- empty -/
namespace Go.Proofs.YtpogblengagpaaaDoor
set_option maxRecDepth 100000
end Go.Proofs.YtpogblengagpaaaDoor

/- topology: Components: the mathematics; what memory holds while it runs. -/
namespace Go.Proofs.YtpogblengagpaaaDoor
set_option maxRecDepth 100000
open Go.RowKit Bs
theorem Rd.lt {w : World} {q : Nat → Prop} {v : Value} {vs : List Value} (h : Rd w q v vs) : Rd w (fun b => q b ∧ b < w.heap.size) v vs := by
 obtain ⟨p, c, hv, hc⟩ := h
 refine ⟨p, c, hv, fun hne => ?_⟩
 obtain ⟨b, off, hp, hb, hx⟩ := hc hne
 refine ⟨b, off, hp, ⟨hb, ?_⟩, hx⟩
 cases vs with
 | nil => exact absurd rfl hne
 | cons x vs =>
  have hcell := hx 0 x rfl
  rcases Nat.lt_or_ge b w.heap.size with h1 | h1
  ·exact h1
  ·unfold World.cell? at hcell
   rw [Array.getElem?_eq_none h1] at hcell
   cases hcell
end Go.Proofs.YtpogblengagpaaaDoor

/- empty -/
namespace Go.Proofs.YtpogblengagpaaaDoor
set_option maxRecDepth 100000
end Go.Proofs.YtpogblengagpaaaDoor

/- shortest.costsFrom: what its loops keep. -/
namespace Go.Proofs.YtpogblengagpaaaDoor
set_option maxRecDepth 100000
open Go.RowKit Go.Maps Bs
def ids (R : List Rt) : List Int := R.map (·.id)
end Go.Proofs.YtpogblengagpaaaDoor

/- empty -/
namespace Go.Proofs.YtpogblengagpaaaDoor
set_option maxRecDepth 100000
end Go.Proofs.YtpogblengagpaaaDoor

/- The least costs as a function; both directions. -/
namespace Go.Proofs.YtpogblengagpaaaDoor
set_option maxRecDepth 100000
open Go.RowKit Go.Maps Bs
theorem Wk.ids {L : List Lk} {V : List Int} (hV : Ends L V) {s v n : Int} (h : Wk L s v n) : v = s ∨ (s ∈ V ∧ v ∈ V) := by
 rcases h.last with ⟨e, -⟩ | ⟨u, m, c, hu, e, -⟩
 ·exact .inl e
 ·refine .inr ⟨?_, (hV.edg e).2⟩
  have key : u = s ∨ s ∈ V := Wk.ind (Q := fun x _ => x = s ∨ s ∈ V) (.inl rfl) (fun a n b d _ hq he => by
   rcases hq with rfl | hq
   ·exact .inr (hV.edg he).1
   ·exact .inr hq) hu
  rcases key with rfl | h1
  ·exact (hV.edg e).1
  ·exact h1
open Classical in
noncomputable def dst (R : List Rt) (L : List Lk) (a b : Int) : Option Int := if h : hasV R L a = true ∧ ∃ d, IsD L a b d then some h.2.choose else none
end Go.Proofs.YtpogblengagpaaaDoor

/- empty -/
namespace Go.Proofs.YtpogblengagpaaaDoor
set_option maxRecDepth 100000
end Go.Proofs.YtpogblengagpaaaDoor

/- empty -/
namespace Go.Proofs.YtpogblengagpaaaDoor
set_option maxRecDepth 100000
end Go.Proofs.YtpogblengagpaaaDoor

/- empty -/
namespace Go.Proofs.YtpogblengagpaaaDoor
set_option maxRecDepth 100000
end Go.Proofs.YtpogblengagpaaaDoor

/- empty -/
namespace Go.Proofs.YtpogblengagpaaaDoor
set_option maxRecDepth 100000
end Go.Proofs.YtpogblengagpaaaDoor

/- empty -/
namespace Go.Proofs.YtpogblengagpaaaDoor
set_option maxRecDepth 100000
end Go.Proofs.YtpogblengagpaaaDoor

/- empty -/
namespace Go.Proofs.YtpogblengagpaaaDoor
set_option maxRecDepth 100000
end Go.Proofs.YtpogblengagpaaaDoor

/- empty -/
namespace Go.Proofs.YtpogblengagpaaaDoor
set_option maxRecDepth 100000
end Go.Proofs.YtpogblengagpaaaDoor

/- empty -/
namespace Go.Proofs.YtpogblengagpaaaDoor
set_option maxRecDepth 100000
end Go.Proofs.YtpogblengagpaaaDoor

/- empty -/
namespace Go.Proofs.YtpogblengagpaaaDoor
set_option maxRecDepth 100000
end Go.Proofs.YtpogblengagpaaaDoor

/- empty -/
namespace Go.Proofs.YtpogblengagpaaaDoor
set_option maxRecDepth 100000
end Go.Proofs.YtpogblengagpaaaDoor

/- empty -/
namespace Go.Proofs.YtpogblengagpaaaDoor
set_option maxRecDepth 100000
end Go.Proofs.YtpogblengagpaaaDoor

/- empty -/
namespace Go.Proofs.YtpogblengagpaaaDoor
set_option maxRecDepth 100000
end Go.Proofs.YtpogblengagpaaaDoor

/- empty -/
namespace Go.Proofs.YtpogblengagpaaaDoor
set_option maxRecDepth 100000
end Go.Proofs.YtpogblengagpaaaDoor

/- empty -/
namespace Go.Proofs.YtpogblengagpaaaDoor
set_option maxRecDepth 100000
end Go.Proofs.YtpogblengagpaaaDoor

/- empty -/
namespace Go.Proofs.YtpogblengagpaaaDoor
set_option maxRecDepth 100000
end Go.Proofs.YtpogblengagpaaaDoor

/- topology: Connected. -/
namespace Go.Proofs.YtpogblengagpaaaDoor
set_option maxRecDepth 100000
open Go.RowKit Bs
def both (a b : Int) (C : List Int) : Bool := hasI C a && hasI C b
end Go.Proofs.YtpogblengagpaaaDoor

/- empty -/
namespace Go.Proofs.YtpogblengagpaaaDoor
set_option maxRecDepth 100000
end Go.Proofs.YtpogblengagpaaaDoor

/- empty -/
namespace Go.Proofs.YtpogblengagpaaaDoor
set_option maxRecDepth 100000
end Go.Proofs.YtpogblengagpaaaDoor

/- empty -/
namespace Go.Proofs.YtpogblengagpaaaDoor
set_option maxRecDepth 100000
end Go.Proofs.YtpogblengagpaaaDoor

/- empty -/
namespace Go.Proofs.YtpogblengagpaaaDoor
set_option maxRecDepth 100000
end Go.Proofs.YtpogblengagpaaaDoor

/- While the tape makes a topology. -/
namespace Go.Proofs.YtpogblengagpaaaDoor
set_option maxRecDepth 100000
open Go.RowKit Bs
structure TKt (a : Nat) (W : World) (uR uL vR vL : Value) (R : List Rt) (L : List Lk) (w : World) : Prop where
 gb : w.heap[W.heap.size + 1]? = some (.cells #[uR, uL] 58 (0, 0))
 rb : w.heap[W.heap.size]? = some (.cells #[.slice none 0 0, .slice none 0 0] 58 (0, 0))
 oR : w.ownsRow (W.heap.size + 2) 89 2 vR R.length (R.flatMap rtC)
 oL : w.ownsRow (W.heap.size + 2) 105 5 vL L.length (L.flatMap lkC)
 ap : ∀ g, vR.ownBlock = some g → vL.ownBlock ≠ some g
 st : St a W w
 sz : W.heap.size + 2 ≤ w.heap.size
theorem own_other {w w' : World} {base size n b : Nat} {e : TypeId} {v : Value} {xs : List Value} (h : w.ownsRow base e size v n xs) (g : w.grownBy w' (some b)) (hb : b < base) : w'.ownsRow base e size v n xs :=
 h.kept g (by
  cases hv : v.ownBlock with
  | none => exact .inl rfl
  | some k => exact .inr (fun e => by have e2 := Option.some.inj e; have := (h.lt k hv).1; omega))
theorem St.storeT {a b : Nat} {W w w1 : World} (h : St a W w) (g : w.grownBy w1 (some b)) (hb : W.heap.size ≤ b) (ha : a < W.heap.size) : St a W w1 := by
 refine ⟨⟨g.os.trans h.1.os, g.tape.trans h.1.tape, g.output.trans h.1.output, Nat.le_trans h.1.size g.size, fun i hi hia => (g.block i (Nat.lt_of_lt_of_le hi h.1.size) (fun e => by have := Option.some.inj e; omega)).trans (h.1.block i hi hia)⟩, ?_⟩
 obtain ⟨v, n, i, T⟩ := h.2
 have hlt : a < w.heap.size := Nat.lt_of_lt_of_le ha h.1.size
 have hk : w1.heap[a]? = w.heap[a]? := g.block a hlt (fun e => by have := Option.some.inj e; omega)
 refine ⟨v, n, i, (World.cell?_of_block (a := ⟨a, 0, none⟩) hk).trans T.l, (World.cell?_of_block (a := ⟨a, 1, none⟩) hk).trans T.p, (World.frozen?_of_block (a := ⟨a, 1, none⟩) hk).trans T.fr, ?_, T.le, T.len⟩
 obtain ⟨p, c, hv, hc⟩ := T.ints
 refine ⟨p, c, hv, fun hn => ?_⟩
 obtain ⟨b1, off, hp, hb1, hx⟩ := hc hn
 refine ⟨b1, off, hp, hb1, fun i hi => ?_⟩
 obtain ⟨x, hx1, hcell⟩ := hx i hi
 exact ⟨x, hx1, g.cell hcell (fun e => by have : b1 = b := Option.some.inj e; omega)⟩
section
variable {a : Nat} {W w w1 : World} {uR uL vR vL v' : Value} {R : List Rt} {L : List Lk}
theorem TKt.keep (h : TKt a W uR uL vR vL R L w) (g : w.grownBy w1 none) : TKt a W uR uL vR vL R L w1 :=
 ⟨kept_row h.gb g (by simp), kept_row h.rb g (by simp), h.oR.kept g (by cases hv : vR.ownBlock <;> simp), h.oL.kept g (by cases hv : vL.ownBlock <;> simp), h.ap, h.st.trans ⟨grown_none g _, h.st.2.keep g⟩, Nat.le_trans h.sz g.size⟩
theorem TKt.tape (h : TKt a W uR uL vR vL R L w) (ha : a < W.heap.size) (k : St a w w1) : TKt a W uR uL vR vL R L w1 :=
 ⟨kept_row h.gb k.1 (fun e => by have := Option.some.inj e; omega), kept_row h.rb k.1 (fun e => by have := Option.some.inj e; omega), own_other h.oR k.1 (by omega), own_other h.oL k.1 (by omega), h.ap, h.st.trans k, Nat.le_trans h.sz k.1.size⟩
theorem TKt.start (hT : Tp w a) : TKt a w (.slice none 0 0) (.slice none 0 0) (.slice none 0 0) (.slice none 0 0) [] [] ((w.alloc (.cells #[.slice none 0 0, .slice none 0 0] 58)).alloc (.cells #[.slice none 0 0, .slice none 0 0] 58)) := by
 obtain ⟨k1, k2, k3, _⟩ := two_boxes w #[.slice none 0 0, .slice none 0 0] #[.slice none 0 0, .slice none 0 0] 58 58
 exact ⟨k2, k1, World.ownsRow_nil _ _ _ _, World.ownsRow_nil _ _ _ _, fun g hg => (by cases hg), ⟨grown_none k3 _, hT.keep k3⟩, by simp⟩
theorem St.rowT {a base size n : Nat} {W w w1 : World} {e : TypeId} {v : Value} {xs : List Value} (h : St a W w) (ho : w.ownsRow base e size v n xs) (hb : W.heap.size ≤ base) (ha : a < W.heap.size) (k : w.grownBy w1 v.ownBlock) : St a W w1 := by
 cases hv : v.ownBlock with
 | none => rw [hv] at k; exact ⟨grown_trans h.1 (grown_none k _), h.2.keep k⟩
 | some g => rw [hv] at k; exact h.storeT k (Nat.le_trans hb (ho.lt g hv).1) ha
theorem TKt.addR {g n cap : Nat} {y : Rt} (h : TKt a W uR uL vR vL R L w) (ha : a < W.heap.size) (hown : w1.ownsRow (W.heap.size + 2) 89 2 (.slice (some ⟨g, 0, none⟩) n cap) (R.length + 1) (R.flatMap rtC ++ [.int .i64 y.id, .bool y.cap])) (hg : w.grownBy w1 vR.ownBlock) (hat : vR.ownBlock = some g ∨ g = w.heap.size) :
  TKt a W uR uL (.slice (some ⟨g, 0, none⟩) n cap) vL (R ++ [y]) L w1 := by
 have hne : ∀ k, k < W.heap.size + 2 → some k ≠ vR.ownBlock := fun k hk e => by
  have := (h.oR.lt k e.symm).1
  omega
 refine ⟨kept_row h.gb hg (hne _ (by omega)), kept_row h.rb hg (hne _ (by omega)), ?_, h.oL.kept hg ?_, ?_, h.st.rowT h.oR (by omega) ha hg, Nat.le_trans h.sz hg.size⟩
 ·rw [List.length_append, List.flatMap_append]; exact hown
 ·cases hv : vL.ownBlock with
  | none => exact .inl rfl
  | some k => exact .inr (fun e => h.ap k e.symm hv)
 ·intro g2 hg2 e
  obtain rfl : g = g2 := by simpa [Value.ownBlock] using hg2
  rcases hat with hat | hat
  ·exact h.ap g hat e
  ·have := (h.oL.lt g e).2
   omega
theorem TKt.addL {g n cap : Nat} {y : Lk} (h : TKt a W uR uL vR vL R L w) (ha : a < W.heap.size) (hown : w1.ownsRow (W.heap.size + 2) 105 5 (.slice (some ⟨g, 0, none⟩) n cap) (L.length + 1) (L.flatMap lkC ++ [.int .i64 y.a, .int .i64 y.b, .int .i64 y.ca, .int .i64 y.cb, .int .i64 y.cp])) (hg : w.grownBy w1 vL.ownBlock) (hat : vL.ownBlock = some g ∨ g = w.heap.size) :
  TKt a W uR uL vR (.slice (some ⟨g, 0, none⟩) n cap) R (L ++ [y]) w1 := by
 have hne : ∀ k, k < W.heap.size + 2 → some k ≠ vL.ownBlock := fun k hk e => by
  have := (h.oL.lt k e.symm).1
  omega
 refine ⟨kept_row h.gb hg (hne _ (by omega)), kept_row h.rb hg (hne _ (by omega)), h.oR.kept hg ?_, ?_, ?_, h.st.rowT h.oL (by omega) ha hg, Nat.le_trans h.sz hg.size⟩
 ·cases hv : vR.ownBlock with
  | none => exact .inl rfl
  | some k => exact .inr (fun e => h.ap k hv e.symm)
 ·rw [List.length_append, List.flatMap_append]; exact hown
 ·intro g2 hg2 e
  obtain rfl : g = g2 := by simpa [Value.ownBlock] using e
  rcases hat with hat | hat
  ·exact h.ap g hg2 hat
  ·have := (h.oR.lt g hg2).2
   omega
theorem TKt.put0 (h : TKt a W uR uL vR vL R L w) (ha : a < W.heap.size) : TKt a W vR uL vR vL R L (w.setCell ⟨W.heap.size + 1, 0, none⟩ vR) := by
 have k : w.grownBy (w.setCell ⟨W.heap.size + 1, 0, none⟩ vR) (some (W.heap.size + 1)) := grown_setCell w ⟨W.heap.size + 1, 0, none⟩ vR
 exact ⟨heap_setCell_same w _ 0 _ _ vR h.gb, kept_row h.rb k (fun e => by have : W.heap.size = W.heap.size + 1 := Option.some.inj e; omega), own_other h.oR k (by omega), own_other h.oL k (by omega), h.ap, h.st.storeT k (by omega) ha, Nat.le_trans h.sz k.size⟩
theorem TKt.put1 (h : TKt a W uR uL vR vL R L w) (ha : a < W.heap.size) : TKt a W uR vL vR vL R L (w.setCell ⟨W.heap.size + 1, 1, none⟩ vL) := by
 have k : w.grownBy (w.setCell ⟨W.heap.size + 1, 1, none⟩ vL) (some (W.heap.size + 1)) := grown_setCell w ⟨W.heap.size + 1, 1, none⟩ vL
 exact ⟨heap_setCell_same w _ 1 _ _ vL h.gb, kept_row h.rb k (fun e => by have : W.heap.size = W.heap.size + 1 := Option.some.inj e; omega), own_other h.oR k (by omega), own_other h.oL k (by omega), h.ap, h.st.storeT k (by omega) ha, Nat.le_trans h.sz k.size⟩
theorem TKt.newL {O : List Lk} (h : TKt a W uR uL vR vL R L w) (hown : w1.ownsRow w.heap.size 105 5 v' O.length (O.flatMap lkC)) (g : w.grownBy w1 none) : TKt a W uR uL vR v' R O w1 := by
 have h1 := h.keep g
 refine ⟨h1.gb, h1.rb, h1.oR, hown.mono h.sz, fun k hk e => ?_, h1.st, h1.sz⟩
 have := (hown.lt k e).1
 have := (h.oR.lt k hk).2
 omega
theorem flat_set : ∀ (L : List Lk) (k j : Nat) (x : Int), k < L.length → j < 5 → ∃ L' : List Lk, L'.length = L.length ∧ L'.flatMap lkC = (L.flatMap lkC).set (k * 5 + j) (.int .i64 x)
 | [], k, _, _, hk, _ => absurd hk (Nat.not_lt_zero k)
 | m :: t, 0, j, x, _, hj => by
  rcases (show j = 0 ∨ j = 1 ∨ j = 2 ∨ j = 3 ∨ j = 4 by omega) with rfl | rfl | rfl | rfl | rfl
  ·exact ⟨⟨x, m.b, m.ca, m.cb, m.cp⟩ :: t, rfl, rfl⟩
  ·exact ⟨⟨m.a, x, m.ca, m.cb, m.cp⟩ :: t, rfl, rfl⟩
  ·exact ⟨⟨m.a, m.b, x, m.cb, m.cp⟩ :: t, rfl, rfl⟩
  ·exact ⟨⟨m.a, m.b, m.ca, x, m.cp⟩ :: t, rfl, rfl⟩
  ·exact ⟨⟨m.a, m.b, m.ca, m.cb, x⟩ :: t, rfl, rfl⟩
 | m :: t, k + 1, j, x, hk, hj => by
  obtain ⟨L', h1, h2⟩ := flat_set t k j x (by simpa using hk) hj
  refine ⟨m :: L', by simp [h1], ?_⟩
  rw [List.flatMap_cons, h2, List.flatMap_cons]
  have e : (k + 1) * 5 + j = (lkC m).length + (k * 5 + j) := by
   show (k + 1) * 5 + j = 5 + (k * 5 + j)
   omega
  rw [e, List.set_append_right _ _ (Nat.le_add_right _ _), Nat.add_sub_cancel_left]
theorem TKt.setL {g n cap k j : Nat} {x : Int} (h : TKt a W uR uL vR (.slice (some ⟨g, 0, none⟩) n cap) R L w) (ha : a < W.heap.size) (hk : k < L.length) (hj : j < 5) :
  ∃ L', L'.length = L.length ∧ TKt a W uR uL vR (.slice (some ⟨g, 0, none⟩) n cap) R L' (w.setCell ⟨g, k * 5 + j, none⟩ (.int .i64 x)) := by
 obtain ⟨L', hl, hf⟩ := flat_set L k j x hk hj
 obtain ⟨-, -, -⟩ : True ∧ True ∧ True := ⟨trivial, trivial, trivial⟩
 have hg0 := (h.oL.lt g rfl).1
 have hn : n = L.length := by
  obtain ⟨p, c, e, _⟩ := own_shape h.oL
  injection e
 subst hn
 obtain ⟨s1, s2⟩ := h.oL.stored (k * 5 + j) (.int .i64 x)
 refine ⟨L', hl, kept_row h.gb s2 (fun e => by have : W.heap.size + 1 = g := Option.some.inj e; omega), kept_row h.rb s2 (fun e => by have : W.heap.size = g := Option.some.inj e; omega), h.oR.kept s2 ?_, ?_, h.ap, h.st.storeT s2 (by omega) ha, Nat.le_trans h.sz s2.size⟩
 ·cases hv : vR.ownBlock with
  | none => exact .inl rfl
  | some k => exact .inr (fun e => h.ap k hv (by rw [e]; rfl))
 ·rw [hl, hf]; exact s1
end
def TopoPost (a : Nat) (most : Nat) (n : Int) (w : World) (e : Ending) (w' : World) : Prop :=
 ∃ (R : List Rt) (L : List Lk) (vR vL : Value), e = .returned (.agg #[vR, vL]) ∧ w'.ownsRow w.heap.size 89 2 vR R.length (R.flatMap rtC) ∧ w'.ownsRow w.heap.size 105 5 vL L.length (L.flatMap lkC) ∧ (∀ g, vR.ownBlock = some g → vL.ownBlock ≠ some g) ∧ TopOf most n R L ∧ St a w w'
end Go.Proofs.YtpogblengagpaaaDoor
