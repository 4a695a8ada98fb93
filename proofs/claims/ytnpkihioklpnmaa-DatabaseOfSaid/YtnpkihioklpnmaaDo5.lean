/- Parts of the proof, packed: ToFail, ToWith, ToRws, ToUntil, AdStep, AdVal, IoZeros, IoTake, IoAppend, IoAppendR, IoSlice, IoJoin, IoAlign, IoCheck, Spread, Full, PkBits, PkFields, Funs, PkHead, PkCalls. -/
import Derived.Test.YtnpkihioklpnmaaDo3
import Derived.Test.YtnpkihioklpnmaaDo4
import Derived.Test.YtnpkihioklpnmaaDo1
import Derived.Deep.RegionHeld
import Derived.Maps.AppendAt
import Derived.Deep.CutRange
import Derived.BigQuiet
import Derived.Deep.OwnRows
import Derived.WalkMore
import Derived.Deep.LoopGhost
import Derived.OwnWalk
import Derived.Lib.ConvBytes
/- topology: the closures of Without; what memory holds while it runs. -/
namespace Go.Proofs.Ytnpkihioklpnmaa
open Go.RowKit Bs
/-- A failure with where it lies. -/
structure Fl where
  H : List Hp
  X : List Int
  pH : Option Addr
  cH : Nat
  pX : Option Addr
  cX : Nat
structure FlOk (w : World) (q : Nat → Prop) (F : Fl) : Prop where
  h : RdH w q (.slice F.pH F.H.length F.cH) F.H
  x : Rd w q (.slice F.pX F.X.length F.cX) (F.X.map tv)
  ch : F.H.length ≤ F.cH ∧ F.cH ≤ 9223372036854775807
  cx : F.X.length ≤ F.cX ∧ F.cX ≤ 9223372036854775807
set_option maxRecDepth 100000 in
theorem FlOk.keep {w w' : World} {q : Nat → Prop} {F : Fl} (h : FlOk w q F) (g : w.grownBy w' none) : FlOk w' q F := ⟨h.h.keep g, h.x.keep g, h.ch, h.cx⟩
set_option maxRecDepth 100000 in
theorem FlOk.mono {w : World} {q q' : Nat → Prop} {F : Fl} (h : FlOk w q F) (hq : ∀ b, q b → q' b) : FlOk w q' F := ⟨h.h.mono hq, h.x.mono hq, h.ch, h.cx⟩
def nmd (H : List Hp) (l : Lk) : Bool := H.any (isH l.a l.b) || H.any (isH l.b l.a)
set_option maxRecDepth 100000 in
/-- What is read lies below. -/
theorem RdF.old {w : World} {q : Nat → Prop} {v : Value} {n : Nat} {xs : List Value} (h : RdF w q v n xs) : RdF w (· < w.heap.size) v n xs := by
  obtain ⟨p, c, hv, hc⟩ := h
  refine ⟨p, c, hv, fun hne => ?_⟩
  obtain ⟨b, off, hp, hb, hx⟩ := hc hne
  obtain ⟨x, hx0⟩ : ∃ x, xs[0]? = some x := by
    cases xs with
    | nil => exact absurd rfl hne
    | cons a t => exact ⟨a, rfl⟩
  exact ⟨b, off, hp, World.block_lt_of_cell? w ⟨b, off + 0, none⟩ (hx 0 x hx0), hx⟩
set_option maxRecDepth 100000 in
theorem Rd.old {w : World} {q : Nat → Prop} {v : Value} {xs : List Value} (h : Rd w q v xs) : Rd w (· < w.heap.size) v xs := by
  obtain ⟨p, c, hv, hc⟩ := h
  refine ⟨p, c, hv, fun hne => ?_⟩
  obtain ⟨b, off, hp, hb, hx⟩ := hc hne
  obtain ⟨x, hx0⟩ : ∃ x, xs[0]? = some x := by
    cases xs with
    | nil => exact absurd rfl hne
    | cons a t => exact ⟨a, rfl⟩
  exact ⟨b, off, hp, World.block_lt_of_cell? w ⟨b, off + 0, none⟩ (hx 0 x hx0), hx⟩
set_option maxRecDepth 100000 in
theorem TgOk.old {w : World} {q : Nat → Prop} {T : Tg} (h : TgOk w q T) : TgOk w (· < w.heap.size) T := ⟨h.r.old, h.l.old, h.cr, h.cl⟩
set_option maxRecDepth 100000 in
theorem FlOk.old {w : World} {q : Nat → Prop} {F : Fl} (h : FlOk w q F) : FlOk w (· < w.heap.size) F := ⟨h.h.old, h.x.old, h.ch, h.cx⟩
set_option maxRecDepth 100000 in
theorem FlOk.grown {w w' : World} {q : Nat → Prop} {F : Fl} {r : Option Nat} (h : FlOk w q F) (g : w.grownBy w' r) (hq : ∀ b, q b → some b ≠ r) : FlOk w' q F := ⟨h.h.grown g hq, h.x.grown g hq, h.ch, h.cx⟩
set_option maxRecDepth 100000 in
theorem okT_len {R : List Rt} {L : List Lk} (h : okT R L = true) : R.length ≤ 24 ∧ L.length ≤ 60 := by
  unfold okT chk at h
  by_cases h1 : 24 < R.length ∨ 60 < L.length
  · rw [if_pos h1] at h; cases h
  · omega
/-- What is left of a topology. -/
def woR (F : Fl) (R : List Rt) : List Rt := R.filter fun r => !hasI F.X r.id
def woK (F : Fl) (l : Lk) : Bool := !hasI F.X l.a && (!hasI F.X l.b && !nmd F.H l)
def woL (F : Fl) (L : List Lk) : List Lk := L.filter (woK F)
set_option maxRecDepth 100000 in
theorem filter_snoc {α : Type} {f : α → Bool} {l : List α} {k : Nat} {x : α} (h : l[k]? = some x) : (l.take (k + 1)).filter f = (l.take k).filter f ++ (if f x then [x] else []) := by
  rw [List.take_add_one, h, List.filter_append]
  cases hf : f x <;> simp [hf]
set_option maxRecDepth 100000 in
theorem info_rt : (Try.prog.info? 69).map (fun i => (i.zero, i.size, i.bytes)) = some (some (.agg #[.int .i64 0, .bool false]), 2, 16) := by kernel_rfl
set_option maxRecDepth 100000 in
theorem info_lk : (Try.prog.info? 71).map (fun i => (i.zero, i.size, i.bytes)) = some (some (.agg #[.int .i64 0, .int .i64 0, .int .i64 0, .int .i64 0, .int .i64 0]), 5, 40) := by kernel_rfl
end Go.Proofs.Ytnpkihioklpnmaa

/- topology: Without. -/
namespace Go.Proofs.Ytnpkihioklpnmaa
open Go.RowKit Bs
set_option maxRecDepth 100000 in
theorem grown_any {w w1 w2 : World} {r : Option Nat} (h : w.grownBy w1 none) (k : w1.grownBy w2 r) (hr : ∀ b, b < w.heap.size → some b ≠ r) : w.grownBy w2 none :=
  ⟨k.os.trans h.os, k.tape.trans h.tape, k.output.trans h.output, Nat.le_trans h.size k.size, fun b hb _ => (k.block b (Nat.lt_of_lt_of_le hb h.size) (hr b hb)).trans (h.block b hb (by simp))⟩
set_option maxRecDepth 100000 in
theorem rdf_of_own2 {w : World} {base size : Nat} {e : TypeId} {v : Value} {n : Nat} {xs : List Value} (h : w.ownsRow base e size v n xs) : RdF w (fun b => base ≤ b ∧ b < w.heap.size) v n xs := by
  obtain ⟨p, c, hv, hc⟩ := rdf_of_own h
  refine ⟨p, c, hv, fun hne => ?_⟩
  obtain ⟨b, off, hp, hb, hx⟩ := hc hne
  obtain ⟨x, hx0⟩ : ∃ x, xs[0]? = some x := by
    cases xs with
    | nil => exact absurd rfl hne
    | cons a t => exact ⟨a, rfl⟩
  exact ⟨b, off, hp, ⟨hb, World.block_lt_of_cell? w ⟨b, off + 0, none⟩ (hx 0 x hx0)⟩, hx⟩
/-- What Without keeps from its beginning. -/
structure WS (w : World) (T : Tg) (F : Fl) (wr : World) : Prop where
  tb : wr.heap[w.heap.size]? = some (.cells #[.slice T.pR T.R.length T.cR, .slice T.pL T.L.length T.cL] 59 (0, 0))
  fb : wr.heap[w.heap.size + 1]? = some (.cells #[.slice F.pH F.H.length F.cH, .slice F.pX F.X.length F.cX] 85 (0, 0))
  rb : TRow wr (w.heap.size + 2) 59 [.slice none 0 0, .slice none 0 0]
  gr : w.grownBy wr none
  t : TgOk wr (· < w.heap.size) T
  f : FlOk wr (· < w.heap.size) F
set_option maxRecDepth 100000 in
theorem WS.keepB {w wr w' : World} {T : Tg} {F : Fl} {r : Option Nat} (h : WS w T F wr) (g : wr.grownBy w' r) (hr : ∀ b, b < w.heap.size + 3 → some b ≠ r) : WS w T F w' :=
  ⟨kept_row h.tb g (hr _ (by omega)), kept_row h.fb g (hr _ (by omega)), h.rb.kept g (hr _ (by omega)), grown_any h.gr g (fun b hb => hr b (by omega)), h.t.grown g (fun b hb => hr b (by omega)), h.f.grown g (fun b hb => hr b (by omega))⟩
set_option maxRecDepth 100000 in
theorem WS.keep {w wr w' : World} {T : Tg} {F : Fl} (h : WS w T F wr) (g : wr.grownBy w' none) : WS w T F w' := h.keepB g (fun _ _ => by simp)
set_option maxRecDepth 100000 in
theorem WS.start {w : World} {T : Tg} {F : Fl} {q q2 : Nat → Prop} (hT : TgOk w q T) (hF : FlOk w q2 F) :
    WS w T F (((w.alloc (.cells #[.slice T.pR T.R.length T.cR, .slice T.pL T.L.length T.cL] 59)).alloc (.cells #[.slice F.pH F.H.length F.cH, .slice F.pX F.X.length F.cX] 85)).alloc (.cells #[.slice none 0 0, .slice none 0 0] 59)) := by
  obtain ⟨k1, k2, k3, _⟩ := two_boxes w #[.slice T.pR T.R.length T.cR, .slice T.pL T.L.length T.cL] #[.slice F.pH F.H.length F.cH, .slice F.pX F.X.length F.cX] 59 85
  have k4 := World.grownBy_alloc ((w.alloc (.cells #[.slice T.pR T.R.length T.cR, .slice T.pL T.L.length T.cL] 59)).alloc (.cells #[.slice F.pH F.H.length F.cH, .slice F.pX F.X.length F.cX] 85)) (.cells #[.slice none 0 0, .slice none 0 0] 59) none
  have k5 := heap_alloc_new ((w.alloc (.cells #[.slice T.pR T.R.length T.cR, .slice T.pL T.L.length T.cL] 59)).alloc (.cells #[.slice F.pH F.H.length F.cH, .slice F.pX F.X.length F.cX] 85)) (.cells #[.slice none 0 0, .slice none 0 0] 59)
  have hg := grown_trans k3 k4
  refine ⟨kept_row k1 k4 (by simp), kept_row k2 k4 (by simp), ?_, hg, hT.old.keep hg, hF.old.keep hg⟩
  have e : ((w.alloc (.cells #[.slice T.pR T.R.length T.cR, .slice T.pL T.L.length T.cL] 59)).alloc (.cells #[.slice F.pH F.H.length F.cH, .slice F.pX F.X.length F.cX] 85)).heap.size = w.heap.size + 2 := by simp
  rw [e] at k5
  exact k5
/-- While routers are kept. -/
structure WR (w : World) (T : Tg) (F : Fl) (Bx base : Nat) (vR : Value) (R' : List Rt) (wr : World) : Prop where
  s : WS w T F wr
  bx : wr.heap[Bx]? = some (.cells #[vR, .slice none 0 0] 59 (0, 0))
  own : wr.ownsRow base 69 2 vR R'.length (R'.flatMap rtC)
  b1 : w.heap.size + 3 ≤ Bx ∧ Bx < base ∧ base ≤ wr.heap.size
set_option maxRecDepth 100000 in
theorem WR.keep {w wr w' : World} {T : Tg} {F : Fl} {Bx base : Nat} {vR : Value} {R' : List Rt} (h : WR w T F Bx base vR R' wr) (g : wr.grownBy w' none) : WR w T F Bx base vR R' w' :=
  ⟨h.s.keep g, kept_row h.bx g (by simp), h.own.kept g (by cases hv : vR.ownBlock <;> simp), ⟨h.b1.1, h.b1.2.1, Nat.le_trans h.b1.2.2 g.size⟩⟩
set_option maxRecDepth 100000 in
theorem WR.mid {w wr wy w1 : World} {T : Tg} {F : Fl} {Bx base : Nat} {vR v' : Value} {R' : List Rt} {y : Rt} {o : Obj} (h : WR w T F Bx base vR R' wr) (g : wr.grownBy wy none)
    (hown : w1.ownsRow base 69 2 v' (R'.length + 1) (R'.flatMap rtC ++ [.int .i64 y.id, .bool y.cap])) (hg : (wy.alloc o).grownBy w1 vR.ownBlock) :
    WS w T F w1 ∧ w1.heap[Bx]? = some (.cells #[vR, .slice none 0 0] 59 (0, 0)) ∧ w1.ownsRow base 69 2 v' (R' ++ [y]).length ((R' ++ [y]).flatMap rtC) ∧ base ≤ w1.heap.size := by
  have k0 := grown_trans g (World.grownBy_alloc wy o none)
  have hne : ∀ k, k < base → some k ≠ vR.ownBlock := fun k hk e => by
    have := (h.own.lt k e.symm).1
    omega
  have h2 := h.keep k0
  have hb := h.b1
  refine ⟨h2.s.keepB hg (fun b hb2 => hne b (by omega)), kept_row h2.bx hg (hne _ (by omega)), ?_, Nat.le_trans h2.b1.2.2 hg.size⟩
  rw [List.length_append, List.flatMap_append]
  exact hown
set_option maxRecDepth 100000 in
theorem WR.put {w w1 : World} {T : Tg} {F : Fl} {Bx base : Nat} {vR v' : Value} {R' : List Rt} (hb : w.heap.size + 3 ≤ Bx ∧ Bx < base)
    (h : WS w T F w1 ∧ w1.heap[Bx]? = some (.cells #[vR, .slice none 0 0] 59 (0, 0)) ∧ w1.ownsRow base 69 2 v' R'.length (R'.flatMap rtC) ∧ base ≤ w1.heap.size) :
    WR w T F Bx base v' R' (w1.setCell ⟨Bx, 0, none⟩ v') := by
  obtain ⟨h1, h2, h3, h4⟩ := h
  have k := grown_setCell w1 ⟨Bx, 0, none⟩ v'
  refine ⟨h1.keepB k (fun b hb2 e => by have : b = Bx := Option.some.inj e; omega), heap_setCell_same w1 Bx 0 _ _ v' h2, h3.kept k ?_, hb.1, hb.2, Nat.le_trans h4 k.size⟩
  cases hv : v'.ownBlock with
  | none => exact .inl rfl
  | some g => exact .inr (fun e => by have e2 : g = Bx := Option.some.inj e; have := (h3.lt g hv).1; omega)
/-- While links are kept. -/
structure WL (w : World) (T : Tg) (F : Fl) (Bx base : Nat) (vR vL : Value) (R' : List Rt) (L' : List Lk) (wr : World) : Prop where
  s : WS w T F wr
  bx : wr.heap[Bx]? = some (.cells #[vR, vL] 59 (0, 0))
  own : wr.ownsRow base 71 5 vL L'.length (L'.flatMap lkC)
  rd : RdR wr (fun b => Bx < b ∧ b < base) vR R'
  cv : ∃ p c, vR = .slice p R'.length c ∧ R'.length ≤ c ∧ c ≤ 9223372036854775807
  b1 : w.heap.size + 3 ≤ Bx ∧ Bx < base ∧ base ≤ wr.heap.size
set_option maxRecDepth 100000 in
theorem WL.keep {w wr w' : World} {T : Tg} {F : Fl} {Bx base : Nat} {vR vL : Value} {R' : List Rt} {L' : List Lk} (h : WL w T F Bx base vR vL R' L' wr) (g : wr.grownBy w' none) : WL w T F Bx base vR vL R' L' w' :=
  ⟨h.s.keep g, kept_row h.bx g (by simp), h.own.kept g (by cases hv : vL.ownBlock <;> simp), h.rd.keep g, h.cv, ⟨h.b1.1, h.b1.2.1, Nat.le_trans h.b1.2.2 g.size⟩⟩
set_option maxRecDepth 100000 in
theorem WL.mid {w wr wy w1 : World} {T : Tg} {F : Fl} {Bx base : Nat} {vR vL v' : Value} {R' : List Rt} {L' : List Lk} {y : Lk} {o : Obj} (h : WL w T F Bx base vR vL R' L' wr) (g : wr.grownBy wy none)
    (hown : w1.ownsRow base 71 5 v' (L'.length + 1) (L'.flatMap lkC ++ [.int .i64 y.a, .int .i64 y.b, .int .i64 y.ca, .int .i64 y.cb, .int .i64 y.cp])) (hg : (wy.alloc o).grownBy w1 vL.ownBlock) :
    WS w T F w1 ∧ w1.heap[Bx]? = some (.cells #[vR, vL] 59 (0, 0)) ∧ w1.ownsRow base 71 5 v' (L' ++ [y]).length ((L' ++ [y]).flatMap lkC) ∧ (RdR w1 (fun b => Bx < b ∧ b < base) vR R' ∧ ∃ p c, vR = .slice p R'.length c ∧ R'.length ≤ c ∧ c ≤ 9223372036854775807) ∧ base ≤ w1.heap.size := by
  have k0 := grown_trans g (World.grownBy_alloc wy o none)
  have hne : ∀ k, k < base → some k ≠ vL.ownBlock := fun k hk e => by
    have := (h.own.lt k e.symm).1
    omega
  have h2 := h.keep k0
  have hb := h.b1
  refine ⟨h2.s.keepB hg (fun b hb2 => hne b (by omega)), kept_row h2.bx hg (hne _ (by omega)), ?_, ⟨h2.rd.grown hg (fun b hb2 => hne b hb2.2), h2.cv⟩, Nat.le_trans h2.b1.2.2 hg.size⟩
  rw [List.length_append, List.flatMap_append]
  exact hown
set_option maxRecDepth 100000 in
theorem WL.put {w w1 : World} {T : Tg} {F : Fl} {Bx base : Nat} {vR vL v' : Value} {R' : List Rt} {L' : List Lk} (hb : w.heap.size + 3 ≤ Bx ∧ Bx < base)
    (h : WS w T F w1 ∧ w1.heap[Bx]? = some (.cells #[vR, vL] 59 (0, 0)) ∧ w1.ownsRow base 71 5 v' L'.length (L'.flatMap lkC) ∧ (RdR w1 (fun b => Bx < b ∧ b < base) vR R' ∧ ∃ p c, vR = .slice p R'.length c ∧ R'.length ≤ c ∧ c ≤ 9223372036854775807) ∧ base ≤ w1.heap.size) :
    WL w T F Bx base vR v' R' L' (w1.setCell ⟨Bx, 1, none⟩ v') := by
  obtain ⟨h1, h2, h3, h5, h4⟩ := h
  have k := grown_setCell w1 ⟨Bx, 1, none⟩ v'
  refine ⟨h1.keepB k (fun b hb2 e => by have : b = Bx := Option.some.inj e; omega), heap_setCell_same w1 Bx 1 _ _ v' h2, h3.kept k ?_, h5.1.grown k (fun b hb2 e => by have e2 : b = Bx := Option.some.inj e; omega), h5.2, hb.1, hb.2, Nat.le_trans h4 k.size⟩
  cases hv : v'.ownBlock with
  | none => exact .inl rfl
  | some g => exact .inr (fun e => by have e2 : g = Bx := Option.some.inj e; have := (h3.lt g hv).1; omega)
set_option maxRecDepth 100000 in
theorem topo_size : (Try.prog.info? 59).map (·.size) = some 2 := by kernel_rfl
set_option maxRecDepth 100000 in
theorem res_topo {fn : Func} {p : Tmp} (h : fn.results = #[.cell p 59]) (tmps : Array Value) (w : World) (g : Nat) (x y : Value) (hp : tmps.getD p undef = .pointer (some ⟨g, 0, none⟩)) (hg : w.heap[g]? = some (.cells #[x, y] 59 (0, 0))) :
    (results fn tmps).run Try.prog w = .ok (.agg #[x, y]) w :=
  results_cell_row h tmps w g _ _ _ _ hp hg Try.underlying59 rfl topo_size
set_option maxRecDepth 100000 in
theorem own_shape {w : World} {base size n : Nat} {e : TypeId} {v : Value} {xs : List Value} (h : w.ownsRow base e size v n xs) : ∃ p c, v = .slice p n c ∧ n ≤ c ∧ c ≤ 9223372036854775807 := by
  rcases h.2 with ⟨rfl, h0⟩ | ⟨g, cap, cur, rfl, _, _, hn, hm, _⟩
  · subst h0
    exact ⟨none, 0, rfl, Nat.le_refl _, by omega⟩
  · unfold maxLen at hm
    exact ⟨_, cap, rfl, hn, by omega⟩
set_option maxRecDepth 100000 in
theorem cells2 (w : World) (x y : Value) (t : TypeId) : ∀ j u, [x, y][j]? = some u → (w.alloc (.cells #[x, y] t)).cell? ((⟨w.heap.size, 0, none⟩ : Addr).add j) = some u := by
  intro j u hj
  have hb : (w.alloc (.cells #[x, y] t)).heap[w.heap.size]? = some (.cells #[x, y] t (0, 0)) := heap_alloc_new w _
  have hadd : (⟨w.heap.size, 0, none⟩ : Addr).add j = ⟨w.heap.size, j, none⟩ := by rw [add_plain, Nat.zero_add]
  rw [hadd, cell_of_row _ _ _ _ _ _ hb]
  simpa using hj
set_option maxRecDepth 100000 in
theorem cells5 (w : World) (a b c d e : Value) (t : TypeId) : ∀ j u, [a, b, c, d, e][j]? = some u → (w.alloc (.cells #[a, b, c, d, e] t)).cell? ((⟨w.heap.size, 0, none⟩ : Addr).add j) = some u := by
  intro j u hj
  have hb : (w.alloc (.cells #[a, b, c, d, e] t)).heap[w.heap.size]? = some (.cells #[a, b, c, d, e] t (0, 0)) := heap_alloc_new w _
  have hadd : (⟨w.heap.size, 0, none⟩ : Addr).add j = ⟨w.heap.size, j, none⟩ := by rw [add_plain, Nat.zero_add]
  rw [hadd, cell_of_row _ _ _ _ _ _ hb]
  simpa using hj
end Go.Proofs.Ytnpkihioklpnmaa

/- Rows of structs: parts of them, and append. -/
namespace Go.Proofs.Ytnpkihioklpnmaa
open Go.RowKit Bs
set_option maxRecDepth 100000 in
/-- A walk stops here. -/
theorem hold_on {p : Prop} (h : Hid p) : p := h.out
set_option maxRecDepth 100000 in
theorem flat_drop {α : Type} (f : α → List Value) (k : Nat) (hf : ∀ x, (f x).length = k) : ∀ (l : List α) (j : Nat), (l.drop j).flatMap f = (l.flatMap f).drop (j * k)
  | [], j => by simp
  | a :: t, 0 => by simp
  | a :: t, j + 1 => by
    rw [List.drop_succ_cons, flat_drop f k hf t j, List.flatMap_cons, Nat.add_mul, Nat.one_mul, Nat.add_comm, ← List.drop_drop, List.drop_append_of_le_length (by rw [hf]; exact Nat.le_refl _), ← hf a, List.drop_length, List.nil_append]
set_option maxRecDepth 100000 in
theorem flat_take {α : Type} (f : α → List Value) (k : Nat) (hf : ∀ x, (f x).length = k) : ∀ (l : List α) (j : Nat), (l.take j).flatMap f = (l.flatMap f).take (j * k)
  | [], j => by simp
  | a :: t, 0 => by simp
  | a :: t, j + 1 => by
    rw [List.take_succ_cons, List.flatMap_cons, flat_take f k hf t j, List.flatMap_cons, List.take_append, hf, List.take_of_length_le (l := f a) (by rw [hf, Nat.add_mul]; omega), Nat.add_mul, Nat.one_mul, Nat.add_sub_cancel]
set_option maxRecDepth 100000 in
theorem RdF.part {α : Type} {f : α → List Value} {k : Nat} (hf : ∀ x, (f x).length = k) {w : World} {q : Nat → Prop} {p : Option Addr} {c : Nat} {l : List α} (h : RdF w q (.slice p l.length c) l.length (l.flatMap f)) (j : Nat) (hj : j ≤ l.length) (c' : Nat) :
    RdF w q (.slice p j c') (l.take j).length ((l.take j).flatMap f) := by
  obtain ⟨p1, c1, e1, hx⟩ := h
  injection e1 with a1 a2 a3
  subst a1
  have hlen : (l.take j).length = j := by rw [List.length_take]; omega
  rw [hlen]
  refine ⟨p, c', rfl, fun hne => ?_⟩
  rw [flat_take f k hf] at hne ⊢
  obtain ⟨b, off, hp, hq, hc⟩ := hx (by intro e; rw [e] at hne; simp at hne)
  refine ⟨b, off, hp, hq, fun i x hi => hc i x ?_⟩
  rw [List.getElem?_take] at hi
  split at hi
  · exact hi
  · cases hi
set_option maxRecDepth 100000 in
theorem RdF.rest {α : Type} {f : α → List Value} {k : Nat} (hf : ∀ x, (f x).length = k) {w : World} {q : Nat → Prop} {b off c : Nat} {l : List α} (h : RdF w q (.slice (some ⟨b, off, none⟩) l.length c) l.length (l.flatMap f)) (j : Nat) (c' : Nat) :
    RdF w q (.slice (some ⟨b, off + j * k, none⟩) (l.length - j) c') (l.drop j).length ((l.drop j).flatMap f) := by
  obtain ⟨p1, c1, e1, hx⟩ := h
  injection e1 with a1 a2 a3
  subst a1
  have hlen : (l.drop j).length = l.length - j := by rw [List.length_drop]
  rw [hlen]
  refine ⟨_, c', rfl, fun hne => ?_⟩
  rw [flat_drop f k hf] at hne ⊢
  obtain ⟨b1, off1, hp, hq, hc⟩ := hx (by intro e; rw [e] at hne; simp at hne)
  injection hp with hp
  injection hp with hb ho
  subst hb
  subst ho
  refine ⟨b, off + j * k, rfl, hq, fun i x hi => ?_⟩
  rw [List.getElem?_drop] at hi
  rw [Nat.add_assoc]
  exact hc _ x hi
set_option maxRecDepth 100000 in
theorem rdf_news {w : World} {q : Nat → Prop} {ad : Addr} {n c m : Nat} {xs : List Value} (hR : RdF w q (.slice (some ad) n c) m xs) : ∀ j u, xs[j]? = some u → w.cell? (ad.add j) = some u := by
  intro j u hj
  obtain ⟨p1, c1, e1, hx⟩ := hR
  injection e1 with a1 a2 a3
  subst a1
  obtain ⟨b, off, hp, hq, hc⟩ := hx (by intro e; rw [e] at hj; simp at hj)
  injection hp with hp
  subst hp
  rw [add_plain]
  exact hc j u hj
set_option maxRecDepth 100000 in
theorem rdf_one {w : World} {b off n : Nat} {xs : List Value} (q : Nat → Prop) (hq : q b) (h : ∀ j u, xs[j]? = some u → w.cell? ((⟨b, off, none⟩ : Addr).add j) = some u) (c : Nat) : RdF w q (.slice (some ⟨b, off, none⟩) n c) n xs :=
  ⟨_, c, rfl, fun _ => ⟨b, off, rfl, hq, fun i x hi => by have := h i x hi; rw [add_plain] at this; exact this⟩⟩
set_option maxRecDepth 100000 in
theorem wpList_append_f {α : Type} (f : α → List Value) (size bytes : Nat) (hsz : 0 < size) (hf : ∀ x, (f x).length = size) (hone : ∀ x, ∀ u ∈ f x, u.oneCell' = true) (e t : TypeId) (i : TypeInfo) (z : Value)
    (ht : Try.prog.underlying t = some (.slice e)) (hi : Try.prog.info? e = some i) (hz : i.zero = some z) (hsize : i.size = size) (hby : i.bytes = bytes) (hzs : z.cells.size = size) (hb40 : bytes ≤ 1000)
    {w : World} {ops : Array Oper} {rest : List Oper} {o : Oper} {a : Act} {Q : Exit → Act → World → Prop} (hgd : o.guard = none) (s x : Operand)
    (ho : o.op = .call { callee := .builtin .append, args := #[s, x], argTypes := #[t, t] }) (base : Nat) (v : Value) (l : List α) (n : Nat) (hn : n = l.length) (hs : a.eval s = v) (hown : w.ownsRow base e size v n (l.flatMap f))
    (p : Option Addr) (k c : Nat) (r : List α) (hx : a.eval x = .slice p k c) (hk : k = r.length) (hn0 : p = none → c = 0) (q : Nat → Prop) (hR : RdF w q (.slice p k c) r.length (r.flatMap f)) (hkc : k ≤ c) (h63 : n + r.length ≤ 100000) (hbase : base ≤ w.heap.size)
    (h : ∀ v' w', w'.ownsRow base e size v' (l ++ r).length ((l ++ r).flatMap f) → w.grownBy w' v.ownBlock → wpList Try.prog ops Q rest (a.put o.dst v') w') : wpList Try.prog ops Q (o :: rest) a w := by
  subst hn
  cases p with
  | none =>
    obtain rfl := hn0 rfl
    have hr : r.length = 0 := by omega
    obtain rfl := List.eq_nil_of_length_eq_zero hr
    obtain rfl : k = 0 := hk
    refine wpList_append_own_none hgd s x t ho base e i size ht hi v l.length (l.flatMap f) hs hown hx ?_
    refine h v w ?_ (grown_refl _ _)
    rw [List.append_nil]; exact hown
  | some ad =>
    have hb2 : (l.length + k) * bytes ≤ 140737488355328 := Nat.le_trans (Nat.mul_le_mul (show l.length + k ≤ 100000 by omega) hb40) (by decide)
    refine wpList_append_own w hgd s x t ho base e i z size bytes ht hi hz hsize hby hzs hsz v l.length (l.flatMap f) hs hown ad k c (r.flatMap f) hx (by rw [flat_len f size hf, hk]) (rdf_news hR) ?_ (by unfold maxLen; omega) hb2 hbase ?_
    · intro u hu
      obtain ⟨y, _, hy⟩ := List.mem_flatMap.1 hu
      exact hone y u hy
    · intro v' w' h1 h2 _
      refine h v' w' ?_ h2
      rw [List.length_append, List.flatMap_append, ← hk]; exact h1
set_option maxRecDepth 100000 in
theorem own_apartF {w w1 : World} {base base2 size size2 : Nat} {e e2 : TypeId} {v v2 : Value} {n m : Nat} {xs ys : List Value} (h : w.ownsRow base e size v n xs) (hv : w.ownsRow base2 e2 size2 v2 m ys) (hg : ∀ g, v.ownBlock = some g → g < base2) (k : w.grownBy w1 v2.ownBlock) : w1.ownsRow base e size v n xs := by
  refine h.kept k ?_
  cases hb : v.ownBlock with
  | none => exact .inl rfl
  | some g =>
    refine .inr fun e => ?_
    have := (hv.lt g e.symm).1
    have := hg g hb
    omega
set_option maxRecDepth 100000 in
theorem old_grow {w w1 : World} {base2 size2 : Nat} {e2 : TypeId} {v2 : Value} {m : Nat} {ys : List Value} {W : World} (g : W.grownBy w none) (hv : w.ownsRow base2 e2 size2 v2 m ys) (hb : W.heap.size ≤ base2) (k : w.grownBy w1 v2.ownBlock) : W.grownBy w1 none :=
  grown_any g k (fun b hlt e => by have := (hv.lt b e.symm).1; omega)
set_option maxRecDepth 100000 in
theorem lk_one (x : Lk) : ∀ u ∈ lkC x, u.oneCell' = true := by
  intro u hu
  simp [lkC] at hu
  rcases hu with rfl | rfl | rfl | rfl | rfl <;> rfl
end Go.Proofs.Ytnpkihioklpnmaa

/- A region that draws its order: loads are taken first although a late operation writes their cells; what they want of the world holds until then. -/
namespace Go.Proofs.Ytnpkihioklpnmaa
open Go
section
variable {P : Program} {ops : Array Oper} {Q : Exit → Act → World → Prop} {md : Region.Mode} {S : World → Prop} {late : Nat → Bool}
/-- Any order from here on; S holds behind whatever is not late. -/
def anyU (P : Program) (md : Region.Mode) (ops : Array Oper) (Q : Exit → Act → World → Prop) (S : World → Prop) (late : Nat → Bool) : Nat → Array Bool → Act → World → Prop
  | 0, seen, a, w => Region.ready md ops seen = [] ∧ Q .normal a w
  | n + 1, seen, a, w => (Region.ready md ops seen = [] → Q .normal a w) ∧
      ∀ k, k ∈ Region.ready md ops seen → wpOp P ops Q k (fun b v => (late k = false → S v) ∧ anyU P md ops Q S late n (seen.setIfInBounds k true) b v) a w
set_option maxRecDepth 100000 in
theorem anyU_any (n : Nat) : ∀ (seen : Array Bool) (a : Act) (w : World), anyU P md ops Q S late n seen a w → wpAny P md ops Q n seen a w := by
  induction n with
  | zero => intro seen a w h; exact h
  | succ n ih => intro seen a w h; exact ⟨h.1, fun k hk => wpOp_mono (fun b v hb => ih _ b v hb.2) (h.2 k hk)⟩
/-- Number j waits for number i, perhaps by way of others. -/
def reach (md : Region.Mode) (ops : Array Oper) : Nat → Nat → Nat → Bool
  | 0, _, _ => false
  | n + 1, j, i => match ops[j]? with
    | some o => o.after.any fun e => Region.binds md e && (e.on == i || reach md ops n e.on i)
    | none => false
/-- Whatever is late waits for number i. -/
def waits (md : Region.Mode) (ops : Array Oper) (late : Nat → Bool) (i : Nat) : Bool :=
  (List.range ops.size).all fun j => !late j || reach md ops ops.size j i
/-- What has come up has come up behind all that it waits for. -/
def Shut1 (md : Region.Mode) (ops : Array Oper) (seen : Array Bool) : Prop :=
  ∀ (j : Nat) (o : Oper), ops[j]? = some o → seen.getD j false = true → ∀ e ∈ o.after, Region.binds md e = true → seen.getD e.on false = true
def shut1 (md : Region.Mode) (ops : Array Oper) (seen : Array Bool) : Bool :=
  (List.range ops.size).all fun j => !seen.getD j false || (match ops[j]? with
    | some o => o.after.all fun e => !Region.binds md e || seen.getD e.on false
    | none => true)
set_option maxRecDepth 100000 in
theorem shut1_spec {seen : Array Bool} (h : shut1 md ops seen = true) : Shut1 md ops seen := by
  intro j o ho hj e he hb
  unfold shut1 at h
  rw [List.all_eq_true] at h
  have h1 := h j (List.mem_range.2 (Array.getElem?_eq_some_iff.1 ho).1)
  rw [hj, ho] at h1
  simp only [Bool.not_true, Bool.false_or] at h1
  rw [Array.all_eq_true_iff_forall_mem] at h1
  have h2 := h1 e he
  rw [hb] at h2
  simpa using h2
set_option maxRecDepth 100000 in
theorem Shut1.step {seen : Array Bool} {j : Nat} (h : Shut1 md ops seen) (hj : j ∈ Region.ready md ops seen) : Shut1 md ops (seen.setIfInBounds j true) := by
  intro k o ho hk e he hb
  by_cases hjk : j = k
  · subst hjk
    obtain ⟨_, o2, ho2, hall⟩ := mem_ready.1 hj
    rw [ho] at ho2
    obtain rfl := Option.some.inj ho2
    exact getD_set_true (hall e he hb)
  · rw [getD_set_ne false hjk] at hk
    exact getD_set_true (h k o ho hk e he hb)
set_option maxRecDepth 100000 in
theorem reach_seen {seen : Array Bool} (hc : Shut1 md ops seen) (i : Nat) : ∀ (n j : Nat) (o : Oper), ops[j]? = some o → (∀ e ∈ o.after, Region.binds md e = true → seen.getD e.on false = true) → reach md ops n j i = true → seen.getD i false = true := by
  intro n
  induction n with
  | zero => intro j o _ _ h; cases h
  | succ n ih =>
    intro j o ho hall h
    unfold reach at h
    rw [ho] at h
    simp only at h
    rw [Array.any_eq_true'] at h
    obtain ⟨e, he, hb⟩ := h
    rw [Bool.and_eq_true, Bool.or_eq_true] at hb
    have h1 := hall e he hb.1
    rcases hb.2 with h2 | h2
    · have : e.on = i := by simpa using h2
      rwa [this] at h1
    · cases ho2 : ops[e.on]? with
      | none =>
        cases n with
        | zero => cases h2
        | succ n =>
          unfold reach at h2
          rw [ho2] at h2
          cases h2
      | some o2 => exact ih e.on o2 ho2 (hc e.on o2 ho2 h1) h2
set_option maxRecDepth 100000 in
theorem waits_seen {seen : Array Bool} {i j : Nat} (hw : waits md ops late i = true) (hc : Shut1 md ops seen) (hj : j ∈ Region.ready md ops seen) (hl : late j = true) : seen.getD i false = true := by
  obtain ⟨_, o, ho, hall⟩ := mem_ready.1 hj
  unfold waits at hw
  rw [List.all_eq_true] at hw
  have h1 := hw j (List.mem_range.2 (Array.getElem?_eq_some_iff.1 ho).1)
  rw [hl] at h1
  exact reach_seen hc i _ j o ho hall (by simpa using h1)
set_option maxRecDepth 100000 in
theorem anyU_first {i : Nat} {oi : Oper} {v : Value} (hi : ops[i]? = some oi) (hsel : ∀ (j : Nat) (o : Oper) cs b, ops[j]? = some o → o.op ≠ .select cs b)
    (hQ : ∀ c a w, Q (.panic c) (a.put oi.dst v) w → Q (.panic c) a w) (hw : waits md ops late i = true) (n : Nat) :
    ∀ (seen : Array Bool) (a : Act) (w : World),
      (∀ j oj, ops[j]? = some oj → j ≠ i → seen.getD j true = false → (∀ e ∈ oj.after, Region.binds md e = true → e.on ≠ i) → oi.apart ops oj = true) →
      Shut1 md ops seen → i ∈ Region.ready md ops seen → YieldsIf P ops S oi v a → S w → anyU P md ops Q S late n (seen.setIfInBounds i true) (a.put oi.dst v) w → anyU P md ops Q S late (n + 1) seen a w := by
  have now : ∀ (m : Nat) (seen : Array Bool) (a : Act) (w : World), YieldsIf P ops S oi v a → S w → anyU P md ops Q S late m (seen.setIfInBounds i true) (a.put oi.dst v) w →
      wpOp P ops Q i (fun b u => (late i = false → S u) ∧ anyU P md ops Q S late m (seen.setIfInBounds i true) b u) a w := fun m seen a w hy hS h => hy.wpOp hi hS ⟨fun _ => hS, h⟩
  induction n with
  | zero =>
    intro seen a w _ _ hr hy hS h
    refine ⟨fun e => (by rw [e] at hr; cases hr), fun j hj => ?_⟩
    by_cases e : j = i
    · exact e ▸ now 0 seen a w hy hS h
    · have := ready_mono hj e
      rw [h.1] at this
      cases this
  | succ n ih =>
    intro seen a w hf hc hr hy hS h
    refine ⟨fun e => (by rw [e] at hr; cases hr), fun j hj => ?_⟩
    by_cases e : j = i
    · exact e ▸ now (n + 1) seen a w hy hS h
    obtain ⟨hun, oj, hoj, hall⟩ := mem_ready.1 hj
    have hno : ∀ e ∈ oj.after, Region.binds md e = true → e.on ≠ i := fun e he hb hei => by
      have h1 := hall e he hb
      have h0 := (mem_ready.1 hr).1
      rw [hei] at h1
      by_cases hlt : i < seen.size
      · simp [hlt] at h0 h1
        rw [h0] at h1
        cases h1
      · simp [Array.getElem?_eq_none (Nat.le_of_not_lt hlt)] at h1
    have hl : late j = false := by
      cases hl : late j with
      | false => rfl
      | true =>
        have h1 := waits_seen hw hc hj hl
        have h0 := (mem_ready.1 hr).1
        by_cases hlt : i < seen.size
        · simp [hlt] at h0 h1
          rw [h0] at h1
          cases h1
        · simp [Array.getElem?_eq_none (Nat.le_of_not_lt hlt)] at h1
    refine wpOp_mono (fun b u hb => ⟨hb.2.1, ih _ b u (fun k ok hk hki hsk hnk => hf k ok hk hki ?_ hnk) (hc.step hj) (ready_mono hr (Ne.symm e)) hb.1 (hb.2.1 hl) (by rw [Array.setIfInBounds_comm _ _ e]; exact hb.2.2)⟩)
      (wpOp_putIf hoj (hf j oj hoj e hun hno) (fun cs b => hsel i oi cs b hi) (fun cs b => hsel j oj cs b hoj) hQ hy (h.2 j (ready_mono hj e)))
    by_cases hjk : j = k
    · exact hjk ▸ hun
    · rwa [getD_set_ne true hjk] at hsk
set_option maxRecDepth 100000 in
theorem anyU_take {i : Nat} {oi : Oper} {v : Value} {n : Nat} {seen : Array Bool} {a : Act} {w : World} (hi : ops[i]? = some oi) (hw : waits md ops late i = true)
    (hc : shut1 md ops seen = true) (hs : Region.noSelect ops = true) (hf : Region.free md ops seen i = true) (hr : (Region.ready md ops seen).contains i = true)
    (hQ : ∀ c a w, Q (.panic c) (a.put oi.dst v) w → Q (.panic c) a w) (hy : YieldsIf P ops S oi v a) (hS : S w)
    (h : anyU P md ops Q S late n (seen.setIfInBounds i true) (a.put oi.dst v) w) : anyU P md ops Q S late (n + 1) seen a w :=
  anyU_first hi (Region.noSelect_spec hs) hQ hw n seen a w (Region.free_spec hi hf) (shut1_spec hc) (by simpa using hr) hy hS h
/-- Each of some operations comes up next. -/
def EachU (P : Program) (md : Region.Mode) (ops : Array Oper) (Q : Exit → Act → World → Prop) (S : World → Prop) (late : Nat → Bool) (n : Nat) (seen : Array Bool) (a : Act) (w : World) (rs : List Nat) : Prop :=
  ∀ k ∈ rs, wpOp P ops Q k (fun b v => (late k = false → S v) ∧ anyU P md ops Q S late n (seen.setIfInBounds k true) b v) a w
set_option maxRecDepth 100000 in
theorem EachU.nil {n : Nat} {seen : Array Bool} {a : Act} {w : World} : EachU P md ops Q S late n seen a w [] := fun _ h => by cases h
set_option maxRecDepth 100000 in
theorem EachU.cons {n : Nat} {seen : Array Bool} {a : Act} {w : World} {i : Nat} {o : Oper} {rs : List Nat} (ho : ops[i]? = some o)
    (h : ∀ K : Act → World → Prop, Shut (∀ b v, (late i = false → S v) → ((late i = false → S v) → anyU P md ops Q S late n (seen.setIfInBounds i true) b v) → K b v) → if Region.wanted o (yielded ops a.tmps) = true then Oper.wp P o a w K Q else K (a.put o.dst undef) w)
    (hs : EachU P md ops Q S late n seen a w rs) : EachU P md ops Q S late n seen a w (i :: rs) := fun j hj => by
  rcases List.mem_cons.1 hj with rfl | hj
  · exact wpOp_step ho (fun K hK => h K (fun b v hS hW => hK b v ⟨hS, hW hS⟩))
  · exact hs j hj
set_option maxRecDepth 100000 in
theorem anyU_ready {rs : List Nat} {n : Nat} {seen : Array Bool} {a : Act} {w : World} (hr : Region.ready md ops seen = rs) (hne : rs ≠ []) (h : EachU P md ops Q S late n seen a w rs) : anyU P md ops Q S late (n + 1) seen a w :=
  ⟨fun e => absurd (hr ▸ e) hne, hr ▸ h⟩
set_option maxRecDepth 100000 in
theorem anyU_done {seen : Array Bool} {a : Act} {w : World} (hr : Region.ready md ops seen = []) (h : Q .normal a w) (n : Nat) : anyU P md ops Q S late n seen a w := by
  cases n with
  | zero => exact ⟨hr, h⟩
  | succ n => exact ⟨fun _ => h, by rw [hr]; intro k hk; cases hk⟩
set_option maxRecDepth 100000 in
theorem region_until {id : Nat} {a : Act} {w : World} (late : Nat → Bool) (hm : P.follows .mixedOrders = true) (hS : S w.drew) (h : S w.drew → anyU P .any ops Q S late ops.size (Array.replicate ops.size false) a w.drew) :
    (Code.region id ops true).wp P Q a w := wp_region_any hm (anyU_any _ _ _ _ (h hS))
end
end Go.Proofs.Ytnpkihioklpnmaa

/- append at a step of a region that draws its order; rows of links and claims of adverts. -/
namespace Go.Proofs.Ytnpkihioklpnmaa
open Go.RowKit Bs
set_option maxRecDepth 100000 in
theorem astep_app {α : Type} (f : α → List Value) (size bytes : Nat) (hsz : 0 < size) (hf : ∀ x, (f x).length = size) (hone : ∀ x, ∀ u ∈ f x, u.oneCell' = true) (e t : TypeId) (i : TypeInfo) (z : Value)
    (ht : Try.prog.underlying t = some (.slice e)) (hi : Try.prog.info? e = some i) (hz : i.zero = some z) (hsize : i.size = size) (hby : i.bytes = bytes) (hzs : z.cells.size = size) (hb40 : bytes ≤ 1000)
    {w : World} {ops : Array Oper} {o : Oper} {a : Act} {K : Act → World → Prop} {Q : Exit → Act → World → Prop} {E : Prop} (hgd : o.guard = none) (s x : Operand)
    (ho : o.op = .call { callee := .builtin .append, args := #[s, x], argTypes := #[t, t] }) (base : Nat) (v : Value) (l : List α) (hs : a.eval s = v) (hown : w.ownsRow base e size v l.length (l.flatMap f))
    (p : Option Addr) (k c : Nat) (r : List α) (hx : a.eval x = .slice p k c) (hk : k = r.length) (hn0 : p = none → c = 0) (q : Nat → Prop) (hR : RdF w q (.slice p k c) r.length (r.flatMap f)) (hkc : k ≤ c) (h63 : l.length + r.length ≤ 100000) (hbase : base ≤ w.heap.size)
    (h : ∀ p' c' w', w'.ownsRow base e size (.slice p' (l.length + r.length) c') (l ++ r).length ((l ++ r).flatMap f) → w.grownBy w' v.ownBlock → ((Value.slice p' (l.length + r.length) c').ownBlock = v.ownBlock ∨ (Value.slice p' (l.length + r.length) c').ownBlock = some w.heap.size) → K (a.put o.dst (.slice p' (l.length + r.length) c')) w') :
    if Region.wanted o (yielded ops a.tmps) = true then Oper.wp Try.prog o a w K Q else E := by
  have hw : Region.wanted o (yielded ops a.tmps) = true := by simp [Region.wanted, hgd]
  rw [if_pos hw]
  cases p with
  | none =>
    obtain rfl := hn0 rfl
    have hr : r.length = 0 := by omega
    obtain rfl := List.eq_nil_of_length_eq_zero hr
    obtain rfl : k = 0 := hk
    have hrun := run_append_owned_none (P := Try.prog) (w := w) base t o.type e i size ht hi v l.length (l.flatMap f) hown
    obtain ⟨p', c', rfl, -, -⟩ := own_shape hown
    unfold Oper.wp
    simp [execOp, ho, resolve, invoke, builtin, hs, hx, hrun, Result.andThen]
    refine h p' c' w ?_ (grown_refl _ _) (.inl rfl)
    rw [List.append_nil]
    exact hown
  | some ad =>
    have hb2 : (l.length + k) * bytes ≤ 140737488355328 := Nat.le_trans (Nat.mul_le_mul (show l.length + k ≤ 100000 by omega) hb40) (by decide)
    obtain ⟨v', w', hr, h2, h3, _, h5⟩ := run_append_own_at (P := Try.prog) w base t o.type e i z size bytes ht hi hz hsize hby hzs hsz v l.length (l.flatMap f) hown ad k c (r.flatMap f) (by rw [flat_len f size hf, hk]) (rdf_news hR) (by
      intro u hu
      obtain ⟨y, _, hy⟩ := List.mem_flatMap.1 hu
      exact hone y u hy) (by unfold maxLen; omega) hb2 hbase
    subst hk
    obtain ⟨p', c', rfl, -, -⟩ := own_shape h2
    unfold Oper.wp execOp
    simp only [ho, resolve, invoke, builtin, Sem.run_bind, Sem.run_pure, Result.andThen_ok, List.map_toArray, List.map_cons, List.map_nil, hs, hx, hr]
    refine h p' c' w' ?_ h3 h5
    rw [List.length_append, List.flatMap_append]
    exact h2
set_option maxRecDepth 100000 in
theorem info_re : (Try.prog.info? 73).map (fun i => (i.zero, i.size, i.bytes)) = some (some (.agg #[.int .i64 0, .int .i64 0, .int .i64 0]), 3, 24) := by kernel_rfl
set_option maxRecDepth 100000 in
theorem info_cm : (Try.prog.info? 62).map (fun i => (i.zero, i.size, i.bytes)) = some (some (.agg #[.int .i64 0, .int .i64 0, .int .i64 0]), 3, 24) := by kernel_rfl
set_option maxRecDepth 100000 in
theorem t3_one (x : T3) : ∀ u ∈ t3C x, u.oneCell' = true := by
  intro u hu
  simp [t3C] at hu
  rcases hu with rfl | rfl | rfl <;> rfl
set_option maxRecDepth 100000 in
theorem own_otherA {w w' : World} {base size n b : Nat} {e : TypeId} {v : Value} {xs : List Value} (h : w.ownsRow base e size v n xs) (g : w.grownBy w' (some b)) (hb : b < base) : w'.ownsRow base e size v n xs := by
  refine h.kept g ?_
  cases hv : v.ownBlock with
  | none => exact .inl rfl
  | some x =>
    refine .inr fun e => ?_
    have := (h.lt x hv).1
    have := Option.some.inj e
    omega
end Go.Proofs.Ytnpkihioklpnmaa

/- advert.Valid. -/
namespace Go.Proofs.Ytnpkihioklpnmaa
open Go.RowKit Bs
set_option maxRecDepth 100000 in
theorem vl_dec (n : Int) : vl n = decide (n = 8 ∨ n = 16 ∨ n = 32 ∨ n = 64) := by
  rw [Bool.eq_iff_iff]
  unfold vl
  simp [or_assoc]
set_option maxRecDepth 100000 in
theorem awi_any (n lo hi : Int) (w : World) :
    Calls Try.prog 79 #[.int .i64 n, .int .i64 lo, .int .i64 hi] w fun e w' => e = .returned (.bool (decide (lo ≤ n ∧ n ≤ hi))) ∧ w = w' := by
  by_cases h1 : lo ≤ n
  · by_cases h2 : n ≤ hi
    · rw [decide_eq_true (show lo ≤ n ∧ n ≤ hi from ⟨h1, h2⟩)]
      go_enter Try.func79, Try.ntmps79
      go_wp2_with fail
      go_ret
      exact ⟨rfl, rfl⟩
    · rw [decide_eq_false (show ¬ (lo ≤ n ∧ n ≤ hi) from fun h => h2 h.2)]
      go_enter Try.func79, Try.ntmps79
      go_wp2_with fail
      go_ret
      exact ⟨rfl, rfl⟩
  · rw [decide_eq_false (show ¬ (lo ≤ n ∧ n ≤ hi) from fun h => h1 h.1)]
    go_enter Try.func79, Try.ntmps79
    go_wp2_with fail
    go_ret
    exact ⟨rfl, rfl⟩
set_option maxRecDepth 100000 in
theorem row3 {w : World} {b : Nat} {t : TypeId} {x y z : Value} (h : w.heap[b]? = some (.cells #[x, y, z] t (0, 0))) : w.cell? ⟨b, 0, none⟩ = some x ∧ w.cell? ⟨b, 1, none⟩ = some y ∧ w.cell? ⟨b, 2, none⟩ = some z := by
  refine ⟨?_, ?_, ?_⟩ <;> (rw [cell_of_row _ _ _ _ _ _ h]; rfl)
set_option maxRecDepth 100000 in
set_option maxHeartbeats 3200000 in
theorem avl_any (L : List T3) (r : Int) (p : Option Addr) (c : Nat) (q : Nat → Prop) (w : World) (hR : Rd3 w q (.slice p L.length c) L) (hm : L.length ≤ 9223372036854775807) :
    Calls Try.prog 80 #[.slice p L.length c, .int .i64 r] w fun e w' => e = .returned (.bool (vRe r 0 L)) ∧ w.grownBy w' none := by
  have HR := Lib.hid hR
  clear hR
  obtain ⟨X, hX⟩ : ∃ X, vRe r 0 L = X := ⟨_, rfl⟩
  rw [hX]
  have I0 : Hid (vRe r (lastA 0 L 0) (L.drop 0) = X) := Lib.hid (by rw [lastA_zero]; exact hX)
  have G0 : Hid (w.grownBy w none) := Lib.hid (grown_refl _ _)
  clear hX
  go_enter Try.func80, Try.ntmps80
  go_wp2_with fail
  go_loopw [5, 10] (fun la a wr => ∃ k : Nat, k ≤ L.length ∧ a = .int .i64 (k : Int) ∧ la = .int .i64 (lastA 0 L k) ∧ Hid (vRe r (lastA 0 L k) (L.drop k) = X) ∧ Hid (w.grownBy wr none)) (fun _ a _ => L.length - (RowKit.intOf a).toNat)
  case atStart => exact ⟨0, Nat.zero_le _, rfl, by rw [lastA_zero], I0, G0⟩
  case round =>
    obtain ⟨w2, rfl⟩ : ∃ w2, w2 = wr := ⟨_, rfl⟩
    obtain ⟨k, hk, rfl, rfl, HI, HG⟩ := hrel
    clear I0 G0
    by_cases hlt : k < L.length
    · obtain ⟨-, b, off, rfl, -, hc⟩ := rd3_cells (HR.out.keep HG.out) (by omega)
      obtain ⟨x, hx⟩ : ∃ x, L[k]? = some x := ⟨_, List.getElem?_eq_getElem hlt⟩
      obtain ⟨a0, a1, a2⟩ := hc k x hx
      have HS := Lib.hid (HI.out.symm.trans (vRe_step (r := r) (d := 0) hx))
      have HLA := Lib.hid (lastA_succ (d := 0) hx)
      have HBX := Lib.hid (heap_alloc_new w2 (.cells #[.int .i64 x.a, .int .i64 x.b, .int .i64 x.c] 73))
      have HGA := Lib.hid (World.grownBy_alloc w2 (.cells #[.int .i64 x.a, .int .i64 x.b, .int .i64 x.c] 73) none)
      clear hc hx
      go_upto_region 5 with fail
      clear a0 a1 a2
      generalize w2.alloc _ = w3 at *
      have HG3 := Lib.hid (grown_trans HG.out HGA.out)
      obtain ⟨d0, d1, d2⟩ := row3 HBX.out
      obtain ⟨t, ht⟩ : ∃ t, lastA 0 L k = t := ⟨_, rfl⟩
      rw [ht] at HS ⊢
      clear ht HI HG HGA
      by_cases h1 : x.a ≤ t
      · have hX : X = false := by rw [HS.out, show okRe r t x = false by unfold okRe; exact decide_eq_false (fun h => by omega)]; rfl
        subst hX
        go_wp2_with fail
        go_ret
        exact ⟨rfl, HG3.out⟩
      · by_cases h2 : 99 < x.a
        · have hX : X = false := by rw [HS.out, show okRe r t x = false by unfold okRe; exact decide_eq_false (fun h => by omega)]; rfl
          subst hX
          go_wp2_with fail
          go_ret
          exact ⟨rfl, HG3.out⟩
        · by_cases h3 : x.a = r
          · have hX : X = false := by rw [HS.out, show okRe r t x = false by unfold okRe; exact decide_eq_false (fun h => h.2.2.1 h3)]; rfl
            have h3' : (x.a == r) = true := by simpa using h3
            clear h3
            subst hX
            go_wp2_with fail
            go_ret
            exact ⟨rfl, HG3.out⟩
          · have h3' : (x.a == r) = false := by simpa using h3
            have H3 := Lib.hid h3
            clear h3
            obtain ⟨v1, hv1⟩ : ∃ v1, decide ((1 : Int) ≤ x.b ∧ x.b ≤ 1000) = v1 := ⟨_, rfl⟩
            obtain ⟨v2, hv2⟩ : ∃ v2, decide ((0 : Int) ≤ x.c ∧ x.c ≤ 1000) = v2 := ⟨_, rfl⟩
            have HV1 := Lib.hid hv1
            have HV2 := Lib.hid hv2
            have HO : Hid (okRe r t x = (v1 && v2)) := Lib.hid (by
              rw [← hv1, ← hv2, ← Bool.decide_and]
              unfold okRe
              exact decide_eq_decide.2 ⟨fun h => ⟨h.2.2.2.1, h.2.2.2.2⟩, fun h => ⟨by omega, by omega, H3.out, h.1, h.2⟩⟩)
            clear hv1 hv2
            go_wp2_with fail
            refine (awi_any x.b 1 1000 _).mono ?_
            rintro e w' ⟨rfl, rfl⟩
            rw [HV1.out]
            cases v1 with
            | false =>
              have hX : X = false := by rw [HS.out, HO.out]; rfl
              subst hX
              go_wp2_with fail
              go_ret
              exact ⟨rfl, HG3.out⟩
            | true =>
              go_wp2_with fail
              refine (awi_any x.c 0 1000 _).mono ?_
              rintro e w' ⟨rfl, rfl⟩
              rw [HV2.out]
              cases v2 with
              | false =>
                have hX : X = false := by rw [HS.out, HO.out]; rfl
                subst hX
                go_wp2_with fail
                go_ret
                exact ⟨rfl, HG3.out⟩
              | true =>
                have HI2 : Hid (vRe r (lastA 0 L (k + 1)) (L.drop (k + 1)) = X) := Lib.hid (by rw [HS.out, HO.out]; rfl)
                have hl2 : Value.int .i64 x.a = .int .i64 (lastA 0 L (k + 1)) := by rw [HLA.out]
                have HL2 := Lib.hid hl2
                clear hl2
                go_wp2_with fail
                exact ⟨⟨k + 1, by omega, congrArg _ (by omega), HL2.out, HI2, HG3⟩, by simp only [RowKit.intOf]; omega⟩
    · obtain rfl : k = L.length := by omega
      obtain rfl : X = true := by rw [← HI.out]; exact vRe_end
      go_wp2_with fail
      go_ret
      exact ⟨rfl, HG.out⟩
set_option maxRecDepth 100000 in
set_option maxHeartbeats 3200000 in
theorem avc_any (L : List T3) (p : Option Addr) (c : Nat) (q : Nat → Prop) (w : World) (hR : Rd3 w q (.slice p L.length c) L) (hm : L.length ≤ 9223372036854775807) :
    Calls Try.prog 81 #[.slice p L.length c] w fun e w' => e = .returned (.bool (vCm (-1) L)) ∧ w.grownBy w' none := by
  have HR := Lib.hid hR
  clear hR
  obtain ⟨X, hX⟩ : ∃ X, vCm (-1) L = X := ⟨_, rfl⟩
  rw [hX]
  have I0 : Hid (vCm (lastA (-1) L 0) (L.drop 0) = X) := Lib.hid (by rw [lastA_zero]; exact hX)
  have G0 : Hid (w.grownBy w none) := Lib.hid (grown_refl _ _)
  clear hX
  go_enter Try.func81, Try.ntmps81
  go_wp2_with fail
  go_loopw [3, 8] (fun la a wr => ∃ k : Nat, k ≤ L.length ∧ a = .int .i64 (k : Int) ∧ la = .int .i64 (lastA (-1) L k) ∧ Hid (vCm (lastA (-1) L k) (L.drop k) = X) ∧ Hid (w.grownBy wr none)) (fun _ a _ => L.length - (RowKit.intOf a).toNat)
  case atStart => exact ⟨0, Nat.zero_le _, rfl, by rw [lastA_zero], I0, G0⟩
  case round =>
    obtain ⟨w2, rfl⟩ : ∃ w2, w2 = wr := ⟨_, rfl⟩
    obtain ⟨k, hk, rfl, rfl, HI, HG⟩ := hrel
    clear I0 G0
    by_cases hlt : k < L.length
    · obtain ⟨-, b, off, rfl, -, hc⟩ := rd3_cells (HR.out.keep HG.out) (by omega)
      obtain ⟨x, hx⟩ : ∃ x, L[k]? = some x := ⟨_, List.getElem?_eq_getElem hlt⟩
      obtain ⟨a0, a1, a2⟩ := hc k x hx
      have HS := Lib.hid (HI.out.symm.trans (vCm_step (d := -1) hx))
      have HLA := Lib.hid (lastA_succ (d := -1) hx)
      have HBX := Lib.hid (heap_alloc_new w2 (.cells #[.int .i64 x.a, .int .i64 x.b, .int .i64 x.c] 62))
      have HGA := Lib.hid (World.grownBy_alloc w2 (.cells #[.int .i64 x.a, .int .i64 x.b, .int .i64 x.c] 62) none)
      clear hc hx
      go_upto_region 5 with fail
      clear a0 a1 a2
      generalize w2.alloc _ = w3 at *
      have HG3 := Lib.hid (grown_trans HG.out HGA.out)
      obtain ⟨d0, d1, d2⟩ := row3 HBX.out
      obtain ⟨t, ht⟩ : ∃ t, lastA (-1) L k = t := ⟨_, rfl⟩
      rw [ht] at HS ⊢
      clear ht HI HG HGA
      by_cases h1 : x.a ≤ t
      · have hX : X = false := by rw [HS.out, show okCm t x = false by unfold okCm; exact decide_eq_false (fun h => by omega)]; rfl
        subst hX
        go_wp2_with fail
        go_ret
        exact ⟨rfl, HG3.out⟩
      · by_cases h2 : 7 < x.a
        · have hX : X = false := by rw [HS.out, show okCm t x = false by unfold okCm; exact decide_eq_false (fun h => by omega)]; rfl
          subst hX
          go_wp2_with fail
          go_ret
          exact ⟨rfl, HG3.out⟩
        · obtain ⟨v1, hv1⟩ : ∃ v1, decide ((1 : Int) ≤ x.b ∧ x.b ≤ 256) = v1 := ⟨_, rfl⟩
          obtain ⟨v2, hv2⟩ : ∃ v2, decide (x.c = 8 ∨ x.c = 16 ∨ x.c = 32 ∨ x.c = 64) = v2 := ⟨_, rfl⟩
          have HV1 := Lib.hid hv1
          have HV2 : Hid (vl x.c = v2) := Lib.hid (by rw [← hv2]; exact vl_dec x.c)
          have HO : Hid (okCm t x = (v1 && v2)) := Lib.hid (by
            rw [← hv1, ← hv2, ← Bool.decide_and]
            unfold okCm
            exact decide_eq_decide.2 ⟨fun h => ⟨h.2.2.1, h.2.2.2⟩, fun h => ⟨by omega, by omega, h.1, h.2⟩⟩)
          clear hv1 hv2
          go_wp2_with fail
          refine (awi_any x.b 1 256 _).mono ?_
          rintro e w' ⟨rfl, rfl⟩
          rw [HV1.out]
          cases v1 with
          | false =>
            have hX : X = false := by rw [HS.out, HO.out]; rfl
            subst hX
            go_wp2_with fail
            go_ret
            exact ⟨rfl, HG3.out⟩
          | true =>
            go_wp2_with fail
            refine (vlp_any x.c _).mono ?_
            rintro e w' ⟨rfl, rfl⟩
            rw [HV2.out]
            cases v2 with
            | false =>
              have hX : X = false := by rw [HS.out, HO.out]; rfl
              subst hX
              go_wp2_with fail
              go_ret
              exact ⟨rfl, HG3.out⟩
            | true =>
              have HI2 : Hid (vCm (lastA (-1) L (k + 1)) (L.drop (k + 1)) = X) := Lib.hid (by rw [HS.out, HO.out]; rfl)
              have hl2 : Value.int .i64 x.a = .int .i64 (lastA (-1) L (k + 1)) := by rw [HLA.out]
              have HL2 := Lib.hid hl2
              clear hl2
              go_wp2_with fail
              exact ⟨⟨k + 1, by omega, congrArg _ (by omega), HL2.out, HI2, HG3⟩, by simp only [RowKit.intOf]; omega⟩
    · obtain rfl : k = L.length := by omega
      obtain rfl : X = true := by rw [← HI.out]; exact vCm_end
      go_wp2_with fail
      go_ret
      exact ⟨rfl, HG.out⟩
/-- The box of an advert. -/
def adC (A : Ad) : Array Value := #[.int .i64 A.r, .int .i64 A.q, .bool A.cp, .slice A.pL A.L.length A.cL, .slice A.pC A.C.length A.cC]
set_option maxRecDepth 100000 in
theorem ad_facts {w : World} {b : Nat} {A : Ad} (h : w.heap[b]? = some (.cells (adC A) 38 (0, 0))) :
    w.cell? ⟨b, 0, none⟩ = some (.int .i64 A.r) ∧ w.cell? ⟨b, 1, none⟩ = some (.int .i64 A.q) ∧ w.cell? ⟨b, 2, none⟩ = some (.bool A.cp) ∧ w.cell? ⟨b, 3, none⟩ = some (.slice A.pL A.L.length A.cL) ∧ w.cell? ⟨b, 4, none⟩ = some (.slice A.pC A.C.length A.cC) := by
  refine ⟨?_, ?_, ?_, ?_, ?_⟩ <;> (rw [cell_of_row _ _ _ _ _ _ h]; rfl)
set_option maxRecDepth 100000 in
set_option maxHeartbeats 3200000 in
theorem avalid_any (A : Ad) (q : Nat → Prop) (w : World) (hA : AdOk w q A) :
    Calls Try.prog 49 #[A.val] w fun e w' => e = .returned (.bool (vAd A)) ∧ w.grownBy w' none := by
  have hm1 := Nat.le_trans hA.hl.1 hA.hl.2
  have hm2 := Nat.le_trans hA.hc.1 hA.hc.2
  have hb := heap_alloc_new w (.cells (adC A) 38)
  have hg := World.grownBy_alloc w (.cells (adC A) 38) none
  have HB := Lib.hid (And.intro hb (And.intro hg (hA.keep hg)))
  clear hb hg hA
  obtain ⟨X, hX⟩ : ∃ X, vAd A = X := ⟨_, rfl⟩
  have HX := Lib.hid hX
  rw [hX]
  clear hX
  unfold Ad.val
  obtain ⟨v1, hv1⟩ : ∃ v, decide ((1 : Int) ≤ A.r ∧ A.r ≤ 99) = v := ⟨_, rfl⟩
  obtain ⟨v2, hv2⟩ : ∃ v, decide ((1 : Int) ≤ A.q ∧ A.q ≤ 1000000) = v := ⟨_, rfl⟩
  obtain ⟨v3, hv3⟩ : ∃ v, vRe A.r 0 A.L = v := ⟨_, rfl⟩
  obtain ⟨v4, hv4⟩ : ∃ v, vCm (-1) A.C = v := ⟨_, rfl⟩
  have HV := Lib.hid (And.intro hv1 (And.intro hv2 (And.intro hv3 hv4)))
  have HS : Hid (X = ((v1 && (v2 && decide (A.L.length ≤ 23))) && (v3 && (decide (A.C.length ≤ 8) && v4)))) := Lib.hid (by
    rw [← HX.out]; unfold vAd vHd vClaims; rw [hv3, hv4, ← hv1, ← hv2, Bool.decide_and, Bool.decide_and (p := (1 : Int) ≤ A.q ∧ A.q ≤ 1000000)])
  clear hv1 hv2 hv3 hv4
  go_enter Try.func49, Try.ntmps49
  go_upto_region 1 with fail
  unfold adC at HB
  generalize w.alloc _ = w0 at *
  obtain ⟨c0, c1, c2, c3, c4⟩ := ad_facts (A := A) HB.out.1
  go_wp2_with fail
  refine (awi_any A.r 1 99 _).mono ?_
  rintro e w' ⟨rfl, rfl⟩
  rw [HV.out.1]
  cases v1 with
  | false =>
    have hX : X = false := by rw [HS.out]; rfl
    subst hX
    go_wp2_with fail
    go_ret
    exact ⟨rfl, HB.out.2.1⟩
  | true =>
    go_wp2_with fail
    refine (awi_any A.q 1 1000000 _).mono ?_
    rintro e w' ⟨rfl, rfl⟩
    rw [HV.out.2.1]
    cases v2 with
    | false =>
      have hX : X = false := by rw [HS.out]; rfl
      subst hX
      go_wp2_with fail
      go_ret
      exact ⟨rfl, HB.out.2.1⟩
    | true =>
      by_cases h1 : 23 < A.L.length
      · have hX : X = false := by rw [HS.out, decide_eq_false (show ¬ A.L.length ≤ 23 by omega)]; rfl
        have h1' : (23 : Int) < (A.L.length : Int) := by omega
        subst hX
        go_wp2_with fail
        go_ret
        exact ⟨rfl, HB.out.2.1⟩
      · have h1' : ¬ (23 : Int) < (A.L.length : Int) := by omega
        by_cases h2 : 8 < A.C.length
        · have hX : X = false := by rw [HS.out, decide_eq_false (show ¬ A.C.length ≤ 8 by omega)]; simp
          have h2' : (8 : Int) < (A.C.length : Int) := by omega
          subst hX
          go_wp2_with fail
          go_ret
          exact ⟨rfl, HB.out.2.1⟩
        · have h2' : ¬ (8 : Int) < (A.C.length : Int) := by omega
          have HS2 : Hid (X = (v3 && v4)) := Lib.hid (by rw [HS.out, decide_eq_true (show A.L.length ≤ 23 by omega), decide_eq_true (show A.C.length ≤ 8 by omega)]; rfl)
          go_wp2_with fail
          refine (avl_any A.L A.r _ _ _ _ HB.out.2.2.l hm1).mono ?_
          rintro e w1 ⟨rfl, g1⟩
          rw [HV.out.2.2.1]
          have HB1 := Lib.hid (And.intro (kept_row HB.out.1 g1 (by simp)) (And.intro (grown_trans HB.out.2.1 g1) (HB.out.2.2.keep g1)))
          clear g1 c0 c1 c2 c3 c4
          obtain ⟨c0, c1, c2, c3, c4⟩ := ad_facts (A := A) HB1.out.1
          cases v3 with
          | false =>
            have hX : X = false := by rw [HS2.out]; rfl
            subst hX
            go_wp2_with fail
            go_ret
            exact ⟨rfl, HB1.out.2.1⟩
          | true =>
            have hX : X = v4 := by rw [HS2.out]; rfl
            subst hX
            go_wp2_with fail
            refine (avc_any A.C _ _ _ _ HB1.out.2.2.c hm2).mono ?_
            rintro e w2 ⟨rfl, g2⟩
            rw [HV.out.2.2.2]
            have HG := Lib.hid (grown_trans HB1.out.2.1 g2)
            clear g2 c0 c1 c2 c3 c4
            go_wp2_with fail
            go_ret
            exact ⟨rfl, HG.out⟩
end Go.Proofs.Ytnpkihioklpnmaa

/- The program's zeros; copy into a row of the call's own. -/
namespace Go.Proofs.Ytnpkihioklpnmaa
open Go.RowKit Bs
end Go.Proofs.Ytnpkihioklpnmaa

/- Take, of the program and of the reference. -/
namespace Go.Proofs.Ytnpkihioklpnmaa
open Go.RowKit Bs
end Go.Proofs.Ytnpkihioklpnmaa

/- The program's Append. -/
namespace Go.Proofs.Ytnpkihioklpnmaa
open Go.RowKit Bs
end Go.Proofs.Ytnpkihioklpnmaa

/- The reference's Append. -/
namespace Go.Proofs.Ytnpkihioklpnmaa
open Go.RowKit Bs
section
variable {W w' w2 : World} {b r : Nat} {p : Option Addr} {c : Nat} {l : List Nat} {n : Int}
end
end Go.Proofs.Ytnpkihioklpnmaa

/- Slice, of the program and of the reference. -/
namespace Go.Proofs.Ytnpkihioklpnmaa
open Go.RowKit Bs
end Go.Proofs.Ytnpkihioklpnmaa

/- Join and Align of the program. -/
namespace Go.Proofs.Ytnpkihioklpnmaa
open Go.RowKit Bs
end Go.Proofs.Ytnpkihioklpnmaa

/- Align of the program. -/
namespace Go.Proofs.Ytnpkihioklpnmaa
open Go.RowKit Bs
end Go.Proofs.Ytnpkihioklpnmaa

/- The program's check number. -/
namespace Go.Proofs.Ytnpkihioklpnmaa
open Go.RowKit Bs
namespace Bs
/-- The register behind one bit. -/
def stp (r : Nat) (b : Bool) : Nat := if (r.testBit 15 != b) = true then (2 * r % 65536) ^^^ 4129 else 2 * r % 65536
/-- The register behind k bits. -/
def crcB (f : Nat → Bool) : Nat → Nat
  | 0 => 65535
  | k + 1 => stp (crcB f k) (f k)
end Bs
end Go.Proofs.Ytnpkihioklpnmaa

/- Spread, Gather, Nth, Rank as plain functions of numbers. No program is named here. -/
namespace Go.Proofs.Ytnpkihioklpnmaa
open Go.RowKit
namespace Bs
/-- A bit put to a place. -/
def put (t : Bool) (k : Nat) : Nat := if t then b2 k else 0
end Bs
end Go.Proofs.Ytnpkihioklpnmaa

/- Full, Valid, Count, First, Rank of the program; Full, Valid of the reference. -/
namespace Go.Proofs.Ytnpkihioklpnmaa
open Go.RowKit Bs

/-- The lowest bit, -1 if there is none. -/
def fst (b : Nat) : Int := if b = 0 then -1 else ((Lib.ctz 64 b : Nat) : Int)
end Go.Proofs.Ytnpkihioklpnmaa

/- Streams as lists of bits; the encoding of a packet as a list of bits. -/
namespace Go.Proofs.Ytnpkihioklpnmaa
open Go.RowKit Bs
/-- The k lowest bits of v, the highest first. -/
def nb (v k : Nat) : List Bool := (List.range k).map fun t => v.testBit (k - 1 - t)
def bf (B : List Bool) (i : Nat) : Bool := B.getD i false
/-- The bytes of these bits. -/
def pk (B : List Bool) : List Nat := pz (bf B) B.length ((B.length + 7) / 8)
/-- The bits of bytes. -/
def pb (l : List Nat) : List Bool := (List.range (8 * l.length)).map (bt l)
/-- A packet's parts. -/
structure Pk where
  mode : Int
  sub : Int
  set : Int
  len : Int
  ttl : Int
  ent : Int
  ing : Int
  pro : Int
  bits : Nat
  pay : ByteArray
def Pk.val (P : Pk) : Value := .agg #[.int .i64 P.mode, .int .i64 P.sub, .int .i64 P.set, .int .i64 P.len, .int .i64 P.ttl, .int .i64 P.ent, .int .i64 P.ing, .int .i64 P.pro, .int .u64 (P.bits : Int), .string P.pay]
/-- The code of the length. -/
def lcode (n : Int) : Nat := if n = 8 then 0 else if n = 16 then 1 else if n = 32 then 2 else 3
/-- The numbers of the header, with their widths. -/
def fl (P : Pk) : List (Nat × Nat) := [(2, 2), (P.mode.toNat, 2), (P.sub.toNat, 3), (P.set.toNat, 5), (lcode P.len, 2), (P.ttl.toNat, 6), (P.ent.toNat, 10), (P.ing.toNat, 9), (P.pro.toNat, 3), (P.pay.size, 7)]
def flb (f : List (Nat × Nat)) : List Bool := f.flatMap fun x => nb x.1 x.2
def byl (s : ByteArray) : List Nat := s.data.toList.map fun b => b.toNat
def body (P : Pk) : List Bool := flb (fl P) ++ nb P.bits P.len.toNat ++ pb (byl P.pay)
def ck (B : List Bool) : Nat := crcB (bf B) B.length
def enc (P : Pk) : List Nat := pk (body P ++ nb (ck (body P)) 16)
end Go.Proofs.Ytnpkihioklpnmaa

/- packet: the table of the fields. -/
namespace Go.Proofs.Ytnpkihioklpnmaa
open Go.RowKit Bs
def hcells (P : Pk) : Array Value := #[.int .i64 2, .int .i64 P.mode, .int .i64 P.sub, .int .i64 P.set, .int .i64 P.len, .int .i64 P.ttl, .int .i64 P.ent, .int .i64 P.ing, .int .i64 P.pro, .int .u64 (P.bits : Int), .string P.pay, .int .i64 (lcode P.len : Int), .int .i64 (P.pay.size : Int)]
end Go.Proofs.Ytnpkihioklpnmaa

/- The program's functions on bits: List, Nth, Rank, Spread, Gather. -/
namespace Go.Proofs.Ytnpkihioklpnmaa
open Go.RowKit Bs

end Go.Proofs.Ytnpkihioklpnmaa

/- packet: a header's block. -/
namespace Go.Proofs.Ytnpkihioklpnmaa
open Go.RowKit Bs
set_option maxRecDepth 100000 in
theorem World.lt_of_row' {w : World} {b : Nat} {o : Obj} (h : w.heap[b]? = some o) : b < w.heap.size := (Array.getElem?_eq_some_iff.1 h).1
section
variable {W w w1 : World} {P : Pk} {h g S : Nat} {B B2 : List Bool}
end
end Go.Proofs.Ytnpkihioklpnmaa

/- packet: the calls of bitio over lists of bits. -/
namespace Go.Proofs.Ytnpkihioklpnmaa
open Go.RowKit Bs
section
variable {w : World} {B : List Bool} {p : Option Addr} {c : Nat} {q : Nat → Prop}
end
end Go.Proofs.Ytnpkihioklpnmaa
