/- Parts of the proof, packed: ToFail, ToWith, ToRws, ToCpy, AdM, ToUntil, AdStep. -/
import Derived.Test.YtnpkihioklpnmaaMg4
import Derived.Test.YtnpkihioklpnmaaMg5
import Derived.Test.YtnpkihioklpnmaaMg3
import Derived.ArgAppend
import Derived.Laws.IdiomCopy
import Derived.Laws.BitsLemmas
import Derived.Deep.AppendLies
import Derived.Deep.RegionHeld
import Derived.Test.YtnpkihioklpnmaaMg1
import Derived.Maps.AppendAt
/- topology: the closures of Without; what memory holds while it runs. -/
namespace Go.Proofs.Ytnpkihioklpnmaa
open Go.RowKit Bs
/-- A failure with where it lies. -/
structure Fl where
  H : List Hp
  X : List Int
  pH : Option Addr
  cH : Nat
  pX : Option Addr
  cX : Nat
structure FlOk (w : World) (q : Nat → Prop) (F : Fl) : Prop where
  h : RdH w q (.slice F.pH F.H.length F.cH) F.H
  x : Rd w q (.slice F.pX F.X.length F.cX) (F.X.map tv)
  ch : F.H.length ≤ F.cH ∧ F.cH ≤ 9223372036854775807
  cx : F.X.length ≤ F.cX ∧ F.cX ≤ 9223372036854775807
set_option maxRecDepth 100000 in
theorem FlOk.keep {w w' : World} {q : Nat → Prop} {F : Fl} (h : FlOk w q F) (g : w.grownBy w' none) : FlOk w' q F := ⟨h.h.keep g, h.x.keep g, h.ch, h.cx⟩
set_option maxRecDepth 100000 in
theorem FlOk.mono {w : World} {q q' : Nat → Prop} {F : Fl} (h : FlOk w q F) (hq : ∀ b, q b → q' b) : FlOk w q' F := ⟨h.h.mono hq, h.x.mono hq, h.ch, h.cx⟩
def nmd (H : List Hp) (l : Lk) : Bool := H.any (isH l.a l.b) || H.any (isH l.b l.a)
set_option maxRecDepth 100000 in
/-- What is read lies below. -/
theorem RdF.old {w : World} {q : Nat → Prop} {v : Value} {n : Nat} {xs : List Value} (h : RdF w q v n xs) : RdF w (· < w.heap.size) v n xs := by
  obtain ⟨p, c, hv, hc⟩ := h
  refine ⟨p, c, hv, fun hne => ?_⟩
  obtain ⟨b, off, hp, hb, hx⟩ := hc hne
  obtain ⟨x, hx0⟩ : ∃ x, xs[0]? = some x := by
    cases xs with
    | nil => exact absurd rfl hne
    | cons a t => exact ⟨a, rfl⟩
  exact ⟨b, off, hp, World.block_lt_of_cell? w ⟨b, off + 0, none⟩ (hx 0 x hx0), hx⟩
set_option maxRecDepth 100000 in
theorem Rd.old {w : World} {q : Nat → Prop} {v : Value} {xs : List Value} (h : Rd w q v xs) : Rd w (· < w.heap.size) v xs := by
  obtain ⟨p, c, hv, hc⟩ := h
  refine ⟨p, c, hv, fun hne => ?_⟩
  obtain ⟨b, off, hp, hb, hx⟩ := hc hne
  obtain ⟨x, hx0⟩ : ∃ x, xs[0]? = some x := by
    cases xs with
    | nil => exact absurd rfl hne
    | cons a t => exact ⟨a, rfl⟩
  exact ⟨b, off, hp, World.block_lt_of_cell? w ⟨b, off + 0, none⟩ (hx 0 x hx0), hx⟩
set_option maxRecDepth 100000 in
theorem TgOk.old {w : World} {q : Nat → Prop} {T : Tg} (h : TgOk w q T) : TgOk w (· < w.heap.size) T := ⟨h.r.old, h.l.old, h.cr, h.cl⟩
set_option maxRecDepth 100000 in
theorem FlOk.old {w : World} {q : Nat → Prop} {F : Fl} (h : FlOk w q F) : FlOk w (· < w.heap.size) F := ⟨h.h.old, h.x.old, h.ch, h.cx⟩
set_option maxRecDepth 100000 in
theorem FlOk.grown {w w' : World} {q : Nat → Prop} {F : Fl} {r : Option Nat} (h : FlOk w q F) (g : w.grownBy w' r) (hq : ∀ b, q b → some b ≠ r) : FlOk w' q F := ⟨h.h.grown g hq, h.x.grown g hq, h.ch, h.cx⟩
set_option maxRecDepth 100000 in
theorem okT_len {R : List Rt} {L : List Lk} (h : okT R L = true) : R.length ≤ 24 ∧ L.length ≤ 60 := by
  unfold okT chk at h
  by_cases h1 : 24 < R.length ∨ 60 < L.length
  · rw [if_pos h1] at h; cases h
  · omega
/-- What is left of a topology. -/
def woR (F : Fl) (R : List Rt) : List Rt := R.filter fun r => !hasI F.X r.id
def woK (F : Fl) (l : Lk) : Bool := !hasI F.X l.a && (!hasI F.X l.b && !nmd F.H l)
def woL (F : Fl) (L : List Lk) : List Lk := L.filter (woK F)
set_option maxRecDepth 100000 in
theorem filter_snoc {α : Type} {f : α → Bool} {l : List α} {k : Nat} {x : α} (h : l[k]? = some x) : (l.take (k + 1)).filter f = (l.take k).filter f ++ (if f x then [x] else []) := by
  rw [List.take_add_one, h, List.filter_append]
  cases hf : f x <;> simp [hf]
set_option maxRecDepth 100000 in
theorem info_rt : (Try.prog.info? 69).map (fun i => (i.zero, i.size, i.bytes)) = some (some (.agg #[.int .i64 0, .bool false]), 2, 16) := by kernel_rfl
set_option maxRecDepth 100000 in
theorem info_lk : (Try.prog.info? 71).map (fun i => (i.zero, i.size, i.bytes)) = some (some (.agg #[.int .i64 0, .int .i64 0, .int .i64 0, .int .i64 0, .int .i64 0]), 5, 40) := by kernel_rfl
end Go.Proofs.Ytnpkihioklpnmaa

/- topology: Without. -/
namespace Go.Proofs.Ytnpkihioklpnmaa
open Go.RowKit Bs
set_option maxRecDepth 100000 in
theorem grown_any {w w1 w2 : World} {r : Option Nat} (h : w.grownBy w1 none) (k : w1.grownBy w2 r) (hr : ∀ b, b < w.heap.size → some b ≠ r) : w.grownBy w2 none :=
  ⟨k.os.trans h.os, k.tape.trans h.tape, k.output.trans h.output, Nat.le_trans h.size k.size, fun b hb _ => (k.block b (Nat.lt_of_lt_of_le hb h.size) (hr b hb)).trans (h.block b hb (by simp))⟩
set_option maxRecDepth 100000 in
theorem rdf_of_own2 {w : World} {base size : Nat} {e : TypeId} {v : Value} {n : Nat} {xs : List Value} (h : w.ownsRow base e size v n xs) : RdF w (fun b => base ≤ b ∧ b < w.heap.size) v n xs := by
  obtain ⟨p, c, hv, hc⟩ := rdf_of_own h
  refine ⟨p, c, hv, fun hne => ?_⟩
  obtain ⟨b, off, hp, hb, hx⟩ := hc hne
  obtain ⟨x, hx0⟩ : ∃ x, xs[0]? = some x := by
    cases xs with
    | nil => exact absurd rfl hne
    | cons a t => exact ⟨a, rfl⟩
  exact ⟨b, off, hp, ⟨hb, World.block_lt_of_cell? w ⟨b, off + 0, none⟩ (hx 0 x hx0)⟩, hx⟩
/-- What Without keeps from its beginning. -/
structure WS (w : World) (T : Tg) (F : Fl) (wr : World) : Prop where
  tb : wr.heap[w.heap.size]? = some (.cells #[.slice T.pR T.R.length T.cR, .slice T.pL T.L.length T.cL] 59 (0, 0))
  fb : wr.heap[w.heap.size + 1]? = some (.cells #[.slice F.pH F.H.length F.cH, .slice F.pX F.X.length F.cX] 85 (0, 0))
  rb : TRow wr (w.heap.size + 2) 59 [.slice none 0 0, .slice none 0 0]
  gr : w.grownBy wr none
  t : TgOk wr (· < w.heap.size) T
  f : FlOk wr (· < w.heap.size) F
set_option maxRecDepth 100000 in
theorem WS.keepB {w wr w' : World} {T : Tg} {F : Fl} {r : Option Nat} (h : WS w T F wr) (g : wr.grownBy w' r) (hr : ∀ b, b < w.heap.size + 3 → some b ≠ r) : WS w T F w' :=
  ⟨kept_row h.tb g (hr _ (by omega)), kept_row h.fb g (hr _ (by omega)), h.rb.kept g (hr _ (by omega)), grown_any h.gr g (fun b hb => hr b (by omega)), h.t.grown g (fun b hb => hr b (by omega)), h.f.grown g (fun b hb => hr b (by omega))⟩
set_option maxRecDepth 100000 in
theorem WS.keep {w wr w' : World} {T : Tg} {F : Fl} (h : WS w T F wr) (g : wr.grownBy w' none) : WS w T F w' := h.keepB g (fun _ _ => by simp)
set_option maxRecDepth 100000 in
theorem WS.start {w : World} {T : Tg} {F : Fl} {q q2 : Nat → Prop} (hT : TgOk w q T) (hF : FlOk w q2 F) :
    WS w T F (((w.alloc (.cells #[.slice T.pR T.R.length T.cR, .slice T.pL T.L.length T.cL] 59)).alloc (.cells #[.slice F.pH F.H.length F.cH, .slice F.pX F.X.length F.cX] 85)).alloc (.cells #[.slice none 0 0, .slice none 0 0] 59)) := by
  obtain ⟨k1, k2, k3, _⟩ := two_boxes w #[.slice T.pR T.R.length T.cR, .slice T.pL T.L.length T.cL] #[.slice F.pH F.H.length F.cH, .slice F.pX F.X.length F.cX] 59 85
  have k4 := World.grownBy_alloc ((w.alloc (.cells #[.slice T.pR T.R.length T.cR, .slice T.pL T.L.length T.cL] 59)).alloc (.cells #[.slice F.pH F.H.length F.cH, .slice F.pX F.X.length F.cX] 85)) (.cells #[.slice none 0 0, .slice none 0 0] 59) none
  have k5 := heap_alloc_new ((w.alloc (.cells #[.slice T.pR T.R.length T.cR, .slice T.pL T.L.length T.cL] 59)).alloc (.cells #[.slice F.pH F.H.length F.cH, .slice F.pX F.X.length F.cX] 85)) (.cells #[.slice none 0 0, .slice none 0 0] 59)
  have hg := grown_trans k3 k4
  refine ⟨kept_row k1 k4 (by simp), kept_row k2 k4 (by simp), ?_, hg, hT.old.keep hg, hF.old.keep hg⟩
  have e : ((w.alloc (.cells #[.slice T.pR T.R.length T.cR, .slice T.pL T.L.length T.cL] 59)).alloc (.cells #[.slice F.pH F.H.length F.cH, .slice F.pX F.X.length F.cX] 85)).heap.size = w.heap.size + 2 := by simp
  rw [e] at k5
  exact k5
/-- While routers are kept. -/
structure WR (w : World) (T : Tg) (F : Fl) (Bx base : Nat) (vR : Value) (R' : List Rt) (wr : World) : Prop where
  s : WS w T F wr
  bx : wr.heap[Bx]? = some (.cells #[vR, .slice none 0 0] 59 (0, 0))
  own : wr.ownsRow base 69 2 vR R'.length (R'.flatMap rtC)
  b1 : w.heap.size + 3 ≤ Bx ∧ Bx < base ∧ base ≤ wr.heap.size
set_option maxRecDepth 100000 in
theorem WR.keep {w wr w' : World} {T : Tg} {F : Fl} {Bx base : Nat} {vR : Value} {R' : List Rt} (h : WR w T F Bx base vR R' wr) (g : wr.grownBy w' none) : WR w T F Bx base vR R' w' :=
  ⟨h.s.keep g, kept_row h.bx g (by simp), h.own.kept g (by cases hv : vR.ownBlock <;> simp), ⟨h.b1.1, h.b1.2.1, Nat.le_trans h.b1.2.2 g.size⟩⟩
set_option maxRecDepth 100000 in
theorem WR.mid {w wr wy w1 : World} {T : Tg} {F : Fl} {Bx base : Nat} {vR v' : Value} {R' : List Rt} {y : Rt} {o : Obj} (h : WR w T F Bx base vR R' wr) (g : wr.grownBy wy none)
    (hown : w1.ownsRow base 69 2 v' (R'.length + 1) (R'.flatMap rtC ++ [.int .i64 y.id, .bool y.cap])) (hg : (wy.alloc o).grownBy w1 vR.ownBlock) :
    WS w T F w1 ∧ w1.heap[Bx]? = some (.cells #[vR, .slice none 0 0] 59 (0, 0)) ∧ w1.ownsRow base 69 2 v' (R' ++ [y]).length ((R' ++ [y]).flatMap rtC) ∧ base ≤ w1.heap.size := by
  have k0 := grown_trans g (World.grownBy_alloc wy o none)
  have hne : ∀ k, k < base → some k ≠ vR.ownBlock := fun k hk e => by
    have := (h.own.lt k e.symm).1
    omega
  have h2 := h.keep k0
  have hb := h.b1
  refine ⟨h2.s.keepB hg (fun b hb2 => hne b (by omega)), kept_row h2.bx hg (hne _ (by omega)), ?_, Nat.le_trans h2.b1.2.2 hg.size⟩
  rw [List.length_append, List.flatMap_append]
  exact hown
set_option maxRecDepth 100000 in
theorem WR.put {w w1 : World} {T : Tg} {F : Fl} {Bx base : Nat} {vR v' : Value} {R' : List Rt} (hb : w.heap.size + 3 ≤ Bx ∧ Bx < base)
    (h : WS w T F w1 ∧ w1.heap[Bx]? = some (.cells #[vR, .slice none 0 0] 59 (0, 0)) ∧ w1.ownsRow base 69 2 v' R'.length (R'.flatMap rtC) ∧ base ≤ w1.heap.size) :
    WR w T F Bx base v' R' (w1.setCell ⟨Bx, 0, none⟩ v') := by
  obtain ⟨h1, h2, h3, h4⟩ := h
  have k := grown_setCell w1 ⟨Bx, 0, none⟩ v'
  refine ⟨h1.keepB k (fun b hb2 e => by have : b = Bx := Option.some.inj e; omega), heap_setCell_same w1 Bx 0 _ _ v' h2, h3.kept k ?_, hb.1, hb.2, Nat.le_trans h4 k.size⟩
  cases hv : v'.ownBlock with
  | none => exact .inl rfl
  | some g => exact .inr (fun e => by have e2 : g = Bx := Option.some.inj e; have := (h3.lt g hv).1; omega)
/-- While links are kept. -/
structure WL (w : World) (T : Tg) (F : Fl) (Bx base : Nat) (vR vL : Value) (R' : List Rt) (L' : List Lk) (wr : World) : Prop where
  s : WS w T F wr
  bx : wr.heap[Bx]? = some (.cells #[vR, vL] 59 (0, 0))
  own : wr.ownsRow base 71 5 vL L'.length (L'.flatMap lkC)
  rd : RdR wr (fun b => Bx < b ∧ b < base) vR R'
  cv : ∃ p c, vR = .slice p R'.length c ∧ R'.length ≤ c ∧ c ≤ 9223372036854775807
  b1 : w.heap.size + 3 ≤ Bx ∧ Bx < base ∧ base ≤ wr.heap.size
set_option maxRecDepth 100000 in
theorem WL.keep {w wr w' : World} {T : Tg} {F : Fl} {Bx base : Nat} {vR vL : Value} {R' : List Rt} {L' : List Lk} (h : WL w T F Bx base vR vL R' L' wr) (g : wr.grownBy w' none) : WL w T F Bx base vR vL R' L' w' :=
  ⟨h.s.keep g, kept_row h.bx g (by simp), h.own.kept g (by cases hv : vL.ownBlock <;> simp), h.rd.keep g, h.cv, ⟨h.b1.1, h.b1.2.1, Nat.le_trans h.b1.2.2 g.size⟩⟩
set_option maxRecDepth 100000 in
theorem WL.mid {w wr wy w1 : World} {T : Tg} {F : Fl} {Bx base : Nat} {vR vL v' : Value} {R' : List Rt} {L' : List Lk} {y : Lk} {o : Obj} (h : WL w T F Bx base vR vL R' L' wr) (g : wr.grownBy wy none)
    (hown : w1.ownsRow base 71 5 v' (L'.length + 1) (L'.flatMap lkC ++ [.int .i64 y.a, .int .i64 y.b, .int .i64 y.ca, .int .i64 y.cb, .int .i64 y.cp])) (hg : (wy.alloc o).grownBy w1 vL.ownBlock) :
    WS w T F w1 ∧ w1.heap[Bx]? = some (.cells #[vR, vL] 59 (0, 0)) ∧ w1.ownsRow base 71 5 v' (L' ++ [y]).length ((L' ++ [y]).flatMap lkC) ∧ (RdR w1 (fun b => Bx < b ∧ b < base) vR R' ∧ ∃ p c, vR = .slice p R'.length c ∧ R'.length ≤ c ∧ c ≤ 9223372036854775807) ∧ base ≤ w1.heap.size := by
  have k0 := grown_trans g (World.grownBy_alloc wy o none)
  have hne : ∀ k, k < base → some k ≠ vL.ownBlock := fun k hk e => by
    have := (h.own.lt k e.symm).1
    omega
  have h2 := h.keep k0
  have hb := h.b1
  refine ⟨h2.s.keepB hg (fun b hb2 => hne b (by omega)), kept_row h2.bx hg (hne _ (by omega)), ?_, ⟨h2.rd.grown hg (fun b hb2 => hne b hb2.2), h2.cv⟩, Nat.le_trans h2.b1.2.2 hg.size⟩
  rw [List.length_append, List.flatMap_append]
  exact hown
set_option maxRecDepth 100000 in
theorem WL.put {w w1 : World} {T : Tg} {F : Fl} {Bx base : Nat} {vR vL v' : Value} {R' : List Rt} {L' : List Lk} (hb : w.heap.size + 3 ≤ Bx ∧ Bx < base)
    (h : WS w T F w1 ∧ w1.heap[Bx]? = some (.cells #[vR, vL] 59 (0, 0)) ∧ w1.ownsRow base 71 5 v' L'.length (L'.flatMap lkC) ∧ (RdR w1 (fun b => Bx < b ∧ b < base) vR R' ∧ ∃ p c, vR = .slice p R'.length c ∧ R'.length ≤ c ∧ c ≤ 9223372036854775807) ∧ base ≤ w1.heap.size) :
    WL w T F Bx base vR v' R' L' (w1.setCell ⟨Bx, 1, none⟩ v') := by
  obtain ⟨h1, h2, h3, h5, h4⟩ := h
  have k := grown_setCell w1 ⟨Bx, 1, none⟩ v'
  refine ⟨h1.keepB k (fun b hb2 e => by have : b = Bx := Option.some.inj e; omega), heap_setCell_same w1 Bx 1 _ _ v' h2, h3.kept k ?_, h5.1.grown k (fun b hb2 e => by have e2 : b = Bx := Option.some.inj e; omega), h5.2, hb.1, hb.2, Nat.le_trans h4 k.size⟩
  cases hv : v'.ownBlock with
  | none => exact .inl rfl
  | some g => exact .inr (fun e => by have e2 : g = Bx := Option.some.inj e; have := (h3.lt g hv).1; omega)
/-- What returns a topology. -/
def TWPost (Rr : List Rt) (Lr : List Lk) (w : World) (e : Ending) (w' : World) : Prop :=
  ∃ pR cR pL cL, e = .returned (.agg #[.slice pR Rr.length cR, .slice pL Lr.length cL]) ∧ TgOk w' (w.heap.size ≤ ·) ⟨Rr, Lr, pR, cR, pL, cL⟩ ∧ w.grownBy w' none
set_option maxRecDepth 100000 in
theorem topo_size : (Try.prog.info? 59).map (·.size) = some 2 := by kernel_rfl
set_option maxRecDepth 100000 in
theorem res_topo {fn : Func} {p : Tmp} (h : fn.results = #[.cell p 59]) (tmps : Array Value) (w : World) (g : Nat) (x y : Value) (hp : tmps.getD p undef = .pointer (some ⟨g, 0, none⟩)) (hg : w.heap[g]? = some (.cells #[x, y] 59 (0, 0))) :
    (results fn tmps).run Try.prog w = .ok (.agg #[x, y]) w :=
  results_cell_row h tmps w g _ _ _ _ hp hg Try.underlying59 rfl topo_size
set_option maxRecDepth 100000 in
theorem own_shape {w : World} {base size n : Nat} {e : TypeId} {v : Value} {xs : List Value} (h : w.ownsRow base e size v n xs) : ∃ p c, v = .slice p n c ∧ n ≤ c ∧ c ≤ 9223372036854775807 := by
  rcases h.2 with ⟨rfl, h0⟩ | ⟨g, cap, cur, rfl, _, _, hn, hm, _⟩
  · subst h0
    exact ⟨none, 0, rfl, Nat.le_refl _, by omega⟩
  · unfold maxLen at hm
    exact ⟨_, cap, rfl, hn, by omega⟩
set_option maxRecDepth 100000 in
theorem cells2 (w : World) (x y : Value) (t : TypeId) : ∀ j u, [x, y][j]? = some u → (w.alloc (.cells #[x, y] t)).cell? ((⟨w.heap.size, 0, none⟩ : Addr).add j) = some u := by
  intro j u hj
  have hb : (w.alloc (.cells #[x, y] t)).heap[w.heap.size]? = some (.cells #[x, y] t (0, 0)) := heap_alloc_new w _
  have hadd : (⟨w.heap.size, 0, none⟩ : Addr).add j = ⟨w.heap.size, j, none⟩ := by rw [add_plain, Nat.zero_add]
  rw [hadd, cell_of_row _ _ _ _ _ _ hb]
  simpa using hj
set_option maxRecDepth 100000 in
theorem cells5 (w : World) (a b c d e : Value) (t : TypeId) : ∀ j u, [a, b, c, d, e][j]? = some u → (w.alloc (.cells #[a, b, c, d, e] t)).cell? ((⟨w.heap.size, 0, none⟩ : Addr).add j) = some u := by
  intro j u hj
  have hb : (w.alloc (.cells #[a, b, c, d, e] t)).heap[w.heap.size]? = some (.cells #[a, b, c, d, e] t (0, 0)) := heap_alloc_new w _
  have hadd : (⟨w.heap.size, 0, none⟩ : Addr).add j = ⟨w.heap.size, j, none⟩ := by rw [add_plain, Nat.zero_add]
  rw [hadd, cell_of_row _ _ _ _ _ _ hb]
  simpa using hj
end Go.Proofs.Ytnpkihioklpnmaa

/- Rows of structs: parts of them, and append. -/
namespace Go.Proofs.Ytnpkihioklpnmaa
open Go.RowKit Bs
set_option maxRecDepth 100000 in
/-- A walk stops here. -/
theorem hold_on {p : Prop} (h : Hid p) : p := h.out
set_option maxRecDepth 100000 in
theorem flat_drop {α : Type} (f : α → List Value) (k : Nat) (hf : ∀ x, (f x).length = k) : ∀ (l : List α) (j : Nat), (l.drop j).flatMap f = (l.flatMap f).drop (j * k)
  | [], j => by simp
  | a :: t, 0 => by simp
  | a :: t, j + 1 => by
    rw [List.drop_succ_cons, flat_drop f k hf t j, List.flatMap_cons, Nat.add_mul, Nat.one_mul, Nat.add_comm, ← List.drop_drop, List.drop_append_of_le_length (by rw [hf]; exact Nat.le_refl _), ← hf a, List.drop_length, List.nil_append]
set_option maxRecDepth 100000 in
theorem flat_take {α : Type} (f : α → List Value) (k : Nat) (hf : ∀ x, (f x).length = k) : ∀ (l : List α) (j : Nat), (l.take j).flatMap f = (l.flatMap f).take (j * k)
  | [], j => by simp
  | a :: t, 0 => by simp
  | a :: t, j + 1 => by
    rw [List.take_succ_cons, List.flatMap_cons, flat_take f k hf t j, List.flatMap_cons, List.take_append, hf, List.take_of_length_le (l := f a) (by rw [hf, Nat.add_mul]; omega), Nat.add_mul, Nat.one_mul, Nat.add_sub_cancel]
set_option maxRecDepth 100000 in
theorem RdF.part {α : Type} {f : α → List Value} {k : Nat} (hf : ∀ x, (f x).length = k) {w : World} {q : Nat → Prop} {p : Option Addr} {c : Nat} {l : List α} (h : RdF w q (.slice p l.length c) l.length (l.flatMap f)) (j : Nat) (hj : j ≤ l.length) (c' : Nat) :
    RdF w q (.slice p j c') (l.take j).length ((l.take j).flatMap f) := by
  obtain ⟨p1, c1, e1, hx⟩ := h
  injection e1 with a1 a2 a3
  subst a1
  have hlen : (l.take j).length = j := by rw [List.length_take]; omega
  rw [hlen]
  refine ⟨p, c', rfl, fun hne => ?_⟩
  rw [flat_take f k hf] at hne ⊢
  obtain ⟨b, off, hp, hq, hc⟩ := hx (by intro e; rw [e] at hne; simp at hne)
  refine ⟨b, off, hp, hq, fun i x hi => hc i x ?_⟩
  rw [List.getElem?_take] at hi
  split at hi
  · exact hi
  · cases hi
set_option maxRecDepth 100000 in
theorem RdF.rest {α : Type} {f : α → List Value} {k : Nat} (hf : ∀ x, (f x).length = k) {w : World} {q : Nat → Prop} {b off c : Nat} {l : List α} (h : RdF w q (.slice (some ⟨b, off, none⟩) l.length c) l.length (l.flatMap f)) (j : Nat) (c' : Nat) :
    RdF w q (.slice (some ⟨b, off + j * k, none⟩) (l.length - j) c') (l.drop j).length ((l.drop j).flatMap f) := by
  obtain ⟨p1, c1, e1, hx⟩ := h
  injection e1 with a1 a2 a3
  subst a1
  have hlen : (l.drop j).length = l.length - j := by rw [List.length_drop]
  rw [hlen]
  refine ⟨_, c', rfl, fun hne => ?_⟩
  rw [flat_drop f k hf] at hne ⊢
  obtain ⟨b1, off1, hp, hq, hc⟩ := hx (by intro e; rw [e] at hne; simp at hne)
  injection hp with hp
  injection hp with hb ho
  subst hb
  subst ho
  refine ⟨b, off + j * k, rfl, hq, fun i x hi => ?_⟩
  rw [List.getElem?_drop] at hi
  rw [Nat.add_assoc]
  exact hc _ x hi
set_option maxRecDepth 100000 in
theorem rdf_news {w : World} {q : Nat → Prop} {ad : Addr} {n c m : Nat} {xs : List Value} (hR : RdF w q (.slice (some ad) n c) m xs) : ∀ j u, xs[j]? = some u → w.cell? (ad.add j) = some u := by
  intro j u hj
  obtain ⟨p1, c1, e1, hx⟩ := hR
  injection e1 with a1 a2 a3
  subst a1
  obtain ⟨b, off, hp, hq, hc⟩ := hx (by intro e; rw [e] at hj; simp at hj)
  injection hp with hp
  subst hp
  rw [add_plain]
  exact hc j u hj
set_option maxRecDepth 100000 in
theorem rdf_one {w : World} {b off n : Nat} {xs : List Value} (q : Nat → Prop) (hq : q b) (h : ∀ j u, xs[j]? = some u → w.cell? ((⟨b, off, none⟩ : Addr).add j) = some u) (c : Nat) : RdF w q (.slice (some ⟨b, off, none⟩) n c) n xs :=
  ⟨_, c, rfl, fun _ => ⟨b, off, rfl, hq, fun i x hi => by have := h i x hi; rw [add_plain] at this; exact this⟩⟩
set_option maxRecDepth 100000 in
theorem wpList_append_f {α : Type} (f : α → List Value) (size bytes : Nat) (hsz : 0 < size) (hf : ∀ x, (f x).length = size) (hone : ∀ x, ∀ u ∈ f x, u.oneCell' = true) (e t : TypeId) (i : TypeInfo) (z : Value)
    (ht : Try.prog.underlying t = some (.slice e)) (hi : Try.prog.info? e = some i) (hz : i.zero = some z) (hsize : i.size = size) (hby : i.bytes = bytes) (hzs : z.cells.size = size) (hb40 : bytes ≤ 1000)
    {w : World} {ops : Array Oper} {rest : List Oper} {o : Oper} {a : Act} {Q : Exit → Act → World → Prop} (hgd : o.guard = none) (s x : Operand)
    (ho : o.op = .call { callee := .builtin .append, args := #[s, x], argTypes := #[t, t] }) (base : Nat) (v : Value) (l : List α) (n : Nat) (hn : n = l.length) (hs : a.eval s = v) (hown : w.ownsRow base e size v n (l.flatMap f))
    (p : Option Addr) (k c : Nat) (r : List α) (hx : a.eval x = .slice p k c) (hk : k = r.length) (hn0 : p = none → c = 0) (q : Nat → Prop) (hR : RdF w q (.slice p k c) r.length (r.flatMap f)) (hkc : k ≤ c) (h63 : n + r.length ≤ 100000) (hbase : base ≤ w.heap.size)
    (h : ∀ v' w', w'.ownsRow base e size v' (l ++ r).length ((l ++ r).flatMap f) → w.grownBy w' v.ownBlock → wpList Try.prog ops Q rest (a.put o.dst v') w') : wpList Try.prog ops Q (o :: rest) a w := by
  subst hn
  cases p with
  | none =>
    obtain rfl := hn0 rfl
    have hr : r.length = 0 := by omega
    obtain rfl := List.eq_nil_of_length_eq_zero hr
    obtain rfl : k = 0 := hk
    refine wpList_append_own_none hgd s x t ho base e i size ht hi v l.length (l.flatMap f) hs hown hx ?_
    refine h v w ?_ (grown_refl _ _)
    rw [List.append_nil]; exact hown
  | some ad =>
    have hb2 : (l.length + k) * bytes ≤ 140737488355328 := Nat.le_trans (Nat.mul_le_mul (show l.length + k ≤ 100000 by omega) hb40) (by decide)
    refine wpList_append_own w hgd s x t ho base e i z size bytes ht hi hz hsize hby hzs hsz v l.length (l.flatMap f) hs hown ad k c (r.flatMap f) hx (by rw [flat_len f size hf, hk]) (rdf_news hR) ?_ (by unfold maxLen; omega) hb2 hbase ?_
    · intro u hu
      obtain ⟨y, _, hy⟩ := List.mem_flatMap.1 hu
      exact hone y u hy
    · intro v' w' h1 h2 _
      refine h v' w' ?_ h2
      rw [List.length_append, List.flatMap_append, ← hk]; exact h1
set_option maxRecDepth 100000 in
theorem own_apartF {w w1 : World} {base base2 size size2 : Nat} {e e2 : TypeId} {v v2 : Value} {n m : Nat} {xs ys : List Value} (h : w.ownsRow base e size v n xs) (hv : w.ownsRow base2 e2 size2 v2 m ys) (hg : ∀ g, v.ownBlock = some g → g < base2) (k : w.grownBy w1 v2.ownBlock) : w1.ownsRow base e size v n xs := by
  refine h.kept k ?_
  cases hb : v.ownBlock with
  | none => exact .inl rfl
  | some g =>
    refine .inr fun e => ?_
    have := (hv.lt g e.symm).1
    have := hg g hb
    omega
set_option maxRecDepth 100000 in
theorem old_grow {w w1 : World} {base2 size2 : Nat} {e2 : TypeId} {v2 : Value} {m : Nat} {ys : List Value} {W : World} (g : W.grownBy w none) (hv : w.ownsRow base2 e2 size2 v2 m ys) (hb : W.heap.size ≤ base2) (k : w.grownBy w1 v2.ownBlock) : W.grownBy w1 none :=
  grown_any g k (fun b hlt e => by have := (hv.lt b e.symm).1; omega)
set_option maxRecDepth 100000 in
theorem lk_one (x : Lk) : ∀ u ∈ lkC x, u.oneCell' = true := by
  intro u hu
  simp [lkC] at hu
  rcases hu with rfl | rfl | rfl | rfl | rfl <;> rfl
set_option maxRecDepth 100000 in
theorem rt_one (x : Rt) : ∀ u ∈ rtC x, u.oneCell' = true := by
  intro u hu
  simp [rtC] at hu
  rcases hu with rfl | rfl <;> rfl
end Go.Proofs.Ytnpkihioklpnmaa

/- copy, clear, append within a row of structs of the call's own; append of zeros. -/
namespace Go.Proofs.Ytnpkihioklpnmaa
open Go.RowKit Bs
/-- Cells laid over others. -/
def setAt (xs : List Value) (o : Nat) : List Value → List Value
  | [] => xs
  | v :: r => setAt (xs.set o v) (o + 1) r
set_option maxRecDepth 100000 in
theorem setAt_len : ∀ (vs : List Value) (o : Nat) (xs : List Value), (setAt xs o vs).length = xs.length
  | [], _, _ => rfl
  | v :: r, o, xs => by
    show (setAt (xs.set o v) (o + 1) r).length = _
    rw [setAt_len r, List.length_set]
set_option maxRecDepth 100000 in
theorem setAt_get : ∀ (vs : List Value) (o : Nat) (xs : List Value) (j : Nat), o + vs.length ≤ xs.length → (setAt xs o vs)[j]? = if o ≤ j ∧ j < o + vs.length then vs[j - o]? else xs[j]?
  | [], o, xs, j, _ => by
    rw [if_neg (by simp only [List.length_nil]; omega)]
    rfl
  | v :: r, o, xs, j, h => by
    rw [List.length_cons] at h ⊢
    show (setAt (xs.set o v) (o + 1) r)[j]? = _
    rw [setAt_get r (o + 1) (xs.set o v) j (by rw [List.length_set]; omega), List.getElem?_set]
    by_cases h1 : j = o
    · subst h1
      rw [if_neg (by omega), if_pos rfl, if_pos (by omega), if_pos (by omega), Nat.sub_self]
      rfl
    · by_cases h2 : o + 1 ≤ j ∧ j < o + 1 + r.length
      · rw [if_pos h2, if_pos (by omega), show j - o = (j - (o + 1)) + 1 by omega]
        rfl
      · rw [if_neg h2, if_neg (by omega), if_neg (by omega)]
set_option maxRecDepth 100000 in
theorem own_setCells {base size n cap g : Nat} {e : TypeId} : ∀ (vs : List Value) (o : Nat) (w : World) (xs : List Value), w.ownsRow base e size (.slice (some ⟨g, 0, none⟩) n cap) n xs → (w.setCells g o vs).ownsRow base e size (.slice (some ⟨g, 0, none⟩) n cap) n (setAt xs o vs) ∧ w.grownBy (w.setCells g o vs) (some g)
  | [], _, w, xs, h => ⟨h, grown_refl _ _⟩
  | v :: r, o, w, xs, h => by
    obtain ⟨s1, s2⟩ := h.stored o v
    obtain ⟨i1, i2⟩ := own_setCells r (o + 1) _ _ s1
    exact ⟨i1, grown_trans s2 i2⟩
set_option maxRecDepth 100000 in
/-- A row, looked at shorter or longer. -/
theorem own_len {w : World} {base size n cap g : Nat} {e : TypeId} {xs : List Value} (h : w.ownsRow base e size (.slice (some ⟨g, 0, none⟩) n cap) n xs) (m : Nat) (hm : m ≤ cap) : ∃ ys, ys.take (min n m * size) = xs.take (min n m * size) ∧ w.ownsRow base e size (.slice (some ⟨g, 0, none⟩) m cap) m ys := by
  rcases h.2 with ⟨e1, _⟩ | ⟨g', cap', cur, e1, hb, hg, hn, hcm, hcs, ht⟩
  · cases e1
  · injection e1 with e2 e3 e4
    injection e2 with e2
    injection e2 with e5 e6
    subst e5
    subst e4
    refine ⟨cur.toList.take (m * size), ?_, ?_, .inr ⟨g, cap, cur, rfl, hb, hg, hm, hcm, hcs, rfl⟩⟩
    · rw [← ht, List.take_take, List.take_take]
      have h1 : min n m * size ≤ m * size := Nat.mul_le_mul_right _ (Nat.min_le_right _ _)
      have h2 : min n m * size ≤ n * size := Nat.mul_le_mul_right _ (Nat.min_le_left _ _)
      rw [Nat.min_eq_left h1, Nat.min_eq_left h2]
    · rw [List.length_take, Array.length_toList, hcs]
      have := Nat.mul_le_mul_right size hm
      omega
set_option maxRecDepth 100000 in
theorem own_cellOk {w : World} {base size n cap g : Nat} {e : TypeId} {xs : List Value} (h : w.ownsRow base e size (.slice (some ⟨g, 0, none⟩) n cap) n xs) (j : Nat) (hj : j < cap * size) : (w.cell? ⟨g, j, none⟩).isSome = true ∧ w.frozen? ⟨g, j, none⟩ = false := by
  obtain ⟨ys, -, hy⟩ := own_len h cap (Nat.le_refl _)
  refine ⟨?_, hy.frozenAt j⟩
  rw [hy.cellAt j hj, List.getElem?_eq_getElem (by rw [hy.1]; exact hj)]
  rfl
section
variable {e t : TypeId} {i : TypeInfo} (ht : Try.prog.underlying t = some (.slice e)) (hi : Try.prog.info? e = some i)
include ht hi
set_option maxRecDepth 100000 in
/-- copy. -/
theorem run_copy_k (w : World) (ty : TypeId) (b o dLen dCap : Nat) (a : Addr) (sLen sCap : Nat) (cs : List Value) (m : Nat) (hm : Nat.min sLen dLen = m) (hl : cs.length = m * i.size) (hsrc : ∀ j v, cs[j]? = some v → w.cell? (a.add j) = some v)
    (hc : ∀ j, j < cs.length → (w.cell? ⟨b, o + j, none⟩).isSome = true) (hf : ∀ j, j < cs.length → w.frozen? ⟨b, o + j, none⟩ = false) (h1 : ∀ v ∈ cs, v.oneCell' = true) :
    (Builtin.copy_ #[t, t] ty #[.slice (some ⟨b, o, none⟩) dLen dCap, .slice (some a) sLen sCap]).run Try.prog w = .ok (goInt m) (w.setCells b o cs) := by
  have hfc := run_firstCells_some (P := Try.prog) w i.size m a sLen sCap cs hl hsrc
  have hst := run_storeCells_cells (P := Try.prog) b o cs 0 w (by simpa using hc) (by simpa using hf) h1
  simp only [Nat.add_zero] at hst
  simp [Builtin.copy_, run_underlying ht, Builtin.lenOf, sizeOf, typeInfo, hi, hm, hfc, hst]
set_option maxRecDepth 100000 in
/-- clear of one element. -/
theorem run_clear_k (w : World) (ty : TypeId) (z : Value) (hz : i.zero = some z) (h1 : ∀ v ∈ (Builtin.zeroCells z.cells 1).toList, v.oneCell' = true) (b o c : Nat)
    (hc : ∀ j, j < (Builtin.zeroCells z.cells 1).toList.length → (w.cell? ⟨b, o + j, none⟩).isSome = true) (hf : ∀ j, j < (Builtin.zeroCells z.cells 1).toList.length → w.frozen? ⟨b, o + j, none⟩ = false) :
    (Builtin.clear_ #[t] ty #[.slice (some ⟨b, o, none⟩) 1 c]).run Try.prog w = .ok (.tuple #[]) (w.setCells b o (Builtin.zeroCells z.cells 1).toList) := by
  have hst := run_storeCells_cells (P := Try.prog) b o (Builtin.zeroCells z.cells 1).toList 0 w (by simpa using hc) (by simpa using hf) h1
  simp only [Nat.add_zero] at hst
  simp [Builtin.clear_, run_underlying ht, typeInfo, zeroValue, hi, hz, hst]
set_option maxRecDepth 100000 in
/-- append(s[:n], make([]T, k)...) where there is no room: a new row. -/
theorem run_append_zeros_k (w : World) (tn ty : TypeId) (htn : Try.prog.underlying tn = some (.int .i64)) (z : Value) (hz : i.zero = some z) (hs : 0 < i.size) (b : Addr) (n cap : Nat) (olds : List Value) (hlo : olds.length = n * i.size) (holds : ∀ j v, olds[j]? = some v → w.cell? (b.add j) = some v)
    (k : Nat) (hk : 0 < k) (hg : cap < n + k) (h63 : n + k ≤ 100000) (hb : i.bytes ≤ 1000) :
    (Builtin.append_ #[t, tn] ty #[.slice (some b) n cap, .int .i64 (k : Int)]).run Try.prog w =
      .ok (.slice (some ⟨w.heap.size, 0, none⟩) (n + k) (grownCap w (n + k) cap e))
        (w.drew.alloc (.cells (olds.toArray ++ Builtin.zeroCells z.cells k ++ Builtin.zeroCells z.cells (grownCap w (n + k) cap e - (n + k))) e)) := by
  have hn : ¬ (n + k ≤ cap) := by omega
  have hw : IntKind.i64.wrap (k : Int) = k := by rw [IntKind.wrap_i64]; omega
  have hkb : k * i.bytes ≤ 100000 * 1000 := Nat.mul_le_mul (by omega) hb
  have hnb : Builtin.nextslicecap (n + k) cap * i.bytes ≤ 200000 * 1000 := Nat.mul_le_mul (Nat.le_trans (nextslicecap_le hg) (by omega)) hb
  have h63' : ¬ (9223372036854775807 < ((n : Int) + (k : Int))) := by omega
  have h48' : ¬ (281474976710656 < Builtin.nextslicecap (n + k) cap * i.bytes) := by omega
  have h48i : ¬ (281474976710656 < (k : Int) * (i.bytes : Int)) := by
    rw [← Int.natCast_mul]
    omega
  have hneg : ¬ ((k : Int) < 0) := by omega
  have hk0 : k ≠ 0 := by omega
  have hns : ¬ (k * i.size = 0) := Nat.mul_ne_zero hk0 (by omega)
  have hfo := run_firstCells_some (P := Try.prog) w.drew i.size n b n cap olds hlo (by simpa using holds)
  simp [Builtin.append_, run_underlying ht, run_underlying htn, sizeOf, typeInfo, zeroValue, hi, hz, asInt, asIntOf, hw, hn, hneg, hns, h63', h48', h48i, Question.forced, hfo, newRow, grownCap]
end
section
variable {ops : Array Oper} {rest : List Oper} {o : Oper} {a : Act} {w : World} {K : Act → World → Prop} {Q : Exit → Act → World → Prop} {E : Prop}
set_option maxRecDepth 100000 in
/-- append, copy, clear whose run is known, in a walk and at a step of a drawn region. -/
theorem wpList_append_runC (hgd : o.guard = none) (s x : Operand) (t tn : TypeId) (ho : o.op = .call { callee := .builtin .append, args := #[s, x], argTypes := #[t, tn] }) (vs vx : Value) (hs : a.eval s = vs) (hx : a.eval x = vx)
    {v' : Value} {w' : World} (hr : (Builtin.append_ #[t, tn] o.type #[vs, vx]).run Try.prog w = .ok v' w') (h : wpList Try.prog ops Q rest (a.put o.dst v') w') : wpList Try.prog ops Q (o :: rest) a w := by
  refine wpList_plain hgd fun K' hK => ?_
  unfold Oper.wp execOp
  simp only [ho, resolve, invoke, builtin, Sem.run_bind, Sem.run_pure, Result.andThen_ok, List.map_toArray, List.map_cons, List.map_nil, hs, hx, hr]
  exact hK _ _ h
set_option maxRecDepth 100000 in
theorem wpList_copy_run (hgd : o.guard = none) (s x : Operand) (t tn : TypeId) (ho : o.op = .call { callee := .builtin .copy, args := #[s, x], argTypes := #[t, tn] }) (vs vx : Value) (hs : a.eval s = vs) (hx : a.eval x = vx)
    {v' : Value} {w' : World} (hr : (Builtin.copy_ #[t, tn] o.type #[vs, vx]).run Try.prog w = .ok v' w') (h : wpList Try.prog ops Q rest (a.put o.dst v') w') : wpList Try.prog ops Q (o :: rest) a w := by
  refine wpList_plain hgd fun K' hK => ?_
  unfold Oper.wp execOp
  simp only [ho, resolve, invoke, builtin, Sem.run_bind, Sem.run_pure, Result.andThen_ok, List.map_toArray, List.map_cons, List.map_nil, hs, hx, hr]
  exact hK _ _ h
set_option maxRecDepth 100000 in
theorem wpList_clear_run (hgd : o.guard = none) (x : Operand) (t : TypeId) (ho : o.op = .call { callee := .builtin .clear, args := #[x], argTypes := #[t] }) (vx : Value) (hx : a.eval x = vx)
    {v' : Value} {w' : World} (hr : (Builtin.clear_ #[t] o.type #[vx]).run Try.prog w = .ok v' w') (h : wpList Try.prog ops Q rest (a.put o.dst v') w') : wpList Try.prog ops Q (o :: rest) a w := by
  refine wpList_plain hgd fun K' hK => ?_
  unfold Oper.wp execOp
  simp only [ho, resolve, invoke, builtin, Sem.run_bind, Sem.run_pure, Result.andThen_ok, List.map_toArray, List.map_cons, List.map_nil, hx, hr]
  exact hK _ _ h
set_option maxRecDepth 100000 in
theorem step_append_run (hgd : o.guard = none) (s x : Operand) (t tn : TypeId) (ho : o.op = .call { callee := .builtin .append, args := #[s, x], argTypes := #[t, tn] }) (vs vx : Value) (hs : a.eval s = vs) (hx : a.eval x = vx)
    {v' : Value} {w' : World} (hr : (Builtin.append_ #[t, tn] o.type #[vs, vx]).run Try.prog w = .ok v' w') (h : K (a.put o.dst v') w') : if Region.wanted o (yielded ops a.tmps) = true then Oper.wp Try.prog o a w K Q else E := by
  have hw : Region.wanted o (yielded ops a.tmps) = true := by simp [Region.wanted, hgd]
  rw [if_pos hw]
  unfold Oper.wp execOp
  simp only [ho, resolve, invoke, builtin, Sem.run_bind, Sem.run_pure, Result.andThen_ok, List.map_toArray, List.map_cons, List.map_nil, hs, hx, hr]
  exact h
set_option maxRecDepth 100000 in
theorem step_copy_run (hgd : o.guard = none) (s x : Operand) (t tn : TypeId) (ho : o.op = .call { callee := .builtin .copy, args := #[s, x], argTypes := #[t, tn] }) (vs vx : Value) (hs : a.eval s = vs) (hx : a.eval x = vx)
    {v' : Value} {w' : World} (hr : (Builtin.copy_ #[t, tn] o.type #[vs, vx]).run Try.prog w = .ok v' w') (h : K (a.put o.dst v') w') : if Region.wanted o (yielded ops a.tmps) = true then Oper.wp Try.prog o a w K Q else E := by
  have hw : Region.wanted o (yielded ops a.tmps) = true := by simp [Region.wanted, hgd]
  rw [if_pos hw]
  unfold Oper.wp execOp
  simp only [ho, resolve, invoke, builtin, Sem.run_bind, Sem.run_pure, Result.andThen_ok, List.map_toArray, List.map_cons, List.map_nil, hs, hx, hr]
  exact h
end
end Go.Proofs.Ytnpkihioklpnmaa

/- Adverts: their values, where they lie, when they are valid. -/
namespace Go.Proofs.Ytnpkihioklpnmaa
open Go.RowKit Bs
/-- Three numbers: a link or a claim of an advert. -/
structure T3 where
  a : Int
  b : Int
  c : Int
deriving DecidableEq
def t3C (x : T3) : List Value := [.int .i64 x.a, .int .i64 x.b, .int .i64 x.c]
/-- An advert, and where its lists lie. -/
structure Ad where
  r : Int
  q : Int
  cp : Bool
  L : List T3
  C : List T3
  pL : Option Addr
  cL : Nat
  pC : Option Addr
  cC : Nat
def Ad.val (A : Ad) : Value := .agg #[.int .i64 A.r, .int .i64 A.q, .bool A.cp, .slice A.pL A.L.length A.cL, .slice A.pC A.C.length A.cC]
abbrev Rd3 (w : World) (q : Nat → Prop) (v : Value) (l : List T3) : Prop := RdF w q v l.length (l.flatMap t3C)
structure AdOk (w : World) (q : Nat → Prop) (A : Ad) : Prop where
  l : Rd3 w q (.slice A.pL A.L.length A.cL) A.L
  c : Rd3 w q (.slice A.pC A.C.length A.cC) A.C
  hl : A.L.length ≤ A.cL ∧ A.cL ≤ 9223372036854775807
  hc : A.C.length ≤ A.cC ∧ A.cC ≤ 9223372036854775807
set_option maxRecDepth 100000 in
theorem AdOk.grown {w w' : World} {q : Nat → Prop} {A : Ad} {r : Option Nat} (h : AdOk w q A) (g : w.grownBy w' r) (hq : ∀ b, q b → some b ≠ r) : AdOk w' q A := ⟨h.l.grown g hq, h.c.grown g hq, h.hl, h.hc⟩
set_option maxRecDepth 100000 in
theorem AdOk.keep {w w' : World} {q : Nat → Prop} {A : Ad} (h : AdOk w q A) (g : w.grownBy w' none) : AdOk w' q A := h.grown g (fun _ _ => by simp)
set_option maxRecDepth 100000 in
theorem AdOk.mono {w : World} {q q' : Nat → Prop} {A : Ad} (h : AdOk w q A) (hq : ∀ b, q b → q' b) : AdOk w q' A := ⟨h.l.mono hq, h.c.mono hq, h.hl, h.hc⟩
set_option maxRecDepth 100000 in
theorem rd3_cells {w : World} {q : Nat → Prop} {p : Option Addr} {n c : Nat} {l : List T3} (h : Rd3 w q (.slice p n c) l) (hn : 0 < l.length) :
    n = l.length ∧ ∃ b off, p = some ⟨b, off, none⟩ ∧ q b ∧ ∀ i x, l[i]? = some x → w.cell? ⟨b, off + i * 3, none⟩ = some (.int .i64 x.a) ∧ w.cell? ⟨b, off + i * 3 + 1, none⟩ = some (.int .i64 x.b) ∧ w.cell? ⟨b, off + i * 3 + 2, none⟩ = some (.int .i64 x.c) := by
  obtain ⟨h0, b, off, hp, hq, hc⟩ := RdF.cells (f := t3C) (k := 3) (fun _ => rfl) (by decide) h hn
  exact ⟨h0, b, off, hp, hq, fun i x hi => ⟨hc i x hi 0 _ rfl, hc i x hi 1 _ rfl, hc i x hi 2 _ rfl⟩⟩
set_option maxRecDepth 100000 in
theorem rd3_at {w : World} {q : Nat → Prop} {b off n c k : Nat} {l : List T3} {x : T3} (h : Rd3 w q (.slice (some ⟨b, off, none⟩) n c) l) (hx : l[k]? = some x) :
    w.cell? ⟨b, off + k * 3, none⟩ = some (.int .i64 x.a) ∧ w.cell? ⟨b, off + k * 3 + 1, none⟩ = some (.int .i64 x.b) ∧ w.cell? ⟨b, off + k * 3 + 2, none⟩ = some (.int .i64 x.c) := by
  obtain ⟨-, b', o', e, -, hc⟩ := rd3_cells h (by have := (List.getElem?_eq_some_iff.1 hx).1; omega)
  injection e with e
  injection e with e1 e2
  subst e1
  subst e2
  exact hc k x hx
/-! When an advert is valid. -/
def okRe (r last : Int) (x : T3) : Bool := decide (last < x.a ∧ x.a ≤ 99 ∧ x.a ≠ r ∧ (1 ≤ x.b ∧ x.b ≤ 1000) ∧ 0 ≤ x.c ∧ x.c ≤ 1000)
def vRe (r : Int) : Int → List T3 → Bool
  | _, [] => true
  | last, x :: t => okRe r last x && vRe r x.a t
def okCm (last : Int) (x : T3) : Bool := decide (last < x.a ∧ x.a ≤ 7 ∧ (1 ≤ x.b ∧ x.b ≤ 256) ∧ (x.c = 8 ∨ x.c = 16 ∨ x.c = 32 ∨ x.c = 64))
def vCm : Int → List T3 → Bool
  | _, [] => true
  | last, x :: t => okCm last x && vCm x.a t
def vHd (A : Ad) : Bool := decide ((1 ≤ A.r ∧ A.r ≤ 99) ∧ (1 ≤ A.q ∧ A.q ≤ 1000000) ∧ A.L.length ≤ 23)
def vClaims (C : List T3) : Bool := decide (C.length ≤ 8) && vCm (-1) C
def vAd (A : Ad) : Bool := vHd A && (vRe A.r 0 A.L && vClaims A.C)
/-- What came before the k-th. -/
def lastA (d : Int) (l : List T3) (k : Nat) : Int := match (l.take k).getLast? with
  | some x => x.a
  | none => d
set_option maxRecDepth 100000 in
theorem lastA_zero (d : Int) (l : List T3) : lastA d l 0 = d := by unfold lastA; rw [List.take_zero]; rfl
set_option maxRecDepth 100000 in
theorem lastA_succ {d : Int} {l : List T3} {k : Nat} {x : T3} (h : l[k]? = some x) : lastA d l (k + 1) = x.a := by
  unfold lastA
  rw [List.take_add_one, h]
  simp
set_option maxRecDepth 100000 in
theorem drop_at {l : List T3} {k : Nat} {x : T3} (h : l[k]? = some x) : l.drop k = x :: l.drop (k + 1) := by
  obtain ⟨h1, h2⟩ := List.getElem?_eq_some_iff.1 h
  rw [List.drop_eq_getElem_cons h1, h2]
set_option maxRecDepth 100000 in
theorem vRe_step {r d : Int} {l : List T3} {k : Nat} {x : T3} (h : l[k]? = some x) : vRe r (lastA d l k) (l.drop k) = (okRe r (lastA d l k) x && vRe r (lastA d l (k + 1)) (l.drop (k + 1))) := by
  rw [drop_at h, lastA_succ h]
  rfl
set_option maxRecDepth 100000 in
theorem vCm_step {d : Int} {l : List T3} {k : Nat} {x : T3} (h : l[k]? = some x) : vCm (lastA d l k) (l.drop k) = (okCm (lastA d l k) x && vCm (lastA d l (k + 1)) (l.drop (k + 1))) := by
  rw [drop_at h, lastA_succ h]
  rfl
set_option maxRecDepth 100000 in
theorem vRe_end {r d : Int} {l : List T3} : vRe r (lastA d l l.length) (l.drop l.length) = true := by rw [List.drop_length]; rfl
set_option maxRecDepth 100000 in
theorem vCm_end {d : Int} {l : List T3} : vCm (lastA d l l.length) (l.drop l.length) = true := by rw [List.drop_length]; rfl
end Go.Proofs.Ytnpkihioklpnmaa

/- A region that draws its order: loads are taken first although a late operation writes their cells; what they want of the world holds until then. -/
namespace Go.Proofs.Ytnpkihioklpnmaa
open Go
section
variable {P : Program} {ops : Array Oper} {Q : Exit → Act → World → Prop} {md : Region.Mode} {S : World → Prop} {late : Nat → Bool}
/-- Any order from here on; S holds behind whatever is not late. -/
def anyU (P : Program) (md : Region.Mode) (ops : Array Oper) (Q : Exit → Act → World → Prop) (S : World → Prop) (late : Nat → Bool) : Nat → Array Bool → Act → World → Prop
  | 0, seen, a, w => Region.ready md ops seen = [] ∧ Q .normal a w
  | n + 1, seen, a, w => (Region.ready md ops seen = [] → Q .normal a w) ∧
      ∀ k, k ∈ Region.ready md ops seen → wpOp P ops Q k (fun b v => (late k = false → S v) ∧ anyU P md ops Q S late n (seen.setIfInBounds k true) b v) a w
set_option maxRecDepth 100000 in
theorem anyU_any (n : Nat) : ∀ (seen : Array Bool) (a : Act) (w : World), anyU P md ops Q S late n seen a w → wpAny P md ops Q n seen a w := by
  induction n with
  | zero => intro seen a w h; exact h
  | succ n ih => intro seen a w h; exact ⟨h.1, fun k hk => wpOp_mono (fun b v hb => ih _ b v hb.2) (h.2 k hk)⟩
/-- Number j waits for number i, perhaps by way of others. -/
def reach (md : Region.Mode) (ops : Array Oper) : Nat → Nat → Nat → Bool
  | 0, _, _ => false
  | n + 1, j, i => match ops[j]? with
    | some o => o.after.any fun e => Region.binds md e && (e.on == i || reach md ops n e.on i)
    | none => false
/-- Whatever is late waits for number i. -/
def waits (md : Region.Mode) (ops : Array Oper) (late : Nat → Bool) (i : Nat) : Bool :=
  (List.range ops.size).all fun j => !late j || reach md ops ops.size j i
/-- What has come up has come up behind all that it waits for. -/
def Shut1 (md : Region.Mode) (ops : Array Oper) (seen : Array Bool) : Prop :=
  ∀ (j : Nat) (o : Oper), ops[j]? = some o → seen.getD j false = true → ∀ e ∈ o.after, Region.binds md e = true → seen.getD e.on false = true
def shut1 (md : Region.Mode) (ops : Array Oper) (seen : Array Bool) : Bool :=
  (List.range ops.size).all fun j => !seen.getD j false || (match ops[j]? with
    | some o => o.after.all fun e => !Region.binds md e || seen.getD e.on false
    | none => true)
set_option maxRecDepth 100000 in
theorem shut1_spec {seen : Array Bool} (h : shut1 md ops seen = true) : Shut1 md ops seen := by
  intro j o ho hj e he hb
  unfold shut1 at h
  rw [List.all_eq_true] at h
  have h1 := h j (List.mem_range.2 (Array.getElem?_eq_some_iff.1 ho).1)
  rw [hj, ho] at h1
  simp only [Bool.not_true, Bool.false_or] at h1
  rw [Array.all_eq_true_iff_forall_mem] at h1
  have h2 := h1 e he
  rw [hb] at h2
  simpa using h2
set_option maxRecDepth 100000 in
theorem Shut1.step {seen : Array Bool} {j : Nat} (h : Shut1 md ops seen) (hj : j ∈ Region.ready md ops seen) : Shut1 md ops (seen.setIfInBounds j true) := by
  intro k o ho hk e he hb
  by_cases hjk : j = k
  · subst hjk
    obtain ⟨_, o2, ho2, hall⟩ := mem_ready.1 hj
    rw [ho] at ho2
    obtain rfl := Option.some.inj ho2
    exact getD_set_true (hall e he hb)
  · rw [getD_set_ne false hjk] at hk
    exact getD_set_true (h k o ho hk e he hb)
set_option maxRecDepth 100000 in
theorem reach_seen {seen : Array Bool} (hc : Shut1 md ops seen) (i : Nat) : ∀ (n j : Nat) (o : Oper), ops[j]? = some o → (∀ e ∈ o.after, Region.binds md e = true → seen.getD e.on false = true) → reach md ops n j i = true → seen.getD i false = true := by
  intro n
  induction n with
  | zero => intro j o _ _ h; cases h
  | succ n ih =>
    intro j o ho hall h
    unfold reach at h
    rw [ho] at h
    simp only at h
    rw [Array.any_eq_true'] at h
    obtain ⟨e, he, hb⟩ := h
    rw [Bool.and_eq_true, Bool.or_eq_true] at hb
    have h1 := hall e he hb.1
    rcases hb.2 with h2 | h2
    · have : e.on = i := by simpa using h2
      rwa [this] at h1
    · cases ho2 : ops[e.on]? with
      | none =>
        cases n with
        | zero => cases h2
        | succ n =>
          unfold reach at h2
          rw [ho2] at h2
          cases h2
      | some o2 => exact ih e.on o2 ho2 (hc e.on o2 ho2 h1) h2
set_option maxRecDepth 100000 in
theorem waits_seen {seen : Array Bool} {i j : Nat} (hw : waits md ops late i = true) (hc : Shut1 md ops seen) (hj : j ∈ Region.ready md ops seen) (hl : late j = true) : seen.getD i false = true := by
  obtain ⟨_, o, ho, hall⟩ := mem_ready.1 hj
  unfold waits at hw
  rw [List.all_eq_true] at hw
  have h1 := hw j (List.mem_range.2 (Array.getElem?_eq_some_iff.1 ho).1)
  rw [hl] at h1
  exact reach_seen hc i _ j o ho hall (by simpa using h1)
set_option maxRecDepth 100000 in
theorem anyU_first {i : Nat} {oi : Oper} {v : Value} (hi : ops[i]? = some oi) (hsel : ∀ (j : Nat) (o : Oper) cs b, ops[j]? = some o → o.op ≠ .select cs b)
    (hQ : ∀ c a w, Q (.panic c) (a.put oi.dst v) w → Q (.panic c) a w) (hw : waits md ops late i = true) (n : Nat) :
    ∀ (seen : Array Bool) (a : Act) (w : World),
      (∀ j oj, ops[j]? = some oj → j ≠ i → seen.getD j true = false → (∀ e ∈ oj.after, Region.binds md e = true → e.on ≠ i) → oi.apart ops oj = true) →
      Shut1 md ops seen → i ∈ Region.ready md ops seen → YieldsIf P ops S oi v a → S w → anyU P md ops Q S late n (seen.setIfInBounds i true) (a.put oi.dst v) w → anyU P md ops Q S late (n + 1) seen a w := by
  have now : ∀ (m : Nat) (seen : Array Bool) (a : Act) (w : World), YieldsIf P ops S oi v a → S w → anyU P md ops Q S late m (seen.setIfInBounds i true) (a.put oi.dst v) w →
      wpOp P ops Q i (fun b u => (late i = false → S u) ∧ anyU P md ops Q S late m (seen.setIfInBounds i true) b u) a w := fun m seen a w hy hS h => hy.wpOp hi hS ⟨fun _ => hS, h⟩
  induction n with
  | zero =>
    intro seen a w _ _ hr hy hS h
    refine ⟨fun e => (by rw [e] at hr; cases hr), fun j hj => ?_⟩
    by_cases e : j = i
    · exact e ▸ now 0 seen a w hy hS h
    · have := ready_mono hj e
      rw [h.1] at this
      cases this
  | succ n ih =>
    intro seen a w hf hc hr hy hS h
    refine ⟨fun e => (by rw [e] at hr; cases hr), fun j hj => ?_⟩
    by_cases e : j = i
    · exact e ▸ now (n + 1) seen a w hy hS h
    obtain ⟨hun, oj, hoj, hall⟩ := mem_ready.1 hj
    have hno : ∀ e ∈ oj.after, Region.binds md e = true → e.on ≠ i := fun e he hb hei => by
      have h1 := hall e he hb
      have h0 := (mem_ready.1 hr).1
      rw [hei] at h1
      by_cases hlt : i < seen.size
      · simp [hlt] at h0 h1
        rw [h0] at h1
        cases h1
      · simp [Array.getElem?_eq_none (Nat.le_of_not_lt hlt)] at h1
    have hl : late j = false := by
      cases hl : late j with
      | false => rfl
      | true =>
        have h1 := waits_seen hw hc hj hl
        have h0 := (mem_ready.1 hr).1
        by_cases hlt : i < seen.size
        · simp [hlt] at h0 h1
          rw [h0] at h1
          cases h1
        · simp [Array.getElem?_eq_none (Nat.le_of_not_lt hlt)] at h1
    refine wpOp_mono (fun b u hb => ⟨hb.2.1, ih _ b u (fun k ok hk hki hsk hnk => hf k ok hk hki ?_ hnk) (hc.step hj) (ready_mono hr (Ne.symm e)) hb.1 (hb.2.1 hl) (by rw [Array.setIfInBounds_comm _ _ e]; exact hb.2.2)⟩)
      (wpOp_putIf hoj (hf j oj hoj e hun hno) (fun cs b => hsel i oi cs b hi) (fun cs b => hsel j oj cs b hoj) hQ hy (h.2 j (ready_mono hj e)))
    by_cases hjk : j = k
    · exact hjk ▸ hun
    · rwa [getD_set_ne true hjk] at hsk
set_option maxRecDepth 100000 in
theorem anyU_take {i : Nat} {oi : Oper} {v : Value} {n : Nat} {seen : Array Bool} {a : Act} {w : World} (hi : ops[i]? = some oi) (hw : waits md ops late i = true)
    (hc : shut1 md ops seen = true) (hs : Region.noSelect ops = true) (hf : Region.free md ops seen i = true) (hr : (Region.ready md ops seen).contains i = true)
    (hQ : ∀ c a w, Q (.panic c) (a.put oi.dst v) w → Q (.panic c) a w) (hy : YieldsIf P ops S oi v a) (hS : S w)
    (h : anyU P md ops Q S late n (seen.setIfInBounds i true) (a.put oi.dst v) w) : anyU P md ops Q S late (n + 1) seen a w :=
  anyU_first hi (Region.noSelect_spec hs) hQ hw n seen a w (Region.free_spec hi hf) (shut1_spec hc) (by simpa using hr) hy hS h
/-- Each of some operations comes up next. -/
def EachU (P : Program) (md : Region.Mode) (ops : Array Oper) (Q : Exit → Act → World → Prop) (S : World → Prop) (late : Nat → Bool) (n : Nat) (seen : Array Bool) (a : Act) (w : World) (rs : List Nat) : Prop :=
  ∀ k ∈ rs, wpOp P ops Q k (fun b v => (late k = false → S v) ∧ anyU P md ops Q S late n (seen.setIfInBounds k true) b v) a w
set_option maxRecDepth 100000 in
theorem EachU.nil {n : Nat} {seen : Array Bool} {a : Act} {w : World} : EachU P md ops Q S late n seen a w [] := fun _ h => by cases h
set_option maxRecDepth 100000 in
theorem EachU.cons {n : Nat} {seen : Array Bool} {a : Act} {w : World} {i : Nat} {o : Oper} {rs : List Nat} (ho : ops[i]? = some o)
    (h : ∀ K : Act → World → Prop, Shut (∀ b v, (late i = false → S v) → ((late i = false → S v) → anyU P md ops Q S late n (seen.setIfInBounds i true) b v) → K b v) → if Region.wanted o (yielded ops a.tmps) = true then Oper.wp P o a w K Q else K (a.put o.dst undef) w)
    (hs : EachU P md ops Q S late n seen a w rs) : EachU P md ops Q S late n seen a w (i :: rs) := fun j hj => by
  rcases List.mem_cons.1 hj with rfl | hj
  · exact wpOp_step ho (fun K hK => h K (fun b v hS hW => hK b v ⟨hS, hW hS⟩))
  · exact hs j hj
set_option maxRecDepth 100000 in
theorem anyU_ready {rs : List Nat} {n : Nat} {seen : Array Bool} {a : Act} {w : World} (hr : Region.ready md ops seen = rs) (hne : rs ≠ []) (h : EachU P md ops Q S late n seen a w rs) : anyU P md ops Q S late (n + 1) seen a w :=
  ⟨fun e => absurd (hr ▸ e) hne, hr ▸ h⟩
set_option maxRecDepth 100000 in
theorem anyU_done {seen : Array Bool} {a : Act} {w : World} (hr : Region.ready md ops seen = []) (h : Q .normal a w) (n : Nat) : anyU P md ops Q S late n seen a w := by
  cases n with
  | zero => exact ⟨hr, h⟩
  | succ n => exact ⟨fun _ => h, by rw [hr]; intro k hk; cases hk⟩
set_option maxRecDepth 100000 in
theorem region_until {id : Nat} {a : Act} {w : World} (late : Nat → Bool) (hm : P.follows .mixedOrders = true) (hS : S w.drew) (h : S w.drew → anyU P .any ops Q S late ops.size (Array.replicate ops.size false) a w.drew) :
    (Code.region id ops true).wp P Q a w := wp_region_any hm (anyU_any _ _ _ _ (h hS))
end
end Go.Proofs.Ytnpkihioklpnmaa

/- append at a step of a region that draws its order; rows of links and claims of adverts. -/
namespace Go.Proofs.Ytnpkihioklpnmaa
open Go.RowKit Bs
set_option maxRecDepth 100000 in
theorem astep_app {α : Type} (f : α → List Value) (size bytes : Nat) (hsz : 0 < size) (hf : ∀ x, (f x).length = size) (hone : ∀ x, ∀ u ∈ f x, u.oneCell' = true) (e t : TypeId) (i : TypeInfo) (z : Value)
    (ht : Try.prog.underlying t = some (.slice e)) (hi : Try.prog.info? e = some i) (hz : i.zero = some z) (hsize : i.size = size) (hby : i.bytes = bytes) (hzs : z.cells.size = size) (hb40 : bytes ≤ 1000)
    {w : World} {ops : Array Oper} {o : Oper} {a : Act} {K : Act → World → Prop} {Q : Exit → Act → World → Prop} {E : Prop} (hgd : o.guard = none) (s x : Operand)
    (ho : o.op = .call { callee := .builtin .append, args := #[s, x], argTypes := #[t, t] }) (base : Nat) (v : Value) (l : List α) (hs : a.eval s = v) (hown : w.ownsRow base e size v l.length (l.flatMap f))
    (p : Option Addr) (k c : Nat) (r : List α) (hx : a.eval x = .slice p k c) (hk : k = r.length) (hn0 : p = none → c = 0) (q : Nat → Prop) (hR : RdF w q (.slice p k c) r.length (r.flatMap f)) (hkc : k ≤ c) (h63 : l.length + r.length ≤ 100000) (hbase : base ≤ w.heap.size)
    (h : ∀ p' c' w', w'.ownsRow base e size (.slice p' (l.length + r.length) c') (l ++ r).length ((l ++ r).flatMap f) → w.grownBy w' v.ownBlock → ((Value.slice p' (l.length + r.length) c').ownBlock = v.ownBlock ∨ (Value.slice p' (l.length + r.length) c').ownBlock = some w.heap.size) → K (a.put o.dst (.slice p' (l.length + r.length) c')) w') :
    if Region.wanted o (yielded ops a.tmps) = true then Oper.wp Try.prog o a w K Q else E := by
  have hw : Region.wanted o (yielded ops a.tmps) = true := by simp [Region.wanted, hgd]
  rw [if_pos hw]
  cases p with
  | none =>
    obtain rfl := hn0 rfl
    have hr : r.length = 0 := by omega
    obtain rfl := List.eq_nil_of_length_eq_zero hr
    obtain rfl : k = 0 := hk
    have hrun := run_append_owned_none (P := Try.prog) (w := w) base t o.type e i size ht hi v l.length (l.flatMap f) hown
    obtain ⟨p', c', rfl, -, -⟩ := own_shape hown
    unfold Oper.wp
    simp [execOp, ho, resolve, invoke, builtin, hs, hx, hrun, Result.andThen]
    refine h p' c' w ?_ (grown_refl _ _) (.inl rfl)
    rw [List.append_nil]
    exact hown
  | some ad =>
    have hb2 : (l.length + k) * bytes ≤ 140737488355328 := Nat.le_trans (Nat.mul_le_mul (show l.length + k ≤ 100000 by omega) hb40) (by decide)
    obtain ⟨v', w', hr, h2, h3, _, h5⟩ := run_append_own_at (P := Try.prog) w base t o.type e i z size bytes ht hi hz hsize hby hzs hsz v l.length (l.flatMap f) hown ad k c (r.flatMap f) (by rw [flat_len f size hf, hk]) (rdf_news hR) (by
      intro u hu
      obtain ⟨y, _, hy⟩ := List.mem_flatMap.1 hu
      exact hone y u hy) (by unfold maxLen; omega) hb2 hbase
    subst hk
    obtain ⟨p', c', rfl, -, -⟩ := own_shape h2
    unfold Oper.wp execOp
    simp only [ho, resolve, invoke, builtin, Sem.run_bind, Sem.run_pure, Result.andThen_ok, List.map_toArray, List.map_cons, List.map_nil, hs, hx, hr]
    refine h p' c' w' ?_ h3 h5
    rw [List.length_append, List.flatMap_append]
    exact h2
set_option maxRecDepth 100000 in
theorem info_re : (Try.prog.info? 73).map (fun i => (i.zero, i.size, i.bytes)) = some (some (.agg #[.int .i64 0, .int .i64 0, .int .i64 0]), 3, 24) := by kernel_rfl
set_option maxRecDepth 100000 in
theorem info_cm : (Try.prog.info? 62).map (fun i => (i.zero, i.size, i.bytes)) = some (some (.agg #[.int .i64 0, .int .i64 0, .int .i64 0]), 3, 24) := by kernel_rfl
set_option maxRecDepth 100000 in
theorem t3_one (x : T3) : ∀ u ∈ t3C x, u.oneCell' = true := by
  intro u hu
  simp [t3C] at hu
  rcases hu with rfl | rfl | rfl <;> rfl
set_option maxRecDepth 100000 in
theorem cells3 (w : World) (x y z : Value) (t : TypeId) : ∀ j u, [x, y, z][j]? = some u → (w.alloc (.cells #[x, y, z] t)).cell? ((⟨w.heap.size, 0, none⟩ : Addr).add j) = some u := by
  intro j u hj
  rw [add_plain]
  have hb := heap_alloc_new w (.cells #[x, y, z] t)
  rcases j with _ | _ | _ | j
  · cases hj; exact cell_of_row _ _ _ _ _ _ hb
  · cases hj; exact cell_of_row _ _ _ _ _ _ hb
  · cases hj; exact cell_of_row _ _ _ _ _ _ hb
  · simp at hj
set_option maxRecDepth 100000 in
theorem own_otherA {w w' : World} {base size n b : Nat} {e : TypeId} {v : Value} {xs : List Value} (h : w.ownsRow base e size v n xs) (g : w.grownBy w' (some b)) (hb : b < base) : w'.ownsRow base e size v n xs := by
  refine h.kept g ?_
  cases hv : v.ownBlock with
  | none => exact .inl rfl
  | some x =>
    refine .inr fun e => ?_
    have := (h.lt x hv).1
    have := Option.some.inj e
    omega
end Go.Proofs.Ytnpkihioklpnmaa
