/- Parts of the proof, packed: ToFail, ToWith, ToBs, ToOrdM, ToWoM, ToLkM, AdM, AdOfM, ToRws. -/
import Derived.Test.YtnpkihioklpnmaaDo2
import Derived.Test.YtnpkihioklpnmaaDo3
import Derived.Deep.CutBlock
import Derived.Test.YtnpkihioklpnmaaDo1
/- topology: the closures of Without; what memory holds while it runs. -/
namespace Go.Proofs.Ytnpkihioklpnmaa
open Go.RowKit Bs
/-- A failure with where it lies. -/
structure Fl where
  H : List Hp
  X : List Int
  pH : Option Addr
  cH : Nat
  pX : Option Addr
  cX : Nat
structure FlOk (w : World) (q : Nat → Prop) (F : Fl) : Prop where
  h : RdH w q (.slice F.pH F.H.length F.cH) F.H
  x : Rd w q (.slice F.pX F.X.length F.cX) (F.X.map tv)
  ch : F.H.length ≤ F.cH ∧ F.cH ≤ 9223372036854775807
  cx : F.X.length ≤ F.cX ∧ F.cX ≤ 9223372036854775807
set_option maxRecDepth 100000 in
theorem FlOk.keep {w w' : World} {q : Nat → Prop} {F : Fl} (h : FlOk w q F) (g : w.grownBy w' none) : FlOk w' q F := ⟨h.h.keep g, h.x.keep g, h.ch, h.cx⟩
set_option maxRecDepth 100000 in
theorem FlOk.mono {w : World} {q q' : Nat → Prop} {F : Fl} (h : FlOk w q F) (hq : ∀ b, q b → q' b) : FlOk w q' F := ⟨h.h.mono hq, h.x.mono hq, h.ch, h.cx⟩
def nmd (H : List Hp) (l : Lk) : Bool := H.any (isH l.a l.b) || H.any (isH l.b l.a)
set_option maxRecDepth 100000 in
/-- What is read lies below. -/
theorem RdF.old {w : World} {q : Nat → Prop} {v : Value} {n : Nat} {xs : List Value} (h : RdF w q v n xs) : RdF w (· < w.heap.size) v n xs := by
  obtain ⟨p, c, hv, hc⟩ := h
  refine ⟨p, c, hv, fun hne => ?_⟩
  obtain ⟨b, off, hp, hb, hx⟩ := hc hne
  obtain ⟨x, hx0⟩ : ∃ x, xs[0]? = some x := by
    cases xs with
    | nil => exact absurd rfl hne
    | cons a t => exact ⟨a, rfl⟩
  exact ⟨b, off, hp, World.block_lt_of_cell? w ⟨b, off + 0, none⟩ (hx 0 x hx0), hx⟩
set_option maxRecDepth 100000 in
theorem Rd.old {w : World} {q : Nat → Prop} {v : Value} {xs : List Value} (h : Rd w q v xs) : Rd w (· < w.heap.size) v xs := by
  obtain ⟨p, c, hv, hc⟩ := h
  refine ⟨p, c, hv, fun hne => ?_⟩
  obtain ⟨b, off, hp, hb, hx⟩ := hc hne
  obtain ⟨x, hx0⟩ : ∃ x, xs[0]? = some x := by
    cases xs with
    | nil => exact absurd rfl hne
    | cons a t => exact ⟨a, rfl⟩
  exact ⟨b, off, hp, World.block_lt_of_cell? w ⟨b, off + 0, none⟩ (hx 0 x hx0), hx⟩
set_option maxRecDepth 100000 in
theorem TgOk.old {w : World} {q : Nat → Prop} {T : Tg} (h : TgOk w q T) : TgOk w (· < w.heap.size) T := ⟨h.r.old, h.l.old, h.cr, h.cl⟩
set_option maxRecDepth 100000 in
theorem FlOk.old {w : World} {q : Nat → Prop} {F : Fl} (h : FlOk w q F) : FlOk w (· < w.heap.size) F := ⟨h.h.old, h.x.old, h.ch, h.cx⟩
set_option maxRecDepth 100000 in
theorem FlOk.grown {w w' : World} {q : Nat → Prop} {F : Fl} {r : Option Nat} (h : FlOk w q F) (g : w.grownBy w' r) (hq : ∀ b, q b → some b ≠ r) : FlOk w' q F := ⟨h.h.grown g hq, h.x.grown g hq, h.ch, h.cx⟩
set_option maxRecDepth 100000 in
theorem okT_len {R : List Rt} {L : List Lk} (h : okT R L = true) : R.length ≤ 24 ∧ L.length ≤ 60 := by
  unfold okT chk at h
  by_cases h1 : 24 < R.length ∨ 60 < L.length
  · rw [if_pos h1] at h; cases h
  · omega
/-- What is left of a topology. -/
def woR (F : Fl) (R : List Rt) : List Rt := R.filter fun r => !hasI F.X r.id
def woK (F : Fl) (l : Lk) : Bool := !hasI F.X l.a && (!hasI F.X l.b && !nmd F.H l)
def woL (F : Fl) (L : List Lk) : List Lk := L.filter (woK F)
set_option maxRecDepth 100000 in
theorem filter_snoc {α : Type} {f : α → Bool} {l : List α} {k : Nat} {x : α} (h : l[k]? = some x) : (l.take (k + 1)).filter f = (l.take k).filter f ++ (if f x then [x] else []) := by
  rw [List.take_add_one, h, List.filter_append]
  cases hf : f x <;> simp [hf]
set_option maxRecDepth 100000 in
theorem info_rt : (Try.prog.info? 69).map (fun i => (i.zero, i.size, i.bytes)) = some (some (.agg #[.int .i64 0, .bool false]), 2, 16) := by kernel_rfl
set_option maxRecDepth 100000 in
theorem info_lk : (Try.prog.info? 71).map (fun i => (i.zero, i.size, i.bytes)) = some (some (.agg #[.int .i64 0, .int .i64 0, .int .i64 0, .int .i64 0, .int .i64 0]), 5, 40) := by kernel_rfl
end Go.Proofs.Ytnpkihioklpnmaa

/- topology: Without. -/
namespace Go.Proofs.Ytnpkihioklpnmaa
open Go.RowKit Bs
set_option maxRecDepth 100000 in
theorem grown_any {w w1 w2 : World} {r : Option Nat} (h : w.grownBy w1 none) (k : w1.grownBy w2 r) (hr : ∀ b, b < w.heap.size → some b ≠ r) : w.grownBy w2 none :=
  ⟨k.os.trans h.os, k.tape.trans h.tape, k.output.trans h.output, Nat.le_trans h.size k.size, fun b hb _ => (k.block b (Nat.lt_of_lt_of_le hb h.size) (hr b hb)).trans (h.block b hb (by simp))⟩
set_option maxRecDepth 100000 in
theorem rdf_of_own2 {w : World} {base size : Nat} {e : TypeId} {v : Value} {n : Nat} {xs : List Value} (h : w.ownsRow base e size v n xs) : RdF w (fun b => base ≤ b ∧ b < w.heap.size) v n xs := by
  obtain ⟨p, c, hv, hc⟩ := rdf_of_own h
  refine ⟨p, c, hv, fun hne => ?_⟩
  obtain ⟨b, off, hp, hb, hx⟩ := hc hne
  obtain ⟨x, hx0⟩ : ∃ x, xs[0]? = some x := by
    cases xs with
    | nil => exact absurd rfl hne
    | cons a t => exact ⟨a, rfl⟩
  exact ⟨b, off, hp, ⟨hb, World.block_lt_of_cell? w ⟨b, off + 0, none⟩ (hx 0 x hx0)⟩, hx⟩
/-- What Without keeps from its beginning. -/
structure WS (w : World) (T : Tg) (F : Fl) (wr : World) : Prop where
  tb : wr.heap[w.heap.size]? = some (.cells #[.slice T.pR T.R.length T.cR, .slice T.pL T.L.length T.cL] 59 (0, 0))
  fb : wr.heap[w.heap.size + 1]? = some (.cells #[.slice F.pH F.H.length F.cH, .slice F.pX F.X.length F.cX] 85 (0, 0))
  rb : TRow wr (w.heap.size + 2) 59 [.slice none 0 0, .slice none 0 0]
  gr : w.grownBy wr none
  t : TgOk wr (· < w.heap.size) T
  f : FlOk wr (· < w.heap.size) F
set_option maxRecDepth 100000 in
theorem WS.keepB {w wr w' : World} {T : Tg} {F : Fl} {r : Option Nat} (h : WS w T F wr) (g : wr.grownBy w' r) (hr : ∀ b, b < w.heap.size + 3 → some b ≠ r) : WS w T F w' :=
  ⟨kept_row h.tb g (hr _ (by omega)), kept_row h.fb g (hr _ (by omega)), h.rb.kept g (hr _ (by omega)), grown_any h.gr g (fun b hb => hr b (by omega)), h.t.grown g (fun b hb => hr b (by omega)), h.f.grown g (fun b hb => hr b (by omega))⟩
set_option maxRecDepth 100000 in
theorem WS.keep {w wr w' : World} {T : Tg} {F : Fl} (h : WS w T F wr) (g : wr.grownBy w' none) : WS w T F w' := h.keepB g (fun _ _ => by simp)
set_option maxRecDepth 100000 in
theorem WS.start {w : World} {T : Tg} {F : Fl} {q q2 : Nat → Prop} (hT : TgOk w q T) (hF : FlOk w q2 F) :
    WS w T F (((w.alloc (.cells #[.slice T.pR T.R.length T.cR, .slice T.pL T.L.length T.cL] 59)).alloc (.cells #[.slice F.pH F.H.length F.cH, .slice F.pX F.X.length F.cX] 85)).alloc (.cells #[.slice none 0 0, .slice none 0 0] 59)) := by
  obtain ⟨k1, k2, k3, _⟩ := two_boxes w #[.slice T.pR T.R.length T.cR, .slice T.pL T.L.length T.cL] #[.slice F.pH F.H.length F.cH, .slice F.pX F.X.length F.cX] 59 85
  have k4 := World.grownBy_alloc ((w.alloc (.cells #[.slice T.pR T.R.length T.cR, .slice T.pL T.L.length T.cL] 59)).alloc (.cells #[.slice F.pH F.H.length F.cH, .slice F.pX F.X.length F.cX] 85)) (.cells #[.slice none 0 0, .slice none 0 0] 59) none
  have k5 := heap_alloc_new ((w.alloc (.cells #[.slice T.pR T.R.length T.cR, .slice T.pL T.L.length T.cL] 59)).alloc (.cells #[.slice F.pH F.H.length F.cH, .slice F.pX F.X.length F.cX] 85)) (.cells #[.slice none 0 0, .slice none 0 0] 59)
  have hg := grown_trans k3 k4
  refine ⟨kept_row k1 k4 (by simp), kept_row k2 k4 (by simp), ?_, hg, hT.old.keep hg, hF.old.keep hg⟩
  have e : ((w.alloc (.cells #[.slice T.pR T.R.length T.cR, .slice T.pL T.L.length T.cL] 59)).alloc (.cells #[.slice F.pH F.H.length F.cH, .slice F.pX F.X.length F.cX] 85)).heap.size = w.heap.size + 2 := by simp
  rw [e] at k5
  exact k5
/-- While routers are kept. -/
structure WR (w : World) (T : Tg) (F : Fl) (Bx base : Nat) (vR : Value) (R' : List Rt) (wr : World) : Prop where
  s : WS w T F wr
  bx : wr.heap[Bx]? = some (.cells #[vR, .slice none 0 0] 59 (0, 0))
  own : wr.ownsRow base 69 2 vR R'.length (R'.flatMap rtC)
  b1 : w.heap.size + 3 ≤ Bx ∧ Bx < base ∧ base ≤ wr.heap.size
set_option maxRecDepth 100000 in
theorem WR.keep {w wr w' : World} {T : Tg} {F : Fl} {Bx base : Nat} {vR : Value} {R' : List Rt} (h : WR w T F Bx base vR R' wr) (g : wr.grownBy w' none) : WR w T F Bx base vR R' w' :=
  ⟨h.s.keep g, kept_row h.bx g (by simp), h.own.kept g (by cases hv : vR.ownBlock <;> simp), ⟨h.b1.1, h.b1.2.1, Nat.le_trans h.b1.2.2 g.size⟩⟩
set_option maxRecDepth 100000 in
theorem WR.mid {w wr wy w1 : World} {T : Tg} {F : Fl} {Bx base : Nat} {vR v' : Value} {R' : List Rt} {y : Rt} {o : Obj} (h : WR w T F Bx base vR R' wr) (g : wr.grownBy wy none)
    (hown : w1.ownsRow base 69 2 v' (R'.length + 1) (R'.flatMap rtC ++ [.int .i64 y.id, .bool y.cap])) (hg : (wy.alloc o).grownBy w1 vR.ownBlock) :
    WS w T F w1 ∧ w1.heap[Bx]? = some (.cells #[vR, .slice none 0 0] 59 (0, 0)) ∧ w1.ownsRow base 69 2 v' (R' ++ [y]).length ((R' ++ [y]).flatMap rtC) ∧ base ≤ w1.heap.size := by
  have k0 := grown_trans g (World.grownBy_alloc wy o none)
  have hne : ∀ k, k < base → some k ≠ vR.ownBlock := fun k hk e => by
    have := (h.own.lt k e.symm).1
    omega
  have h2 := h.keep k0
  have hb := h.b1
  refine ⟨h2.s.keepB hg (fun b hb2 => hne b (by omega)), kept_row h2.bx hg (hne _ (by omega)), ?_, Nat.le_trans h2.b1.2.2 hg.size⟩
  rw [List.length_append, List.flatMap_append]
  exact hown
set_option maxRecDepth 100000 in
theorem WR.put {w w1 : World} {T : Tg} {F : Fl} {Bx base : Nat} {vR v' : Value} {R' : List Rt} (hb : w.heap.size + 3 ≤ Bx ∧ Bx < base)
    (h : WS w T F w1 ∧ w1.heap[Bx]? = some (.cells #[vR, .slice none 0 0] 59 (0, 0)) ∧ w1.ownsRow base 69 2 v' R'.length (R'.flatMap rtC) ∧ base ≤ w1.heap.size) :
    WR w T F Bx base v' R' (w1.setCell ⟨Bx, 0, none⟩ v') := by
  obtain ⟨h1, h2, h3, h4⟩ := h
  have k := grown_setCell w1 ⟨Bx, 0, none⟩ v'
  refine ⟨h1.keepB k (fun b hb2 e => by have : b = Bx := Option.some.inj e; omega), heap_setCell_same w1 Bx 0 _ _ v' h2, h3.kept k ?_, hb.1, hb.2, Nat.le_trans h4 k.size⟩
  cases hv : v'.ownBlock with
  | none => exact .inl rfl
  | some g => exact .inr (fun e => by have e2 : g = Bx := Option.some.inj e; have := (h3.lt g hv).1; omega)
/-- While links are kept. -/
structure WL (w : World) (T : Tg) (F : Fl) (Bx base : Nat) (vR vL : Value) (R' : List Rt) (L' : List Lk) (wr : World) : Prop where
  s : WS w T F wr
  bx : wr.heap[Bx]? = some (.cells #[vR, vL] 59 (0, 0))
  own : wr.ownsRow base 71 5 vL L'.length (L'.flatMap lkC)
  rd : RdR wr (fun b => Bx < b ∧ b < base) vR R'
  cv : ∃ p c, vR = .slice p R'.length c ∧ R'.length ≤ c ∧ c ≤ 9223372036854775807
  b1 : w.heap.size + 3 ≤ Bx ∧ Bx < base ∧ base ≤ wr.heap.size
set_option maxRecDepth 100000 in
theorem WL.keep {w wr w' : World} {T : Tg} {F : Fl} {Bx base : Nat} {vR vL : Value} {R' : List Rt} {L' : List Lk} (h : WL w T F Bx base vR vL R' L' wr) (g : wr.grownBy w' none) : WL w T F Bx base vR vL R' L' w' :=
  ⟨h.s.keep g, kept_row h.bx g (by simp), h.own.kept g (by cases hv : vL.ownBlock <;> simp), h.rd.keep g, h.cv, ⟨h.b1.1, h.b1.2.1, Nat.le_trans h.b1.2.2 g.size⟩⟩
set_option maxRecDepth 100000 in
theorem WL.mid {w wr wy w1 : World} {T : Tg} {F : Fl} {Bx base : Nat} {vR vL v' : Value} {R' : List Rt} {L' : List Lk} {y : Lk} {o : Obj} (h : WL w T F Bx base vR vL R' L' wr) (g : wr.grownBy wy none)
    (hown : w1.ownsRow base 71 5 v' (L'.length + 1) (L'.flatMap lkC ++ [.int .i64 y.a, .int .i64 y.b, .int .i64 y.ca, .int .i64 y.cb, .int .i64 y.cp])) (hg : (wy.alloc o).grownBy w1 vL.ownBlock) :
    WS w T F w1 ∧ w1.heap[Bx]? = some (.cells #[vR, vL] 59 (0, 0)) ∧ w1.ownsRow base 71 5 v' (L' ++ [y]).length ((L' ++ [y]).flatMap lkC) ∧ (RdR w1 (fun b => Bx < b ∧ b < base) vR R' ∧ ∃ p c, vR = .slice p R'.length c ∧ R'.length ≤ c ∧ c ≤ 9223372036854775807) ∧ base ≤ w1.heap.size := by
  have k0 := grown_trans g (World.grownBy_alloc wy o none)
  have hne : ∀ k, k < base → some k ≠ vL.ownBlock := fun k hk e => by
    have := (h.own.lt k e.symm).1
    omega
  have h2 := h.keep k0
  have hb := h.b1
  refine ⟨h2.s.keepB hg (fun b hb2 => hne b (by omega)), kept_row h2.bx hg (hne _ (by omega)), ?_, ⟨h2.rd.grown hg (fun b hb2 => hne b hb2.2), h2.cv⟩, Nat.le_trans h2.b1.2.2 hg.size⟩
  rw [List.length_append, List.flatMap_append]
  exact hown
set_option maxRecDepth 100000 in
theorem WL.put {w w1 : World} {T : Tg} {F : Fl} {Bx base : Nat} {vR vL v' : Value} {R' : List Rt} {L' : List Lk} (hb : w.heap.size + 3 ≤ Bx ∧ Bx < base)
    (h : WS w T F w1 ∧ w1.heap[Bx]? = some (.cells #[vR, vL] 59 (0, 0)) ∧ w1.ownsRow base 71 5 v' L'.length (L'.flatMap lkC) ∧ (RdR w1 (fun b => Bx < b ∧ b < base) vR R' ∧ ∃ p c, vR = .slice p R'.length c ∧ R'.length ≤ c ∧ c ≤ 9223372036854775807) ∧ base ≤ w1.heap.size) :
    WL w T F Bx base vR v' R' L' (w1.setCell ⟨Bx, 1, none⟩ v') := by
  obtain ⟨h1, h2, h3, h5, h4⟩ := h
  have k := grown_setCell w1 ⟨Bx, 1, none⟩ v'
  refine ⟨h1.keepB k (fun b hb2 e => by have : b = Bx := Option.some.inj e; omega), heap_setCell_same w1 Bx 1 _ _ v' h2, h3.kept k ?_, h5.1.grown k (fun b hb2 e => by have e2 : b = Bx := Option.some.inj e; omega), h5.2, hb.1, hb.2, Nat.le_trans h4 k.size⟩
  cases hv : v'.ownBlock with
  | none => exact .inl rfl
  | some g => exact .inr (fun e => by have e2 : g = Bx := Option.some.inj e; have := (h3.lt g hv).1; omega)
set_option maxRecDepth 100000 in
theorem topo_size : (Try.prog.info? 59).map (·.size) = some 2 := by kernel_rfl
set_option maxRecDepth 100000 in
theorem res_topo {fn : Func} {p : Tmp} (h : fn.results = #[.cell p 59]) (tmps : Array Value) (w : World) (g : Nat) (x y : Value) (hp : tmps.getD p undef = .pointer (some ⟨g, 0, none⟩)) (hg : w.heap[g]? = some (.cells #[x, y] 59 (0, 0))) :
    (results fn tmps).run Try.prog w = .ok (.agg #[x, y]) w :=
  results_cell_row h tmps w g _ _ _ _ hp hg Try.underlying59 rfl topo_size
set_option maxRecDepth 100000 in
theorem own_shape {w : World} {base size n : Nat} {e : TypeId} {v : Value} {xs : List Value} (h : w.ownsRow base e size v n xs) : ∃ p c, v = .slice p n c ∧ n ≤ c ∧ c ≤ 9223372036854775807 := by
  rcases h.2 with ⟨rfl, h0⟩ | ⟨g, cap, cur, rfl, _, _, hn, hm, _⟩
  · subst h0
    exact ⟨none, 0, rfl, Nat.le_refl _, by omega⟩
  · unfold maxLen at hm
    exact ⟨_, cap, rfl, hn, by omega⟩
set_option maxRecDepth 100000 in
theorem cells2 (w : World) (x y : Value) (t : TypeId) : ∀ j u, [x, y][j]? = some u → (w.alloc (.cells #[x, y] t)).cell? ((⟨w.heap.size, 0, none⟩ : Addr).add j) = some u := by
  intro j u hj
  have hb : (w.alloc (.cells #[x, y] t)).heap[w.heap.size]? = some (.cells #[x, y] t (0, 0)) := heap_alloc_new w _
  have hadd : (⟨w.heap.size, 0, none⟩ : Addr).add j = ⟨w.heap.size, j, none⟩ := by rw [add_plain, Nat.zero_add]
  rw [hadd, cell_of_row _ _ _ _ _ _ hb]
  simpa using hj
set_option maxRecDepth 100000 in
theorem cells5 (w : World) (a b c d e : Value) (t : TypeId) : ∀ j u, [a, b, c, d, e][j]? = some u → (w.alloc (.cells #[a, b, c, d, e] t)).cell? ((⟨w.heap.size, 0, none⟩ : Addr).add j) = some u := by
  intro j u hj
  have hb : (w.alloc (.cells #[a, b, c, d, e] t)).heap[w.heap.size]? = some (.cells #[a, b, c, d, e] t (0, 0)) := heap_alloc_new w _
  have hadd : (⟨w.heap.size, 0, none⟩ : Addr).add j = ⟨w.heap.size, j, none⟩ := by rw [add_plain, Nat.zero_add]
  rw [hadd, cell_of_row _ _ _ _ _ _ hb]
  simpa using hj
end Go.Proofs.Ytnpkihioklpnmaa

/- slices.BinarySearchFunc, for routers and for links. -/
namespace Go.Proofs.Ytnpkihioklpnmaa
open Go.RowKit Bs
end Go.Proofs.Ytnpkihioklpnmaa

/- Links in order, and the tape's topologies: the mathematics. -/
namespace Go.Proofs.Ytnpkihioklpnmaa
open Go.RowKit Bs
/-- A link laid where the lesser ones end. -/
def insL (O : List Lk) (y : Lk) : List Lk := O.takeWhile (fun x => ltL x y) ++ y :: O.dropWhile (fun x => ltL x y)
def ordL (L : List Lk) : List Lk := L.foldl insL []
set_option maxRecDepth 100000 in
theorem insL_cons (a : Lk) (t : List Lk) (y : Lk) : insL (a :: t) y = if ltL a y then a :: insL t y else y :: a :: t := by
  unfold insL
  rw [List.takeWhile_cons, List.dropWhile_cons]
  split <;> rfl
set_option maxRecDepth 100000 in
theorem insL_len (O : List Lk) (y : Lk) : (insL O y).length = O.length + 1 := by
  unfold insL
  rw [List.length_append, List.length_cons]
  have := congrArg List.length (List.takeWhile_append_dropWhile (p := fun x => ltL x y) (l := O))
  rw [List.length_append] at this
  omega
set_option maxRecDepth 100000 in
theorem ordL_take (L : List Lk) (k : Nat) (y : Lk) (h : L[k]? = some y) : ordL (L.take (k + 1)) = insL (ordL (L.take k)) y := by
  unfold ordL
  rw [List.take_add_one, h, List.foldl_append]
  rfl
set_option maxRecDepth 100000 in
theorem foldl_insL_len : ∀ (L O : List Lk), (L.foldl insL O).length = O.length + L.length
  | [], O => by simp
  | a :: t, O => by rw [List.foldl_cons, foldl_insL_len t, insL_len, List.length_cons]; omega
set_option maxRecDepth 100000 in
theorem ordL_len (L : List Lk) : (ordL L).length = L.length := by
  unfold ordL
  rw [foldl_insL_len]; simp
set_option maxRecDepth 100000 in
theorem insL_at (y : Lk) : ∀ (O : List Lk) (j : Nat), j ≤ O.length → (∀ i x, i < j → O[i]? = some x → ltL x y = true) → (∀ x, O[j]? = some x → ltL x y = false) → insL O y = O.take j ++ y :: O.drop j
  | [], j, hj, _, _ => by
    obtain rfl : j = 0 := by simpa using hj
    rfl
  | a :: t, 0, _, _, h2 => by
    rw [insL_cons, h2 a rfl]
    rfl
  | a :: t, j + 1, hj, h1, h2 => by
    rw [insL_cons, if_pos (h1 0 a (by omega) rfl), insL_at y t j (by simpa using hj) (fun i x hi hx => h1 (i + 1) x (by omega) (by simpa using hx)) (fun x hx => h2 x (by simpa using hx))]
    rfl
set_option maxRecDepth 100000 in
theorem mem_insL (y z : Lk) : ∀ O : List Lk, z ∈ insL O y ↔ z = y ∨ z ∈ O
  | [] => by simp [insL]
  | a :: t => by
    rw [insL_cons]
    split
    · rw [List.mem_cons, List.mem_cons, mem_insL y z t]
      constructor
      · rintro (h | h | h)
        · exact .inr (.inl h)
        · exact .inl h
        · exact .inr (.inr h)
      · rintro (h | h | h)
        · exact .inr (.inl h)
        · exact .inl h
        · exact .inr (.inr h)
    · simp
set_option maxRecDepth 100000 in
theorem ltL_trans {x y z : Lk} (h1 : ltL x y = true) (h2 : ltL y z = true) : ltL x z = true := by
  unfold ltL at *
  have h1 := of_decide_eq_true h1
  have h2 := of_decide_eq_true h2
  exact decide_eq_true (by omega)
/-- The ends differ. -/
def EndsNe (x y : Lk) : Prop := x.a ≠ y.a ∨ x.b ≠ y.b
set_option maxRecDepth 100000 in
theorem ltL_flip {x y : Lk} (h : ltL x y = false) (hn : EndsNe x y) : ltL y x = true := by
  unfold ltL at *
  have h := of_decide_eq_false h
  unfold EndsNe at hn
  exact decide_eq_true (by omega)
set_option maxRecDepth 100000 in
theorem insL_pair (y : Lk) : ∀ O : List Lk, O.Pairwise (fun x z => ltL x z = true) → (∀ x ∈ O, EndsNe x y) → (insL O y).Pairwise (fun x z => ltL x z = true)
  | [], _, _ => by simp [insL]
  | a :: t, hp, hn => by
    rw [insL_cons]
    obtain ⟨h1, h2⟩ := List.pairwise_cons.1 hp
    split
    · next hlt =>
      refine List.pairwise_cons.2 ⟨fun z hz => ?_, insL_pair y t h2 (fun x hx => hn x (List.mem_cons_of_mem _ hx))⟩
      rcases (mem_insL y z t).1 hz with rfl | hz
      · exact hlt
      · exact h1 z hz
    · next hlt =>
      have hya := ltL_flip (by simpa using hlt) (hn a (by simp))
      refine List.pairwise_cons.2 ⟨fun z hz => ?_, hp⟩
      rcases List.mem_cons.1 hz with rfl | hz
      · exact hya
      · exact ltL_trans hya (h1 z hz)
set_option maxRecDepth 100000 in
theorem foldl_insL_pair : ∀ (L O : List Lk), O.Pairwise (fun x z => ltL x z = true) → L.Pairwise EndsNe → (∀ x ∈ O, ∀ y ∈ L, EndsNe x y) → (L.foldl insL O).Pairwise (fun x z => ltL x z = true)
  | [], O, h, _, _ => h
  | a :: t, O, h, hL, hx => by
    obtain ⟨h1, h2⟩ := List.pairwise_cons.1 hL
    rw [List.foldl_cons]
    refine foldl_insL_pair t _ (insL_pair a O h (fun x hx1 => hx x hx1 a (by simp))) h2 (fun x hx1 y hy => ?_)
    rcases (mem_insL a x O).1 hx1 with rfl | h3
    · exact h1 y hy
    · exact hx x h3 y (List.mem_cons_of_mem _ hy)
set_option maxRecDepth 100000 in
theorem foldl_insL_mem (z : Lk) : ∀ (L O : List Lk), z ∈ L.foldl insL O ↔ z ∈ O ∨ z ∈ L
  | [], O => by simp
  | a :: t, O => by
    rw [List.foldl_cons, foldl_insL_mem z t, mem_insL, List.mem_cons]
    constructor
    · rintro ((h | h) | h)
      · exact .inr (.inl h)
      · exact .inl h
      · exact .inr (.inr h)
    · rintro (h | h | h)
      · exact .inl (.inr h)
      · exact .inl (.inl h)
      · exact .inr h
set_option maxRecDepth 100000 in
theorem ordL_mem (L : List Lk) (z : Lk) : z ∈ ordL L ↔ z ∈ L := by
  unfold ordL
  rw [foldl_insL_mem]
  simp
set_option maxRecDepth 100000 in
theorem ordL_pair (L : List Lk) (h : L.Pairwise EndsNe) : (ordL L).Pairwise (fun x z => ltL x z = true) :=
  foldl_insL_pair L [] List.Pairwise.nil h (fun x hx => by simp at hx)
set_option maxRecDepth 100000 in
theorem asc_of_pair {α : Type} (f : α → α → Bool) : ∀ l : List α, l.Pairwise (fun x z => f x z = true) → ascB f l = true
  | [], _ => rfl
  | [a], _ => rfl
  | a :: b :: t, h => by
    obtain ⟨h1, h2⟩ := List.pairwise_cons.1 h
    rw [ascB, h1 b (by simp), asc_of_pair f (b :: t) h2]
    rfl
/-- The routers 1 to k. -/
def rts (k : Nat) : List Rt := (List.range k).map fun (i : Nat) => (⟨(i : Int) + 1, true⟩ : Rt)
set_option maxRecDepth 100000 in
theorem rts_succ (k : Nat) : rts (k + 1) = rts k ++ [⟨(k : Int) + 1, true⟩] := by
  unfold rts
  rw [List.range_succ, List.map_append]
  rfl
set_option maxRecDepth 100000 in
theorem rts_len (k : Nat) : (rts k).length = k := by unfold rts; simp
set_option maxRecDepth 100000 in
theorem rts_mem (k : Nat) (r : Rt) : r ∈ rts k ↔ ∃ i : Nat, i < k ∧ r = ⟨(i : Int) + 1, true⟩ := by
  unfold rts
  rw [List.mem_map]
  constructor
  · rintro ⟨i, hi, rfl⟩; exact ⟨i, List.mem_range.1 hi, rfl⟩
  · rintro ⟨i, hi, rfl⟩; exact ⟨i, List.mem_range.2 hi, rfl⟩
/-- Links of the routers 1 to k, each before (b, a) in the order that the tape makes them, no two with the same ends. -/
structure GoodL (k b a : Int) (L : List Lk) : Prop where
  ok : ∀ l ∈ L, (1 ≤ l.a ∧ l.a < l.b ∧ l.b ≤ k) ∧ wrNum l = false
  lt : ∀ l ∈ L, l.b < b ∨ (l.b = b ∧ l.a < a)
  ne : L.Pairwise EndsNe
set_option maxRecDepth 100000 in
theorem GoodL.nil (k b a : Int) : GoodL k b a [] := ⟨by simp, by simp, List.Pairwise.nil⟩
set_option maxRecDepth 100000 in
theorem GoodL.next {k b a : Int} {L : List Lk} (h : GoodL k b a L) : GoodL k b (a + 1) L := ⟨h.ok, fun l hl => by rcases h.lt l hl with h1 | h1 <;> omega, h.ne⟩
set_option maxRecDepth 100000 in
theorem GoodL.row {k b a : Int} {L : List Lk} (h : GoodL k b a L) : GoodL k (b + 1) 1 L := ⟨h.ok, fun l hl => by rcases h.lt l hl with h1 | h1 <;> omega, h.ne⟩
set_option maxRecDepth 100000 in
theorem GoodL.add {k b a : Int} {L : List Lk} (h : GoodL k b a L) (y : Lk) (ha : y.a = a) (hb : y.b = b) (h1 : 1 ≤ a) (h2 : a < b) (h3 : b ≤ k) (hw : wrNum y = false) : GoodL k b (a + 1) (L ++ [y]) := by
  refine ⟨fun l hl => ?_, fun l hl => ?_, ?_⟩
  · rcases List.mem_append.1 hl with hl | hl
    · exact h.ok l hl
    · obtain rfl : l = y := by simpa using hl
      exact ⟨by omega, hw⟩
  · rcases List.mem_append.1 hl with hl | hl
    · rcases h.lt l hl with h4 | h4 <;> omega
    · obtain rfl : l = y := by simpa using hl
      omega
  · refine List.pairwise_append.2 ⟨h.ne, by simp, fun x hx z hz => ?_⟩
    obtain rfl : z = y := by simpa using hz
    unfold EndsNe
    rcases h.lt x hx with h4 | h4 <;> omega
set_option maxRecDepth 100000 in
theorem chk_good {k : Nat} {b a : Int} {L : List Lk} (h : GoodL k b a L) (hk : k ≤ 24) (hl : L.length ≤ 60) : chk (rts k) (ordL L) = 0 := by
  unfold chk
  rw [if_neg (by rw [rts_len, ordL_len]; omega), if_neg, if_neg, if_neg, if_neg, if_neg, if_neg]
  · rw [asc_of_pair ltL _ (ordL_pair L h.ne)]
    simp
  · rw [List.any_eq_true]
    rintro ⟨l, hl1, hw⟩
    have := (h.ok l ((ordL_mem L l).1 hl1)).1
    unfold wrEnd at hw
    have := of_decide_eq_true hw
    omega
  · rw [List.any_eq_true]
    rintro ⟨l, hl1, hw⟩
    have := (h.ok l ((ordL_mem L l).1 hl1)).1
    have hh : ∀ x : Int, 1 ≤ x → x ≤ k → hasR (rts k) x = true := fun x h1 h2 => by
      unfold hasR
      refine List.any_eq_true.2 ⟨⟨x, true⟩, (rts_mem k _).2 ⟨(x - 1).toNat, by omega, ?_⟩, by simp⟩
      congr 1
      omega
    unfold unk at hw
    rw [hh _ this.1 (by omega), hh _ (by omega) this.2.2] at hw
    simp at hw
  · rw [List.any_eq_true]
    rintro ⟨l, hl1, hw⟩
    rw [(h.ok l ((ordL_mem L l).1 hl1)).2] at hw
    cases hw
  · rw [asc_of_pair ltR (rts k)]
    · simp
    · unfold rts
      rw [List.pairwise_map]
      exact List.pairwise_lt_range.imp (fun {a b} hab => decide_eq_true (by show (a : Int) + 1 < (b : Int) + 1; omega))
  · rw [List.any_eq_true]
    rintro ⟨r, hr, hw⟩
    obtain ⟨i, hi, rfl⟩ := (rts_mem k r).1 hr
    have : wrId ⟨(i : Int) + 1, true⟩ = false := by
      unfold wrId
      rw [decide_eq_true (by constructor <;> (dsimp; omega))]
      rfl
    rw [this] at hw
    cases hw
/-- What the tape says of a topology of at most 'most' routers. -/
def TopOf (most : Nat) (n : Int) (R : List Rt) (L : List Lk) : Prop :=
  1 ≤ R.length ∧ (R.length ≤ most + 1 ∨ 25 ≤ R.length) ∧ R.length ≤ most + 25 ∧ L.length ≤ 60 ∧ (n ≤ 0 → chk R L = 0 ∧ R.length ≤ most)
end Go.Proofs.Ytnpkihioklpnmaa

/- What is left of a valid topology is valid. -/
namespace Go.Proofs.Ytnpkihioklpnmaa
open Go.RowKit Bs
set_option maxRecDepth 100000 in
theorem pair_of_asc {α : Type} (f : α → α → Bool) (ht : ∀ x y z, f x y = true → f y z = true → f x z = true) : ∀ l : List α, ascB f l = true → l.Pairwise (fun x z => f x z = true)
  | [], _ => List.Pairwise.nil
  | [a], _ => by simp
  | a :: b :: t, h => by
    rw [ascB, Bool.and_eq_true] at h
    have hp := pair_of_asc f ht (b :: t) h.2
    refine List.pairwise_cons.2 ⟨fun z hz => ?_, hp⟩
    rcases List.mem_cons.1 hz with rfl | hz
    · exact h.1
    · exact ht a b z h.1 ((List.pairwise_cons.1 hp).1 z hz)
/-- What a valid topology meets. -/
structure OkAll (R : List Rt) (L : List Lk) : Prop where
  l1 : R.length ≤ 24
  l2 : L.length ≤ 60
  id : R.any wrId = false
  rs : ascB ltR R = true
  nm : L.any wrNum = false
  un : L.any (unk R) = false
  en : L.any wrEnd = false
  ls : ascB ltL L = true
set_option maxRecDepth 100000 in
theorem chk_okAll {R : List Rt} {L : List Lk} (h : chk R L = 0) : OkAll R L := by
  unfold chk at h
  by_cases h1 : 24 < R.length ∨ 60 < L.length
  · rw [if_pos h1] at h; cases h
  rw [if_neg h1] at h
  cases h2 : R.any wrId
  case true => rw [h2] at h; cases h
  cases h3 : ascB ltR R
  case false => rw [h2, h3] at h; cases h
  cases h4 : L.any wrNum
  case true => rw [h2, h3, h4] at h; cases h
  cases h5 : L.any (unk R)
  case true => rw [h2, h3, h4, h5] at h; cases h
  cases h6 : L.any wrEnd
  case true => rw [h2, h3, h4, h5, h6] at h; cases h
  cases h7 : ascB ltL L
  case false => rw [h2, h3, h4, h5, h6, h7] at h; cases h
  exact ⟨by omega, by omega, h2, h3, h4, h5, h6, h7⟩
set_option maxRecDepth 100000 in
theorem ltR_trans (x y z : Rt) (h1 : ltR x y = true) (h2 : ltR y z = true) : ltR x z = true := by
  unfold ltR at *
  have h1 := of_decide_eq_true h1
  have h2 := of_decide_eq_true h2
  exact decide_eq_true (by omega)
end Go.Proofs.Ytnpkihioklpnmaa

/- What is looked up in a valid topology: the mathematics. -/
namespace Go.Proofs.Ytnpkihioklpnmaa
open Go.RowKit Bs
/-- The router with a number, the first. -/
def capR (R : List Rt) (x : Int) : Bool := match R.find? (fun r => decide (r.id = x)) with
  | some r => r.cap
  | none => false
/-- The cost from one router to another, of the first link that joins them. -/
def priceB (a b : Int) (l : Lk) : Option Int := if l.a = a ∧ l.b = b then some l.ca else if l.b = a ∧ l.a = b then some l.cb else none
def priceV (L : List Lk) (a b : Int) : Int × Bool := match L.findSome? (priceB a b) with
  | some c => (c, true)
  | none => (0, false)
set_option maxRecDepth 100000 in
theorem ends_lt {R : List Rt} {L : List Lk} (ho : OkAll R L) : ∀ l ∈ L, l.a < l.b := by
  intro l hl
  have h := List.any_eq_false.1 ho.en l hl
  unfold wrEnd at h
  have h2 : ¬ l.b ≤ l.a := fun hc => h (decide_eq_true hc)
  omega
/-- The neighbours of a router, in the order of the routers. -/
def nearR (R : List Rt) (L : List Lk) (x : Int) : List Int := (R.filter fun r => (priceV L x r.id).2).map (·.id)
set_option maxRecDepth 100000 in
theorem eq_of_asc : ∀ {l m : List Int}, l.Pairwise (· < ·) → m.Pairwise (· < ·) → (∀ x, x ∈ l ↔ x ∈ m) → l = m
  | [], [], _, _, _ => rfl
  | [], b :: m, _, _, h => by have := (h b).2 (by simp); cases this
  | a :: l, [], _, _, h => by have := (h a).1 (by simp); cases this
  | a :: l, b :: m, hl, hm, h => by
    obtain ⟨h1, h2⟩ := List.pairwise_cons.1 hl
    obtain ⟨h3, h4⟩ := List.pairwise_cons.1 hm
    have e : a = b := by
      have ha := (h a).1 (by simp)
      have hb := (h b).2 (by simp)
      rcases List.mem_cons.1 ha with ha | ha
      · exact ha
      rcases List.mem_cons.1 hb with hb | hb
      · exact hb.symm
      have := h1 b hb
      have := h3 a ha
      omega
    subst e
    congr 1
    refine eq_of_asc h2 h4 fun x => ?_
    constructor
    · intro hx
      rcases List.mem_cons.1 ((h x).1 (List.mem_cons_of_mem _ hx)) with rfl | hx2
      · have := h1 x hx; omega
      · exact hx2
    · intro hx
      rcases List.mem_cons.1 ((h x).2 (List.mem_cons_of_mem _ hx)) with rfl | hx2
      · have := h3 x hx; omega
      · exact hx2
set_option maxRecDepth 100000 in
theorem nb1_mem (x y : Int) (l : Lk) : y ∈ nb1 x l ↔ (l.b = x ∧ y = l.a) ∨ (l.a = x ∧ y = l.b) := by
  unfold nb1
  rw [List.mem_append]
  by_cases h1 : l.b = x <;> by_cases h2 : l.a = x <;> simp [h1, h2]
set_option maxRecDepth 100000 in
theorem price_ok (L : List Lk) (x y : Int) : (priceV L x y).2 = true ↔ ∃ l ∈ L, (l.b = x ∧ y = l.a) ∨ (l.a = x ∧ y = l.b) := by
  unfold priceV
  cases hf : L.findSome? (priceB x y) with
  | none =>
    simp only
    constructor
    · intro h; cases h
    · rintro ⟨l, hl, h⟩
      have := List.findSome?_eq_none_iff.1 hf l hl
      unfold priceB at this
      by_cases k1 : l.a = x ∧ l.b = y
      · rw [if_pos k1] at this; cases this
      · rw [if_neg k1] at this
        by_cases k2 : l.b = x ∧ l.a = y
        · rw [if_pos k2] at this; cases this
        · omega
  | some c =>
    simp only
    refine ⟨fun _ => ?_, fun _ => by trivial⟩
    obtain ⟨m, hm, hmc⟩ := List.exists_of_findSome?_eq_some hf
    refine ⟨m, hm, ?_⟩
    unfold priceB at hmc
    by_cases k1 : m.a = x ∧ m.b = y
    · exact .inr ⟨k1.1, k1.2.symm⟩
    · rw [if_neg k1] at hmc
      by_cases k2 : m.b = x ∧ m.a = y
      · exact .inl ⟨k2.1, k2.2.symm⟩
      · rw [if_neg k2] at hmc; cases hmc
set_option maxRecDepth 100000 in
theorem near_eq {R : List Rt} {L : List Lk} (ho : OkAll R L) (x : Int) : nbL L x = nearR R L x := by
  have he := ends_lt ho
  have hp := pair_of_asc ltL (fun _ _ _ => ltL_trans) L ho.ls
  have hr := pair_of_asc ltR ltR_trans R ho.rs
  refine eq_of_asc ?_ ?_ fun y => ?_
  · unfold nbL
    rw [List.pairwise_flatMap]
    refine ⟨fun l hl => ?_, ?_⟩
    · have := he l hl
      unfold nb1
      by_cases h1 : l.b = x <;> by_cases h2 : l.a = x <;> simp [h1, h2]
      omega
    · refine List.Pairwise.imp_of_mem ?_ hp
      intro l m hl hm hlm u hu v hv
      have h1 := he l hl
      have h2 := he m hm
      unfold ltL at hlm
      have h3 := of_decide_eq_true hlm
      rcases (nb1_mem x u l).1 hu with hu | hu <;> rcases (nb1_mem x v m).1 hv with hv | hv <;> omega
  · unfold nearR
    rw [List.pairwise_map]
    exact (hr.sublist List.filter_sublist).imp (fun h => of_decide_eq_true h)
  · unfold nbL nearR
    rw [List.mem_flatMap, List.mem_map]
    constructor
    · rintro ⟨l, hl, hy⟩
      have hy := (nb1_mem x y l).1 hy
      have hk := List.any_eq_false.1 ho.un l hl
      unfold unk at hk
      have hak : hasR R l.a = true ∧ hasR R l.b = true := by
        cases e1 : hasR R l.a <;> cases e2 : hasR R l.b <;> rw [e1, e2] at hk <;> simp at hk ⊢
      have hyr : hasR R y = true := by
        rcases hy with hy | hy
        · rw [hy.2]; exact hak.1
        · rw [hy.2]; exact hak.2
      obtain ⟨r, hr2, hid⟩ := List.any_eq_true.1 hyr
      have hid := of_decide_eq_true hid
      refine ⟨r, List.mem_filter.2 ⟨hr2, ?_⟩, hid⟩
      rw [hid]
      exact (price_ok L x y).2 ⟨l, hl, hy⟩
    · rintro ⟨r, hr2, rfl⟩
      obtain ⟨l, hl, h⟩ := (price_ok L x r.id).1 (List.mem_filter.1 hr2).2
      exact ⟨l, hl, (nb1_mem x r.id l).2 h⟩
end Go.Proofs.Ytnpkihioklpnmaa

/- Adverts: their values, where they lie, when they are valid. -/
namespace Go.Proofs.Ytnpkihioklpnmaa
open Go.RowKit Bs
/-- Three numbers: a link or a claim of an advert. -/
structure T3 where
  a : Int
  b : Int
  c : Int
deriving DecidableEq
def t3C (x : T3) : List Value := [.int .i64 x.a, .int .i64 x.b, .int .i64 x.c]
/-- An advert, and where its lists lie. -/
structure Ad where
  r : Int
  q : Int
  cp : Bool
  L : List T3
  C : List T3
  pL : Option Addr
  cL : Nat
  pC : Option Addr
  cC : Nat
def Ad.val (A : Ad) : Value := .agg #[.int .i64 A.r, .int .i64 A.q, .bool A.cp, .slice A.pL A.L.length A.cL, .slice A.pC A.C.length A.cC]
abbrev Rd3 (w : World) (q : Nat → Prop) (v : Value) (l : List T3) : Prop := RdF w q v l.length (l.flatMap t3C)
structure AdOk (w : World) (q : Nat → Prop) (A : Ad) : Prop where
  l : Rd3 w q (.slice A.pL A.L.length A.cL) A.L
  c : Rd3 w q (.slice A.pC A.C.length A.cC) A.C
  hl : A.L.length ≤ A.cL ∧ A.cL ≤ 9223372036854775807
  hc : A.C.length ≤ A.cC ∧ A.cC ≤ 9223372036854775807
set_option maxRecDepth 100000 in
theorem AdOk.grown {w w' : World} {q : Nat → Prop} {A : Ad} {r : Option Nat} (h : AdOk w q A) (g : w.grownBy w' r) (hq : ∀ b, q b → some b ≠ r) : AdOk w' q A := ⟨h.l.grown g hq, h.c.grown g hq, h.hl, h.hc⟩
set_option maxRecDepth 100000 in
theorem AdOk.keep {w w' : World} {q : Nat → Prop} {A : Ad} (h : AdOk w q A) (g : w.grownBy w' none) : AdOk w' q A := h.grown g (fun _ _ => by simp)
set_option maxRecDepth 100000 in
theorem AdOk.mono {w : World} {q q' : Nat → Prop} {A : Ad} (h : AdOk w q A) (hq : ∀ b, q b → q' b) : AdOk w q' A := ⟨h.l.mono hq, h.c.mono hq, h.hl, h.hc⟩
set_option maxRecDepth 100000 in
theorem rd3_cells {w : World} {q : Nat → Prop} {p : Option Addr} {n c : Nat} {l : List T3} (h : Rd3 w q (.slice p n c) l) (hn : 0 < l.length) :
    n = l.length ∧ ∃ b off, p = some ⟨b, off, none⟩ ∧ q b ∧ ∀ i x, l[i]? = some x → w.cell? ⟨b, off + i * 3, none⟩ = some (.int .i64 x.a) ∧ w.cell? ⟨b, off + i * 3 + 1, none⟩ = some (.int .i64 x.b) ∧ w.cell? ⟨b, off + i * 3 + 2, none⟩ = some (.int .i64 x.c) := by
  obtain ⟨h0, b, off, hp, hq, hc⟩ := RdF.cells (f := t3C) (k := 3) (fun _ => rfl) (by decide) h hn
  exact ⟨h0, b, off, hp, hq, fun i x hi => ⟨hc i x hi 0 _ rfl, hc i x hi 1 _ rfl, hc i x hi 2 _ rfl⟩⟩
set_option maxRecDepth 100000 in
theorem rd3_at {w : World} {q : Nat → Prop} {b off n c k : Nat} {l : List T3} {x : T3} (h : Rd3 w q (.slice (some ⟨b, off, none⟩) n c) l) (hx : l[k]? = some x) :
    w.cell? ⟨b, off + k * 3, none⟩ = some (.int .i64 x.a) ∧ w.cell? ⟨b, off + k * 3 + 1, none⟩ = some (.int .i64 x.b) ∧ w.cell? ⟨b, off + k * 3 + 2, none⟩ = some (.int .i64 x.c) := by
  obtain ⟨-, b', o', e, -, hc⟩ := rd3_cells h (by have := (List.getElem?_eq_some_iff.1 hx).1; omega)
  injection e with e
  injection e with e1 e2
  subst e1
  subst e2
  exact hc k x hx
/-! When an advert is valid. -/
def okRe (r last : Int) (x : T3) : Bool := decide (last < x.a ∧ x.a ≤ 99 ∧ x.a ≠ r ∧ (1 ≤ x.b ∧ x.b ≤ 1000) ∧ 0 ≤ x.c ∧ x.c ≤ 1000)
def vRe (r : Int) : Int → List T3 → Bool
  | _, [] => true
  | last, x :: t => okRe r last x && vRe r x.a t
def okCm (last : Int) (x : T3) : Bool := decide (last < x.a ∧ x.a ≤ 7 ∧ (1 ≤ x.b ∧ x.b ≤ 256) ∧ (x.c = 8 ∨ x.c = 16 ∨ x.c = 32 ∨ x.c = 64))
def vCm : Int → List T3 → Bool
  | _, [] => true
  | last, x :: t => okCm last x && vCm x.a t
def vHd (A : Ad) : Bool := decide ((1 ≤ A.r ∧ A.r ≤ 99) ∧ (1 ≤ A.q ∧ A.q ≤ 1000000) ∧ A.L.length ≤ 23)
def vClaims (C : List T3) : Bool := decide (C.length ≤ 8) && vCm (-1) C
def vAd (A : Ad) : Bool := vHd A && (vRe A.r 0 A.L && vClaims A.C)
/-- What came before the k-th. -/
def lastA (d : Int) (l : List T3) (k : Nat) : Int := match (l.take k).getLast? with
  | some x => x.a
  | none => d
set_option maxRecDepth 100000 in
theorem lastA_zero (d : Int) (l : List T3) : lastA d l 0 = d := by unfold lastA; rw [List.take_zero]; rfl
set_option maxRecDepth 100000 in
theorem lastA_succ {d : Int} {l : List T3} {k : Nat} {x : T3} (h : l[k]? = some x) : lastA d l (k + 1) = x.a := by
  unfold lastA
  rw [List.take_add_one, h]
  simp
set_option maxRecDepth 100000 in
theorem drop_at {l : List T3} {k : Nat} {x : T3} (h : l[k]? = some x) : l.drop k = x :: l.drop (k + 1) := by
  obtain ⟨h1, h2⟩ := List.getElem?_eq_some_iff.1 h
  rw [List.drop_eq_getElem_cons h1, h2]
set_option maxRecDepth 100000 in
theorem vRe_step {r d : Int} {l : List T3} {k : Nat} {x : T3} (h : l[k]? = some x) : vRe r (lastA d l k) (l.drop k) = (okRe r (lastA d l k) x && vRe r (lastA d l (k + 1)) (l.drop (k + 1))) := by
  rw [drop_at h, lastA_succ h]
  rfl
set_option maxRecDepth 100000 in
theorem vCm_step {d : Int} {l : List T3} {k : Nat} {x : T3} (h : l[k]? = some x) : vCm (lastA d l k) (l.drop k) = (okCm (lastA d l k) x && vCm (lastA d l (k + 1)) (l.drop (k + 1))) := by
  rw [drop_at h, lastA_succ h]
  rfl
set_option maxRecDepth 100000 in
theorem vRe_end {r d : Int} {l : List T3} : vRe r (lastA d l l.length) (l.drop l.length) = true := by rw [List.drop_length]; rfl
set_option maxRecDepth 100000 in
theorem vCm_end {d : Int} {l : List T3} : vCm (lastA d l l.length) (l.drop l.length) = true := by rw [List.drop_length]; rfl
end Go.Proofs.Ytnpkihioklpnmaa

/- advert.Of: what a router advertises of its links; the program's list is the reference's. The mathematics. -/
namespace Go.Proofs.Ytnpkihioklpnmaa
open Go.RowKit Bs
def re1 (x : Int) (l : Lk) : List T3 := (if l.b = x then [⟨l.a, l.cb, l.cp⟩] else []) ++ (if l.a = x then [⟨l.b, l.ca, l.cp⟩] else [])
/-- What a router advertises of its links. -/
def reL (L : List Lk) (x : Int) : List T3 := L.flatMap (re1 x)
set_option maxRecDepth 100000 in
theorem re1_ids (x : Int) (l : Lk) : (re1 x l).map (·.a) = nb1 x l := by
  unfold re1 nb1
  rw [List.map_append]
  split <;> split <;> rfl
set_option maxRecDepth 100000 in
theorem reL_ids (L : List Lk) (x : Int) : (reL L x).map (·.a) = nbL L x := by
  unfold reL nbL
  rw [List.map_flatMap]
  exact congrArg (fun f => List.flatMap f L) (funext fun l => re1_ids x l)
/-- Is this the link between two routers, as the reference looks for it? -/
def isLk (x y : Int) (l : Lk) : Bool := decide (l.a = min x y) && decide (l.b = max x y)
/-- The capacity as the reference finds it: of the last such link among the first k. -/
def capK (L : List Lk) (x y : Int) (k : Nat) : Int := (L.take k).foldl (fun c l => if isLk x y l then l.cp else c) 0
set_option maxRecDepth 100000 in
theorem capK_zero (L : List Lk) (x y : Int) : capK L x y 0 = 0 := by unfold capK; rw [List.take_zero]; rfl
set_option maxRecDepth 100000 in
theorem capK_succ {L : List Lk} {k : Nat} {l : Lk} (x y : Int) (h : L[k]? = some l) : capK L x y (k + 1) = if isLk x y l then l.cp else capK L x y k := by
  unfold capK
  rw [List.take_add_one, h]
  simp
set_option maxRecDepth 100000 in
theorem foldl_none (x y : Int) : ∀ (L : List Lk) (c : Int), (∀ m ∈ L, isLk x y m = false) → L.foldl (fun c l => if isLk x y l then l.cp else c) c = c
  | [], _, _ => rfl
  | l :: L, c, h => by
    rw [List.foldl_cons, h l List.mem_cons_self]
    exact foldl_none x y L c fun m hm => h m (List.mem_cons_of_mem _ hm)
set_option maxRecDepth 100000 in
theorem foldl_one (x y : Int) (l : Lk) : ∀ (L : List Lk) (c : Int), l ∈ L → isLk x y l = true → (∀ m ∈ L, isLk x y m = true → m = l) → L.foldl (fun c l => if isLk x y l then l.cp else c) c = l.cp
  | [], _, h, _, _ => by cases h
  | m :: L, c, hm, h1, hu => by
    rw [List.foldl_cons]
    by_cases h2 : ∃ k ∈ L, isLk x y k = true
    · obtain ⟨k, hk, hkl⟩ := h2
      obtain rfl := hu k (List.mem_cons_of_mem _ hk) hkl
      exact foldl_one x y k L _ hk h1 fun n hn => hu n (List.mem_cons_of_mem _ hn)
    · have hml : m = l := by
        rcases List.mem_cons.1 hm with e | hm
        · exact e.symm
        · exact absurd ⟨l, hm, h1⟩ h2
      subst hml
      rw [if_pos h1]
      refine foldl_none x y L _ fun k hk => ?_
      cases e : isLk x y k
      · rfl
      · exact absurd ⟨k, hk, e⟩ h2
/-- The reference's entry for a neighbour. -/
def refE (L : List Lk) (x y : Int) : T3 := ⟨y, (priceV L x y).1, capK L x y L.length⟩
set_option maxRecDepth 100000 in
theorem pair_mem {α : Type} {R : α → α → Prop} (hR : ∀ a b, R a b → R b a → False) : ∀ {l : List α}, l.Pairwise R → ∀ a ∈ l, ∀ b ∈ l, a = b ∨ R a b ∨ R b a
  | [], _, a, ha, _, _ => by cases ha
  | c :: l, h, a, ha, b, hb => by
    obtain ⟨h1, h2⟩ := List.pairwise_cons.1 h
    rcases List.mem_cons.1 ha with ea | ka <;> rcases List.mem_cons.1 hb with eb | kb
    · exact .inl (ea.trans eb.symm)
    · rw [ea]; exact .inr (.inl (h1 b kb))
    · rw [eb]; exact .inr (.inr (h1 a ka))
    · exact pair_mem hR h2 a ka b kb
set_option maxRecDepth 100000 in
theorem link_uniq {R : List Rt} {L : List Lk} (ho : OkAll R L) {l m : Lk} (hl : l ∈ L) (hm : m ∈ L) (h1 : l.a = m.a) (h2 : l.b = m.b) : l = m := by
  have hp := pair_of_asc ltL (fun _ _ _ => ltL_trans) L ho.ls
  rcases pair_mem (fun a b h3 h4 => by unfold ltL at h3 h4; have h3 := of_decide_eq_true h3; have h4 := of_decide_eq_true h4; omega) hp l hl m hm with e | e | e
  · exact e
  · unfold ltL at e; have e := of_decide_eq_true e; omega
  · unfold ltL at e; have e := of_decide_eq_true e; omega
set_option maxRecDepth 100000 in
theorem isLk_iff {x y : Int} {l : Lk} : isLk x y l = true ↔ l.a = min x y ∧ l.b = max x y := by
  unfold isLk
  rw [Bool.and_eq_true, decide_eq_true_eq, decide_eq_true_eq]
set_option maxRecDepth 100000 in
theorem ent_ok {R : List Rt} {L : List Lk} (ho : OkAll R L) (x : Int) {z : T3} (hz : z ∈ reL L x) : refE L x z.a = z := by
  have he := ends_lt ho
  unfold reL at hz
  obtain ⟨l, hl, hz⟩ := List.mem_flatMap.1 hz
  have h1 := he l hl
  have hcase : (l.b = x ∧ z = ⟨l.a, l.cb, l.cp⟩) ∨ (l.a = x ∧ z = ⟨l.b, l.ca, l.cp⟩) := by
    unfold re1 at hz
    rw [List.mem_append] at hz
    by_cases h1 : l.b = x <;> by_cases h2 : l.a = x <;> simp [h1, h2] at hz ⊢ <;> first | exact hz | exact .inl hz | exact .inr hz
  have hcap : ∀ y, isLk x y l = true → capK L x y L.length = l.cp := fun y hy => by
    unfold capK
    rw [List.take_length]
    refine foldl_one x y l L 0 hl hy fun m hm hml => ?_
    have a1 := isLk_iff.1 hy
    have a2 := isLk_iff.1 hml
    exact link_uniq ho hm hl (a2.1.trans a1.1.symm) (a2.2.trans a1.2.symm)
  have hpr : ∀ y c, priceB x y l = some c → (∀ m ∈ L, ∀ d, priceB x y m = some d → m = l) → (priceV L x y).1 = c := fun y c h2 h3 => by
    unfold priceV
    cases hf : L.findSome? (priceB x y) with
    | none => rw [List.findSome?_eq_none_iff.1 hf l hl] at h2; cases h2
    | some d =>
      obtain ⟨m, hm, hmc⟩ := List.exists_of_findSome?_eq_some hf
      obtain rfl := h3 m hm d hmc
      rw [hmc] at h2
      exact Option.some.inj h2
  have hpm : ∀ y m d, priceB x y m = some d → (m.a = x ∧ m.b = y) ∨ (m.b = x ∧ m.a = y) := fun y m d h2 => by
    unfold priceB at h2
    by_cases k1 : m.a = x ∧ m.b = y
    · exact .inl k1
    · rw [if_neg k1] at h2
      by_cases k2 : m.b = x ∧ m.a = y
      · exact .inr k2
      · rw [if_neg k2] at h2; cases h2
  rcases hcase with ⟨e, rfl⟩ | ⟨e, rfl⟩
  · subst e
    unfold refE
    simp only
    rw [hcap l.a (isLk_iff.2 (by omega)), hpr l.a l.cb (by unfold priceB; rw [if_neg (by omega), if_pos ⟨rfl, rfl⟩]) fun m hm d hd => ?_]
    have h2 := he m hm
    rcases hpm _ m d hd with h3 | h3
    · omega
    · exact link_uniq ho hm hl h3.2 h3.1
  · subst e
    unfold refE
    simp only
    rw [hcap l.b (isLk_iff.2 (by omega)), hpr l.b l.ca (by unfold priceB; rw [if_pos ⟨rfl, rfl⟩]) fun m hm d hd => ?_]
    have h2 := he m hm
    rcases hpm _ m d hd with h3 | h3
    · exact link_uniq ho hm hl h3.1 h3.2
    · omega
set_option maxRecDepth 100000 in
/-- The reference's list is the program's. -/
theorem ref_reL {R : List Rt} {L : List Lk} (ho : OkAll R L) (x : Int) : (nearR R L x).map (refE L x) = reL L x := by
  rw [← near_eq ho, ← reL_ids, List.map_map]
  refine (List.map_congr_left fun z hz => ?_).trans (List.map_id _)
  exact ent_ok ho x hz
end Go.Proofs.Ytnpkihioklpnmaa

/- Rows of structs: parts of them, and append. -/
namespace Go.Proofs.Ytnpkihioklpnmaa
open Go.RowKit Bs
set_option maxRecDepth 100000 in
/-- A walk stops here. -/
theorem hold_on {p : Prop} (h : Hid p) : p := h.out
set_option maxRecDepth 100000 in
theorem flat_drop {α : Type} (f : α → List Value) (k : Nat) (hf : ∀ x, (f x).length = k) : ∀ (l : List α) (j : Nat), (l.drop j).flatMap f = (l.flatMap f).drop (j * k)
  | [], j => by simp
  | a :: t, 0 => by simp
  | a :: t, j + 1 => by
    rw [List.drop_succ_cons, flat_drop f k hf t j, List.flatMap_cons, Nat.add_mul, Nat.one_mul, Nat.add_comm, ← List.drop_drop, List.drop_append_of_le_length (by rw [hf]; exact Nat.le_refl _), ← hf a, List.drop_length, List.nil_append]
set_option maxRecDepth 100000 in
theorem flat_take {α : Type} (f : α → List Value) (k : Nat) (hf : ∀ x, (f x).length = k) : ∀ (l : List α) (j : Nat), (l.take j).flatMap f = (l.flatMap f).take (j * k)
  | [], j => by simp
  | a :: t, 0 => by simp
  | a :: t, j + 1 => by
    rw [List.take_succ_cons, List.flatMap_cons, flat_take f k hf t j, List.flatMap_cons, List.take_append, hf, List.take_of_length_le (l := f a) (by rw [hf, Nat.add_mul]; omega), Nat.add_mul, Nat.one_mul, Nat.add_sub_cancel]
set_option maxRecDepth 100000 in
theorem RdF.part {α : Type} {f : α → List Value} {k : Nat} (hf : ∀ x, (f x).length = k) {w : World} {q : Nat → Prop} {p : Option Addr} {c : Nat} {l : List α} (h : RdF w q (.slice p l.length c) l.length (l.flatMap f)) (j : Nat) (hj : j ≤ l.length) (c' : Nat) :
    RdF w q (.slice p j c') (l.take j).length ((l.take j).flatMap f) := by
  obtain ⟨p1, c1, e1, hx⟩ := h
  injection e1 with a1 a2 a3
  subst a1
  have hlen : (l.take j).length = j := by rw [List.length_take]; omega
  rw [hlen]
  refine ⟨p, c', rfl, fun hne => ?_⟩
  rw [flat_take f k hf] at hne ⊢
  obtain ⟨b, off, hp, hq, hc⟩ := hx (by intro e; rw [e] at hne; simp at hne)
  refine ⟨b, off, hp, hq, fun i x hi => hc i x ?_⟩
  rw [List.getElem?_take] at hi
  split at hi
  · exact hi
  · cases hi
set_option maxRecDepth 100000 in
theorem RdF.rest {α : Type} {f : α → List Value} {k : Nat} (hf : ∀ x, (f x).length = k) {w : World} {q : Nat → Prop} {b off c : Nat} {l : List α} (h : RdF w q (.slice (some ⟨b, off, none⟩) l.length c) l.length (l.flatMap f)) (j : Nat) (c' : Nat) :
    RdF w q (.slice (some ⟨b, off + j * k, none⟩) (l.length - j) c') (l.drop j).length ((l.drop j).flatMap f) := by
  obtain ⟨p1, c1, e1, hx⟩ := h
  injection e1 with a1 a2 a3
  subst a1
  have hlen : (l.drop j).length = l.length - j := by rw [List.length_drop]
  rw [hlen]
  refine ⟨_, c', rfl, fun hne => ?_⟩
  rw [flat_drop f k hf] at hne ⊢
  obtain ⟨b1, off1, hp, hq, hc⟩ := hx (by intro e; rw [e] at hne; simp at hne)
  injection hp with hp
  injection hp with hb ho
  subst hb
  subst ho
  refine ⟨b, off + j * k, rfl, hq, fun i x hi => ?_⟩
  rw [List.getElem?_drop] at hi
  rw [Nat.add_assoc]
  exact hc _ x hi
set_option maxRecDepth 100000 in
theorem rdf_news {w : World} {q : Nat → Prop} {ad : Addr} {n c m : Nat} {xs : List Value} (hR : RdF w q (.slice (some ad) n c) m xs) : ∀ j u, xs[j]? = some u → w.cell? (ad.add j) = some u := by
  intro j u hj
  obtain ⟨p1, c1, e1, hx⟩ := hR
  injection e1 with a1 a2 a3
  subst a1
  obtain ⟨b, off, hp, hq, hc⟩ := hx (by intro e; rw [e] at hj; simp at hj)
  injection hp with hp
  subst hp
  rw [add_plain]
  exact hc j u hj
set_option maxRecDepth 100000 in
theorem rdf_one {w : World} {b off n : Nat} {xs : List Value} (q : Nat → Prop) (hq : q b) (h : ∀ j u, xs[j]? = some u → w.cell? ((⟨b, off, none⟩ : Addr).add j) = some u) (c : Nat) : RdF w q (.slice (some ⟨b, off, none⟩) n c) n xs :=
  ⟨_, c, rfl, fun _ => ⟨b, off, rfl, hq, fun i x hi => by have := h i x hi; rw [add_plain] at this; exact this⟩⟩
set_option maxRecDepth 100000 in
theorem wpList_append_f {α : Type} (f : α → List Value) (size bytes : Nat) (hsz : 0 < size) (hf : ∀ x, (f x).length = size) (hone : ∀ x, ∀ u ∈ f x, u.oneCell' = true) (e t : TypeId) (i : TypeInfo) (z : Value)
    (ht : Try.prog.underlying t = some (.slice e)) (hi : Try.prog.info? e = some i) (hz : i.zero = some z) (hsize : i.size = size) (hby : i.bytes = bytes) (hzs : z.cells.size = size) (hb40 : bytes ≤ 1000)
    {w : World} {ops : Array Oper} {rest : List Oper} {o : Oper} {a : Act} {Q : Exit → Act → World → Prop} (hgd : o.guard = none) (s x : Operand)
    (ho : o.op = .call { callee := .builtin .append, args := #[s, x], argTypes := #[t, t] }) (base : Nat) (v : Value) (l : List α) (n : Nat) (hn : n = l.length) (hs : a.eval s = v) (hown : w.ownsRow base e size v n (l.flatMap f))
    (p : Option Addr) (k c : Nat) (r : List α) (hx : a.eval x = .slice p k c) (hk : k = r.length) (hn0 : p = none → c = 0) (q : Nat → Prop) (hR : RdF w q (.slice p k c) r.length (r.flatMap f)) (hkc : k ≤ c) (h63 : n + r.length ≤ 100000) (hbase : base ≤ w.heap.size)
    (h : ∀ v' w', w'.ownsRow base e size v' (l ++ r).length ((l ++ r).flatMap f) → w.grownBy w' v.ownBlock → wpList Try.prog ops Q rest (a.put o.dst v') w') : wpList Try.prog ops Q (o :: rest) a w := by
  subst hn
  cases p with
  | none =>
    obtain rfl := hn0 rfl
    have hr : r.length = 0 := by omega
    obtain rfl := List.eq_nil_of_length_eq_zero hr
    obtain rfl : k = 0 := hk
    refine wpList_append_own_none hgd s x t ho base e i size ht hi v l.length (l.flatMap f) hs hown hx ?_
    refine h v w ?_ (grown_refl _ _)
    rw [List.append_nil]; exact hown
  | some ad =>
    have hb2 : (l.length + k) * bytes ≤ 140737488355328 := Nat.le_trans (Nat.mul_le_mul (show l.length + k ≤ 100000 by omega) hb40) (by decide)
    refine wpList_append_own w hgd s x t ho base e i z size bytes ht hi hz hsize hby hzs hsz v l.length (l.flatMap f) hs hown ad k c (r.flatMap f) hx (by rw [flat_len f size hf, hk]) (rdf_news hR) ?_ (by unfold maxLen; omega) hb2 hbase ?_
    · intro u hu
      obtain ⟨y, _, hy⟩ := List.mem_flatMap.1 hu
      exact hone y u hy
    · intro v' w' h1 h2 _
      refine h v' w' ?_ h2
      rw [List.length_append, List.flatMap_append, ← hk]; exact h1
set_option maxRecDepth 100000 in
theorem own_apartF {w w1 : World} {base base2 size size2 : Nat} {e e2 : TypeId} {v v2 : Value} {n m : Nat} {xs ys : List Value} (h : w.ownsRow base e size v n xs) (hv : w.ownsRow base2 e2 size2 v2 m ys) (hg : ∀ g, v.ownBlock = some g → g < base2) (k : w.grownBy w1 v2.ownBlock) : w1.ownsRow base e size v n xs := by
  refine h.kept k ?_
  cases hb : v.ownBlock with
  | none => exact .inl rfl
  | some g =>
    refine .inr fun e => ?_
    have := (hv.lt g e.symm).1
    have := hg g hb
    omega
set_option maxRecDepth 100000 in
theorem old_grow {w w1 : World} {base2 size2 : Nat} {e2 : TypeId} {v2 : Value} {m : Nat} {ys : List Value} {W : World} (g : W.grownBy w none) (hv : w.ownsRow base2 e2 size2 v2 m ys) (hb : W.heap.size ≤ base2) (k : w.grownBy w1 v2.ownBlock) : W.grownBy w1 none :=
  grown_any g k (fun b hlt e => by have := (hv.lt b e.symm).1; omega)
set_option maxRecDepth 100000 in
theorem lk_one (x : Lk) : ∀ u ∈ lkC x, u.oneCell' = true := by
  intro u hu
  simp [lkC] at hu
  rcases hu with rfl | rfl | rfl | rfl | rfl <;> rfl
end Go.Proofs.Ytnpkihioklpnmaa
