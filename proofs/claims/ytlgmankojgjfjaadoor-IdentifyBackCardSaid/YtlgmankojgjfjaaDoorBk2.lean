/- Parts of the proof, packed: IoPut, IoRows, ToMath, ToMem, ToLeaf, ToFuns, IdM, IdRsM, ToSeek, ToRow, ToJoin, ToCheck, ToNear, ToHop, ToCheckR, ToFail, ToWith. -/
import Derived.Test.YtlgmankojgjfjaaDoorBk1
import Derived.Laws.AppendOwnNone
import Derived.Laws.CopyOwn
import Derived.Laws.ResultCell
import Derived.Deep.Onto
import Derived.Deep.AppendLies
import Derived.Deep.RegionHeld3
import Derived.Shelf.Abstract
import Derived.Deep.CutRange
import Derived.Deep.QuietTactic
import Derived.BigQuiet
import Derived.IntWalk
import Derived.Lib.SmallJoins
/- Streams as values; the reference's Put. -/
namespace Go.Proofs.YtlgmankojgjfjaaDoor
open Go.RowKit Bs
set_option maxRecDepth 100000 in
theorem add_plain (b off j : Nat) : (⟨b, off, none⟩ : Addr).add j = ⟨b, off + j, none⟩ := by unfold Addr.add; split <;> simp_all
set_option maxRecDepth 100000 in
theorem Rd.news {w : World} {q : Nat → Prop} {ad : Addr} {n c : Nat} {r : List Nat} (hR : Rd w q (.slice (some ad) n c) (r.map nv)) : ∀ j u, (r.map nv)[j]? = some u → w.cell? (ad.add j) = some u := by
  obtain ⟨p1, c1, e1, hx⟩ := hR
  injection e1 with a1 a2 a3
  subst a1
  intro j u hj
  obtain ⟨b, off, hp, hq, hc⟩ := hx (by intro e; rw [e] at hj; simp at hj)
  obtain rfl := Option.some.inj hp
  rw [add_plain]; exact hc j u hj
set_option maxRecDepth 100000 in
theorem grown_drew {w w' : World} {r : Option Nat} (h : w.grownBy w' r) : w.grownBy w'.drew r := ⟨h.os, h.tape, h.output, h.size, h.block⟩
set_option maxRecDepth 100000 in
/-- Two blocks laid one behind the other. -/
theorem two_boxes (w : World) (A Z : Array Value) (t u : TypeId) :
    ((w.alloc (.cells A t)).alloc (.cells Z u)).heap[w.heap.size]? = some (.cells A t (0, 0)) ∧ ((w.alloc (.cells A t)).alloc (.cells Z u)).heap[w.heap.size + 1]? = some (.cells Z u (0, 0)) ∧
      w.grownBy ((w.alloc (.cells A t)).alloc (.cells Z u)) none ∧ ((w.alloc (.cells A t)).alloc (.cells Z u)).heap.size = w.heap.size + 2 := by
  have e1 : (w.alloc (.cells A t)).heap.size = w.heap.size + 1 := by simp
  refine ⟨?_, ?_, grown_trans (World.grownBy_alloc w _ _) (World.grownBy_alloc _ _ _), by simp⟩
  · rw [Below.heap_alloc _ _ _ (by omega)]; exact heap_alloc_new w _
  · rw [← e1]; exact heap_alloc_new _ _
set_option maxRecDepth 100000 in
theorem row_cells {w : World} {b : Nat} {x y : Value} {t : TypeId} (h : w.heap[b]? = some (.cells #[x, y] t (0, 0))) : w.cell? ⟨b, 0, none⟩ = some x ∧ w.cell? ⟨b, 1, none⟩ = some y := by
  refine ⟨?_, ?_⟩
  · rw [cell_of_row _ _ _ _ _ _ h]; rfl
  · rw [cell_of_row _ _ _ _ _ _ h]; rfl
set_option maxRecDepth 100000 in
theorem kept_row {w w' : World} {b : Nat} {o : Obj} {r : Option Nat} (h : w.heap[b]? = some o) (g : w.grownBy w' r) (hr : some b ≠ r) : w'.heap[b]? = some o :=
  (g.block b (Array.getElem?_eq_some_iff.1 h).1 hr).trans h
set_option maxRecDepth 100000 in
theorem own_ne {w : World} {base k n : Nat} {e : TypeId} {v : Value} {xs : List Value} (h : w.ownsRow base e 1 v n xs) (hk : k < base) : some k ≠ v.ownBlock := by
  intro e2
  have := (h.lt k e2.symm).1
  omega
set_option maxRecDepth 100000 in
theorem own_form {w : World} {base n : Nat} {e : TypeId} {v : Value} {xs : List Value} (h : w.ownsRow base e 1 v n xs) (hn : 0 < n) : ∃ g cap, v = .slice (some ⟨g, 0, none⟩) n cap ∧ base ≤ g := by
  rcases h.2 with ⟨_, h0⟩ | ⟨g, cap, cur, rfl, hb, _⟩
  · omega
  · exact ⟨g, cap, rfl, hb⟩
set_option maxRecDepth 100000 in
theorem store2 {w : World} {b : Nat} {x y u z : Value} {t : TypeId} (h : w.heap[b]? = some (.cells #[x, y] t (0, 0))) : ((w.setCell ⟨b, 0, none⟩ u).setCell ⟨b, 1, none⟩ z).heap[b]? = some (.cells #[u, z] t (0, 0)) := by
  have e1 := heap_setCell_same w b 0 _ _ u h
  have e2 := heap_setCell_same _ b 1 _ _ z e1
  rw [e2]; rfl
set_option maxRecDepth 100000 in
theorem grown_store2 (w : World) (b : Nat) (u z : Value) : w.grownBy ((w.setCell ⟨b, 0, none⟩ u).setCell ⟨b, 1, none⟩ z) (some b) := grown_trans (grown_setCell w ⟨b, 0, none⟩ u) (grown_setCell _ ⟨b, 1, none⟩ z)
set_option maxRecDepth 100000 in
/-- What lies behind the call's start may turn. -/
theorem grown_new {w w1 w2 : World} {b : Nat} (h : w.grownBy w1 none) (k : w1.grownBy w2 (some b)) (hb : w.heap.size ≤ b) : w.grownBy w2 none :=
  ⟨k.os.trans h.os, k.tape.trans h.tape, k.output.trans h.output, Nat.le_trans h.size k.size, fun i hi _ => (k.block i (Nat.lt_of_lt_of_le hi h.size) (by intro e; have := Option.some.inj e; omega)).trans (h.block i hi (by simp))⟩
end Go.Proofs.YtlgmankojgjfjaaDoor

/- Rows of the call's own that grow apart. -/
namespace Go.Proofs.YtlgmankojgjfjaaDoor
open Go.RowKit Bs
def zv (x : Nat) : Value := .int .i64 (x : Int)
set_option maxRecDepth 100000 in
theorem zv_one {l : List Nat} : ∀ u ∈ l.map zv, u.oneCell' = true := by
  intro u hu
  obtain ⟨x, _, rfl⟩ := List.mem_map.1 hu
  rfl
set_option maxRecDepth 100000 in
/-- append of ints that are read, onto a row of the call's own. -/
theorem wpList_append_ints {w : World} {ops : Array Oper} {rest : List Oper} {o : Oper} {a : Act} {Q : Exit → Act → World → Prop} (hgd : o.guard = none) (s x : Operand)
    (ho : o.op = .call { callee := .builtin .append, args := #[s, x], argTypes := #[22, 22] }) (base : Nat) (v : Value) (n : Nat) (l : List Nat) (hs : a.eval s = v) (hown : w.ownsRow base 3 1 v n (l.map zv))
    (p : Option Addr) (k c : Nat) (r : List Nat) (hx : a.eval x = .slice p k c) (hk : k = r.length) (hn0 : p = none → c = 0 ∧ k = 0) (hnews : ∀ ad, p = some ad → ∀ j u, (r.map zv)[j]? = some u → w.cell? (ad.add j) = some u) (h63 : n + r.length ≤ 100000) (hbase : base ≤ w.heap.size)
    (h : ∀ v' w', w'.ownsRow base 3 1 v' (n + r.length) ((l ++ r).map zv) → w.grownBy w' v.ownBlock → wpList Tryd.prog ops Q rest (a.put o.dst v') w') : wpList Tryd.prog ops Q (o :: rest) a w := by
  obtain ⟨i0, hi, hz0, hz1, hz2⟩ := info_parts info_int
  subst hk
  cases p with
  | none =>
    obtain ⟨rfl, hr⟩ := hn0 rfl
    obtain rfl := List.eq_nil_of_length_eq_zero hr
    refine wpList_append_own_none hgd s x 22 ho base 3 i0 1 Tryd.underlying22 hi v n (l.map zv) hs hown hx ?_
    refine h v w ?_ (grown_refl _ _)
    rw [List.append_nil]; exact hown
  | some ad =>
    refine wpList_append_own w hgd s x 22 ho base 3 i0 (.int .i64 0) 1 8 Tryd.underlying22 hi hz0 hz1 hz2 rfl (by decide) v n (l.map zv) hs hown ad r.length c (r.map zv) hx (by simp) (hnews ad rfl) zv_one (by unfold maxLen; omega) (by omega) hbase ?_
    intro v' w' h1 h2 _
    refine h v' w' ?_ h2
    rw [List.map_append]; exact h1
set_option maxRecDepth 100000 in
theorem tp_new2 {w1 w2 : World} {a b : Nat} (h : Tp w1 a) (k : w1.grownBy w2 (some b)) (hb : a < b) : Tp w2 a := by
  have hlt := h.lt
  obtain ⟨v, n, i, T⟩ := h
  have hb' : w2.heap[a]? = w1.heap[a]? := k.block a hlt (by intro e; have := Option.some.inj e; omega)
  refine ⟨v, n, i, (World.cell?_of_block (a := ⟨a, 0, none⟩) hb').trans T.l, (World.cell?_of_block (a := ⟨a, 1, none⟩) hb').trans T.p, (World.frozen?_of_block (a := ⟨a, 1, none⟩) hb').trans T.fr, ?_, T.le, T.len⟩
  obtain ⟨p, c, hv, hc⟩ := T.ints
  refine ⟨p, c, hv, fun hn => ?_⟩
  obtain ⟨g, off, hp, hg, hx⟩ := hc hn
  exact ⟨g, off, hp, hg, fun i hi => by obtain ⟨x, hx, hcell⟩ := hx i hi; exact ⟨x, hx, k.cell hcell (by intro e; have e2 : g = b := Option.some.inj e; omega)⟩⟩
set_option maxRecDepth 100000 in
theorem own_cap {w : World} {base n g cap : Nat} {e : TypeId} {xs : List Value} (h : w.ownsRow base e 1 (.slice (some ⟨g, 0, none⟩) n cap) n xs) : n ≤ cap ∧ cap ≤ maxLen := by
  rcases h.2 with ⟨h0, _⟩ | ⟨g', cap', cur, hv, _, _, hn, hc, _⟩
  · cases h0
  · injection hv with _ _ h3
    subst h3
    exact ⟨hn, hc⟩
set_option maxRecDepth 100000 in
/-- An order is made: the old row g is read, the new one lies behind. -/
theorem own_apart {w w1 : World} {base base2 g n cap : Nat} {e : TypeId} {v : Value} {m : Nat} {e2 : TypeId} {xs ys : List Value} (h : w.ownsRow base e 1 (.slice (some ⟨g, 0, none⟩) n cap) n xs) (hv : w.ownsRow base2 e2 1 v m ys) (hg : g < base2) (k : w.grownBy w1 v.ownBlock) : w1.ownsRow base e 1 (.slice (some ⟨g, 0, none⟩) n cap) n xs :=
  h.kept k (.inr (own_ne hv hg))
set_option maxRecDepth 100000 in
theorem St.own_grow {a base n : Nat} {W w w1 : World} {e : TypeId} {v : Value} {xs : List Value} (h : St a W w) (ho : w.ownsRow base e 1 v n xs) (hb : W.heap.size ≤ base) (ha : a < W.heap.size) (k : w.grownBy w1 v.ownBlock) : St a W w1 := by
  have g : W.grownBy w1 (some a) := ⟨k.os.trans h.1.os, k.tape.trans h.1.tape, k.output.trans h.1.output, Nat.le_trans h.1.size k.size, fun i hi hia => (k.block i (Nat.lt_of_lt_of_le hi h.1.size) (own_ne ho (by omega))).trans (h.1.block i hi hia)⟩
  refine ⟨g, ?_⟩
  cases hv : v.ownBlock with
  | none => rw [hv] at k; exact h.2.keep k
  | some b =>
    rw [hv] at k
    exact tp_new2 h.2 k (by have := (ho.lt b hv).1; omega)
set_option maxRecDepth 100000 in
theorem St.none_ {a : Nat} {W w w1 : World} (h : St a W w) (g : w.grownBy w1 none) : St a W w1 := ⟨grown_trans h.1 (grown_none g _), h.2.keep g⟩
end Go.Proofs.YtlgmankojgjfjaaDoor

/- Topologies: the mathematics. -/
namespace Go.Proofs.YtlgmankojgjfjaaDoor
open Go.RowKit Bs
/-- A router and a link. -/
structure Rt where
  id : Int
  cap : Bool
structure Lk where
  a : Int
  b : Int
  ca : Int
  cb : Int
  cp : Int
def rtC (r : Rt) : List Value := [.int .i64 r.id, .bool r.cap]
def lkC (l : Lk) : List Value := [.int .i64 l.a, .int .i64 l.b, .int .i64 l.ca, .int .i64 l.cb, .int .i64 l.cp]
def wrId (r : Rt) : Bool := !decide (1 ≤ r.id ∧ r.id ≤ 99)
def wrNum (l : Lk) : Bool := !decide ((1 ≤ l.ca ∧ l.ca ≤ 1000) ∧ (1 ≤ l.cb ∧ l.cb ≤ 1000) ∧ (0 ≤ l.cp ∧ l.cp ≤ 1000))
def hasR (R : List Rt) (x : Int) : Bool := R.any fun r => decide (r.id = x)
def unk (R : List Rt) (l : Lk) : Bool := !hasR R l.a || !hasR R l.b
def wrEnd (l : Lk) : Bool := decide (l.b ≤ l.a)
def ltR (r s : Rt) : Bool := decide (r.id < s.id)
def ltL (l m : Lk) : Bool := decide (l.a < m.a ∨ (l.a = m.a ∧ l.b < m.b))
/-- Strictly ascending. -/
def ascB {α : Type} (f : α → α → Bool) : List α → Bool
  | a :: b :: t => f a b && ascB f (b :: t)
  | _ => true
set_option maxRecDepth 100000 in
theorem ascB_iff {α : Type} (f : α → α → Bool) : ∀ l : List α, ascB f l = true ↔ ∀ i x y, l[i]? = some x → l[i + 1]? = some y → f x y = true
  | [] => by simp [ascB]
  | [a] => by simp [ascB]
  | a :: b :: t => by
    rw [ascB, Bool.and_eq_true, ascB_iff f (b :: t)]
    constructor
    · rintro ⟨h1, h2⟩ i x y hx hy
      cases i with
      | zero => simp at hx hy; subst hx; subst hy; exact h1
      | succ i => exact h2 i x y (by simpa using hx) (by simpa using hy)
    · intro h
      exact ⟨h 0 a b rfl rfl, fun i x y hx hy => h (i + 1) x y (by simpa using hx) (by simpa using hy)⟩
/-- What Check returns. -/
def chk (R : List Rt) (L : List Lk) : Int :=
  if 24 < R.length ∨ 60 < L.length then 3
  else if R.any wrId then 2
  else if !ascB ltR R then 25
  else if L.any wrNum then 2
  else if L.any (unk R) then 4
  else if L.any wrEnd then 8
  else if !ascB ltL L then 25 else 0
set_option maxRecDepth 100000 in
theorem any_take {α : Type} {p : α → Bool} {l : List α} {k : Nat} {x : α} (h : (l.take k).any p = false) (hx : l[k]? = some x) (hp : p x = false) : (l.take (k + 1)).any p = false := by
  rw [List.take_add_one, List.any_append, h, hx]
  simpa using hp
set_option maxRecDepth 100000 in
theorem any_at {α : Type} {p : α → Bool} {l : List α} {k : Nat} {x : α} (hx : l[k]? = some x) (hp : p x = true) : l.any p = true :=
  List.any_eq_true.2 ⟨x, List.mem_of_getElem? hx, hp⟩
set_option maxRecDepth 100000 in
theorem any_end {α : Type} {p : α → Bool} {l : List α} {k : Nat} (h : (l.take k).any p = false) (hk : l.length ≤ k) : l.any p = false := by
  rwa [List.take_of_length_le hk] at h
set_option maxRecDepth 100000 in
/-- The cells of a list of elements of k cells each. -/
theorem flat_at {α : Type} (f : α → List Value) (n : Nat) (hf : ∀ x, (f x).length = n) : ∀ (l : List α) (i j : Nat) (x : α), l[i]? = some x → j < n → (l.flatMap f)[i * n + j]? = (f x)[j]?
  | [], i, j, x, h, _ => by simp at h
  | m :: l, 0, j, x, h, hj => by
    obtain rfl : m = x := by simpa using h
    rw [List.flatMap_cons, Nat.zero_mul, Nat.zero_add, List.getElem?_append_left (by rw [hf]; exact hj)]
  | m :: l, i + 1, j, x, h, hj => by
    rw [List.flatMap_cons, List.getElem?_append_right (by rw [hf, Nat.add_mul]; omega), show (i + 1) * n + j - (f m).length = i * n + j by rw [hf, Nat.add_mul]; omega]
    exact flat_at f n hf l i j x (by simpa using h) hj
set_option maxRecDepth 100000 in
theorem flat_len {α : Type} (f : α → List Value) (n : Nat) (hf : ∀ x, (f x).length = n) : ∀ (l : List α), (l.flatMap f).length = l.length * n
  | [] => by simp
  | m :: l => by rw [List.flatMap_cons, List.length_append, hf, flat_len f n hf l, List.length_cons, Nat.add_mul]; omega
end Go.Proofs.YtlgmankojgjfjaaDoor

/- Topologies in memory. -/
namespace Go.Proofs.YtlgmankojgjfjaaDoor
open Go.RowKit Bs
set_option maxRecDepth 100000 in
theorem tone_box (w : World) (A : Array Value) (t : TypeId) : (w.alloc (.cells A t)).heap[w.heap.size]? = some (.cells A t (0, 0)) ∧ w.grownBy (w.alloc (.cells A t)) none :=
  ⟨heap_alloc_new w _, World.grownBy_alloc w _ _⟩
/-- The slice value v has n elements, whose cells are xs. -/
def RdF (w : World) (q : Nat → Prop) (v : Value) (n : Nat) (xs : List Value) : Prop :=
  ∃ p c, v = .slice p n c ∧ (xs ≠ [] → ∃ b off, p = some ⟨b, off, none⟩ ∧ q b ∧ ∀ i x, xs[i]? = some x → w.cell? ⟨b, off + i, none⟩ = some x)
set_option maxRecDepth 100000 in
theorem RdF.grown {w w' : World} {q : Nat → Prop} {v : Value} {n : Nat} {xs : List Value} {r : Option Nat} (h : RdF w q v n xs) (g : w.grownBy w' r) (hq : ∀ b, q b → some b ≠ r) : RdF w' q v n xs := by
  obtain ⟨p, c, hv, hc⟩ := h
  refine ⟨p, c, hv, fun hne => ?_⟩
  obtain ⟨b, off, hp, hb, hx⟩ := hc hne
  exact ⟨b, off, hp, hb, fun i x hi => g.cell (hx i x hi) (hq b hb)⟩
set_option maxRecDepth 100000 in
theorem RdF.keep {w w' : World} {q : Nat → Prop} {v : Value} {n : Nat} {xs : List Value} (h : RdF w q v n xs) (g : w.grownBy w' none) : RdF w' q v n xs := h.grown g (fun _ _ => by simp)
set_option maxRecDepth 100000 in
theorem RdF.mono {w : World} {q q' : Nat → Prop} {v : Value} {n : Nat} {xs : List Value} (h : RdF w q v n xs) (hq : ∀ b, q b → q' b) : RdF w q' v n xs := by
  obtain ⟨p, c, hv, hc⟩ := h
  refine ⟨p, c, hv, fun hne => ?_⟩
  obtain ⟨b, off, hp, hb, hx⟩ := hc hne
  exact ⟨b, off, hp, hq b hb, hx⟩
set_option maxRecDepth 100000 in
theorem rdf_nil (w : World) (q : Nat → Prop) (p : Option Addr) (c : Nat) : RdF w q (.slice p 0 c) 0 [] := ⟨p, c, rfl, fun h => absurd rfl h⟩
set_option maxRecDepth 100000 in
theorem rdf_of_own {w : World} {base size : Nat} {e : TypeId} {v : Value} {n : Nat} {xs : List Value} (h : w.ownsRow base e size v n xs) : RdF w (base ≤ ·) v n xs := by
  rcases h.2 with ⟨rfl, h0⟩ | ⟨g, cap, cur, rfl, hb, hg, _⟩
  · subst h0
    have hl : xs = [] := List.eq_nil_of_length_eq_zero (by have := h.1; omega)
    exact ⟨none, 0, rfl, fun hne => absurd hl hne⟩
  · refine ⟨some ⟨g, 0, none⟩, cap, rfl, fun _ => ⟨g, 0, rfl, hb, fun i x hi => ?_⟩⟩
    have := h.cells (g := g) rfl i x hi
    have hadd : (⟨g, 0, none⟩ : Addr).add i = ⟨g, 0 + i, none⟩ := by unfold Addr.add; split <;> simp_all
    rw [hadd] at this
    exact this
set_option maxRecDepth 100000 in
theorem RdF.cells {α : Type} {f : α → List Value} {k : Nat} (hf : ∀ x, (f x).length = k) (hk : 0 < k) {w : World} {q : Nat → Prop} {p : Option Addr} {n c : Nat} {l : List α} (h : RdF w q (.slice p n c) l.length (l.flatMap f)) (hn : 0 < l.length) :
    n = l.length ∧ ∃ b off, p = some ⟨b, off, none⟩ ∧ q b ∧ ∀ i x, l[i]? = some x → ∀ j y, (f x)[j]? = some y → w.cell? ⟨b, off + i * k + j, none⟩ = some y := by
  obtain ⟨p1, c1, e1, hx⟩ := h
  injection e1 with a1 a2 a3
  subst a1
  have hne : l.flatMap f ≠ [] := by
    intro e
    have h2 := flat_len f k hf l
    rw [e, List.length_nil] at h2
    have := Nat.mul_pos hn hk
    omega
  obtain ⟨b, off, hp, hq, hc⟩ := hx hne
  refine ⟨a2, b, off, hp, hq, fun i x hi j y hj => ?_⟩
  have hjk : j < k := by
    have := (List.getElem?_eq_some_iff.1 hj).1
    rw [hf] at this
    exact this
  rw [Nat.add_assoc]
  exact hc _ _ ((flat_at f k hf l i j x hi hjk).trans hj)
/-- Routers, links, hops, that are read. -/
abbrev RdR (w : World) (q : Nat → Prop) (v : Value) (R : List Rt) : Prop := RdF w q v R.length (R.flatMap rtC)
abbrev RdL5 (w : World) (q : Nat → Prop) (v : Value) (L : List Lk) : Prop := RdF w q v L.length (L.flatMap lkC)
set_option maxRecDepth 100000 in
theorem rdr_cells {w : World} {q : Nat → Prop} {p : Option Addr} {n c : Nat} {R : List Rt} (h : RdR w q (.slice p n c) R) (hn : 0 < R.length) :
    n = R.length ∧ ∃ b off, p = some ⟨b, off, none⟩ ∧ q b ∧ ∀ i x, R[i]? = some x → w.cell? ⟨b, off + i * 2, none⟩ = some (.int .i64 x.id) ∧ w.cell? ⟨b, off + i * 2 + 1, none⟩ = some (.bool x.cap) := by
  obtain ⟨h0, b, off, hp, hq, hc⟩ := RdF.cells (f := rtC) (k := 2) (fun _ => rfl) (by decide) h hn
  exact ⟨h0, b, off, hp, hq, fun i x hi => ⟨hc i x hi 0 _ rfl, hc i x hi 1 _ rfl⟩⟩
set_option maxRecDepth 100000 in
theorem rdl_cells {w : World} {q : Nat → Prop} {p : Option Addr} {n c : Nat} {L : List Lk} (h : RdL5 w q (.slice p n c) L) (hn : 0 < L.length) :
    n = L.length ∧ ∃ b off, p = some ⟨b, off, none⟩ ∧ q b ∧ ∀ i x, L[i]? = some x → w.cell? ⟨b, off + i * 5, none⟩ = some (.int .i64 x.a) ∧ w.cell? ⟨b, off + i * 5 + 1, none⟩ = some (.int .i64 x.b) ∧ w.cell? ⟨b, off + i * 5 + 2, none⟩ = some (.int .i64 x.ca) ∧ w.cell? ⟨b, off + i * 5 + 3, none⟩ = some (.int .i64 x.cb) ∧ w.cell? ⟨b, off + i * 5 + 4, none⟩ = some (.int .i64 x.cp) := by
  obtain ⟨h0, b, off, hp, hq, hc⟩ := RdF.cells (f := lkC) (k := 5) (fun _ => rfl) (by decide) h hn
  exact ⟨h0, b, off, hp, hq, fun i x hi => ⟨hc i x hi 0 _ rfl, hc i x hi 1 _ rfl, hc i x hi 2 _ rfl, hc i x hi 3 _ rfl, hc i x hi 4 _ rfl⟩⟩
end Go.Proofs.YtlgmankojgjfjaaDoor

/- topology: within, wrongID, wrongNumbers, the comparisons. -/
namespace Go.Proofs.YtlgmankojgjfjaaDoor
open Go.RowKit Bs
def cmpV (x y : Int) : Int := if x < y then -1 else if y < x then 1 else 0
set_option maxRecDepth 100000 in
theorem cmpV_lt {x y : Int} : (cmpV x y < 0) ↔ x < y := by unfold cmpV; split <;> (try split) <;> omega
set_option maxRecDepth 100000 in
theorem cmpV_ge {x y : Int} : (0 ≤ cmpV x y) ↔ y ≤ x := by unfold cmpV; split <;> (try split) <;> omega
set_option maxRecDepth 100000 in
theorem cmpV_eq {x y : Int} : (cmpV x y = 0) ↔ x = y := by unfold cmpV; split <;> (try split) <;> omega
set_option maxRecDepth 100000 in
set_option maxHeartbeats 1600000 in
theorem tcmp_any (x y : Int) (w : World) :
    Calls Tryd.prog 28 #[.int .i64 x, .int .i64 y] w fun e w' => e = .returned (.int .i64 (cmpV x y)) ∧ w' = w := by
  have N : ∀ (z : Int) (w : World), Calls Tryd.prog 51 #[.int .i64 z] w fun e w' => e = .returned (.bool false) ∧ w' = w := by
    intro z w
    go_enter Tryd.func51, Tryd.ntmps51
    go_wp2_with fail
    go_ret
    first | exact ⟨rfl, rfl⟩ | exact ⟨by simp, rfl⟩
  go_enter Tryd.func28, Tryd.ntmps28
  by_cases h1 : x < y
  · go_wp2_with (go_at_call 51; refine (N _ _).mono ?_; rintro e w' ⟨rfl, rfl⟩)
    go_ret
    exact ⟨by unfold cmpV; rw [if_pos (by omega)]; rfl, rfl⟩
  · by_cases h2 : y < x
    · go_wp2_with (go_at_call 51; refine (N _ _).mono ?_; rintro e w' ⟨rfl, rfl⟩)
      go_ret
      exact ⟨by unfold cmpV; rw [if_neg (by omega), if_pos (by omega)]; rfl, rfl⟩
    · go_wp2_with (go_at_call 51; refine (N _ _).mono ?_; rintro e w' ⟨rfl, rfl⟩)
      go_ret
      exact ⟨by unfold cmpV; rw [if_neg (by omega), if_neg (by omega)]; rfl, rfl⟩
end Go.Proofs.YtlgmankojgjfjaaDoor

/- topology: lists that are searched by functions; what is ascending. -/
namespace Go.Proofs.YtlgmankojgjfjaaDoor
open Go.RowKit Bs
/-- The first number of a list that is not 0. -/
def orV : List Int → Int
  | [] => 0
  | x :: r => if x = 0 then orV r else x
set_option maxRecDepth 100000 in
theorem orV_take {r : List Int} {k : Nat} {y : Int} (h : orV (r.take k) = 0) (hy : r[k]? = some y) : orV (r.take (k + 1)) = y := by
  induction r generalizing k with
  | nil => simp at hy
  | cons x r ih =>
    cases k with
    | zero =>
      obtain rfl : x = y := by simpa using hy
      show (if x = 0 then orV (r.take 0) else x) = x
      split
      · rename_i e; rw [e]; rfl
      · rfl
    | succ k =>
      rw [List.take_succ_cons, orV] at h
      rw [List.take_succ_cons, orV]
      by_cases e : x = 0
      · rw [if_pos e] at h ⊢
        exact ih h (by simpa using hy)
      · rw [if_neg e] at h
        exact absurd h e
set_option maxRecDepth 100000 in
theorem orV_pre {r : List Int} {k : Nat} (h : orV (r.take k) ≠ 0) : orV r = orV (r.take k) := by
  induction r generalizing k with
  | nil => simp
  | cons x r ih =>
    cases k with
    | zero => exact absurd rfl h
    | succ k =>
      rw [List.take_succ_cons, orV] at h ⊢
      rw [orV]
      by_cases e : x = 0
      · rw [if_pos e] at h ⊢
        rw [if_pos e]
        exact ih h
      · rw [if_neg e]
        rw [if_neg e]
set_option maxRecDepth 100000 in
theorem rdi_at {w : World} {q : Nat → Prop} {p : Option Addr} {n c : Nat} {r : List Int} (h : Rd w q (.slice p n c) (r.map (fun z => Value.int .i64 z))) (hn : 0 < r.length) :
    n = r.length ∧ ∃ b off, p = some ⟨b, off, none⟩ ∧ q b ∧ ∀ i x, r[i]? = some x → w.cell? ⟨b, off + i, none⟩ = some (.int .i64 x) := by
  obtain ⟨p1, c1, e1, hx⟩ := h
  injection e1 with a1 a2 a3
  subst a1
  obtain ⟨b, off, hp, hq, hc⟩ := hx (by intro e; have := congrArg List.length e; simp only [List.length_map, List.length_nil] at this; omega)
  refine ⟨by rw [a2, List.length_map], b, off, hp, hq, fun i x hi => hc i _ ?_⟩
  rw [List.getElem?_map, hi]; rfl
set_option maxRecDepth 100000 in
set_option maxHeartbeats 1600000 in
theorem tor_any (r : List Int) (p : Option Addr) (c : Nat) (q : Nat → Prop) (w : World) (hR : Rd w q (.slice p r.length c) (r.map (fun z => Value.int .i64 z))) (hm : r.length ≤ 9223372036854775807) :
    Calls Tryd.prog 79 #[.slice p r.length c] w fun e w' => e = .returned (.int .i64 (orV r)) ∧ w' = w := by
  have HR := Lib.hid hR
  clear hR
  go_enter Tryd.func79, Tryd.ntmps79
  go_wp2_with fail
  go_loopw [8] (fun a wr => ∃ k : Nat, k ≤ r.length ∧ a = .int .i64 (k : Int) ∧ wr = w ∧ Hid (orV (r.take k) = 0)) (fun a _ => r.length - (RowKit.intOf a).toNat)
  case atStart => exact ⟨0, Nat.zero_le _, rfl, rfl, Lib.hid rfl⟩
  case round =>
    obtain ⟨k, hk, rfl, rfl, H0⟩ := hrel
    by_cases hlt : k < r.length
    · obtain ⟨-, b, off, rfl, hq, hc⟩ := rdi_at HR.out (by omega)
      obtain ⟨y, hy⟩ : ∃ y, r[k]? = some y := ⟨_, List.getElem?_eq_getElem hlt⟩
      have c0 := hc k y hy
      have HY := Lib.hid hy
      clear hc hy
      by_cases e : y = 0
      · have HE := Lib.hid e
        subst e
        go_wp2_with fail
        exact ⟨⟨k + 1, by omega, congrArg _ (by omega), trivial, Lib.hid (orV_take H0.out HY.out)⟩, by simp only [RowKit.intOf]; omega⟩
      · have e' : (y != 0) = true := by simpa using e
        go_wp2_with fail
        go_ret
        refine ⟨?_, rfl⟩
        have h1 := orV_take H0.out HY.out
        have h2 := orV_pre (r := r) (k := k + 1) (by rw [h1]; exact e)
        rw [h2, h1]; rfl
    · obtain rfl : k = r.length := by omega
      go_wp2_with fail
      go_ret
      have := H0.out
      rw [List.take_length] at this
      rw [this]
      exact ⟨rfl, rfl⟩
set_option maxRecDepth 100000 in
theorem rd_pair (w : World) (x y : Int) (q : Nat → Prop) (hq : q w.heap.size) : Rd (w.alloc (.cells #[.int .i64 x, .int .i64 y] 3)) q (.slice (some ⟨w.heap.size, 0, none⟩) 2 2) ([x, y].map (fun z => Value.int .i64 z)) := by
  have hb : (w.alloc (.cells #[.int .i64 x, .int .i64 y] 3)).heap[w.heap.size]? = some (.cells #[.int .i64 x, .int .i64 y] 3 (0, 0)) := heap_alloc_new w _
  refine ⟨_, 2, rfl, fun _ => ⟨_, _, rfl, hq, fun i u hi => ?_⟩⟩
  rw [Nat.zero_add, cell_of_row _ _ _ _ _ _ hb]
  simpa using hi
end Go.Proofs.YtlgmankojgjfjaaDoor

/- identify: claims and plans, the mathematics. -/
namespace Go.Proofs.YtlgmankojgjfjaaDoor
open Go.RowKit Bs
/-- A router's claim of an ID: router, subdomain, ID, length. -/
structure Od where
  r : Int
  s : Int
  i : Int
  l : Int
def odC (x : Od) : List Value := [.int .i64 x.r, .int .i64 x.s, .int .i64 x.i, .int .i64 x.l]
set_option maxRecDepth 100000 in
theorem od_len (x : Od) : (odC x).length = 4 := rfl
set_option maxRecDepth 100000 in
theorem od_one (x : Od) : ∀ u ∈ odC x, u.oneCell' = true := by
  intro u hu
  simp [odC] at hu
  rcases hu with rfl | rfl | rfl | rfl <;> rfl
def inV (n a b : Int) : Bool := decide (a ≤ n ∧ n ≤ b)
def wrO (x : Od) : Bool := !(inV x.r 1 99 && inV x.s 0 7 && inV x.i 1 256 && vl x.l)
def ltO (x y : Od) : Bool := decide (x.r < y.r ∨ (x.r = y.r ∧ x.s < y.s))
def cmpO (x y : Od) : Int := orV [cmpV x.r y.r, cmpV x.s y.s]
set_option maxRecDepth 100000 in
theorem cmpO_ge {x y : Od} : (0 ≤ cmpO x y) ↔ ltO x y = false := by
  unfold cmpO ltO orV orV orV cmpV
  rw [decide_eq_false_iff_not]
  repeat' split
  all_goals omega
/-- What Check returns. -/
def ckO (l : List Od) : Int := if 192 < l.length then 3 else if l.any wrO then 2 else if ascB ltO l then 0 else 25
def isO (sub id : Int) (x : Od) : Bool := decide (x.s = sub ∧ x.i = id)
/-- How many claims for a subdomain have an ID. -/
def cntO (l : List Od) (sub id : Int) : Nat := l.countP (isO sub id)
set_option maxRecDepth 100000 in
theorem cnt_snoc (l : List Od) (x : Od) (sub id : Int) : cntO (l ++ [x]) sub id = cntO l sub id + if x.s = sub ∧ x.i = id then 1 else 0 := by
  unfold cntO
  rw [List.countP_append]
  congr 1
  by_cases h : x.s = sub ∧ x.i = id
  · have e : isO sub id x = true := decide_eq_true h
    rw [if_pos h, List.countP_cons_of_pos e]; rfl
  · have e : ¬ isO sub id x = true := by unfold isO; simpa using h
    rw [if_neg h, List.countP_cons_of_neg e]; rfl
set_option maxRecDepth 100000 in
theorem cnt_take {l : List Od} {k : Nat} {x : Od} (hx : l[k]? = some x) (sub id : Int) : cntO (l.take (k + 1)) sub id = cntO (l.take k) sub id + if x.s = sub ∧ x.i = id then 1 else 0 := by
  rw [List.take_add_one, hx]
  exact cnt_snoc _ _ _ _
set_option maxRecDepth 100000 in
theorem cntO_le (l : List Od) (sub id : Int) : cntO l sub id ≤ l.length := List.countP_le_length
set_option maxRecDepth 100000 in
theorem ck_any {l : List Od} (h : ckO l = 0) : l.length ≤ 192 ∧ l.any wrO = false ∧ ascB ltO l = true := by
  unfold ckO at h
  by_cases h1 : 192 < l.length
  · rw [if_pos h1] at h; cases h
  · rw [if_neg h1] at h
    cases h2 : l.any wrO
    · rw [h2] at h
      cases h3 : ascB ltO l
      · rw [h3] at h; cases h
      · exact ⟨by omega, rfl, rfl⟩
    · rw [h2] at h; cases h
set_option maxRecDepth 100000 in
theorem wr_fields {x : Od} (h : wrO x = false) : (1 ≤ x.r ∧ x.r ≤ 99) ∧ (0 ≤ x.s ∧ x.s ≤ 7) ∧ (1 ≤ x.i ∧ x.i ≤ 256) ∧ vl x.l = true := by
  unfold wrO inV at h
  have h2 : (decide (1 ≤ x.r ∧ x.r ≤ 99) && decide (0 ≤ x.s ∧ x.s ≤ 7) && decide (1 ≤ x.i ∧ x.i ≤ 256) && vl x.l) = true := by
    cases hh : (decide (1 ≤ x.r ∧ x.r ≤ 99) && decide (0 ≤ x.s ∧ x.s ≤ 7) && decide (1 ≤ x.i ∧ x.i ≤ 256) && vl x.l)
    · rw [hh] at h; cases h
    · rfl
  simp only [Bool.and_eq_true, decide_eq_true_eq] at h2
  exact ⟨h2.1.1.1, h2.1.1.2, h2.1.2, h2.2⟩
set_option maxRecDepth 100000 in
theorem any_mem {α : Type} {p : α → Bool} {l : List α} (h : l.any p = false) {x : α} (hx : x ∈ l) : p x = false := by
  cases hp : p x
  · rfl
  · rw [List.any_eq_true.2 ⟨x, hx, hp⟩] at h; cases h
set_option maxRecDepth 100000 in
theorem ck_id {l : List Od} (h : ckO l = 0) {x : Od} (hx : x ∈ l) : 1 ≤ x.i ∧ x.i ≤ 256 := (wr_fields (any_mem (ck_any h).2.1 hx)).2.2.1
/-- The numbers from 0 to n - 1. -/
def idr (n : Nat) : List Int := (List.range n).map (fun k : Nat => (k : Int))
set_option maxRecDepth 100000 in
theorem idr_succ (n : Nat) : idr (n + 1) = idr n ++ [(n : Int)] := by
  unfold idr
  rw [List.range_succ, List.map_append]; rfl
set_option maxRecDepth 100000 in
theorem idr_mem {n : Nat} {x : Int} : x ∈ idr n ↔ 0 ≤ x ∧ x < n := by
  unfold idr
  rw [List.mem_map]
  constructor
  · rintro ⟨k, hk, rfl⟩
    have := List.mem_range.1 hk
    omega
  · intro h
    exact ⟨x.toNat, List.mem_range.2 (by omega), by omega⟩
/-- One claim more for the least length. -/
def lnS (sub : Int) (a : Int) (x : Od) : Int := if x.s = sub ∧ (a = 0 ∨ x.l < a) then x.l else a
def lnK (l : List Od) (sub : Int) : Int := l.foldl (lnS sub) 0
def lnO (l : List Od) (sub : Int) : Int := if ckO l = 0 then lnK l sub else 0
set_option maxRecDepth 100000 in
theorem lnK_take {l : List Od} {k : Nat} {x : Od} (hx : l[k]? = some x) (sub : Int) : lnK (l.take (k + 1)) sub = lnS sub (lnK (l.take k) sub) x := by
  unfold lnK
  rw [List.take_add_one, hx]
  show ((l.take k) ++ [x]).foldl _ _ = _
  rw [List.foldl_append]; rfl
/-- The least number from 1 to 256 that is not counted. -/
def FreeIs (c : Nat → Nat) (n : Int) (ok : Bool) : Prop :=
  (ok = true ∧ 1 ≤ n ∧ n ≤ 256 ∧ c n.toNat = 0 ∧ ∀ j : Nat, 1 ≤ j → (j : Int) < n → c j ≠ 0) ∨ (ok = false ∧ n = 0 ∧ ∀ j : Nat, 1 ≤ j → j ≤ 256 → c j ≠ 0)
/-- A router and its ID. -/
structure Ed where
  r : Int
  i : Int
def edC (e : Ed) : List Value := [.int .i64 e.r, .int .i64 e.i]
set_option maxRecDepth 100000 in
theorem ed_one (x : Ed) : ∀ u ∈ edC x, u.oneCell' = true := by
  intro u hu
  simp [edC] at hu
  rcases hu with rfl | rfl <;> rfl
def wrE (e : Ed) : Bool := !(inV e.r 1 99 && inV e.i 1 256)
def ltE (x y : Ed) : Bool := decide (x.i < y.i)
def repI (r : List Int) : Bool := (List.range r.length).any fun i => (r.take i).contains (r.getD i 0)
/-- Is a plan valid? -/
def vPl (sub len : Int) (E : List Ed) : Bool :=
  inV sub 0 7 && (vl len || (decide (len = 0) && decide (E.length = 0))) && decide (E.length ≤ 24) && !E.any wrE && ascB ltE E && !repI (E.map Ed.r)
def edOf (x : Od) : Ed := ⟨x.r, x.i⟩
/-- The edges of claims in their order. -/
def e1P (l : List Od) (sub : Int) (x : Od) : Bool := decide (x.s = sub ∧ cntO l sub x.i = 1)
def e1K (l m : List Od) (sub : Int) : List Ed := (m.filter (e1P l sub)).map edOf
set_option maxRecDepth 100000 in
theorem e1K_yes {l m : List Od} {sub : Int} {k : Nat} {x : Od} (hx : m[k]? = some x) (h : x.s = sub ∧ cntO l sub x.i = 1) : e1K l (m.take (k + 1)) sub = e1K l (m.take k) sub ++ [edOf x] := by
  unfold e1K
  rw [List.take_add_one, hx]
  show List.map _ (List.filter _ (m.take k ++ [x])) = _
  have e : e1P l sub x = true := decide_eq_true h
  rw [List.filter_append, List.filter_cons_of_pos e, List.map_append]; rfl
set_option maxRecDepth 100000 in
theorem e1K_no {l m : List Od} {sub : Int} {k : Nat} {x : Od} (hx : m[k]? = some x) (h : ¬ (x.s = sub ∧ cntO l sub x.i = 1)) : e1K l (m.take (k + 1)) sub = e1K l (m.take k) sub := by
  unfold e1K
  rw [List.take_add_one, hx]
  show List.map _ (List.filter _ (m.take k ++ [x])) = _
  have e : ¬ e1P l sub x = true := by unfold e1P; simpa using h
  rw [List.filter_append, List.filter_cons_of_neg e, List.filter_nil, List.append_nil]
/-- The edges of one ID, and of the first n numbers. -/
def e2I (l : List Od) (sub id : Int) : List Ed := if cntO l sub id = 1 then (l.filter (isO sub id)).map edOf else []
def e2K (l : List Od) (sub : Int) (n : Nat) : List Ed := (idr n).flatMap (e2I l sub)
set_option maxRecDepth 100000 in
theorem e2K_succ (l : List Od) (sub : Int) (n : Nat) : e2K l sub (n + 1) = e2K l sub n ++ e2I l sub n := by
  unfold e2K
  rw [idr_succ, List.flatMap_append]
  simp
set_option maxRecDepth 100000 in
theorem one_of_count {α : Type} (p : α → Bool) : ∀ l : List α, l.countP p = 1 → ∃ x, x ∈ l ∧ l.filter p = [x]
  | l, h => by
    rw [List.countP_eq_length_filter] at h
    obtain ⟨x, hx⟩ := List.length_eq_one_iff.1 h
    exact ⟨x, (List.mem_filter.1 (by rw [hx]; exact List.mem_singleton.2 rfl : x ∈ l.filter p)).1, hx⟩
set_option maxRecDepth 100000 in
theorem e2I_mem {l : List Od} {sub id : Int} {e : Ed} (h : e ∈ e2I l sub id) : e.i = id := by
  unfold e2I at h
  split at h
  · obtain ⟨x, hx, rfl⟩ := List.mem_map.1 h
    exact (of_decide_eq_true (List.mem_filter.1 hx).2).2
  · cases h
set_option maxRecDepth 100000 in
theorem e2I_len (l : List Od) (sub id : Int) : (e2I l sub id).length ≤ 1 := by
  unfold e2I
  split
  · rename_i h
    obtain ⟨x, -, hx⟩ := one_of_count _ _ h
    rw [hx]; exact Nat.le_refl _
  · exact Nat.zero_le _
set_option maxRecDepth 100000 in
/-- The second form ascends by ID. -/
theorem e2K_asc (l : List Od) (sub : Int) : ∀ n : Nat, (∀ e ∈ e2K l sub n, 0 ≤ e.i ∧ e.i < n) ∧ (e2K l sub n).Pairwise (fun x y => x.i < y.i)
  | 0 => ⟨fun e he => (by cases he), List.Pairwise.nil⟩
  | n + 1 => by
    obtain ⟨h1, h2⟩ := e2K_asc l sub n
    rw [e2K_succ]
    refine ⟨fun e he => ?_, ?_⟩
    · rcases List.mem_append.1 he with h | h
      · have := h1 e h; omega
      · have := e2I_mem h; omega
    · refine List.pairwise_append.2 ⟨h2, ?_, fun x hx y hy => ?_⟩
      · have h3 := e2I_len l sub n
        rcases hh : e2I l sub n with _ | ⟨a, _ | ⟨b, t⟩⟩
        · exact List.Pairwise.nil
        · exact List.pairwise_singleton _ _
        · rw [hh] at h3; simp at h3
      · have := (h1 x hx).2
        have := e2I_mem hy
        omega
set_option maxRecDepth 100000 in
theorem pair_ascE : ∀ E : List Ed, E.Pairwise (fun x y => x.i < y.i) → ascB ltE E = true
  | [], _ => rfl
  | [a], _ => rfl
  | a :: b :: t, h => by
    have h1 := List.pairwise_cons.1 h
    rw [ascB, pair_ascE (b :: t) h1.2, Bool.and_true]
    exact decide_eq_true (h1.1 b (List.mem_cons_self ..))
set_option maxRecDepth 100000 in
/-- Two lists that ascend by ID and hold the same edges are equal. -/
theorem asc_uniqE : ∀ E F : List Ed, E.Pairwise (fun x y => x.i < y.i) → F.Pairwise (fun x y => x.i < y.i) → (∀ e, e ∈ E ↔ e ∈ F) → E = F
  | [], F, _, _, h => by
    cases F with
    | nil => rfl
    | cons b t => exact absurd ((h b).2 (List.mem_cons_self ..)) (by simp)
  | a :: s, [], _, _, h => absurd ((h a).1 (List.mem_cons_self ..)) (by simp)
  | a :: s, b :: t, hE, hF, h => by
    obtain ⟨e1, e2⟩ := List.pairwise_cons.1 hE
    obtain ⟨f1, f2⟩ := List.pairwise_cons.1 hF
    have hab : a = b := by
      rcases List.mem_cons.1 ((h a).1 (List.mem_cons_self ..)) with h1 | h1
      · exact h1
      · rcases List.mem_cons.1 ((h b).2 (List.mem_cons_self ..)) with h2 | h2
        · exact h2.symm
        · have := f1 a h1
          have := e1 b h2
          omega
    subst hab
    congr 1
    refine asc_uniqE s t e2 f2 fun e => ?_
    constructor
    · intro hm
      rcases List.mem_cons.1 ((h e).1 (List.mem_cons_of_mem _ hm)) with h1 | h1
      · have := e1 e hm; rw [h1] at this; omega
      · exact h1
    · intro hm
      rcases List.mem_cons.1 ((h e).2 (List.mem_cons_of_mem _ hm)) with h1 | h1
      · have := f1 e hm; rw [h1] at this; omega
      · exact h1
set_option maxRecDepth 100000 in
theorem e1_mem {l : List Od} {sub : Int} {e : Ed} : e ∈ e1K l l sub ↔ ∃ x ∈ l, x.s = sub ∧ cntO l sub x.i = 1 ∧ edOf x = e := by
  unfold e1K
  rw [List.mem_map]
  constructor
  · rintro ⟨x, hx, rfl⟩
    obtain ⟨h1, h2⟩ := List.mem_filter.1 hx
    have := of_decide_eq_true h2
    exact ⟨x, h1, this.1, this.2, rfl⟩
  · rintro ⟨x, h1, h2, h3, rfl⟩
    exact ⟨x, List.mem_filter.2 ⟨h1, decide_eq_true ⟨h2, h3⟩⟩, rfl⟩
set_option maxRecDepth 100000 in
theorem e2_mem {l : List Od} (hv : ckO l = 0) {sub : Int} {e : Ed} : e ∈ e2K l sub 257 ↔ ∃ x ∈ l, x.s = sub ∧ cntO l sub x.i = 1 ∧ edOf x = e := by
  unfold e2K
  rw [List.mem_flatMap]
  constructor
  · rintro ⟨id, _, he⟩
    unfold e2I at he
    split at he
    · rename_i hc
      obtain ⟨x, hx, rfl⟩ := List.mem_map.1 he
      obtain ⟨h1, h2⟩ := List.mem_filter.1 hx
      have h3 := of_decide_eq_true h2
      exact ⟨x, h1, h3.1, by rw [h3.2]; exact hc, rfl⟩
    · cases he
  · rintro ⟨x, h1, h2, h3, rfl⟩
    have := ck_id hv h1
    refine ⟨x.i, idr_mem.2 (by omega), ?_⟩
    unfold e2I
    rw [if_pos h3]
    exact List.mem_map.2 ⟨x, List.mem_filter.2 ⟨h1, decide_eq_true ⟨h2, rfl⟩⟩, rfl⟩
set_option maxRecDepth 100000 in
/-- What is sorted of the first form is the second. -/
theorem edges_eq {l : List Od} (hv : ckO l = 0) (sub : Int) {F : List Ed} (hp : F.Perm (e1K l l sub)) (hs : F.Pairwise (fun x y => x.i ≤ y.i)) : F = e2K l sub 257 := by
  have hnd : ((e1K l l sub).map Ed.i).Nodup := by
    unfold e1K
    rw [List.map_map]
    show ((l.filter (e1P l sub)).map (Ed.i ∘ edOf)).Nodup
    rw [List.Nodup, List.pairwise_map]
    rw [List.pairwise_iff_getElem]
    intro i j hi hj hij he
    have hx := List.getElem_mem hi
    have hy := List.getElem_mem hj
    have h1 := of_decide_eq_true (List.mem_filter.1 hx).2
    have h2 := of_decide_eq_true (List.mem_filter.1 hy).2
    have he' : (l.filter (e1P l sub))[i].i = (l.filter (e1P l sub))[j].i := he
    obtain ⟨z, -, hz⟩ := one_of_count (isO sub (l.filter (e1P l sub))[i].i) l h1.2
    have hle : ((l.filter (e1P l sub)).filter (isO sub (l.filter (e1P l sub))[i].i)).length ≤ 1 := by
      have : ((l.filter (e1P l sub)).filter (isO sub (l.filter (e1P l sub))[i].i)).Sublist (l.filter (isO sub (l.filter (e1P l sub))[i].i)) := List.Sublist.filter _ List.filter_sublist
      have h3 := this.length_le
      rw [hz] at h3
      exact h3
    rw [← List.countP_eq_length_filter] at hle
    have h4 : 2 ≤ (l.filter (e1P l sub)).countP (isO sub (l.filter (e1P l sub))[i].i) := by
      have hsub : [(l.filter (e1P l sub))[i], (l.filter (e1P l sub))[j]].Sublist (l.filter (e1P l sub)) := by
        have h5 := List.drop_sublist i (l.filter (e1P l sub))
        rw [List.drop_eq_getElem_cons hi] at h5
        refine List.Sublist.trans ?_ h5
        refine List.Sublist.cons_cons _ ?_
        rw [List.singleton_sublist]
        rw [List.mem_iff_getElem]
        refine ⟨j - (i + 1), by rw [List.length_drop]; omega, ?_⟩
        rw [List.getElem_drop]
        congr 1; omega
      have h6 := List.Sublist.countP_le (p := isO sub (l.filter (e1P l sub))[i].i) hsub
      have q1 : isO sub (l.filter (e1P l sub))[i].i (l.filter (e1P l sub))[i] = true := decide_eq_true ⟨h1.1, rfl⟩
      have q2 : isO sub (l.filter (e1P l sub))[i].i (l.filter (e1P l sub))[j] = true := decide_eq_true ⟨h2.1, he'.symm⟩
      rw [List.countP_cons_of_pos q1, List.countP_cons_of_pos q2] at h6
      simpa using h6
    omega
  have hnd2 : (F.map Ed.i).Nodup := ((hp.map Ed.i).nodup_iff).2 hnd
  have hlt : F.Pairwise (fun x y => x.i < y.i) := by
    rw [List.Nodup, List.pairwise_map] at hnd2
    exact (hs.and hnd2).imp (fun h => by have := h.1; have := h.2; omega)
  refine asc_uniqE _ _ hlt (e2K_asc l sub 257).2 fun e => ?_
  rw [hp.mem_iff, e1_mem, e2_mem hv]
end Go.Proofs.YtlgmankojgjfjaaDoor

/- identify: Resolve, the mathematics. -/
namespace Go.Proofs.YtlgmankojgjfjaaDoor
open Go.RowKit Bs
/-- The least number from 1 to 256 that is not counted. -/
def frL (c : Nat → Nat) : Option Nat := (List.range 257).find? (fun j => decide (1 ≤ j ∧ c j = 0))
set_option maxRecDepth 100000 in
theorem frL_some {c : Nat → Nat} {n : Nat} (h1 : 1 ≤ n) (h2 : n ≤ 256) (h0 : c n = 0) (hm : ∀ j, 1 ≤ j → j < n → c j ≠ 0) : frL c = some n := by
  unfold frL
  rw [List.find?_range_eq_some]
  refine ⟨decide_eq_true ⟨h1, h0⟩, List.mem_range.2 (by omega), fun j hj => ?_⟩
  simp only [Bool.not_eq_true', decide_eq_false_iff_not]
  rintro ⟨q1, q2⟩
  exact hm j q1 hj q2
set_option maxRecDepth 100000 in
theorem frL_none {c : Nat → Nat} (hm : ∀ j, 1 ≤ j → j ≤ 256 → c j ≠ 0) : frL c = none := by
  unfold frL
  rw [List.find?_eq_none]
  intro j hj
  have := List.mem_range.1 hj
  simp only [decide_eq_true_eq]
  rintro ⟨q1, q2⟩
  exact hm j q1 (by omega) q2
set_option maxRecDepth 100000 in
theorem frL_is {c : Nat → Nat} {n : Int} {ok : Bool} (h : FreeIs c n ok) : (ok = true ∧ ∃ m : Nat, n = (m : Int) ∧ 1 ≤ m ∧ m ≤ 256 ∧ c m = 0 ∧ frL c = some m) ∨ (ok = false ∧ frL c = none) := by
  rcases h with ⟨rfl, h1, h2, h3, h4⟩ | ⟨rfl, rfl, h4⟩
  · refine Or.inl ⟨rfl, n.toNat, by omega, by omega, by omega, h3, frL_some (by omega) (by omega) h3 (fun j q1 q2 => h4 j q1 (by omega))⟩
  · exact Or.inr ⟨rfl, frL_none h4⟩
/-- The counts, with what was given. -/
def cgv (l : List Od) (sub : Int) (giv : List Nat) (j : Nat) : Nat := cntO l sub j + giv.count j
set_option maxRecDepth 100000 in
theorem cgv_snoc (l : List Od) (sub : Int) (giv : List Nat) (m : Nat) : (fun j => cgv l sub (giv ++ [m]) j) = fun j => if j = m then cgv l sub giv m + 1 else cgv l sub giv j := by
  funext j
  unfold cgv
  rw [List.count_append]
  by_cases h : j = m
  · subst h
    rw [if_pos rfl]
    simp
    omega
  · rw [if_neg h, List.count_eq_zero_of_not_mem (a := j) (l := [m]) (by simpa using h)]
    rfl
/-- Is there an earlier claim for the same ID? -/
def erl (l : List Od) (sub : Int) (k : Nat) (x : Od) : Bool := decide (x.s = sub ∧ 0 < cntO (l.take k) sub x.i)
/-- The first k claims settled; what was given. -/
def rsv (l : List Od) (sub : Int) : Nat → Option (List Od × List Nat)
  | 0 => some ([], [])
  | k + 1 => match rsv l sub k, l[k]? with
    | some (out, giv), some x =>
      if erl l sub k x then
        match frL (cgv l sub giv) with
        | some m => some (out ++ [{ x with i := (m : Int) }], giv ++ [m])
        | none => none
      else some (out ++ [x], giv)
    | r, none => r
    | none, _ => none
set_option maxRecDepth 100000 in
theorem rsv_keep {l : List Od} {sub : Int} {k : Nat} {x : Od} {out : List Od} {giv : List Nat} (h : rsv l sub k = some (out, giv)) (hx : l[k]? = some x) (he : erl l sub k x = false) : rsv l sub (k + 1) = some (out ++ [x], giv) := by
  rw [rsv, h, hx]
  simp [he]
set_option maxRecDepth 100000 in
theorem rsv_new {l : List Od} {sub : Int} {k m : Nat} {x : Od} {out : List Od} {giv : List Nat} (h : rsv l sub k = some (out, giv)) (hx : l[k]? = some x) (he : erl l sub k x = true) (hf : frL (cgv l sub giv) = some m) : rsv l sub (k + 1) = some (out ++ [{ x with i := (m : Int) }], giv ++ [m]) := by
  rw [rsv, h, hx]
  simp [he, hf]
set_option maxRecDepth 100000 in
theorem rsv_none {l : List Od} {sub : Int} {k : Nat} {x : Od} {out : List Od} {giv : List Nat} (h : rsv l sub k = some (out, giv)) (hx : l[k]? = some x) (he : erl l sub k x = true) (hf : frL (cgv l sub giv) = none) : rsv l sub (k + 1) = none := by
  rw [rsv, h, hx]
  simp [he, hf]
set_option maxRecDepth 100000 in
theorem rsv_stay {l : List Od} {sub : Int} {k : Nat} (h : rsv l sub k = none) : rsv l sub (k + 1) = none := by
  rw [rsv, h]
  cases l[k]? <;> rfl
set_option maxRecDepth 100000 in
theorem rsv_none_le {l : List Od} {sub : Int} {k n : Nat} (h : rsv l sub k = none) (hn : k ≤ n) : rsv l sub n = none := by
  induction n with
  | zero =>
    obtain rfl : k = 0 := by omega
    exact h
  | succ n ih =>
    by_cases hk : k = n + 1
    · subst hk; exact h
    · exact rsv_stay (ih (by omega))
/-- What Resolve returns. -/
def rsX (l : List Od) (sub : Int) : Int := if ckO l ≠ 0 then ckO l else if (rsv l sub l.length).isSome = true then 0 else 9
def rsO (l : List Od) (sub : Int) : List Od := if ckO l ≠ 0 then [] else ((rsv l sub l.length).getD ([], [])).1
set_option maxRecDepth 100000 in
theorem rsv_len {l : List Od} {sub : Int} : ∀ {k : Nat} {out : List Od} {giv : List Nat}, k ≤ l.length → rsv l sub k = some (out, giv) → out.length = k ∧ giv.length ≤ k
  | 0, out, giv, _, h => by
    rw [rsv] at h
    injection h with h
    injection h with h1 h2
    subst h1
    subst h2
    exact ⟨rfl, Nat.le_refl _⟩
  | k + 1, out, giv, hk, h => by
    obtain ⟨x, hx⟩ : ∃ x, l[k]? = some x := ⟨_, List.getElem?_eq_getElem (by omega)⟩
    cases hp : rsv l sub k with
    | none => rw [rsv_stay hp] at h; cases h
    | some r =>
      obtain ⟨o, g⟩ := r
      obtain ⟨i1, i2⟩ := rsv_len (by omega) hp
      cases he : erl l sub k x with
      | false =>
        rw [rsv_keep hp hx he] at h
        injection h with h
        injection h with h1 h2
        subst h1
        subst h2
        exact ⟨by simp [i1], by omega⟩
      | true =>
        cases hf : frL (cgv l sub g) with
        | none => rw [rsv_none hp hx he hf] at h; cases h
        | some m =>
          rw [rsv_new hp hx he hf] at h
          injection h with h
          injection h with h1 h2
          subst h1
          subst h2
          exact ⟨by simp [i1], by simp; omega⟩
set_option maxRecDepth 100000 in
theorem od_set : ∀ (M : List Od) (k : Nat) (v : Int) (x : Od), M[k]? = some x → (M.flatMap odC).set (k * 4 + 2) (.int .i64 v) = (M.set k { x with i := v }).flatMap odC
  | [], _, _, _, h => by simp at h
  | a :: t, 0, v, x, h => by
    obtain rfl : a = x := by simpa using h
    simp [odC]
  | a :: t, k + 1, v, x, h => by
    rw [List.flatMap_cons, List.set_append_right _ _ (by rw [od_len]; omega), od_len, show (k + 1) * 4 + 2 - 4 = k * 4 + 2 by omega, od_set t k v x (by simpa using h), List.set_cons_succ, List.flatMap_cons]

end Go.Proofs.YtlgmankojgjfjaaDoor

/- topology: IndexFunc, ContainsFunc and ascending at routers and at links. -/
namespace Go.Proofs.YtlgmankojgjfjaaDoor
open Go.RowKit Bs
abbrev EnterF (g : Nat) : Prop := ∀ (args : Array Value) (w : World), (callFunc g args).run Tryd.prog w = .ok (.enter g args) w

end Go.Proofs.YtlgmankojgjfjaaDoor

/- Blocks that a call fills; the array of the routers that are known. -/
namespace Go.Proofs.YtlgmankojgjfjaaDoor
open Go.RowKit Bs
end Go.Proofs.YtlgmankojgjfjaaDoor

/- topology: joinsUnknown. -/
namespace Go.Proofs.YtlgmankojgjfjaaDoor
open Go.RowKit Bs
end Go.Proofs.YtlgmankojgjfjaaDoor

/- topology: Check, valid. -/
namespace Go.Proofs.YtlgmankojgjfjaaDoor
open Go.RowKit Bs
end Go.Proofs.YtlgmankojgjfjaaDoor

/- topology: neighbours. -/
namespace Go.Proofs.YtlgmankojgjfjaaDoor
open Go.RowKit Bs
def tv (z : Int) : Value := .int .i64 z
/-- Numbers in a row of the call's own. -/
structure NK (w : World) (v : Value) (l : List Int) (wr : World) : Prop where
  own : wr.ownsRow w.heap.size 3 1 v l.length (l.map tv)
  gr : w.grownBy wr none
set_option maxRecDepth 100000 in
theorem NK.keep {w wr w' : World} {v : Value} {l : List Int} (h : NK w v l wr) (g : wr.grownBy w' none) : NK w v l w' :=
  ⟨h.own.kept g (by cases hv : v.ownBlock <;> simp), grown_trans h.gr g⟩
set_option maxRecDepth 100000 in
theorem NK.more {w wr wy w1 : World} {v v' : Value} {l : List Int} {x : Int} {o : Obj} (h : NK w v l wr) (g : wr.grownBy wy none) (hown' : w1.ownsRow w.heap.size 3 1 v' (l.length + 1) (l.map tv ++ [.int .i64 x])) (hg : (wy.alloc o).grownBy w1 v.ownBlock) :
    NK w v' (l ++ [x]) w1 ∧ (∀ b ob, wr.heap.size ≤ b → wy.heap[b]? = some ob → w1.heap[b]? = some ob) := by
  have hy := h.keep g
  refine ⟨⟨?_, own_step hy.gr hy.own hg⟩, fun b ob hb he => ?_⟩
  · rw [List.length_append, List.map_append]; exact hown'
  · have k0 := World.grownBy_alloc wy o none
    refine kept_row (kept_row he k0 (by simp)) hg (fun e => ?_)
    have := (h.own.lt b e.symm).2
    omega
end Go.Proofs.YtlgmankojgjfjaaDoor

/- topology: Contains of numbers and of hops; the closures of Without. -/
namespace Go.Proofs.YtlgmankojgjfjaaDoor
open Go.RowKit Bs
end Go.Proofs.YtlgmankojgjfjaaDoor

/- The reference's has, cost, Check of a topology. -/
namespace Go.Proofs.YtlgmankojgjfjaaDoor
open Go.RowKit Bs
end Go.Proofs.YtlgmankojgjfjaaDoor

/- topology: the closures of Without; what memory holds while it runs. -/
namespace Go.Proofs.YtlgmankojgjfjaaDoor
open Go.RowKit Bs
set_option maxRecDepth 100000 in
/-- What is read lies below. -/
theorem RdF.old {w : World} {q : Nat → Prop} {v : Value} {n : Nat} {xs : List Value} (h : RdF w q v n xs) : RdF w (· < w.heap.size) v n xs := by
  obtain ⟨p, c, hv, hc⟩ := h
  refine ⟨p, c, hv, fun hne => ?_⟩
  obtain ⟨b, off, hp, hb, hx⟩ := hc hne
  obtain ⟨x, hx0⟩ : ∃ x, xs[0]? = some x := by
    cases xs with
    | nil => exact absurd rfl hne
    | cons a t => exact ⟨a, rfl⟩
  exact ⟨b, off, hp, World.block_lt_of_cell? w ⟨b, off + 0, none⟩ (hx 0 x hx0), hx⟩
set_option maxRecDepth 100000 in
theorem Rd.old {w : World} {q : Nat → Prop} {v : Value} {xs : List Value} (h : Rd w q v xs) : Rd w (· < w.heap.size) v xs := by
  obtain ⟨p, c, hv, hc⟩ := h
  refine ⟨p, c, hv, fun hne => ?_⟩
  obtain ⟨b, off, hp, hb, hx⟩ := hc hne
  obtain ⟨x, hx0⟩ : ∃ x, xs[0]? = some x := by
    cases xs with
    | nil => exact absurd rfl hne
    | cons a t => exact ⟨a, rfl⟩
  exact ⟨b, off, hp, World.block_lt_of_cell? w ⟨b, off + 0, none⟩ (hx 0 x hx0), hx⟩
set_option maxRecDepth 100000 in
theorem info_rt : (Tryd.prog.info? 59).map (fun i => (i.zero, i.size, i.bytes)) = some (some (.agg #[.int .i64 0, .bool false]), 2, 16) := by kernel_rfl
set_option maxRecDepth 100000 in
theorem info_lk : (Tryd.prog.info? 62).map (fun i => (i.zero, i.size, i.bytes)) = some (some (.agg #[.int .i64 0, .int .i64 0, .int .i64 0, .int .i64 0, .int .i64 0]), 5, 40) := by kernel_rfl
end Go.Proofs.YtlgmankojgjfjaaDoor

/- topology: Without. -/
namespace Go.Proofs.YtlgmankojgjfjaaDoor
open Go.RowKit Bs
set_option maxRecDepth 100000 in
theorem grown_any {w w1 w2 : World} {r : Option Nat} (h : w.grownBy w1 none) (k : w1.grownBy w2 r) (hr : ∀ b, b < w.heap.size → some b ≠ r) : w.grownBy w2 none :=
  ⟨k.os.trans h.os, k.tape.trans h.tape, k.output.trans h.output, Nat.le_trans h.size k.size, fun b hb _ => (k.block b (Nat.lt_of_lt_of_le hb h.size) (hr b hb)).trans (h.block b hb (by simp))⟩
set_option maxRecDepth 100000 in
theorem rdf_of_own2 {w : World} {base size : Nat} {e : TypeId} {v : Value} {n : Nat} {xs : List Value} (h : w.ownsRow base e size v n xs) : RdF w (fun b => base ≤ b ∧ b < w.heap.size) v n xs := by
  obtain ⟨p, c, hv, hc⟩ := rdf_of_own h
  refine ⟨p, c, hv, fun hne => ?_⟩
  obtain ⟨b, off, hp, hb, hx⟩ := hc hne
  obtain ⟨x, hx0⟩ : ∃ x, xs[0]? = some x := by
    cases xs with
    | nil => exact absurd rfl hne
    | cons a t => exact ⟨a, rfl⟩
  exact ⟨b, off, hp, ⟨hb, World.block_lt_of_cell? w ⟨b, off + 0, none⟩ (hx 0 x hx0)⟩, hx⟩
set_option maxRecDepth 100000 in
theorem topo_size : (Tryd.prog.info? 35).map (·.size) = some 2 := by kernel_rfl
set_option maxRecDepth 100000 in
theorem res_topo {fn : Func} {p : Tmp} (h : fn.results = #[.cell p 35]) (tmps : Array Value) (w : World) (g : Nat) (x y : Value) (hp : tmps.getD p undef = .pointer (some ⟨g, 0, none⟩)) (hg : w.heap[g]? = some (.cells #[x, y] 35 (0, 0))) :
    (results fn tmps).run Tryd.prog w = .ok (.agg #[x, y]) w :=
  results_cell_row h tmps w g _ _ _ _ hp hg Tryd.underlying35 rfl topo_size
set_option maxRecDepth 100000 in
theorem own_shape {w : World} {base size n : Nat} {e : TypeId} {v : Value} {xs : List Value} (h : w.ownsRow base e size v n xs) : ∃ p c, v = .slice p n c ∧ n ≤ c ∧ c ≤ 9223372036854775807 := by
  rcases h.2 with ⟨rfl, h0⟩ | ⟨g, cap, cur, rfl, _, _, hn, hm, _⟩
  · subst h0
    exact ⟨none, 0, rfl, Nat.le_refl _, by omega⟩
  · unfold maxLen at hm
    exact ⟨_, cap, rfl, hn, by omega⟩
set_option maxRecDepth 100000 in
theorem cells2 (w : World) (x y : Value) (t : TypeId) : ∀ j u, [x, y][j]? = some u → (w.alloc (.cells #[x, y] t)).cell? ((⟨w.heap.size, 0, none⟩ : Addr).add j) = some u := by
  intro j u hj
  have hb : (w.alloc (.cells #[x, y] t)).heap[w.heap.size]? = some (.cells #[x, y] t (0, 0)) := heap_alloc_new w _
  have hadd : (⟨w.heap.size, 0, none⟩ : Addr).add j = ⟨w.heap.size, j, none⟩ := by rw [add_plain, Nat.zero_add]
  rw [hadd, cell_of_row _ _ _ _ _ _ hb]
  simpa using hj
set_option maxRecDepth 100000 in
theorem cells5 (w : World) (a b c d e : Value) (t : TypeId) : ∀ j u, [a, b, c, d, e][j]? = some u → (w.alloc (.cells #[a, b, c, d, e] t)).cell? ((⟨w.heap.size, 0, none⟩ : Addr).add j) = some u := by
  intro j u hj
  have hb : (w.alloc (.cells #[a, b, c, d, e] t)).heap[w.heap.size]? = some (.cells #[a, b, c, d, e] t (0, 0)) := heap_alloc_new w _
  have hadd : (⟨w.heap.size, 0, none⟩ : Addr).add j = ⟨w.heap.size, j, none⟩ := by rw [add_plain, Nat.zero_add]
  rw [hadd, cell_of_row _ _ _ _ _ _ hb]
  simpa using hj
end Go.Proofs.YtlgmankojgjfjaaDoor
