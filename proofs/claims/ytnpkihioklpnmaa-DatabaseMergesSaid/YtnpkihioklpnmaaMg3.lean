/- Parts of the proof, packed: IoRows, ToMath, ToMem, ToLeaf, ToFuns, ToSeek, ToRow. -/
import Derived.Test.YtnpkihioklpnmaaMg2
import Derived.Shelf.Abstract
import Derived.Deep.CutRange
import Derived.Deep.RegionHeld3
import Derived.Deep.QuietTactic
import Derived.BigQuiet
import Derived.IntWalk
/- Rows of the call's own that grow apart. -/
namespace Go.Proofs.Ytnpkihioklpnmaa
open Go.RowKit Bs
def zv (x : Nat) : Value := .int .i64 (x : Int)
set_option maxRecDepth 100000 in
theorem zv_one {l : List Nat} : ∀ u ∈ l.map zv, u.oneCell' = true := by
  intro u hu
  obtain ⟨x, _, rfl⟩ := List.mem_map.1 hu
  rfl
set_option maxRecDepth 100000 in
/-- append of ints that are read, onto a row of the call's own. -/
theorem wpList_append_ints {w : World} {ops : Array Oper} {rest : List Oper} {o : Oper} {a : Act} {Q : Exit → Act → World → Prop} (hgd : o.guard = none) (s x : Operand)
    (ho : o.op = .call { callee := .builtin .append, args := #[s, x], argTypes := #[22, 22] }) (base : Nat) (v : Value) (n : Nat) (l : List Nat) (hs : a.eval s = v) (hown : w.ownsRow base 3 1 v n (l.map zv))
    (p : Option Addr) (k c : Nat) (r : List Nat) (hx : a.eval x = .slice p k c) (hk : k = r.length) (hn0 : p = none → c = 0 ∧ k = 0) (hnews : ∀ ad, p = some ad → ∀ j u, (r.map zv)[j]? = some u → w.cell? (ad.add j) = some u) (h63 : n + r.length ≤ 100000) (hbase : base ≤ w.heap.size)
    (h : ∀ v' w', w'.ownsRow base 3 1 v' (n + r.length) ((l ++ r).map zv) → w.grownBy w' v.ownBlock → wpList Try.prog ops Q rest (a.put o.dst v') w') : wpList Try.prog ops Q (o :: rest) a w := by
  obtain ⟨i0, hi, hz0, hz1, hz2⟩ := info_parts info_int
  subst hk
  cases p with
  | none =>
    obtain ⟨rfl, hr⟩ := hn0 rfl
    obtain rfl := List.eq_nil_of_length_eq_zero hr
    refine wpList_append_own_none hgd s x 22 ho base 3 i0 1 Try.underlying22 hi v n (l.map zv) hs hown hx ?_
    refine h v w ?_ (grown_refl _ _)
    rw [List.append_nil]; exact hown
  | some ad =>
    refine wpList_append_own w hgd s x 22 ho base 3 i0 (.int .i64 0) 1 8 Try.underlying22 hi hz0 hz1 hz2 rfl (by decide) v n (l.map zv) hs hown ad r.length c (r.map zv) hx (by simp) (hnews ad rfl) zv_one (by unfold maxLen; omega) (by omega) hbase ?_
    intro v' w' h1 h2 _
    refine h v' w' ?_ h2
    rw [List.map_append]; exact h1
set_option maxRecDepth 100000 in
theorem tp_new2 {w1 w2 : World} {a b : Nat} (h : Tp w1 a) (k : w1.grownBy w2 (some b)) (hb : a < b) : Tp w2 a := by
  have hlt := h.lt
  obtain ⟨v, n, i, T⟩ := h
  have hb' : w2.heap[a]? = w1.heap[a]? := k.block a hlt (by intro e; have := Option.some.inj e; omega)
  refine ⟨v, n, i, (World.cell?_of_block (a := ⟨a, 0, none⟩) hb').trans T.l, (World.cell?_of_block (a := ⟨a, 1, none⟩) hb').trans T.p, (World.frozen?_of_block (a := ⟨a, 1, none⟩) hb').trans T.fr, ?_, T.le, T.len⟩
  obtain ⟨p, c, hv, hc⟩ := T.ints
  refine ⟨p, c, hv, fun hn => ?_⟩
  obtain ⟨g, off, hp, hg, hx⟩ := hc hn
  exact ⟨g, off, hp, hg, fun i hi => by obtain ⟨x, hx, hcell⟩ := hx i hi; exact ⟨x, hx, k.cell hcell (by intro e; have e2 : g = b := Option.some.inj e; omega)⟩⟩
set_option maxRecDepth 100000 in
theorem own_cap {w : World} {base n g cap : Nat} {e : TypeId} {xs : List Value} (h : w.ownsRow base e 1 (.slice (some ⟨g, 0, none⟩) n cap) n xs) : n ≤ cap ∧ cap ≤ maxLen := by
  rcases h.2 with ⟨h0, _⟩ | ⟨g', cap', cur, hv, _, _, hn, hc, _⟩
  · cases h0
  · injection hv with _ _ h3
    subst h3
    exact ⟨hn, hc⟩
set_option maxRecDepth 100000 in
theorem grown_own_row {w w1 : World} {k : Nat} {b : Option Nat} (h : w.grownBy w1 b) (hk : k < w.heap.size) (hb : some k ≠ b) : w1.heap[k]? = w.heap[k]? := h.block k hk hb
set_option maxRecDepth 100000 in
/-- An order is made: the old row g is read, the new one lies behind. -/
theorem own_apart {w w1 : World} {base base2 g n cap : Nat} {e : TypeId} {v : Value} {m : Nat} {e2 : TypeId} {xs ys : List Value} (h : w.ownsRow base e 1 (.slice (some ⟨g, 0, none⟩) n cap) n xs) (hv : w.ownsRow base2 e2 1 v m ys) (hg : g < base2) (k : w.grownBy w1 v.ownBlock) : w1.ownsRow base e 1 (.slice (some ⟨g, 0, none⟩) n cap) n xs :=
  h.kept k (.inr (own_ne hv hg))
set_option maxRecDepth 100000 in
theorem St.own_grow {a base n : Nat} {W w w1 : World} {e : TypeId} {v : Value} {xs : List Value} (h : St a W w) (ho : w.ownsRow base e 1 v n xs) (hb : W.heap.size ≤ base) (ha : a < W.heap.size) (k : w.grownBy w1 v.ownBlock) : St a W w1 := by
  have g : W.grownBy w1 (some a) := ⟨k.os.trans h.1.os, k.tape.trans h.1.tape, k.output.trans h.1.output, Nat.le_trans h.1.size k.size, fun i hi hia => (k.block i (Nat.lt_of_lt_of_le hi h.1.size) (own_ne ho (by omega))).trans (h.1.block i hi hia)⟩
  refine ⟨g, ?_⟩
  cases hv : v.ownBlock with
  | none => rw [hv] at k; exact h.2.keep k
  | some b =>
    rw [hv] at k
    exact tp_new2 h.2 k (by have := (ho.lt b hv).1; omega)
set_option maxRecDepth 100000 in
theorem St.none_ {a : Nat} {W w w1 : World} (h : St a W w) (g : w.grownBy w1 none) : St a W w1 := ⟨grown_trans h.1 (grown_none g _), h.2.keep g⟩
end Go.Proofs.Ytnpkihioklpnmaa

/- Topologies: the mathematics. -/
namespace Go.Proofs.Ytnpkihioklpnmaa
open Go.RowKit Bs
/-- A router and a link. -/
structure Rt where
  id : Int
  cap : Bool
structure Lk where
  a : Int
  b : Int
  ca : Int
  cb : Int
  cp : Int
def rtC (r : Rt) : List Value := [.int .i64 r.id, .bool r.cap]
def lkC (l : Lk) : List Value := [.int .i64 l.a, .int .i64 l.b, .int .i64 l.ca, .int .i64 l.cb, .int .i64 l.cp]
def wrId (r : Rt) : Bool := !decide (1 ≤ r.id ∧ r.id ≤ 99)
def wrNum (l : Lk) : Bool := !decide ((1 ≤ l.ca ∧ l.ca ≤ 1000) ∧ (1 ≤ l.cb ∧ l.cb ≤ 1000) ∧ (0 ≤ l.cp ∧ l.cp ≤ 1000))
def hasR (R : List Rt) (x : Int) : Bool := R.any fun r => decide (r.id = x)
def unk (R : List Rt) (l : Lk) : Bool := !hasR R l.a || !hasR R l.b
def wrEnd (l : Lk) : Bool := decide (l.b ≤ l.a)
def ltR (r s : Rt) : Bool := decide (r.id < s.id)
def ltL (l m : Lk) : Bool := decide (l.a < m.a ∨ (l.a = m.a ∧ l.b < m.b))
/-- Strictly ascending. -/
def ascB {α : Type} (f : α → α → Bool) : List α → Bool
  | a :: b :: t => f a b && ascB f (b :: t)
  | _ => true
set_option maxRecDepth 100000 in
theorem ascB_iff {α : Type} (f : α → α → Bool) : ∀ l : List α, ascB f l = true ↔ ∀ i x y, l[i]? = some x → l[i + 1]? = some y → f x y = true
  | [] => by simp [ascB]
  | [a] => by simp [ascB]
  | a :: b :: t => by
    rw [ascB, Bool.and_eq_true, ascB_iff f (b :: t)]
    constructor
    · rintro ⟨h1, h2⟩ i x y hx hy
      cases i with
      | zero => simp at hx hy; subst hx; subst hy; exact h1
      | succ i => exact h2 i x y (by simpa using hx) (by simpa using hy)
    · intro h
      exact ⟨h 0 a b rfl rfl, fun i x y hx hy => h (i + 1) x y (by simpa using hx) (by simpa using hy)⟩
/-- What Check returns. -/
def chk (R : List Rt) (L : List Lk) : Int :=
  if 24 < R.length ∨ 60 < L.length then 3
  else if R.any wrId then 2
  else if !ascB ltR R then 25
  else if L.any wrNum then 2
  else if L.any (unk R) then 4
  else if L.any wrEnd then 8
  else if !ascB ltL L then 25 else 0
set_option maxRecDepth 100000 in
theorem any_take {α : Type} {p : α → Bool} {l : List α} {k : Nat} {x : α} (h : (l.take k).any p = false) (hx : l[k]? = some x) (hp : p x = false) : (l.take (k + 1)).any p = false := by
  rw [List.take_add_one, List.any_append, h, hx]
  simpa using hp
set_option maxRecDepth 100000 in
theorem any_at {α : Type} {p : α → Bool} {l : List α} {k : Nat} {x : α} (hx : l[k]? = some x) (hp : p x = true) : l.any p = true :=
  List.any_eq_true.2 ⟨x, List.mem_of_getElem? hx, hp⟩
set_option maxRecDepth 100000 in
theorem any_end {α : Type} {p : α → Bool} {l : List α} {k : Nat} (h : (l.take k).any p = false) (hk : l.length ≤ k) : l.any p = false := by
  rwa [List.take_of_length_le hk] at h
set_option maxRecDepth 100000 in
/-- The cells of a list of elements of k cells each. -/
theorem flat_at {α : Type} (f : α → List Value) (n : Nat) (hf : ∀ x, (f x).length = n) : ∀ (l : List α) (i j : Nat) (x : α), l[i]? = some x → j < n → (l.flatMap f)[i * n + j]? = (f x)[j]?
  | [], i, j, x, h, _ => by simp at h
  | m :: l, 0, j, x, h, hj => by
    obtain rfl : m = x := by simpa using h
    rw [List.flatMap_cons, Nat.zero_mul, Nat.zero_add, List.getElem?_append_left (by rw [hf]; exact hj)]
  | m :: l, i + 1, j, x, h, hj => by
    rw [List.flatMap_cons, List.getElem?_append_right (by rw [hf, Nat.add_mul]; omega), show (i + 1) * n + j - (f m).length = i * n + j by rw [hf, Nat.add_mul]; omega]
    exact flat_at f n hf l i j x (by simpa using h) hj
set_option maxRecDepth 100000 in
theorem flat_len {α : Type} (f : α → List Value) (n : Nat) (hf : ∀ x, (f x).length = n) : ∀ (l : List α), (l.flatMap f).length = l.length * n
  | [] => by simp
  | m :: l => by rw [List.flatMap_cons, List.length_append, hf, flat_len f n hf l, List.length_cons, Nat.add_mul]; omega
end Go.Proofs.Ytnpkihioklpnmaa

/- Topologies in memory. -/
namespace Go.Proofs.Ytnpkihioklpnmaa
open Go.RowKit Bs
set_option maxRecDepth 100000 in
theorem tone_box (w : World) (A : Array Value) (t : TypeId) : (w.alloc (.cells A t)).heap[w.heap.size]? = some (.cells A t (0, 0)) ∧ w.grownBy (w.alloc (.cells A t)) none :=
  ⟨heap_alloc_new w _, World.grownBy_alloc w _ _⟩
/-- The slice value v has n elements, whose cells are xs. -/
def RdF (w : World) (q : Nat → Prop) (v : Value) (n : Nat) (xs : List Value) : Prop :=
  ∃ p c, v = .slice p n c ∧ (xs ≠ [] → ∃ b off, p = some ⟨b, off, none⟩ ∧ q b ∧ ∀ i x, xs[i]? = some x → w.cell? ⟨b, off + i, none⟩ = some x)
set_option maxRecDepth 100000 in
theorem RdF.grown {w w' : World} {q : Nat → Prop} {v : Value} {n : Nat} {xs : List Value} {r : Option Nat} (h : RdF w q v n xs) (g : w.grownBy w' r) (hq : ∀ b, q b → some b ≠ r) : RdF w' q v n xs := by
  obtain ⟨p, c, hv, hc⟩ := h
  refine ⟨p, c, hv, fun hne => ?_⟩
  obtain ⟨b, off, hp, hb, hx⟩ := hc hne
  exact ⟨b, off, hp, hb, fun i x hi => g.cell (hx i x hi) (hq b hb)⟩
set_option maxRecDepth 100000 in
theorem RdF.keep {w w' : World} {q : Nat → Prop} {v : Value} {n : Nat} {xs : List Value} (h : RdF w q v n xs) (g : w.grownBy w' none) : RdF w' q v n xs := h.grown g (fun _ _ => by simp)
set_option maxRecDepth 100000 in
theorem RdF.mono {w : World} {q q' : Nat → Prop} {v : Value} {n : Nat} {xs : List Value} (h : RdF w q v n xs) (hq : ∀ b, q b → q' b) : RdF w q' v n xs := by
  obtain ⟨p, c, hv, hc⟩ := h
  refine ⟨p, c, hv, fun hne => ?_⟩
  obtain ⟨b, off, hp, hb, hx⟩ := hc hne
  exact ⟨b, off, hp, hq b hb, hx⟩
set_option maxRecDepth 100000 in
theorem rdf_nil (w : World) (q : Nat → Prop) (p : Option Addr) (c : Nat) : RdF w q (.slice p 0 c) 0 [] := ⟨p, c, rfl, fun h => absurd rfl h⟩
set_option maxRecDepth 100000 in
theorem rdf_of_own {w : World} {base size : Nat} {e : TypeId} {v : Value} {n : Nat} {xs : List Value} (h : w.ownsRow base e size v n xs) : RdF w (base ≤ ·) v n xs := by
  rcases h.2 with ⟨rfl, h0⟩ | ⟨g, cap, cur, rfl, hb, hg, _⟩
  · subst h0
    have hl : xs = [] := List.eq_nil_of_length_eq_zero (by have := h.1; omega)
    exact ⟨none, 0, rfl, fun hne => absurd hl hne⟩
  · refine ⟨some ⟨g, 0, none⟩, cap, rfl, fun _ => ⟨g, 0, rfl, hb, fun i x hi => ?_⟩⟩
    have := h.cells (g := g) rfl i x hi
    have hadd : (⟨g, 0, none⟩ : Addr).add i = ⟨g, 0 + i, none⟩ := by unfold Addr.add; split <;> simp_all
    rw [hadd] at this
    exact this
set_option maxRecDepth 100000 in
theorem RdF.cells {α : Type} {f : α → List Value} {k : Nat} (hf : ∀ x, (f x).length = k) (hk : 0 < k) {w : World} {q : Nat → Prop} {p : Option Addr} {n c : Nat} {l : List α} (h : RdF w q (.slice p n c) l.length (l.flatMap f)) (hn : 0 < l.length) :
    n = l.length ∧ ∃ b off, p = some ⟨b, off, none⟩ ∧ q b ∧ ∀ i x, l[i]? = some x → ∀ j y, (f x)[j]? = some y → w.cell? ⟨b, off + i * k + j, none⟩ = some y := by
  obtain ⟨p1, c1, e1, hx⟩ := h
  injection e1 with a1 a2 a3
  subst a1
  have hne : l.flatMap f ≠ [] := by
    intro e
    have h2 := flat_len f k hf l
    rw [e, List.length_nil] at h2
    have := Nat.mul_pos hn hk
    omega
  obtain ⟨b, off, hp, hq, hc⟩ := hx hne
  refine ⟨a2, b, off, hp, hq, fun i x hi j y hj => ?_⟩
  have hjk : j < k := by
    have := (List.getElem?_eq_some_iff.1 hj).1
    rw [hf] at this
    exact this
  rw [Nat.add_assoc]
  exact hc _ _ ((flat_at f k hf l i j x hi hjk).trans hj)
/-- Routers, links, hops, that are read. -/
abbrev RdR (w : World) (q : Nat → Prop) (v : Value) (R : List Rt) : Prop := RdF w q v R.length (R.flatMap rtC)
abbrev RdL5 (w : World) (q : Nat → Prop) (v : Value) (L : List Lk) : Prop := RdF w q v L.length (L.flatMap lkC)
set_option maxRecDepth 100000 in
theorem rdr_cells {w : World} {q : Nat → Prop} {p : Option Addr} {n c : Nat} {R : List Rt} (h : RdR w q (.slice p n c) R) (hn : 0 < R.length) :
    n = R.length ∧ ∃ b off, p = some ⟨b, off, none⟩ ∧ q b ∧ ∀ i x, R[i]? = some x → w.cell? ⟨b, off + i * 2, none⟩ = some (.int .i64 x.id) ∧ w.cell? ⟨b, off + i * 2 + 1, none⟩ = some (.bool x.cap) := by
  obtain ⟨h0, b, off, hp, hq, hc⟩ := RdF.cells (f := rtC) (k := 2) (fun _ => rfl) (by decide) h hn
  exact ⟨h0, b, off, hp, hq, fun i x hi => ⟨hc i x hi 0 _ rfl, hc i x hi 1 _ rfl⟩⟩
set_option maxRecDepth 100000 in
theorem rdl_cells {w : World} {q : Nat → Prop} {p : Option Addr} {n c : Nat} {L : List Lk} (h : RdL5 w q (.slice p n c) L) (hn : 0 < L.length) :
    n = L.length ∧ ∃ b off, p = some ⟨b, off, none⟩ ∧ q b ∧ ∀ i x, L[i]? = some x → w.cell? ⟨b, off + i * 5, none⟩ = some (.int .i64 x.a) ∧ w.cell? ⟨b, off + i * 5 + 1, none⟩ = some (.int .i64 x.b) ∧ w.cell? ⟨b, off + i * 5 + 2, none⟩ = some (.int .i64 x.ca) ∧ w.cell? ⟨b, off + i * 5 + 3, none⟩ = some (.int .i64 x.cb) ∧ w.cell? ⟨b, off + i * 5 + 4, none⟩ = some (.int .i64 x.cp) := by
  obtain ⟨h0, b, off, hp, hq, hc⟩ := RdF.cells (f := lkC) (k := 5) (fun _ => rfl) (by decide) h hn
  exact ⟨h0, b, off, hp, hq, fun i x hi => ⟨hc i x hi 0 _ rfl, hc i x hi 1 _ rfl, hc i x hi 2 _ rfl, hc i x hi 3 _ rfl, hc i x hi 4 _ rfl⟩⟩
/-- A topology with where it lies. -/
structure Tg where
  R : List Rt
  L : List Lk
  pR : Option Addr
  cR : Nat
  pL : Option Addr
  cL : Nat
def Tg.vR (T : Tg) : Value := .slice T.pR T.R.length T.cR
def Tg.vL (T : Tg) : Value := .slice T.pL T.L.length T.cL
/-- A topology that can be read, in blocks that meet q. -/
structure TgOk (w : World) (q : Nat → Prop) (T : Tg) : Prop where
  r : RdR w q (.slice T.pR T.R.length T.cR) T.R
  l : RdL5 w q (.slice T.pL T.L.length T.cL) T.L
  cr : T.R.length ≤ T.cR ∧ T.cR ≤ 9223372036854775807
  cl : T.L.length ≤ T.cL ∧ T.cL ≤ 9223372036854775807
set_option maxRecDepth 100000 in
theorem TgOk.keep {w w' : World} {q : Nat → Prop} {T : Tg} (h : TgOk w q T) (g : w.grownBy w' none) : TgOk w' q T := ⟨h.r.keep g, h.l.keep g, h.cr, h.cl⟩
set_option maxRecDepth 100000 in
theorem TgOk.grown {w w' : World} {q : Nat → Prop} {T : Tg} {r : Option Nat} (h : TgOk w q T) (g : w.grownBy w' r) (hq : ∀ b, q b → some b ≠ r) : TgOk w' q T := ⟨h.r.grown g hq, h.l.grown g hq, h.cr, h.cl⟩
set_option maxRecDepth 100000 in
theorem TgOk.mono {w : World} {q q' : Nat → Prop} {T : Tg} (h : TgOk w q T) (hq : ∀ b, q b → q' b) : TgOk w q' T := ⟨h.r.mono hq, h.l.mono hq, h.cr, h.cl⟩
end Go.Proofs.Ytnpkihioklpnmaa

/- topology: within, wrongID, wrongNumbers, the comparisons. -/
namespace Go.Proofs.Ytnpkihioklpnmaa
open Go.RowKit Bs
set_option maxRecDepth 100000 in
theorem twithin_any (n a b : Int) (w : World) :
    Calls Try.prog 128 #[.int .i64 n, .int .i64 a, .int .i64 b] w fun e w' => e = .returned (.bool (decide (a ≤ n ∧ n ≤ b))) ∧ w' = w := by
  go_enter Try.func128, Try.ntmps128
  by_cases h1 : a ≤ n
  · by_cases h2 : n ≤ b
    · go_wp2_with fail
      go_ret
      exact ⟨by simp; omega, rfl⟩
    · go_wp2_with fail
      go_ret
      exact ⟨by simp; omega, rfl⟩
  · go_wp2_with fail
    go_ret
    exact ⟨by simp; omega, rfl⟩
def rtA (r : Rt) : Array Value := #[.int .i64 r.id, .bool r.cap]
def lkA (l : Lk) : Array Value := #[.int .i64 l.a, .int .i64 l.b, .int .i64 l.ca, .int .i64 l.cb, .int .i64 l.cp]
set_option maxRecDepth 100000 in
theorem lk_facts {w : World} {b : Nat} {l : Lk} (h : w.heap[b]? = some (.cells #[.int .i64 l.a, .int .i64 l.b, .int .i64 l.ca, .int .i64 l.cb, .int .i64 l.cp] 71 (0, 0))) :
    w.cell? ⟨b, 0, none⟩ = some (.int .i64 l.a) ∧ w.cell? ⟨b, 1, none⟩ = some (.int .i64 l.b) ∧ w.cell? ⟨b, 2, none⟩ = some (.int .i64 l.ca) ∧ w.cell? ⟨b, 3, none⟩ = some (.int .i64 l.cb) ∧ w.cell? ⟨b, 4, none⟩ = some (.int .i64 l.cp) :=
  ⟨cell_of_row _ _ _ _ _ _ h, cell_of_row _ _ _ _ _ _ h, cell_of_row _ _ _ _ _ _ h, cell_of_row _ _ _ _ _ _ h, cell_of_row _ _ _ _ _ _ h⟩
set_option maxRecDepth 100000 in
theorem rt_facts {w : World} {b : Nat} {r : Rt} (h : w.heap[b]? = some (.cells #[.int .i64 r.id, .bool r.cap] 69 (0, 0))) :
    w.cell? ⟨b, 0, none⟩ = some (.int .i64 r.id) ∧ w.cell? ⟨b, 1, none⟩ = some (.bool r.cap) :=
  ⟨cell_of_row _ _ _ _ _ _ h, cell_of_row _ _ _ _ _ _ h⟩
set_option maxRecDepth 100000 in
set_option maxHeartbeats 1600000 in
theorem twrid_any (r : Rt) (w : World) :
    Calls Try.prog 99 #[.agg #[.int .i64 r.id, .bool r.cap]] w fun e w' => e = .returned (.bool (wrId r)) ∧ w.grownBy w' none := by
  obtain ⟨k1, k2⟩ := tone_box w #[.int .i64 r.id, .bool r.cap] 69
  obtain ⟨c0, c1⟩ := rt_facts k1
  have K := Lib.hid k2
  clear k1 k2
  go_enter Try.func99, Try.ntmps99
  go_wp2_with fail
  generalize w.alloc _ = wa at *
  go_wp2_with (go_at_call 128; refine (twithin_any _ _ _ _).mono ?_; rintro e w' ⟨rfl, rfl⟩)
  go_ret
  exact ⟨by unfold wrId; simp, K.out⟩
set_option maxRecDepth 100000 in
set_option maxHeartbeats 1600000 in
theorem twrnum_any (l : Lk) (w : World) :
    Calls Try.prog 103 #[.agg #[.int .i64 l.a, .int .i64 l.b, .int .i64 l.ca, .int .i64 l.cb, .int .i64 l.cp]] w fun e w' => e = .returned (.bool (wrNum l)) ∧ w.grownBy w' none := by
  obtain ⟨k1, k2⟩ := tone_box w #[.int .i64 l.a, .int .i64 l.b, .int .i64 l.ca, .int .i64 l.cb, .int .i64 l.cp] 71
  obtain ⟨c0, c1, c2, c3, c4⟩ := lk_facts k1
  have K := Lib.hid k2
  clear k1 k2
  go_enter Try.func103, Try.ntmps103
  go_wp2_with fail
  generalize w.alloc _ = wa at *
  by_cases h1 : 1 ≤ l.ca ∧ l.ca ≤ 1000
  · have e1 : decide (1 ≤ l.ca ∧ l.ca ≤ 1000) = true := decide_eq_true h1
    by_cases h2 : 1 ≤ l.cb ∧ l.cb ≤ 1000
    · have e2 : decide (1 ≤ l.cb ∧ l.cb ≤ 1000) = true := decide_eq_true h2
      go_wp2_with (go_at_call 128; refine (twithin_any _ _ _ _).mono ?_; rintro e w' ⟨rfl, rfl⟩; try simp only [e1, e2])
      go_ret
      exact ⟨by unfold wrNum; simp [h1, h2], K.out⟩
    · have e2 : decide (1 ≤ l.cb ∧ l.cb ≤ 1000) = false := decide_eq_false h2
      go_wp2_with (go_at_call 128; refine (twithin_any _ _ _ _).mono ?_; rintro e w' ⟨rfl, rfl⟩; try simp only [e1, e2])
      go_ret
      exact ⟨by unfold wrNum; simp [h2], K.out⟩
  · have e1 : decide (1 ≤ l.ca ∧ l.ca ≤ 1000) = false := decide_eq_false h1
    go_wp2_with (go_at_call 128; refine (twithin_any _ _ _ _).mono ?_; rintro e w' ⟨rfl, rfl⟩; try simp only [e1])
    go_ret
    exact ⟨by unfold wrNum; simp [h1], K.out⟩
def cmpV (x y : Int) : Int := if x < y then -1 else if y < x then 1 else 0
set_option maxRecDepth 100000 in
theorem cmpV_lt {x y : Int} : (cmpV x y < 0) ↔ x < y := by unfold cmpV; split <;> (try split) <;> omega
set_option maxRecDepth 100000 in
theorem cmpV_ge {x y : Int} : (0 ≤ cmpV x y) ↔ y ≤ x := by unfold cmpV; split <;> (try split) <;> omega
set_option maxRecDepth 100000 in
theorem cmpV_eq {x y : Int} : (cmpV x y = 0) ↔ x = y := by unfold cmpV; split <;> (try split) <;> omega
set_option maxRecDepth 100000 in
set_option maxHeartbeats 1600000 in
theorem tcmp_any (x y : Int) (w : World) :
    Calls Try.prog 112 #[.int .i64 x, .int .i64 y] w fun e w' => e = .returned (.int .i64 (cmpV x y)) ∧ w' = w := by
  have N : ∀ (z : Int) (w : World), Calls Try.prog 130 #[.int .i64 z] w fun e w' => e = .returned (.bool false) ∧ w' = w := by
    intro z w
    go_enter Try.func130, Try.ntmps130
    go_wp2_with fail
    go_ret
    first | exact ⟨rfl, rfl⟩ | exact ⟨by simp, rfl⟩
  go_enter Try.func112, Try.ntmps112
  by_cases h1 : x < y
  · go_wp2_with (go_at_call 130; refine (N _ _).mono ?_; rintro e w' ⟨rfl, rfl⟩)
    go_ret
    exact ⟨by unfold cmpV; rw [if_pos (by omega)]; rfl, rfl⟩
  · by_cases h2 : y < x
    · go_wp2_with (go_at_call 130; refine (N _ _).mono ?_; rintro e w' ⟨rfl, rfl⟩)
      go_ret
      exact ⟨by unfold cmpV; rw [if_neg (by omega), if_pos (by omega)]; rfl, rfl⟩
    · go_wp2_with (go_at_call 130; refine (N _ _).mono ?_; rintro e w' ⟨rfl, rfl⟩)
      go_ret
      exact ⟨by unfold cmpV; rw [if_neg (by omega), if_neg (by omega)]; rfl, rfl⟩
set_option maxRecDepth 100000 in
set_option maxHeartbeats 1600000 in
theorem tcmpid_any (r s : Rt) (w : World) :
    Calls Try.prog 101 #[.agg #[.int .i64 r.id, .bool r.cap], .agg #[.int .i64 s.id, .bool s.cap]] w fun e w' => e = .returned (.int .i64 (cmpV r.id s.id)) ∧ w.grownBy w' none := by
  obtain ⟨k1, k2, k3, k4⟩ := two_boxes w #[.int .i64 r.id, .bool r.cap] #[.int .i64 s.id, .bool s.cap] 69 69
  obtain ⟨c0, c1⟩ := rt_facts k1
  obtain ⟨d0, d1⟩ := rt_facts k2
  have K := Lib.hid k3
  clear k1 k2 k3 k4
  go_enter Try.func101, Try.ntmps101
  go_wp2_with fail
  generalize (w.alloc _).alloc _ = wa at *
  go_wp2_with (go_at_call 112; refine (tcmp_any _ _ _).mono ?_; rintro e w' ⟨rfl, rfl⟩)
  go_ret
  exact ⟨rfl, K.out⟩
end Go.Proofs.Ytnpkihioklpnmaa

/- topology: lists that are searched by functions; what is ascending. -/
namespace Go.Proofs.Ytnpkihioklpnmaa
open Go.RowKit Bs
/-- The first number of a list that is not 0. -/
def orV : List Int → Int
  | [] => 0
  | x :: r => if x = 0 then orV r else x
set_option maxRecDepth 100000 in
theorem orV_take {r : List Int} {k : Nat} {y : Int} (h : orV (r.take k) = 0) (hy : r[k]? = some y) : orV (r.take (k + 1)) = y := by
  induction r generalizing k with
  | nil => simp at hy
  | cons x r ih =>
    cases k with
    | zero =>
      obtain rfl : x = y := by simpa using hy
      show (if x = 0 then orV (r.take 0) else x) = x
      split
      · rename_i e; rw [e]; rfl
      · rfl
    | succ k =>
      rw [List.take_succ_cons, orV] at h
      rw [List.take_succ_cons, orV]
      by_cases e : x = 0
      · rw [if_pos e] at h ⊢
        exact ih h (by simpa using hy)
      · rw [if_neg e] at h
        exact absurd h e
set_option maxRecDepth 100000 in
theorem orV_pre {r : List Int} {k : Nat} (h : orV (r.take k) ≠ 0) : orV r = orV (r.take k) := by
  induction r generalizing k with
  | nil => simp
  | cons x r ih =>
    cases k with
    | zero => exact absurd rfl h
    | succ k =>
      rw [List.take_succ_cons, orV] at h ⊢
      rw [orV]
      by_cases e : x = 0
      · rw [if_pos e] at h ⊢
        rw [if_pos e]
        exact ih h
      · rw [if_neg e]
        rw [if_neg e]
set_option maxRecDepth 100000 in
theorem rdi_at {w : World} {q : Nat → Prop} {p : Option Addr} {n c : Nat} {r : List Int} (h : Rd w q (.slice p n c) (r.map (fun z => Value.int .i64 z))) (hn : 0 < r.length) :
    n = r.length ∧ ∃ b off, p = some ⟨b, off, none⟩ ∧ q b ∧ ∀ i x, r[i]? = some x → w.cell? ⟨b, off + i, none⟩ = some (.int .i64 x) := by
  obtain ⟨p1, c1, e1, hx⟩ := h
  injection e1 with a1 a2 a3
  subst a1
  obtain ⟨b, off, hp, hq, hc⟩ := hx (by intro e; have := congrArg List.length e; simp only [List.length_map, List.length_nil] at this; omega)
  refine ⟨by rw [a2, List.length_map], b, off, hp, hq, fun i x hi => hc i _ ?_⟩
  rw [List.getElem?_map, hi]; rfl
set_option maxRecDepth 100000 in
set_option maxHeartbeats 1600000 in
theorem tor_any (r : List Int) (p : Option Addr) (c : Nat) (q : Nat → Prop) (w : World) (hR : Rd w q (.slice p r.length c) (r.map (fun z => Value.int .i64 z))) (hm : r.length ≤ 9223372036854775807) :
    Calls Try.prog 111 #[.slice p r.length c] w fun e w' => e = .returned (.int .i64 (orV r)) ∧ w' = w := by
  have HR := Lib.hid hR
  clear hR
  go_enter Try.func111, Try.ntmps111
  go_wp2_with fail
  go_loopw [8] (fun a wr => ∃ k : Nat, k ≤ r.length ∧ a = .int .i64 (k : Int) ∧ wr = w ∧ Hid (orV (r.take k) = 0)) (fun a _ => r.length - (RowKit.intOf a).toNat)
  case atStart => exact ⟨0, Nat.zero_le _, rfl, rfl, Lib.hid rfl⟩
  case round =>
    obtain ⟨k, hk, rfl, rfl, H0⟩ := hrel
    by_cases hlt : k < r.length
    · obtain ⟨-, b, off, rfl, hq, hc⟩ := rdi_at HR.out (by omega)
      obtain ⟨y, hy⟩ : ∃ y, r[k]? = some y := ⟨_, List.getElem?_eq_getElem hlt⟩
      have c0 := hc k y hy
      have HY := Lib.hid hy
      clear hc hy
      by_cases e : y = 0
      · have HE := Lib.hid e
        subst e
        go_wp2_with fail
        exact ⟨⟨k + 1, by omega, congrArg _ (by omega), trivial, Lib.hid (orV_take H0.out HY.out)⟩, by simp only [RowKit.intOf]; omega⟩
      · have e' : (y != 0) = true := by simpa using e
        go_wp2_with fail
        go_ret
        refine ⟨?_, rfl⟩
        have h1 := orV_take H0.out HY.out
        have h2 := orV_pre (r := r) (k := k + 1) (by rw [h1]; exact e)
        rw [h2, h1]; rfl
    · obtain rfl : k = r.length := by omega
      go_wp2_with fail
      go_ret
      have := H0.out
      rw [List.take_length] at this
      rw [this]
      exact ⟨rfl, rfl⟩
def cmpL (l m : Lk) : Int := orV [cmpV l.a m.a, cmpV l.b m.b]
set_option maxRecDepth 100000 in
theorem cmpL_ge {l m : Lk} : (0 ≤ cmpL l m) ↔ ltL l m = false := by
  unfold cmpL ltL orV orV orV cmpV
  rw [decide_eq_false_iff_not]
  repeat' split
  all_goals omega
set_option maxRecDepth 100000 in
theorem cmpL_eq {l m : Lk} : (cmpL l m = 0) ↔ (l.a = m.a ∧ l.b = m.b) := by
  unfold cmpL orV orV orV cmpV
  repeat' split
  all_goals omega
set_option maxRecDepth 100000 in
theorem keep4 {w5 w' : World} {b g : Nat} {l m : Lk} (h : w5.heap[b]? = some (.cells #[.int .i64 l.a, .int .i64 l.b, .int .i64 l.ca, .int .i64 l.cb, .int .i64 l.cp] 71 (0, 0)) ∧ w5.heap[g]? = some (.cells #[.int .i64 m.a, .int .i64 m.b, .int .i64 m.ca, .int .i64 m.cb, .int .i64 m.cp] 71 (0, 0))) (hg : Hid (w5.grownBy w' none)) :
    w'.cell? ⟨b, 0, none⟩ = some (.int .i64 l.a) ∧ w'.cell? ⟨b, 1, none⟩ = some (.int .i64 l.b) ∧ w'.cell? ⟨g, 0, none⟩ = some (.int .i64 m.a) ∧ w'.cell? ⟨g, 1, none⟩ = some (.int .i64 m.b) ∧ Hid (w5.grownBy w' none) := by
  obtain ⟨a0, a1, -, -, -⟩ := lk_facts (kept_row h.1 hg.out (by simp))
  obtain ⟨b0, b1, -, -, -⟩ := lk_facts (kept_row h.2 hg.out (by simp))
  exact ⟨a0, a1, b0, b1, hg⟩
set_option maxRecDepth 100000 in
theorem rd_pair (w : World) (x y : Int) (q : Nat → Prop) (hq : q w.heap.size) : Rd (w.alloc (.cells #[.int .i64 x, .int .i64 y] 3)) q (.slice (some ⟨w.heap.size, 0, none⟩) 2 2) ([x, y].map (fun z => Value.int .i64 z)) := by
  have hb : (w.alloc (.cells #[.int .i64 x, .int .i64 y] 3)).heap[w.heap.size]? = some (.cells #[.int .i64 x, .int .i64 y] 3 (0, 0)) := heap_alloc_new w _
  refine ⟨_, 2, rfl, fun _ => ⟨_, _, rfl, hq, fun i u hi => ?_⟩⟩
  rw [Nat.zero_add, cell_of_row _ _ _ _ _ _ hb]
  simpa using hi
set_option maxRecDepth 100000 in
set_option maxHeartbeats 3200000 in
theorem tcmpl_any (l m : Lk) (w : World) :
    Calls Try.prog 107 #[.agg #[.int .i64 l.a, .int .i64 l.b, .int .i64 l.ca, .int .i64 l.cb, .int .i64 l.cp], .agg #[.int .i64 m.a, .int .i64 m.b, .int .i64 m.ca, .int .i64 m.cb, .int .i64 m.cp]] w fun e w' => e = .returned (.int .i64 (cmpL l m)) ∧ w.grownBy w' none := by
  obtain ⟨k1, k2, k3, k4⟩ := two_boxes w #[.int .i64 l.a, .int .i64 l.b, .int .i64 l.ca, .int .i64 l.cb, .int .i64 l.cp] #[.int .i64 m.a, .int .i64 m.b, .int .i64 m.ca, .int .i64 m.cb, .int .i64 m.cp] 71 71
  have HB := Lib.hid (And.intro k1 k2)
  have K := Lib.hid k3
  clear k1 k2 k3 k4
  go_enter Try.func107, Try.ntmps107
  go_upto_region 1 with fail
  generalize (w.alloc _).alloc _ = wa at *
  have GZ : Hid (wa.grownBy wa none) := Lib.hid (grown_refl _ _)
  obtain ⟨a0, a1, b0, b1, -⟩ := keep4 HB.out GZ
  go_region_held3 (fun w' => w'.cell? ⟨w.heap.size, 0, none⟩ = some (.int .i64 l.a) ∧ w'.cell? ⟨w.heap.size, 1, none⟩ = some (.int .i64 l.b) ∧ w'.cell? ⟨w.heap.size + 1, 0, none⟩ = some (.int .i64 m.a) ∧ w'.cell? ⟨w.heap.size + 1, 1, none⟩ = some (.int .i64 m.b) ∧ Hid (wa.grownBy w' none))
    (first | with_reducible exact keep4 HB.out (hid_drew GZ) | with_reducible exact keep4 HB.out (hid_drew (hid_more GZ (World.grownBy_alloc _ _ _))) | (go_split_ands; with_reducible refine keep4 HB.out ?_; with_reducible assumption) | (go_split_ands; with_reducible refine keep4 HB.out (hid_more ?_ (World.grownBy_alloc _ _ _)); with_reducible assumption))
    (first
      | (go_at_call 112; refine (tcmp_any _ _ _).mono ?_; rintro e w' ⟨rfl, rfl⟩)
      | (go_at_call 111; refine (tor_any [cmpV l.a m.a, cmpV l.b m.b] _ _ (fun _ => True) _ ?_ (by simp)).mono ?_; exact (rd_pair _ _ _ _ trivial).keep (grown_drew (grown_refl _ _)); rintro e w' ⟨rfl, rfl⟩))
  all_goals
    go_split_ands
    go_wp2_with fail
    go_ret
    exact ⟨rfl, grown_trans K.out (Hid.out (by assumption))⟩
end Go.Proofs.Ytnpkihioklpnmaa

/- topology: IndexFunc, ContainsFunc and ascending at routers and at links. -/
namespace Go.Proofs.Ytnpkihioklpnmaa
open Go.RowKit Bs
abbrev EnterF (g : Nat) : Prop := ∀ (args : Array Value) (w : World), (callFunc g args).run Try.prog w = .ok (.enter g args) w

set_option maxRecDepth 100000 in
set_option maxHeartbeats 1600000 in
theorem tidxR_any (g : Nat) (lb : Array Value) (P : Rt → Bool) (eg : EnterF g) (R : List Rt) (p : Option Addr) (c : Nat) (q : Nat → Prop) (w : World) (hR : RdR w q (.slice p R.length c) R) (hm : R.length ≤ 9223372036854775807)
    (hP : ∀ (r : Rt) (w' : World), w.grownBy w' none → Calls Try.prog g (#[.agg #[.int .i64 r.id, .bool r.cap]] ++ lb) w' fun e w2 => e = .returned (.bool (P r)) ∧ w'.grownBy w2 none) :
    Calls Try.prog 127 #[.slice p R.length c, .func (.func g) #[] lb] w fun e w' => ∃ i : Int, e = .returned (.int .i64 i) ∧ decide (0 ≤ i) = R.any P ∧ w.grownBy w' none := by
  have HR := Lib.hid hR
  have HP := Lib.hid hP
  clear hR hP
  go_enter Try.func127, Try.ntmps127
  go_wp2_with fail
  go_loopw [8] (fun a wr => ∃ k : Nat, k ≤ R.length ∧ a = .int .i64 (k : Int) ∧ Hid (w.grownBy wr none) ∧ Hid ((R.take k).any P = false)) (fun a _ => R.length - (RowKit.intOf a).toNat)
  case atStart => exact ⟨0, Nat.zero_le _, rfl, Lib.hid (grown_refl _ _), Lib.hid rfl⟩
  case round =>
    obtain ⟨k, hk, rfl, G, HN⟩ := hrel
    by_cases hlt : k < R.length
    · obtain ⟨-, b, off, rfl, hq, hc⟩ := rdr_cells (HR.out.keep G.out) (by omega)
      obtain ⟨x, hx⟩ : ∃ x, R[k]? = some x := ⟨_, List.getElem?_eq_getElem hlt⟩
      obtain ⟨a0, a1⟩ := hc k x hx
      have HX := Lib.hid hx
      clear hc hx
      have hcall := HP.out x wr G.out
      cases hp : P x
      · rw [hp] at hcall
        have HY := Lib.hid hp
        clear hp
        go_wp2_with (go_at_fn g; refine hcall.mono ?_; rintro e w' ⟨rfl, hg⟩; have HG := Lib.hid (grown_trans G.out hg); clear hg)
        exact ⟨⟨k + 1, by omega, congrArg _ (by omega), HG, Lib.hid (any_take HN.out HX.out HY.out)⟩, by simp only [RowKit.intOf]; omega⟩
      · rw [hp] at hcall
        have HY := Lib.hid hp
        clear hp
        go_wp2_with (go_at_fn g; refine hcall.mono ?_; rintro e w' ⟨rfl, hg⟩; have HG := Lib.hid (grown_trans G.out hg); clear hg)
        go_ret
        refine ⟨_, rfl, ?_, HG.out⟩
        rw [any_at HX.out HY.out, decide_eq_true_eq]; omega
    · obtain rfl : k = R.length := by omega
      go_wp2_with fail
      go_ret
      refine ⟨_, rfl, ?_, G.out⟩
      rw [any_end HN.out (Nat.le_refl _)]; decide
set_option maxRecDepth 100000 in
set_option maxHeartbeats 1600000 in
theorem tcontR_any (g : Nat) (lb : Array Value) (P : Rt → Bool) (eg : EnterF g) (R : List Rt) (p : Option Addr) (c : Nat) (q : Nat → Prop) (w : World) (hR : RdR w q (.slice p R.length c) R) (hm : R.length ≤ 9223372036854775807)
    (hP : ∀ (r : Rt) (w' : World), w.grownBy w' none → Calls Try.prog g (#[.agg #[.int .i64 r.id, .bool r.cap]] ++ lb) w' fun e w2 => e = .returned (.bool (P r)) ∧ w'.grownBy w2 none) :
    Calls Try.prog 98 #[.slice p R.length c, .func (.func g) #[] lb] w fun e w' => e = .returned (.bool (R.any P)) ∧ w.grownBy w' none := by
  have HR := Lib.hid hR
  have HP := Lib.hid hP
  clear hR hP
  go_enter Try.func98, Try.ntmps98
  go_wp2_with (go_at_call 127; refine (tidxR_any g lb P eg R p c q w HR.out hm HP.out).mono ?_; rintro e w' ⟨i, rfl, hi, hg⟩; have HI := Lib.hid (And.intro hi hg); clear hi hg)
  go_ret
  rw [← HI.out.1]
  exact ⟨rfl, HI.out.2⟩
set_option maxRecDepth 100000 in
theorem ascR_end {R : List Rt} (h : ∀ i x y, i + 1 < R.length → R[i]? = some x → R[i + 1]? = some y → ltR x y = true) : ascB ltR R = true :=
  (ascB_iff _ _).2 fun i x y hx hy => h i x y ((List.getElem?_eq_some_iff.1 hy).1) hx hy
set_option maxRecDepth 100000 in
theorem ascR_hit {R : List Rt} {i : Nat} {x y : Rt} (hx : R[i]? = some x) (hy : R[i + 1]? = some y) (h : ltR x y = false) : ascB ltR R = false := by
  rw [Bool.eq_false_iff]
  intro h2
  have := (ascB_iff _ _).1 h2 i x y hx hy
  rw [h] at this; cases this
set_option maxRecDepth 100000 in
theorem ltR_of_ge {x y : Rt} (h : 0 ≤ cmpV x.id y.id) : ltR x y = false := by
  exact (by have := cmpV_ge.1 h; unfold ltR; rw [decide_eq_false_iff_not]; omega)
set_option maxRecDepth 100000 in
theorem ltR_of_lt {x y : Rt} (h : ¬ 0 ≤ cmpV x.id y.id) : ltR x y = true := by
  exact (by have : ¬ y.id ≤ x.id := fun e => h (cmpV_ge.2 e); unfold ltR; rw [decide_eq_true_eq]; omega)
set_option maxRecDepth 100000 in
theorem keepAR {wr w' : World} {b i j : Nat} {x y : Rt} (h : wr.cell? ⟨b, i, none⟩ = some (.int .i64 x.id) ∧ wr.cell? ⟨b, i + 1, none⟩ = some (.bool x.cap) ∧ wr.cell? ⟨b, j, none⟩ = some (.int .i64 y.id) ∧ wr.cell? ⟨b, j + 1, none⟩ = some (.bool y.cap)) (hg : Hid (wr.grownBy w' none)) : w'.cell? ⟨b, i, none⟩ = some (.int .i64 x.id) ∧ w'.cell? ⟨b, i + 1, none⟩ = some (.bool x.cap) ∧ w'.cell? ⟨b, j, none⟩ = some (.int .i64 y.id) ∧ w'.cell? ⟨b, j + 1, none⟩ = some (.bool y.cap) ∧ Hid (wr.grownBy w' none) := by
  obtain ⟨h0, h1, h2, h3⟩ := h
  exact ⟨hg.out.cell h0 (by simp), hg.out.cell h1 (by simp), hg.out.cell h2 (by simp), hg.out.cell h3 (by simp), hg⟩
set_option maxRecDepth 100000 in
set_option maxHeartbeats 3200000 in
theorem tascR_any (R : List Rt) (p : Option Addr) (c : Nat) (q : Nat → Prop) (w : World) (hR : RdR w q (.slice p R.length c) R) (hm : R.length ≤ 9223372036854775807) :
    Calls Try.prog 100 #[.slice p R.length c, .func (.func 101) #[] #[]] w fun e w' => e = .returned (.bool (ascB ltR R)) ∧ w.grownBy w' none := by
  have eg : EnterF 101 := enters_of Try.func101 (by kernel_rfl) rfl
  have HR := Lib.hid hR
  clear hR
  go_enter Try.func100, Try.ntmps100
  go_wp2_with fail
  go_loopw [5] (fun a wr => ∃ k : Nat, 1 ≤ k ∧ (k ≤ R.length ∨ k = 1) ∧ a = .int .i64 (k : Int) ∧ Hid (w.grownBy wr none) ∧ Hid (∀ i x y, i + 1 < k → R[i]? = some x → R[i + 1]? = some y → ltR x y = true)) (fun a _ => R.length - (RowKit.intOf a).toNat)
  case atStart => exact ⟨1, by omega, Or.inr rfl, rfl, Lib.hid (grown_refl _ _), Lib.hid (fun i x y h => by omega)⟩
  case round =>
    obtain ⟨k, hk1, hk, rfl, G, HN⟩ := hrel
    by_cases hlt : k < R.length
    · obtain ⟨j, rfl⟩ : ∃ j, k = j + 1 := ⟨k - 1, by omega⟩
      obtain ⟨-, b, off, rfl, hq, hc⟩ := rdr_cells (HR.out.keep G.out) (by omega)
      obtain ⟨x, hx⟩ : ∃ x, R[j]? = some x := ⟨_, List.getElem?_eq_getElem (by omega)⟩
      obtain ⟨y, hy⟩ : ∃ y, R[j + 1]? = some y := ⟨_, List.getElem?_eq_getElem hlt⟩
      obtain ⟨a0, a1⟩ := hc j x hx
      obtain ⟨b0, b1⟩ := hc (j + 1) y hy
      have HXY := Lib.hid (And.intro hx hy)
      have ew1 : ((j : Int) + 1 - 1) = (j : Int) := by omega
      have ew2 : IntKind.i64.wrap ((j : Int) + 1 - 1) = (j : Int) := by rw [ew1, IntWalk.i64_in _ (by omega)]
      have ew3 : IntKind.i64.wrap (j : Int) = (j : Int) := IntWalk.i64_in _ (by omega)
      have j0 : (0 : Int) ≤ (j : Int) := by omega
      have j1 : (0 : Int) ≤ (j : Int) + 1 := by omega
      have j2 : (j : Int) < (R.length : Int) := by omega
      have j3 : (j : Int) + 1 < (R.length : Int) := by omega
      have j4 : ((j : Int) + 1).toNat = j + 1 := by omega
      clear hc hx hy
      have hcast : ((j + 1 : Nat) : Int) = (j : Int) + 1 := by omega
      rw [hcast]
      have HF := Lib.hid (show wr.cell? ⟨b, off + j * 2, none⟩ = some (.int .i64 x.id) ∧ wr.cell? ⟨b, off + j * 2 + 1, none⟩ = some (.bool x.cap) ∧ wr.cell? ⟨b, off + (j + 1) * 2, none⟩ = some (.int .i64 y.id) ∧ wr.cell? ⟨b, off + (j + 1) * 2 + 1, none⟩ = some (.bool y.cap) from ⟨a0, a1, b0, b1⟩)
      have GZ : Hid (wr.grownBy wr none) := Lib.hid (grown_refl _ _)
      go_upto_region 4 with fail
      cases hlt2 : ltR x y
      · have hge : 0 ≤ cmpV x.id y.id := by
          by_cases h : 0 ≤ cmpV x.id y.id
          · exact h
          · rw [ltR_of_lt h] at hlt2; cases hlt2
        have HL := Lib.hid hlt2
        clear hlt2
        go_region_held3 (fun w' => w'.cell? ⟨b, off + j * 2, none⟩ = some (.int .i64 x.id) ∧ w'.cell? ⟨b, off + j * 2 + 1, none⟩ = some (.bool x.cap) ∧ w'.cell? ⟨b, off + (j + 1) * 2, none⟩ = some (.int .i64 y.id) ∧ w'.cell? ⟨b, off + (j + 1) * 2 + 1, none⟩ = some (.bool y.cap) ∧ Hid (wr.grownBy w' none))
          (first | with_reducible exact keepAR HF.out (hid_drew GZ) | (with_reducible exact keepAR HF.out (hid_drew (hid_more GZ hg))) | (go_split_ands; with_reducible refine keepAR HF.out ?_; with_reducible assumption) | (go_split_ands; with_reducible refine keepAR HF.out (hid_more ?_ hg); with_reducible assumption))
          ((go_at_call 101; refine (tcmpid_any x y _).mono ?_; rintro e w' ⟨rfl, hg⟩))
        all_goals
          go_split_ands
          go_wp2_with fail
          go_ret
          rw [ascR_hit HXY.out.1 HXY.out.2 HL.out]
          exact ⟨rfl, grown_trans G.out (Hid.out (by assumption))⟩
      · have hge : ¬ 0 ≤ cmpV x.id y.id := by
          intro h
          rw [ltR_of_ge h] at hlt2; cases hlt2
        have HL := Lib.hid hlt2
        clear hlt2
        go_region_held3 (fun w' => w'.cell? ⟨b, off + j * 2, none⟩ = some (.int .i64 x.id) ∧ w'.cell? ⟨b, off + j * 2 + 1, none⟩ = some (.bool x.cap) ∧ w'.cell? ⟨b, off + (j + 1) * 2, none⟩ = some (.int .i64 y.id) ∧ w'.cell? ⟨b, off + (j + 1) * 2 + 1, none⟩ = some (.bool y.cap) ∧ Hid (wr.grownBy w' none))
          (first | with_reducible exact keepAR HF.out (hid_drew GZ) | (with_reducible exact keepAR HF.out (hid_drew (hid_more GZ hg))) | (go_split_ands; with_reducible refine keepAR HF.out ?_; with_reducible assumption) | (go_split_ands; with_reducible refine keepAR HF.out (hid_more ?_ hg); with_reducible assumption))
          ((go_at_call 101; refine (tcmpid_any x y _).mono ?_; rintro e w' ⟨rfl, hg⟩))
        all_goals
          go_split_ands
          have HGW := Lib.hid (grown_trans G.out (Hid.out (by assumption)))
          go_wp2_with fail
          refine ⟨⟨j + 1 + 1, by omega, Or.inl (by omega), congrArg _ (by omega), HGW, Lib.hid fun i x2 y2 hi hx2 hy2 => ?_⟩, by simp only [RowKit.intOf]; omega⟩
          by_cases hij : i = j
          · subst hij
            have e1 := HXY.out.1.symm.trans hx2
            have e2 := HXY.out.2.symm.trans hy2
            injection e1 with e1
            injection e2 with e2
            subst e1
            subst e2
            exact HL.out
          · exact HN.out i x2 y2 (by omega) hx2 hy2
    · have h1 : ¬ (k : Int) < (R.length : Int) := by omega
      go_wp2_with fail
      go_ret
      rw [ascR_end fun i x y hi hx hy => HN.out i x y (by omega) hx hy]
      exact ⟨rfl, G.out⟩

set_option maxRecDepth 100000 in
set_option maxHeartbeats 1600000 in
theorem tidxL_any (g : Nat) (lb : Array Value) (P : Lk → Bool) (eg : EnterF g) (R : List Lk) (p : Option Addr) (c : Nat) (q : Nat → Prop) (w : World) (hR : RdL5 w q (.slice p R.length c) R) (hm : R.length ≤ 9223372036854775807)
    (hP : ∀ (r : Lk) (w' : World), w.grownBy w' none → Calls Try.prog g (#[.agg #[.int .i64 r.a, .int .i64 r.b, .int .i64 r.ca, .int .i64 r.cb, .int .i64 r.cp]] ++ lb) w' fun e w2 => e = .returned (.bool (P r)) ∧ w'.grownBy w2 none) :
    Calls Try.prog 129 #[.slice p R.length c, .func (.func g) #[] lb] w fun e w' => ∃ i : Int, e = .returned (.int .i64 i) ∧ decide (0 ≤ i) = R.any P ∧ w.grownBy w' none := by
  have HR := Lib.hid hR
  have HP := Lib.hid hP
  clear hR hP
  go_enter Try.func129, Try.ntmps129
  go_wp2_with fail
  go_loopw [8] (fun a wr => ∃ k : Nat, k ≤ R.length ∧ a = .int .i64 (k : Int) ∧ Hid (w.grownBy wr none) ∧ Hid ((R.take k).any P = false)) (fun a _ => R.length - (RowKit.intOf a).toNat)
  case atStart => exact ⟨0, Nat.zero_le _, rfl, Lib.hid (grown_refl _ _), Lib.hid rfl⟩
  case round =>
    obtain ⟨k, hk, rfl, G, HN⟩ := hrel
    by_cases hlt : k < R.length
    · obtain ⟨-, b, off, rfl, hq, hc⟩ := rdl_cells (HR.out.keep G.out) (by omega)
      obtain ⟨x, hx⟩ : ∃ x, R[k]? = some x := ⟨_, List.getElem?_eq_getElem hlt⟩
      obtain ⟨a0, a1, a2, a3, a4⟩ := hc k x hx
      have HX := Lib.hid hx
      clear hc hx
      have hcall := HP.out x wr G.out
      cases hp : P x
      · rw [hp] at hcall
        have HY := Lib.hid hp
        clear hp
        go_wp2_with (go_at_fn g; refine hcall.mono ?_; rintro e w' ⟨rfl, hg⟩; have HG := Lib.hid (grown_trans G.out hg); clear hg)
        exact ⟨⟨k + 1, by omega, congrArg _ (by omega), HG, Lib.hid (any_take HN.out HX.out HY.out)⟩, by simp only [RowKit.intOf]; omega⟩
      · rw [hp] at hcall
        have HY := Lib.hid hp
        clear hp
        go_wp2_with (go_at_fn g; refine hcall.mono ?_; rintro e w' ⟨rfl, hg⟩; have HG := Lib.hid (grown_trans G.out hg); clear hg)
        go_ret
        refine ⟨_, rfl, ?_, HG.out⟩
        rw [any_at HX.out HY.out, decide_eq_true_eq]; omega
    · obtain rfl : k = R.length := by omega
      go_wp2_with fail
      go_ret
      refine ⟨_, rfl, ?_, G.out⟩
      rw [any_end HN.out (Nat.le_refl _)]; decide
set_option maxRecDepth 100000 in
set_option maxHeartbeats 1600000 in
theorem tcontL_any (g : Nat) (lb : Array Value) (P : Lk → Bool) (eg : EnterF g) (R : List Lk) (p : Option Addr) (c : Nat) (q : Nat → Prop) (w : World) (hR : RdL5 w q (.slice p R.length c) R) (hm : R.length ≤ 9223372036854775807)
    (hP : ∀ (r : Lk) (w' : World), w.grownBy w' none → Calls Try.prog g (#[.agg #[.int .i64 r.a, .int .i64 r.b, .int .i64 r.ca, .int .i64 r.cb, .int .i64 r.cp]] ++ lb) w' fun e w2 => e = .returned (.bool (P r)) ∧ w'.grownBy w2 none) :
    Calls Try.prog 102 #[.slice p R.length c, .func (.func g) #[] lb] w fun e w' => e = .returned (.bool (R.any P)) ∧ w.grownBy w' none := by
  have HR := Lib.hid hR
  have HP := Lib.hid hP
  clear hR hP
  go_enter Try.func102, Try.ntmps102
  go_wp2_with (go_at_call 129; refine (tidxL_any g lb P eg R p c q w HR.out hm HP.out).mono ?_; rintro e w' ⟨i, rfl, hi, hg⟩; have HI := Lib.hid (And.intro hi hg); clear hi hg)
  go_ret
  rw [← HI.out.1]
  exact ⟨rfl, HI.out.2⟩
set_option maxRecDepth 100000 in
theorem ascL_end {R : List Lk} (h : ∀ i x y, i + 1 < R.length → R[i]? = some x → R[i + 1]? = some y → ltL x y = true) : ascB ltL R = true :=
  (ascB_iff _ _).2 fun i x y hx hy => h i x y ((List.getElem?_eq_some_iff.1 hy).1) hx hy
set_option maxRecDepth 100000 in
theorem ascL_hit {R : List Lk} {i : Nat} {x y : Lk} (hx : R[i]? = some x) (hy : R[i + 1]? = some y) (h : ltL x y = false) : ascB ltL R = false := by
  rw [Bool.eq_false_iff]
  intro h2
  have := (ascB_iff _ _).1 h2 i x y hx hy
  rw [h] at this; cases this
set_option maxRecDepth 100000 in
theorem ltL_of_ge {x y : Lk} (h : 0 ≤ cmpL x y) : ltL x y = false := by
  exact cmpL_ge.1 h
set_option maxRecDepth 100000 in
theorem ltL_of_lt {x y : Lk} (h : ¬ 0 ≤ cmpL x y) : ltL x y = true := by
  exact (by have : ¬ ltL x y = false := fun e => h (cmpL_ge.2 e); simpa using this)
set_option maxRecDepth 100000 in
theorem keepAL {wr w' : World} {b i j : Nat} {x y : Lk} (h : wr.cell? ⟨b, i, none⟩ = some (.int .i64 x.a) ∧ wr.cell? ⟨b, i + 1, none⟩ = some (.int .i64 x.b) ∧ wr.cell? ⟨b, i + 2, none⟩ = some (.int .i64 x.ca) ∧ wr.cell? ⟨b, i + 3, none⟩ = some (.int .i64 x.cb) ∧ wr.cell? ⟨b, i + 4, none⟩ = some (.int .i64 x.cp) ∧ wr.cell? ⟨b, j, none⟩ = some (.int .i64 y.a) ∧ wr.cell? ⟨b, j + 1, none⟩ = some (.int .i64 y.b) ∧ wr.cell? ⟨b, j + 2, none⟩ = some (.int .i64 y.ca) ∧ wr.cell? ⟨b, j + 3, none⟩ = some (.int .i64 y.cb) ∧ wr.cell? ⟨b, j + 4, none⟩ = some (.int .i64 y.cp)) (hg : Hid (wr.grownBy w' none)) : w'.cell? ⟨b, i, none⟩ = some (.int .i64 x.a) ∧ w'.cell? ⟨b, i + 1, none⟩ = some (.int .i64 x.b) ∧ w'.cell? ⟨b, i + 2, none⟩ = some (.int .i64 x.ca) ∧ w'.cell? ⟨b, i + 3, none⟩ = some (.int .i64 x.cb) ∧ w'.cell? ⟨b, i + 4, none⟩ = some (.int .i64 x.cp) ∧ w'.cell? ⟨b, j, none⟩ = some (.int .i64 y.a) ∧ w'.cell? ⟨b, j + 1, none⟩ = some (.int .i64 y.b) ∧ w'.cell? ⟨b, j + 2, none⟩ = some (.int .i64 y.ca) ∧ w'.cell? ⟨b, j + 3, none⟩ = some (.int .i64 y.cb) ∧ w'.cell? ⟨b, j + 4, none⟩ = some (.int .i64 y.cp) ∧ Hid (wr.grownBy w' none) := by
  obtain ⟨h0, h1, h2, h3, h4, h5, h6, h7, h8, h9⟩ := h
  exact ⟨hg.out.cell h0 (by simp), hg.out.cell h1 (by simp), hg.out.cell h2 (by simp), hg.out.cell h3 (by simp), hg.out.cell h4 (by simp), hg.out.cell h5 (by simp), hg.out.cell h6 (by simp), hg.out.cell h7 (by simp), hg.out.cell h8 (by simp), hg.out.cell h9 (by simp), hg⟩
set_option maxRecDepth 100000 in
set_option maxHeartbeats 3200000 in
theorem tascL_any (R : List Lk) (p : Option Addr) (c : Nat) (q : Nat → Prop) (w : World) (hR : RdL5 w q (.slice p R.length c) R) (hm : R.length ≤ 9223372036854775807) :
    Calls Try.prog 106 #[.slice p R.length c, .func (.func 107) #[] #[]] w fun e w' => e = .returned (.bool (ascB ltL R)) ∧ w.grownBy w' none := by
  have eg : EnterF 107 := enters_of Try.func107 (by kernel_rfl) rfl
  have HR := Lib.hid hR
  clear hR
  go_enter Try.func106, Try.ntmps106
  go_wp2_with fail
  go_loopw [5] (fun a wr => ∃ k : Nat, 1 ≤ k ∧ (k ≤ R.length ∨ k = 1) ∧ a = .int .i64 (k : Int) ∧ Hid (w.grownBy wr none) ∧ Hid (∀ i x y, i + 1 < k → R[i]? = some x → R[i + 1]? = some y → ltL x y = true)) (fun a _ => R.length - (RowKit.intOf a).toNat)
  case atStart => exact ⟨1, by omega, Or.inr rfl, rfl, Lib.hid (grown_refl _ _), Lib.hid (fun i x y h => by omega)⟩
  case round =>
    obtain ⟨k, hk1, hk, rfl, G, HN⟩ := hrel
    by_cases hlt : k < R.length
    · obtain ⟨j, rfl⟩ : ∃ j, k = j + 1 := ⟨k - 1, by omega⟩
      obtain ⟨-, b, off, rfl, hq, hc⟩ := rdl_cells (HR.out.keep G.out) (by omega)
      obtain ⟨x, hx⟩ : ∃ x, R[j]? = some x := ⟨_, List.getElem?_eq_getElem (by omega)⟩
      obtain ⟨y, hy⟩ : ∃ y, R[j + 1]? = some y := ⟨_, List.getElem?_eq_getElem hlt⟩
      obtain ⟨a0, a1, a2, a3, a4⟩ := hc j x hx
      obtain ⟨b0, b1, b2, b3, b4⟩ := hc (j + 1) y hy
      have HXY := Lib.hid (And.intro hx hy)
      have ew1 : ((j : Int) + 1 - 1) = (j : Int) := by omega
      have ew2 : IntKind.i64.wrap ((j : Int) + 1 - 1) = (j : Int) := by rw [ew1, IntWalk.i64_in _ (by omega)]
      have ew3 : IntKind.i64.wrap (j : Int) = (j : Int) := IntWalk.i64_in _ (by omega)
      have j0 : (0 : Int) ≤ (j : Int) := by omega
      have j1 : (0 : Int) ≤ (j : Int) + 1 := by omega
      have j2 : (j : Int) < (R.length : Int) := by omega
      have j3 : (j : Int) + 1 < (R.length : Int) := by omega
      have j4 : ((j : Int) + 1).toNat = j + 1 := by omega
      clear hc hx hy
      have hcast : ((j + 1 : Nat) : Int) = (j : Int) + 1 := by omega
      rw [hcast]
      have HF := Lib.hid (show wr.cell? ⟨b, off + j * 5, none⟩ = some (.int .i64 x.a) ∧ wr.cell? ⟨b, off + j * 5 + 1, none⟩ = some (.int .i64 x.b) ∧ wr.cell? ⟨b, off + j * 5 + 2, none⟩ = some (.int .i64 x.ca) ∧ wr.cell? ⟨b, off + j * 5 + 3, none⟩ = some (.int .i64 x.cb) ∧ wr.cell? ⟨b, off + j * 5 + 4, none⟩ = some (.int .i64 x.cp) ∧ wr.cell? ⟨b, off + (j + 1) * 5, none⟩ = some (.int .i64 y.a) ∧ wr.cell? ⟨b, off + (j + 1) * 5 + 1, none⟩ = some (.int .i64 y.b) ∧ wr.cell? ⟨b, off + (j + 1) * 5 + 2, none⟩ = some (.int .i64 y.ca) ∧ wr.cell? ⟨b, off + (j + 1) * 5 + 3, none⟩ = some (.int .i64 y.cb) ∧ wr.cell? ⟨b, off + (j + 1) * 5 + 4, none⟩ = some (.int .i64 y.cp) from ⟨a0, a1, a2, a3, a4, b0, b1, b2, b3, b4⟩)
      have GZ : Hid (wr.grownBy wr none) := Lib.hid (grown_refl _ _)
      go_upto_region 4 with fail
      cases hlt2 : ltL x y
      · have hge : 0 ≤ cmpL x y := by
          by_cases h : 0 ≤ cmpL x y
          · exact h
          · rw [ltL_of_lt h] at hlt2; cases hlt2
        have HL := Lib.hid hlt2
        clear hlt2
        go_region_held3 (fun w' => w'.cell? ⟨b, off + j * 5, none⟩ = some (.int .i64 x.a) ∧ w'.cell? ⟨b, off + j * 5 + 1, none⟩ = some (.int .i64 x.b) ∧ w'.cell? ⟨b, off + j * 5 + 2, none⟩ = some (.int .i64 x.ca) ∧ w'.cell? ⟨b, off + j * 5 + 3, none⟩ = some (.int .i64 x.cb) ∧ w'.cell? ⟨b, off + j * 5 + 4, none⟩ = some (.int .i64 x.cp) ∧ w'.cell? ⟨b, off + (j + 1) * 5, none⟩ = some (.int .i64 y.a) ∧ w'.cell? ⟨b, off + (j + 1) * 5 + 1, none⟩ = some (.int .i64 y.b) ∧ w'.cell? ⟨b, off + (j + 1) * 5 + 2, none⟩ = some (.int .i64 y.ca) ∧ w'.cell? ⟨b, off + (j + 1) * 5 + 3, none⟩ = some (.int .i64 y.cb) ∧ w'.cell? ⟨b, off + (j + 1) * 5 + 4, none⟩ = some (.int .i64 y.cp) ∧ Hid (wr.grownBy w' none))
          (first | with_reducible exact keepAL HF.out (hid_drew GZ) | (with_reducible exact keepAL HF.out (hid_drew (hid_more GZ hg))) | (go_split_ands; with_reducible refine keepAL HF.out ?_; with_reducible assumption) | (go_split_ands; with_reducible refine keepAL HF.out (hid_more ?_ hg); with_reducible assumption))
          ((go_at_call 107; refine (tcmpl_any x y _).mono ?_; rintro e w' ⟨rfl, hg⟩))
        all_goals
          go_split_ands
          go_wp2_with fail
          go_ret
          rw [ascL_hit HXY.out.1 HXY.out.2 HL.out]
          exact ⟨rfl, grown_trans G.out (Hid.out (by assumption))⟩
      · have hge : ¬ 0 ≤ cmpL x y := by
          intro h
          rw [ltL_of_ge h] at hlt2; cases hlt2
        have HL := Lib.hid hlt2
        clear hlt2
        go_region_held3 (fun w' => w'.cell? ⟨b, off + j * 5, none⟩ = some (.int .i64 x.a) ∧ w'.cell? ⟨b, off + j * 5 + 1, none⟩ = some (.int .i64 x.b) ∧ w'.cell? ⟨b, off + j * 5 + 2, none⟩ = some (.int .i64 x.ca) ∧ w'.cell? ⟨b, off + j * 5 + 3, none⟩ = some (.int .i64 x.cb) ∧ w'.cell? ⟨b, off + j * 5 + 4, none⟩ = some (.int .i64 x.cp) ∧ w'.cell? ⟨b, off + (j + 1) * 5, none⟩ = some (.int .i64 y.a) ∧ w'.cell? ⟨b, off + (j + 1) * 5 + 1, none⟩ = some (.int .i64 y.b) ∧ w'.cell? ⟨b, off + (j + 1) * 5 + 2, none⟩ = some (.int .i64 y.ca) ∧ w'.cell? ⟨b, off + (j + 1) * 5 + 3, none⟩ = some (.int .i64 y.cb) ∧ w'.cell? ⟨b, off + (j + 1) * 5 + 4, none⟩ = some (.int .i64 y.cp) ∧ Hid (wr.grownBy w' none))
          (first | with_reducible exact keepAL HF.out (hid_drew GZ) | (with_reducible exact keepAL HF.out (hid_drew (hid_more GZ hg))) | (go_split_ands; with_reducible refine keepAL HF.out ?_; with_reducible assumption) | (go_split_ands; with_reducible refine keepAL HF.out (hid_more ?_ hg); with_reducible assumption))
          ((go_at_call 107; refine (tcmpl_any x y _).mono ?_; rintro e w' ⟨rfl, hg⟩))
        all_goals
          go_split_ands
          have HGW := Lib.hid (grown_trans G.out (Hid.out (by assumption)))
          go_wp2_with fail
          refine ⟨⟨j + 1 + 1, by omega, Or.inl (by omega), congrArg _ (by omega), HGW, Lib.hid fun i x2 y2 hi hx2 hy2 => ?_⟩, by simp only [RowKit.intOf]; omega⟩
          by_cases hij : i = j
          · subst hij
            have e1 := HXY.out.1.symm.trans hx2
            have e2 := HXY.out.2.symm.trans hy2
            injection e1 with e1
            injection e2 with e2
            subst e1
            subst e2
            exact HL.out
          · exact HN.out i x2 y2 (by omega) hx2 hy2
    · have h1 : ¬ (k : Int) < (R.length : Int) := by omega
      go_wp2_with fail
      go_ret
      rw [ascL_end fun i x y hi hx hy => HN.out i x y (by omega) hx hy]
      exact ⟨rfl, G.out⟩
end Go.Proofs.Ytnpkihioklpnmaa

/- Blocks that a call fills; the array of the routers that are known. -/
namespace Go.Proofs.Ytnpkihioklpnmaa
open Go.RowKit Bs
/-- Block g has the cells xs. -/
def TRow (w : World) (g : Nat) (t : TypeId) (xs : List Value) : Prop := w.heap[g]? = some (.cells xs.toArray t (0, 0))
set_option maxRecDepth 100000 in
theorem TRow.set {w : World} {g : Nat} {t : TypeId} {xs : List Value} (h : TRow w g t xs) (j : Nat) (v : Value) : TRow (w.setCell ⟨g, j, none⟩ v) g t (xs.set j v) := by
  have := heap_setCell_same w g j _ _ v h
  rw [List.setIfInBounds_toArray] at this
  exact this
set_option maxRecDepth 100000 in
theorem TRow.cell {w : World} {g : Nat} {t : TypeId} {xs : List Value} (h : TRow w g t xs) {j : Nat} {x : Value} (hj : xs[j]? = some x) : w.cell? ⟨g, j, none⟩ = some x := by
  rw [cell_of_row _ _ _ _ _ _ h]
  simpa using hj
set_option maxRecDepth 100000 in
theorem TRow.frozen {w : World} {g : Nat} {t : TypeId} {xs : List Value} (h : TRow w g t xs) (j : Nat) : w.frozen? ⟨g, j, none⟩ = false := frozen_of_row _ _ _ _ _ h
set_option maxRecDepth 100000 in
theorem TRow.kept {w w' : World} {g : Nat} {t : TypeId} {xs : List Value} {r : Option Nat} (h : TRow w g t xs) (k : w.grownBy w' r) (hr : some g ≠ r) : TRow w' g t xs := kept_row h k hr
set_option maxRecDepth 100000 in
theorem TRow.lt {w : World} {g : Nat} {t : TypeId} {xs : List Value} (h : TRow w g t xs) : g < w.heap.size := by
  unfold TRow at h
  rcases Nat.lt_or_ge g w.heap.size with h1 | h1
  · exact h1
  · rw [Array.getElem?_eq_none h1] at h; cases h
def kn (l : List Rt) : List Value := (List.range 100).map fun i : Nat => .bool (hasR l (i : Int))
set_option maxRecDepth 100000 in
theorem kn_at {l : List Rt} {i : Nat} (hi : i < 100) : (kn l)[i]? = some (.bool (hasR l (i : Int))) := by
  unfold kn
  rw [List.getElem?_map, List.getElem?_eq_getElem (by simpa using hi), List.getElem_range]; rfl
set_option maxRecDepth 100000 in
theorem hasR_snoc (l : List Rt) (r : Rt) (x : Int) : hasR (l ++ [r]) x = (hasR l x || decide (r.id = x)) := by
  unfold hasR
  rw [List.any_append]
  simp
set_option maxRecDepth 100000 in
theorem kn_snoc {l : List Rt} {r : Rt} {n : Nat} (h : r.id = (n : Int)) (hn : n < 100) : (kn l).set n (.bool true) = kn (l ++ [r]) := by
  apply List.ext_getElem?
  intro i
  rw [List.getElem?_set]
  have hl : (kn l).length = 100 := by unfold kn; simp
  by_cases hi : i < 100
  · rw [kn_at hi, kn_at hi, hasR_snoc, h]
    by_cases e : n = i
    · subst e
      rw [if_pos rfl, if_pos (by omega), decide_eq_true rfl, Bool.or_true]
    · rw [if_neg e]
      have : decide ((n : Int) = (i : Int)) = false := decide_eq_false (by omega)
      rw [this, Bool.or_false]
  · have e1 : (kn (l ++ [r]))[i]? = none := List.getElem?_eq_none (by unfold kn; simp; omega)
    have e2 : (kn l)[i]? = none := List.getElem?_eq_none (by omega)
    rw [e1, e2, if_neg (by omega)]
set_option maxRecDepth 100000 in
theorem hasR_range {R : List Rt} {x : Int} (hid : R.any wrId = false) (h : hasR R x = true) : 1 ≤ x ∧ x ≤ 99 := by
  obtain ⟨r, hr, e⟩ := List.any_eq_true.1 h
  rw [decide_eq_true_eq] at e
  subst e
  have := List.any_eq_false.1 hid r hr
  unfold wrId at this
  simpa using this
set_option maxRecDepth 100000 in
theorem wr_at {R : List Rt} {k : Nat} {x : Rt} (hid : R.any wrId = false) (hx : R[k]? = some x) : ∃ n : Nat, x.id = (n : Int) ∧ 1 ≤ n ∧ n < 100 := by
  have := List.any_eq_false.1 hid x (List.mem_of_getElem? hx)
  have h2 : 1 ≤ x.id ∧ x.id ≤ 99 := by unfold wrId at this; simpa using this
  exact ⟨x.id.toNat, by omega, by omega, by omega⟩
end Go.Proofs.Ytnpkihioklpnmaa
