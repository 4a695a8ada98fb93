/- Rows of the call's own that grow apart. -/
import Derived.Test.YtnfgkakhdgiepaaDoorIoWild
import Derived.Test.YtnfgkakhdgiepaaDoorIoPut
namespace Go.Proofs.YtnfgkakhdgiepaaDoor
open Go.RowKit Bs
def zv (x : Nat) : Value := .int .i64 (x : Int)
set_option maxRecDepth 100000 in
theorem zv_one {l : List Nat} : ∀ u ∈ l.map zv, u.oneCell' = true := by
  intro u hu
  obtain ⟨x, _, rfl⟩ := List.mem_map.1 hu
  rfl
set_option maxRecDepth 100000 in
/-- append of ints that are read, onto a row of the call's own. -/
theorem wpList_append_ints {w : World} {ops : Array Oper} {rest : List Oper} {o : Oper} {a : Act} {Q : Exit → Act → World → Prop} (hgd : o.guard = none) (s x : Operand)
    (ho : o.op = .call { callee := .builtin .append, args := #[s, x], argTypes := #[22, 22] }) (base : Nat) (v : Value) (n : Nat) (l : List Nat) (hs : a.eval s = v) (hown : w.ownsRow base 3 1 v n (l.map zv))
    (p : Option Addr) (k c : Nat) (r : List Nat) (hx : a.eval x = .slice p k c) (hk : k = r.length) (hn0 : p = none → c = 0 ∧ k = 0) (hnews : ∀ ad, p = some ad → ∀ j u, (r.map zv)[j]? = some u → w.cell? (ad.add j) = some u) (h63 : n + r.length ≤ 100000) (hbase : base ≤ w.heap.size)
    (h : ∀ v' w', w'.ownsRow base 3 1 v' (n + r.length) ((l ++ r).map zv) → w.grownBy w' v.ownBlock → wpList Tryd.prog ops Q rest (a.put o.dst v') w') : wpList Tryd.prog ops Q (o :: rest) a w := by
  obtain ⟨i0, hi, hz0, hz1, hz2⟩ := info_parts info_int
  subst hk
  cases p with
  | none =>
    obtain ⟨rfl, hr⟩ := hn0 rfl
    obtain rfl := List.eq_nil_of_length_eq_zero hr
    refine wpList_append_own_none hgd s x 22 ho base 3 i0 1 Tryd.underlying22 hi v n (l.map zv) hs hown hx ?_
    refine h v w ?_ (grown_refl _ _)
    rw [List.append_nil]; exact hown
  | some ad =>
    refine wpList_append_own w hgd s x 22 ho base 3 i0 (.int .i64 0) 1 8 Tryd.underlying22 hi hz0 hz1 hz2 rfl (by decide) v n (l.map zv) hs hown ad r.length c (r.map zv) hx (by simp) (hnews ad rfl) zv_one (by unfold maxLen; omega) (by omega) hbase ?_
    intro v' w' h1 h2 _
    refine h v' w' ?_ h2
    rw [List.map_append]; exact h1
set_option maxRecDepth 100000 in
theorem tp_new2 {w1 w2 : World} {a b : Nat} (h : Tp w1 a) (k : w1.grownBy w2 (some b)) (hb : a < b) : Tp w2 a := by
  have hlt := h.lt
  obtain ⟨v, n, i, T⟩ := h
  have hb' : w2.heap[a]? = w1.heap[a]? := k.block a hlt (by intro e; have := Option.some.inj e; omega)
  refine ⟨v, n, i, (World.cell?_of_block (a := ⟨a, 0, none⟩) hb').trans T.l, (World.cell?_of_block (a := ⟨a, 1, none⟩) hb').trans T.p, (World.frozen?_of_block (a := ⟨a, 1, none⟩) hb').trans T.fr, ?_, T.le, T.len⟩
  obtain ⟨p, c, hv, hc⟩ := T.ints
  refine ⟨p, c, hv, fun hn => ?_⟩
  obtain ⟨g, off, hp, hg, hx⟩ := hc hn
  exact ⟨g, off, hp, hg, fun i hi => by obtain ⟨x, hx, hcell⟩ := hx i hi; exact ⟨x, hx, k.cell hcell (by intro e; have e2 : g = b := Option.some.inj e; omega)⟩⟩
set_option maxRecDepth 100000 in
theorem own_cap {w : World} {base n g cap : Nat} {e : TypeId} {xs : List Value} (h : w.ownsRow base e 1 (.slice (some ⟨g, 0, none⟩) n cap) n xs) : n ≤ cap ∧ cap ≤ maxLen := by
  rcases h.2 with ⟨h0, _⟩ | ⟨g', cap', cur, hv, _, _, hn, hc, _⟩
  · cases h0
  · injection hv with _ _ h3
    subst h3
    exact ⟨hn, hc⟩
set_option maxRecDepth 100000 in
theorem grown_own_row {w w1 : World} {k : Nat} {b : Option Nat} (h : w.grownBy w1 b) (hk : k < w.heap.size) (hb : some k ≠ b) : w1.heap[k]? = w.heap[k]? := h.block k hk hb
set_option maxRecDepth 100000 in
/-- An order is made: the old row g is read, the new one lies behind. -/
theorem own_apart {w w1 : World} {base base2 g n cap : Nat} {e : TypeId} {v : Value} {m : Nat} {e2 : TypeId} {xs ys : List Value} (h : w.ownsRow base e 1 (.slice (some ⟨g, 0, none⟩) n cap) n xs) (hv : w.ownsRow base2 e2 1 v m ys) (hg : g < base2) (k : w.grownBy w1 v.ownBlock) : w1.ownsRow base e 1 (.slice (some ⟨g, 0, none⟩) n cap) n xs :=
  h.kept k (.inr (own_ne hv hg))
set_option maxRecDepth 100000 in
theorem St.own_grow {a base n : Nat} {W w w1 : World} {e : TypeId} {v : Value} {xs : List Value} (h : St a W w) (ho : w.ownsRow base e 1 v n xs) (hb : W.heap.size ≤ base) (ha : a < W.heap.size) (k : w.grownBy w1 v.ownBlock) : St a W w1 := by
  have g : W.grownBy w1 (some a) := ⟨k.os.trans h.1.os, k.tape.trans h.1.tape, k.output.trans h.1.output, Nat.le_trans h.1.size k.size, fun i hi hia => (k.block i (Nat.lt_of_lt_of_le hi h.1.size) (own_ne ho (by omega))).trans (h.1.block i hi hia)⟩
  refine ⟨g, ?_⟩
  cases hv : v.ownBlock with
  | none => rw [hv] at k; exact h.2.keep k
  | some b =>
    rw [hv] at k
    exact tp_new2 h.2 k (by have := (ho.lt b hv).1; omega)
set_option maxRecDepth 100000 in
theorem St.none_ {a : Nat} {W w w1 : World} (h : St a W w) (g : w.grownBy w1 none) : St a W w1 := ⟨grown_trans h.1 (grown_none g _), h.2.keep g⟩
end Go.Proofs.YtnfgkakhdgiepaaDoor
