/- Parts of the proof, packed: IoValid, IoRef, IoPut, IoRows, ToMath, ToMem, ToLeaf, ToFuns. -/
import Derived.Test.YtlefjdglcdopeaaAv1
import Derived.Deep.LoopGhost
import Derived.Laws.AppendOwnNone
import Derived.Laws.CopyOwn
import Derived.Laws.ResultCell
import Derived.Deep.Onto
import Derived.Deep.AppendLies
import Derived.Deep.RegionHeld3
import Derived.Shelf.Abstract
import Derived.Deep.CutRange
import Derived.Deep.QuietTactic
import Derived.BigQuiet
/- Valid, of the program and of the reference. -/
namespace Go.Proofs.Ytlefjdglcdopeaa
open Go.RowKit Bs
set_option maxRecDepth 100000 in
theorem qt0 {P : Program} {f : FuncId} {args : Array Value} {w : World} {v : Value} (h : Calls P f args w fun e w' => e = .returned v ∧ w = w') :
    Calls P f args w fun e w'' => e = .returned v ∧ ∃ m, w'' = w.drewN m := h.mono fun _ _ ⟨he, hw⟩ => ⟨he, 0, hw.symm⟩
set_option maxRecDepth 100000 in
theorem qt1 {P : Program} {f : FuncId} {args : Array Value} {w : World} {n : Nat} {v : Value} (h : Calls P f args (w.drewN n) fun e w' => e = .returned v ∧ w.drewN n = w') :
    Calls P f args (w.drewN n) fun e w'' => e = .returned v ∧ ∃ m, w'' = w.drewN m := h.mono fun _ _ ⟨he, hw⟩ => ⟨he, n, hw.symm⟩
set_option maxRecDepth 100000 in
theorem qt2 {P : Program} {f : FuncId} {args : Array Value} {w : World} {a n : Nat} {v : Value} (h : Calls P f args (w.drewN (a + n)) fun e w' => e = .returned v ∧ w.drewN (a + n) = w') :
    Calls P f args (w.drewN (a + n)) fun e w'' => e = .returned v ∧ ∃ m, w'' = w.drewN (a + m) := h.mono fun _ _ ⟨he, hw⟩ => ⟨he, n, hw.symm⟩
/-- A stream is valid. -/
def vs (l : List Nat) (n : Int) : Bool := decide (0 ≤ n ∧ n ≤ 8192 ∧ l.length = (n.toNat + 7) / 8 ∧ ∀ i, i < 8 * l.length → n.toNat ≤ i → bt l i = false)
set_option maxRecDepth 100000 in
theorem vs_iff {l : List Nat} {N : Nat} : vs l (N : Int) = true ↔ N ≤ 8192 ∧ l.length = (N + 7) / 8 ∧ ∀ i, i < 8 * l.length → N ≤ i → bt l i = false := by
  unfold vs
  rw [decide_eq_true_eq, Int.toNat_natCast]
  constructor
  · rintro ⟨_, h1, h2⟩; exact ⟨by omega, h2⟩
  · rintro ⟨h1, h2⟩; exact ⟨by omega, by omega, h2⟩
set_option maxRecDepth 100000 in
theorem vs_neg {l : List Nat} {n : Int} (h : n < 0) : vs l n = false := by
  unfold vs; rw [decide_eq_false_iff_not]; rintro ⟨h1, _⟩; omega
set_option maxRecDepth 100000 in
theorem vs_big {l : List Nat} {n : Int} (h : 8192 < n) : vs l n = false := by
  unfold vs; rw [decide_eq_false_iff_not]; rintro ⟨_, h1, _⟩; omega
set_option maxRecDepth 100000 in
theorem vs_len {l : List Nat} {N : Nat} (h : l.length ≠ (N + 7) / 8) : vs l (N : Int) = false := by
  unfold vs; rw [decide_eq_false_iff_not, Int.toNat_natCast]; rintro ⟨_, _, h1, _⟩; exact h h1
set_option maxRecDepth 100000 in
theorem vs_full {l : List Nat} {N : Nat} (h0 : N ≤ 8192) (h : l.length = (N + 7) / 8) (h8 : N % 8 = 0) : vs l (N : Int) = true := by
  rw [vs_iff]; exact ⟨h0, h, fun i h1 h2 => by omega⟩
set_option maxRecDepth 100000 in
theorem vs_nat {l : List Nat} {n : Int} (h : vs l n = true) : ∃ N : Nat, n = (N : Int) := by
  unfold vs at h; rw [decide_eq_true_eq] at h
  exact ⟨n.toNat, by omega⟩
set_option maxRecDepth 100000 in
theorem vs_last {l : List Nat} {N r x : Nat} (h0 : N ≤ 8192) (h : l.length = (N + 7) / 8) (h8 : r ≠ 0) (hr : N % 8 = r) (hx : l.getD (N / 8) 0 = x) : vs l (N : Int) = decide (x * 2 ^ r % 256 = 0) := by
  have e8 : (256 : Nat) = 2 ^ 8 := rfl
  rw [Bool.eq_iff_iff, vs_iff, decide_eq_true_eq]
  constructor
  · rintro ⟨_, _, h2⟩
    apply Nat.eq_of_testBit_eq
    intro j
    rw [e8, Nat.testBit_mod_two_pow, ← Nat.shiftLeft_eq, Nat.testBit_shiftLeft, Nat.zero_testBit]
    by_cases hj : j < 8
    · by_cases hjr : r ≤ j
      · have := h2 (8 * (N / 8) + (7 - j + r)) (by omega) (by omega)
        unfold bt at this
        rw [show (8 * (N / 8) + (7 - j + r)) / 8 = N / 8 by omega, hx, show 7 - (8 * (N / 8) + (7 - j + r)) % 8 = j - r by omega] at this
        rw [this]; simp
      · simp [hjr]
    · simp [hj]
  · intro h2
    refine ⟨h0, h, fun i h3 h4 => ?_⟩
    have h5 : (x * 2 ^ r % 256).testBit (7 - i % 8 + r) = false := by rw [h2]; exact Nat.zero_testBit _
    rw [e8, Nat.testBit_mod_two_pow, ← Nat.shiftLeft_eq, Nat.testBit_shiftLeft] at h5
    have h6 : 7 - i % 8 + r < 8 := by omega
    have h7 : 7 - i % 8 + r ≥ r := by omega
    rw [Nat.add_sub_cancel] at h5
    simp only [h6, h7, decide_true, Bool.true_and] at h5
    unfold bt
    rw [show i / 8 = N / 8 by omega, hx]; exact h5
set_option maxRecDepth 100000 in
theorem shl_zero (x r : Nat) : ((x : Int) * 2 ^ r % 256 == 0) = decide (x * 2 ^ r % 256 = 0) := by
  rw [powI, show (x : Int) * ((2 ^ r : Nat) : Int) = ((x * 2 ^ r : Nat) : Int) by simp]
  generalize x * 2 ^ r = y
  rw [Bool.eq_iff_iff, beq_iff_eq, decide_eq_true_eq]
  omega
/-- The value of a stream. -/
def sval (p : Option Addr) (k c : Nat) (n : Int) : Value := .agg #[.slice p k c, .int .i64 n]
def ValidPost (l : List Nat) (n : Int) (w : World) (e : Ending) (w' : World) : Prop := e = .returned (.bool (vs l n)) ∧ w.grownBy w' none
set_option maxRecDepth 100000 in
theorem grown_alloc_drewN (w : World) (o : Obj) (n : Nat) : w.grownBy ((w.alloc o).drewN n) none := grown_trans (World.grownBy_alloc w o _) (grown_drewN _ _ _)
set_option maxRecDepth 100000 in
/-- A block of two cells. -/
theorem box2 (w : World) (v0 v1 : Value) (t : TypeId) : (w.alloc (.cells #[v0, v1] t)).cell? ⟨w.heap.size, 0, none⟩ = some v0 ∧ (w.alloc (.cells #[v0, v1] t)).cell? ⟨w.heap.size, 1, none⟩ = some v1 := by
  have hb : (w.alloc (.cells #[v0, v1] t)).heap[w.heap.size]? = some (.cells #[v0, v1] t (0, 0)) := heap_alloc_new w _
  refine ⟨?_, ?_⟩
  · rw [cell_of_row _ _ _ _ _ _ hb]; rfl
  · rw [cell_of_row _ _ _ _ _ _ hb]; rfl
end Go.Proofs.Ytlefjdglcdopeaa

/- Of the reference: one bit, Valid. -/
namespace Go.Proofs.Ytlefjdglcdopeaa
open Go.RowKit Bs
/-- A bit as a word. -/
def bw (b : Bool) : Value := .int .u64 ((b.toNat : Nat) : Int)
set_option maxRecDepth 100000 in
theorem bt_word {l : List Nat} {i x s : Nat} (hx : l.getD (i / 8) 0 = x) (hs : 7 - i % 8 = s) (hx8 : x < 256) : bits .and .u64 (IntKind.u64.wrap ((x : Int) / 2 ^ s)) 1 = (((bt l i).toNat : Nat) : Int) := by
  rw [show IntKind.u64.wrap ((x : Int) / 2 ^ s) = (x : Int) / 2 ^ s by rw [shrW]; exact wrapU _ (u64_div _ _ (u64_mk (by omega))), bitW x s (u64_mk (by omega))]
  unfold bt
  rw [hx, hs, Nat.toNat_testBit]
set_option maxRecDepth 100000 in
theorem bw_true {b : Bool} (h : b = true) : bw b = .int .u64 1 := by rw [h]; rfl
set_option maxRecDepth 100000 in
theorem bw_false {b : Bool} (h : b = false) : bw b = .int .u64 0 := by rw [h]; rfl
end Go.Proofs.Ytlefjdglcdopeaa

/- Streams as values; the reference's Put. -/
namespace Go.Proofs.Ytlefjdglcdopeaa
open Go.RowKit Bs
/-- v is a stream of n bits with the bytes l. -/
def SR (w : World) (q : Nat → Prop) (v : Value) (l : List Nat) (n : Int) : Prop := ∃ p c, v = .agg #[.slice p l.length c, .int .i64 n] ∧ Rd w q (.slice p l.length c) (l.map nv) ∧ (p = none → c = 0) ∧ By l
/-- A stream whose bytes lie in a row of the call's own. -/
structure Own (w : World) (base : Nat) (p : Option Addr) (c : Nat) (l : List Nat) : Prop where
  own : w.ownsRow base 5 1 (.slice p l.length c) l.length (l.map nv)
  pc : p = none → c = 0
  by_ : By l
def StreamPost (l : List Nat) (n : Int) (w : World) (e : Ending) (w' : World) : Prop := ∃ p c, e = .returned (.agg #[.slice p l.length c, .int .i64 n]) ∧ Own w' w.heap.size p c l ∧ w.grownBy w' none
def StreamErr (l : List Nat) (n err : Int) (w : World) (e : Ending) (w' : World) : Prop := ∃ v, e = .returned (.tuple #[v, .int .i64 err]) ∧ SR w' (w.heap.size ≤ ·) v l n ∧ w.grownBy w' none
set_option maxRecDepth 100000 in
theorem add_plain (b off j : Nat) : (⟨b, off, none⟩ : Addr).add j = ⟨b, off + j, none⟩ := by unfold Addr.add; split <;> simp_all
set_option maxRecDepth 100000 in
theorem nv_one {l : List Nat} : ∀ u ∈ l.map nv, u.oneCell' = true := by
  intro u hu
  obtain ⟨x, _, rfl⟩ := List.mem_map.1 hu
  rfl
set_option maxRecDepth 100000 in
theorem Rd.news {w : World} {q : Nat → Prop} {ad : Addr} {n c : Nat} {r : List Nat} (hR : Rd w q (.slice (some ad) n c) (r.map nv)) : ∀ j u, (r.map nv)[j]? = some u → w.cell? (ad.add j) = some u := by
  obtain ⟨p1, c1, e1, hx⟩ := hR
  injection e1 with a1 a2 a3
  subst a1
  intro j u hj
  obtain ⟨b, off, hp, hq, hc⟩ := hx (by intro e; rw [e] at hj; simp at hj)
  obtain rfl := Option.some.inj hp
  rw [add_plain]; exact hc j u hj
set_option maxRecDepth 100000 in
theorem grown_drew {w w' : World} {r : Option Nat} (h : w.grownBy w' r) : w.grownBy w'.drew r := ⟨h.os, h.tape, h.output, h.size, h.block⟩
set_option maxRecDepth 100000 in
/-- Two blocks laid one behind the other. -/
theorem two_boxes (w : World) (A Z : Array Value) (t u : TypeId) :
    ((w.alloc (.cells A t)).alloc (.cells Z u)).heap[w.heap.size]? = some (.cells A t (0, 0)) ∧ ((w.alloc (.cells A t)).alloc (.cells Z u)).heap[w.heap.size + 1]? = some (.cells Z u (0, 0)) ∧
      w.grownBy ((w.alloc (.cells A t)).alloc (.cells Z u)) none ∧ ((w.alloc (.cells A t)).alloc (.cells Z u)).heap.size = w.heap.size + 2 := by
  have e1 : (w.alloc (.cells A t)).heap.size = w.heap.size + 1 := by simp
  refine ⟨?_, ?_, grown_trans (World.grownBy_alloc w _ _) (World.grownBy_alloc _ _ _), by simp⟩
  · rw [Below.heap_alloc _ _ _ (by omega)]; exact heap_alloc_new w _
  · rw [← e1]; exact heap_alloc_new _ _
set_option maxRecDepth 100000 in
theorem row_cells {w : World} {b : Nat} {x y : Value} {t : TypeId} (h : w.heap[b]? = some (.cells #[x, y] t (0, 0))) : w.cell? ⟨b, 0, none⟩ = some x ∧ w.cell? ⟨b, 1, none⟩ = some y := by
  refine ⟨?_, ?_⟩
  · rw [cell_of_row _ _ _ _ _ _ h]; rfl
  · rw [cell_of_row _ _ _ _ _ _ h]; rfl
set_option maxRecDepth 100000 in
theorem kept_row {w w' : World} {b : Nat} {o : Obj} {r : Option Nat} (h : w.heap[b]? = some o) (g : w.grownBy w' r) (hr : some b ≠ r) : w'.heap[b]? = some o :=
  (g.block b (Array.getElem?_eq_some_iff.1 h).1 hr).trans h
set_option maxRecDepth 100000 in
theorem rd_new (w : World) (cs : Array Value) (t : TypeId) (c : Nat) : Rd (w.alloc (.cells cs t)) (· = w.heap.size) (.slice (some ⟨w.heap.size, 0, none⟩) cs.toList.length c) cs.toList := by
  have hb : (w.alloc (.cells cs t)).heap[w.heap.size]? = some (.cells cs t (0, 0)) := heap_alloc_new w _
  refine ⟨_, c, rfl, fun _ => ⟨w.heap.size, 0, rfl, rfl, fun i x hi => ?_⟩⟩
  rw [Nat.zero_add, cell_of_row _ _ _ _ _ _ hb]
  simpa using hi
set_option maxRecDepth 100000 in
theorem own_ne {w : World} {base k n : Nat} {e : TypeId} {v : Value} {xs : List Value} (h : w.ownsRow base e 1 v n xs) (hk : k < base) : some k ≠ v.ownBlock := by
  intro e2
  have := (h.lt k e2.symm).1
  omega
set_option maxRecDepth 100000 in
theorem grown_own {w wr w1 : World} {base n : Nat} {e : TypeId} {v : Value} {xs : List Value} (hg : w.grownBy wr none) (h : wr.ownsRow base e 1 v n xs) (hb : w.heap.size ≤ base) (k : wr.grownBy w1 v.ownBlock) : w.grownBy w1 none :=
  ⟨k.os.trans hg.os, k.tape.trans hg.tape, k.output.trans hg.output, Nat.le_trans hg.size k.size, fun b hb2 _ => (k.block b (Nat.lt_of_lt_of_le hb2 hg.size) (own_ne h (by omega))).trans (hg.block b hb2 (by simp))⟩
set_option maxRecDepth 100000 in
theorem pz_snoc (f : Nat → Bool) {m N : Nat} (h8 : m % 8 = 0) (hN : N = (m + 7) / 8) : pz f m N ++ [0] = pz f m (m / 8 + 1) := by
  obtain rfl : N = m / 8 := by omega
  unfold pz
  rw [List.range_succ, List.map_append, List.map_singleton, py_zero f (by omega)]
set_option maxRecDepth 100000 in
theorem pz_up (f : Nat → Bool) {m N : Nat} (hf : f m = false) : pz f m N = pz f (m + 1) N := by
  apply pz_congr
  intro i _
  by_cases e : i = m
  · subst e; rw [hf]; simp
  · rw [show decide (i < m) = decide (i < m + 1) by rw [decide_eq_decide]; omega]
set_option maxRecDepth 100000 in
theorem own_form {w : World} {base n : Nat} {e : TypeId} {v : Value} {xs : List Value} (h : w.ownsRow base e 1 v n xs) (hn : 0 < n) : ∃ g cap, v = .slice (some ⟨g, 0, none⟩) n cap ∧ base ≤ g := by
  rcases h.2 with ⟨_, h0⟩ | ⟨g, cap, cur, rfl, hb, _⟩
  · omega
  · exact ⟨g, cap, rfl, hb⟩
set_option maxRecDepth 100000 in
theorem or_bit {f : Nat → Bool} {m x s : Nat} (hf : f m = true) (hx : py f m (m / 8) = x) (hs : 7 - m % 8 = s) : bits .or .u8 (x : Int) (2 ^ s % 256) = ((py f (m + 1) (m / 8) : Nat) : Int) := by
  have h1 := py_lt f m (m / 8)
  have e := py_or f m 1 (by omega)
  rw [hx, show num f m 1 = 1 by simp [num, hf], Nat.one_mul, show 8 - m % 8 - 1 = s by omega] at e
  have h2 : 2 ^ s < 256 := Nat.pow_lt_pow_right (n := 8) (by decide) (by omega)
  rw [powI, ← e]
  generalize 2 ^ s = y at *
  rw [show ((y : Int) % 256) = (y : Int) by omega, u8_or_nat x _ (by omega) h2]
set_option maxRecDepth 100000 in
theorem store2 {w : World} {b : Nat} {x y u z : Value} {t : TypeId} (h : w.heap[b]? = some (.cells #[x, y] t (0, 0))) : ((w.setCell ⟨b, 0, none⟩ u).setCell ⟨b, 1, none⟩ z).heap[b]? = some (.cells #[u, z] t (0, 0)) := by
  have e1 := heap_setCell_same w b 0 _ _ u h
  have e2 := heap_setCell_same _ b 1 _ _ z e1
  rw [e2]; rfl
set_option maxRecDepth 100000 in
theorem grown_store2 (w : World) (b : Nat) (u z : Value) : w.grownBy ((w.setCell ⟨b, 0, none⟩ u).setCell ⟨b, 1, none⟩ z) (some b) := grown_trans (grown_setCell w ⟨b, 0, none⟩ u) (grown_setCell _ ⟨b, 1, none⟩ z)
set_option maxRecDepth 100000 in
/-- What lies behind the call's start may turn. -/
theorem grown_new {w w1 w2 : World} {b : Nat} (h : w.grownBy w1 none) (k : w1.grownBy w2 (some b)) (hb : w.heap.size ≤ b) : w.grownBy w2 none :=
  ⟨k.os.trans h.os, k.tape.trans h.tape, k.output.trans h.output, Nat.le_trans h.size k.size, fun i hi _ => (k.block i (Nat.lt_of_lt_of_le hi h.size) (by intro e; have := Option.some.inj e; omega)).trans (h.block i hi (by simp))⟩
set_option maxRecDepth 100000 in
theorem own_sr {w : World} {base : Nat} {v : Value} {l : List Nat} {n : Int} (h : w.ownsRow base 5 1 v l.length (l.map nv)) (hl : By l) (q : Nat → Prop) (hq : ∀ b, base ≤ b → q b) : SR w q (.agg #[v, .int .i64 n]) l n := by
  have hR := (rd_of_own h).mono hq
  rcases h.2 with ⟨rfl, h0⟩ | ⟨g, cap, cur, rfl, _⟩
  · obtain rfl : l = [] := List.eq_nil_of_length_eq_zero h0
    exact ⟨none, 0, rfl, hR, fun _ => rfl, hl⟩
  · exact ⟨some ⟨g, 0, none⟩, cap, rfl, hR, (by intro e; cases e), hl⟩
set_option maxRecDepth 100000 in
theorem own_parts {w : World} {base n : Nat} {e : TypeId} {v : Value} {xs : List Value} (h : w.ownsRow base e 1 v n xs) : ∃ p c, v = .slice p n c ∧ (p = none → c = 0) := by
  rcases h.2 with ⟨rfl, h0⟩ | ⟨g, cap, cur, rfl, _⟩
  · subst h0; exact ⟨none, 0, rfl, fun _ => rfl⟩
  · exact ⟨some ⟨g, 0, none⟩, cap, rfl, (by intro e; cases e)⟩
set_option maxRecDepth 100000 in
theorem Own.rd {w : World} {base : Nat} {p : Option Addr} {c : Nat} {l : List Nat} (h : Own w base p c l) : Rd w (base ≤ ·) (.slice p l.length c) (l.map nv) := rd_of_own h.own
set_option maxRecDepth 100000 in
theorem Own.keep {w w' : World} {base : Nat} {p : Option Addr} {c : Nat} {l : List Nat} (h : Own w base p c l) (g : w.grownBy w' none) : Own w' base p c l := ⟨h.own.kept g (by cases hv : (Value.slice p l.length c).ownBlock <;> simp), h.pc, h.by_⟩
set_option maxRecDepth 100000 in
theorem Own.other {w w' : World} {base b : Nat} {p : Option Addr} {c : Nat} {l : List Nat} (h : Own w base p c l) (g : w.grownBy w' (some b)) (hb : b < base) : Own w' base p c l :=
  ⟨h.own.kept g (.inr (fun e => by have := h.own.lt _ e; omega)), h.pc, h.by_⟩
set_option maxRecDepth 100000 in
theorem Own.mono {w : World} {base base' : Nat} {p : Option Addr} {c : Nat} {l : List Nat} (h : Own w base p c l) (hb : base' ≤ base) : Own w base' p c l := ⟨h.own.mono hb, h.pc, h.by_⟩
set_option maxRecDepth 100000 in
theorem Own.sr {w : World} {base : Nat} {p : Option Addr} {c : Nat} {l : List Nat} (h : Own w base p c l) (n : Int) (q : Nat → Prop) (hq : ∀ b, base ≤ b → q b) : SR w q (.agg #[.slice p l.length c, .int .i64 n]) l n := ⟨p, c, rfl, h.rd.mono hq, h.pc, h.by_⟩
end Go.Proofs.Ytlefjdglcdopeaa

/- Rows of the call's own that grow apart. -/
namespace Go.Proofs.Ytlefjdglcdopeaa
open Go.RowKit Bs
def zv (x : Nat) : Value := .int .i64 (x : Int)
set_option maxRecDepth 100000 in
theorem zv_one {l : List Nat} : ∀ u ∈ l.map zv, u.oneCell' = true := by
  intro u hu
  obtain ⟨x, _, rfl⟩ := List.mem_map.1 hu
  rfl
set_option maxRecDepth 100000 in
/-- append of ints that are read, onto a row of the call's own. -/
theorem wpList_append_ints {w : World} {ops : Array Oper} {rest : List Oper} {o : Oper} {a : Act} {Q : Exit → Act → World → Prop} (hgd : o.guard = none) (s x : Operand)
    (ho : o.op = .call { callee := .builtin .append, args := #[s, x], argTypes := #[22, 22] }) (base : Nat) (v : Value) (n : Nat) (l : List Nat) (hs : a.eval s = v) (hown : w.ownsRow base 3 1 v n (l.map zv))
    (p : Option Addr) (k c : Nat) (r : List Nat) (hx : a.eval x = .slice p k c) (hk : k = r.length) (hn0 : p = none → c = 0 ∧ k = 0) (hnews : ∀ ad, p = some ad → ∀ j u, (r.map zv)[j]? = some u → w.cell? (ad.add j) = some u) (h63 : n + r.length ≤ 100000) (hbase : base ≤ w.heap.size)
    (h : ∀ v' w', w'.ownsRow base 3 1 v' (n + r.length) ((l ++ r).map zv) → w.grownBy w' v.ownBlock → wpList Try.prog ops Q rest (a.put o.dst v') w') : wpList Try.prog ops Q (o :: rest) a w := by
  obtain ⟨i0, hi, hz0, hz1, hz2⟩ := info_parts info_int
  subst hk
  cases p with
  | none =>
    obtain ⟨rfl, hr⟩ := hn0 rfl
    obtain rfl := List.eq_nil_of_length_eq_zero hr
    refine wpList_append_own_none hgd s x 22 ho base 3 i0 1 Try.underlying22 hi v n (l.map zv) hs hown hx ?_
    refine h v w ?_ (grown_refl _ _)
    rw [List.append_nil]; exact hown
  | some ad =>
    refine wpList_append_own w hgd s x 22 ho base 3 i0 (.int .i64 0) 1 8 Try.underlying22 hi hz0 hz1 hz2 rfl (by decide) v n (l.map zv) hs hown ad r.length c (r.map zv) hx (by simp) (hnews ad rfl) zv_one (by unfold maxLen; omega) (by omega) hbase ?_
    intro v' w' h1 h2 _
    refine h v' w' ?_ h2
    rw [List.map_append]; exact h1
set_option maxRecDepth 100000 in
theorem tp_new2 {w1 w2 : World} {a b : Nat} (h : Tp w1 a) (k : w1.grownBy w2 (some b)) (hb : a < b) : Tp w2 a := by
  have hlt := h.lt
  obtain ⟨v, n, i, T⟩ := h
  have hb' : w2.heap[a]? = w1.heap[a]? := k.block a hlt (by intro e; have := Option.some.inj e; omega)
  refine ⟨v, n, i, (World.cell?_of_block (a := ⟨a, 0, none⟩) hb').trans T.l, (World.cell?_of_block (a := ⟨a, 1, none⟩) hb').trans T.p, (World.frozen?_of_block (a := ⟨a, 1, none⟩) hb').trans T.fr, ?_, T.le, T.len⟩
  obtain ⟨p, c, hv, hc⟩ := T.ints
  refine ⟨p, c, hv, fun hn => ?_⟩
  obtain ⟨g, off, hp, hg, hx⟩ := hc hn
  exact ⟨g, off, hp, hg, fun i hi => by obtain ⟨x, hx, hcell⟩ := hx i hi; exact ⟨x, hx, k.cell hcell (by intro e; have e2 : g = b := Option.some.inj e; omega)⟩⟩
set_option maxRecDepth 100000 in
theorem own_cap {w : World} {base n g cap : Nat} {e : TypeId} {xs : List Value} (h : w.ownsRow base e 1 (.slice (some ⟨g, 0, none⟩) n cap) n xs) : n ≤ cap ∧ cap ≤ maxLen := by
  rcases h.2 with ⟨h0, _⟩ | ⟨g', cap', cur, hv, _, _, hn, hc, _⟩
  · cases h0
  · injection hv with _ _ h3
    subst h3
    exact ⟨hn, hc⟩
set_option maxRecDepth 100000 in
theorem grown_own_row {w w1 : World} {k : Nat} {b : Option Nat} (h : w.grownBy w1 b) (hk : k < w.heap.size) (hb : some k ≠ b) : w1.heap[k]? = w.heap[k]? := h.block k hk hb
set_option maxRecDepth 100000 in
/-- An order is made: the old row g is read, the new one lies behind. -/
theorem own_apart {w w1 : World} {base base2 g n cap : Nat} {e : TypeId} {v : Value} {m : Nat} {e2 : TypeId} {xs ys : List Value} (h : w.ownsRow base e 1 (.slice (some ⟨g, 0, none⟩) n cap) n xs) (hv : w.ownsRow base2 e2 1 v m ys) (hg : g < base2) (k : w.grownBy w1 v.ownBlock) : w1.ownsRow base e 1 (.slice (some ⟨g, 0, none⟩) n cap) n xs :=
  h.kept k (.inr (own_ne hv hg))
set_option maxRecDepth 100000 in
theorem St.own_grow {a base n : Nat} {W w w1 : World} {e : TypeId} {v : Value} {xs : List Value} (h : St a W w) (ho : w.ownsRow base e 1 v n xs) (hb : W.heap.size ≤ base) (ha : a < W.heap.size) (k : w.grownBy w1 v.ownBlock) : St a W w1 := by
  have g : W.grownBy w1 (some a) := ⟨k.os.trans h.1.os, k.tape.trans h.1.tape, k.output.trans h.1.output, Nat.le_trans h.1.size k.size, fun i hi hia => (k.block i (Nat.lt_of_lt_of_le hi h.1.size) (own_ne ho (by omega))).trans (h.1.block i hi hia)⟩
  refine ⟨g, ?_⟩
  cases hv : v.ownBlock with
  | none => rw [hv] at k; exact h.2.keep k
  | some b =>
    rw [hv] at k
    exact tp_new2 h.2 k (by have := (ho.lt b hv).1; omega)
set_option maxRecDepth 100000 in
theorem St.none_ {a : Nat} {W w w1 : World} (h : St a W w) (g : w.grownBy w1 none) : St a W w1 := ⟨grown_trans h.1 (grown_none g _), h.2.keep g⟩
end Go.Proofs.Ytlefjdglcdopeaa

/- Topologies: the mathematics. -/
namespace Go.Proofs.Ytlefjdglcdopeaa
open Go.RowKit Bs
/-- A router and a link. -/
structure Rt where
  id : Int
  cap : Bool
structure Lk where
  a : Int
  b : Int
  ca : Int
  cb : Int
  cp : Int
def rtC (r : Rt) : List Value := [.int .i64 r.id, .bool r.cap]
def lkC (l : Lk) : List Value := [.int .i64 l.a, .int .i64 l.b, .int .i64 l.ca, .int .i64 l.cb, .int .i64 l.cp]
def wrId (r : Rt) : Bool := !decide (1 ≤ r.id ∧ r.id ≤ 99)
def wrNum (l : Lk) : Bool := !decide ((1 ≤ l.ca ∧ l.ca ≤ 1000) ∧ (1 ≤ l.cb ∧ l.cb ≤ 1000) ∧ (0 ≤ l.cp ∧ l.cp ≤ 1000))
def hasR (R : List Rt) (x : Int) : Bool := R.any fun r => decide (r.id = x)
def unk (R : List Rt) (l : Lk) : Bool := !hasR R l.a || !hasR R l.b
def wrEnd (l : Lk) : Bool := decide (l.b ≤ l.a)
def ltR (r s : Rt) : Bool := decide (r.id < s.id)
def ltL (l m : Lk) : Bool := decide (l.a < m.a ∨ (l.a = m.a ∧ l.b < m.b))
/-- Strictly ascending. -/
def ascB {α : Type} (f : α → α → Bool) : List α → Bool
  | a :: b :: t => f a b && ascB f (b :: t)
  | _ => true
set_option maxRecDepth 100000 in
theorem ascB_iff {α : Type} (f : α → α → Bool) : ∀ l : List α, ascB f l = true ↔ ∀ i x y, l[i]? = some x → l[i + 1]? = some y → f x y = true
  | [] => by simp [ascB]
  | [a] => by simp [ascB]
  | a :: b :: t => by
    rw [ascB, Bool.and_eq_true, ascB_iff f (b :: t)]
    constructor
    · rintro ⟨h1, h2⟩ i x y hx hy
      cases i with
      | zero => simp at hx hy; subst hx; subst hy; exact h1
      | succ i => exact h2 i x y (by simpa using hx) (by simpa using hy)
    · intro h
      exact ⟨h 0 a b rfl rfl, fun i x y hx hy => h (i + 1) x y (by simpa using hx) (by simpa using hy)⟩
/-- What Check returns. -/
def chk (R : List Rt) (L : List Lk) : Int :=
  if 24 < R.length ∨ 60 < L.length then 3
  else if R.any wrId then 2
  else if !ascB ltR R then 25
  else if L.any wrNum then 2
  else if L.any (unk R) then 4
  else if L.any wrEnd then 8
  else if !ascB ltL L then 25 else 0
set_option maxRecDepth 100000 in
theorem any_take {α : Type} {p : α → Bool} {l : List α} {k : Nat} {x : α} (h : (l.take k).any p = false) (hx : l[k]? = some x) (hp : p x = false) : (l.take (k + 1)).any p = false := by
  rw [List.take_add_one, List.any_append, h, hx]
  simpa using hp
set_option maxRecDepth 100000 in
theorem any_at {α : Type} {p : α → Bool} {l : List α} {k : Nat} {x : α} (hx : l[k]? = some x) (hp : p x = true) : l.any p = true :=
  List.any_eq_true.2 ⟨x, List.mem_of_getElem? hx, hp⟩
set_option maxRecDepth 100000 in
theorem any_end {α : Type} {p : α → Bool} {l : List α} {k : Nat} (h : (l.take k).any p = false) (hk : l.length ≤ k) : l.any p = false := by
  rwa [List.take_of_length_le hk] at h
set_option maxRecDepth 100000 in
/-- The cells of a list of elements of k cells each. -/
theorem flat_at {α : Type} (f : α → List Value) (n : Nat) (hf : ∀ x, (f x).length = n) : ∀ (l : List α) (i j : Nat) (x : α), l[i]? = some x → j < n → (l.flatMap f)[i * n + j]? = (f x)[j]?
  | [], i, j, x, h, _ => by simp at h
  | m :: l, 0, j, x, h, hj => by
    obtain rfl : m = x := by simpa using h
    rw [List.flatMap_cons, Nat.zero_mul, Nat.zero_add, List.getElem?_append_left (by rw [hf]; exact hj)]
  | m :: l, i + 1, j, x, h, hj => by
    rw [List.flatMap_cons, List.getElem?_append_right (by rw [hf, Nat.add_mul]; omega), show (i + 1) * n + j - (f m).length = i * n + j by rw [hf, Nat.add_mul]; omega]
    exact flat_at f n hf l i j x (by simpa using h) hj
set_option maxRecDepth 100000 in
theorem flat_len {α : Type} (f : α → List Value) (n : Nat) (hf : ∀ x, (f x).length = n) : ∀ (l : List α), (l.flatMap f).length = l.length * n
  | [] => by simp
  | m :: l => by rw [List.flatMap_cons, List.length_append, hf, flat_len f n hf l, List.length_cons, Nat.add_mul]; omega
end Go.Proofs.Ytlefjdglcdopeaa

/- Topologies in memory. -/
namespace Go.Proofs.Ytlefjdglcdopeaa
open Go.RowKit Bs
set_option maxRecDepth 100000 in
theorem tone_box (w : World) (A : Array Value) (t : TypeId) : (w.alloc (.cells A t)).heap[w.heap.size]? = some (.cells A t (0, 0)) ∧ w.grownBy (w.alloc (.cells A t)) none :=
  ⟨heap_alloc_new w _, World.grownBy_alloc w _ _⟩
/-- The slice value v has n elements, whose cells are xs. -/
def RdF (w : World) (q : Nat → Prop) (v : Value) (n : Nat) (xs : List Value) : Prop :=
  ∃ p c, v = .slice p n c ∧ (xs ≠ [] → ∃ b off, p = some ⟨b, off, none⟩ ∧ q b ∧ ∀ i x, xs[i]? = some x → w.cell? ⟨b, off + i, none⟩ = some x)
set_option maxRecDepth 100000 in
theorem RdF.grown {w w' : World} {q : Nat → Prop} {v : Value} {n : Nat} {xs : List Value} {r : Option Nat} (h : RdF w q v n xs) (g : w.grownBy w' r) (hq : ∀ b, q b → some b ≠ r) : RdF w' q v n xs := by
  obtain ⟨p, c, hv, hc⟩ := h
  refine ⟨p, c, hv, fun hne => ?_⟩
  obtain ⟨b, off, hp, hb, hx⟩ := hc hne
  exact ⟨b, off, hp, hb, fun i x hi => g.cell (hx i x hi) (hq b hb)⟩
set_option maxRecDepth 100000 in
theorem RdF.keep {w w' : World} {q : Nat → Prop} {v : Value} {n : Nat} {xs : List Value} (h : RdF w q v n xs) (g : w.grownBy w' none) : RdF w' q v n xs := h.grown g (fun _ _ => by simp)
set_option maxRecDepth 100000 in
theorem RdF.mono {w : World} {q q' : Nat → Prop} {v : Value} {n : Nat} {xs : List Value} (h : RdF w q v n xs) (hq : ∀ b, q b → q' b) : RdF w q' v n xs := by
  obtain ⟨p, c, hv, hc⟩ := h
  refine ⟨p, c, hv, fun hne => ?_⟩
  obtain ⟨b, off, hp, hb, hx⟩ := hc hne
  exact ⟨b, off, hp, hq b hb, hx⟩
set_option maxRecDepth 100000 in
theorem rdf_nil (w : World) (q : Nat → Prop) (p : Option Addr) (c : Nat) : RdF w q (.slice p 0 c) 0 [] := ⟨p, c, rfl, fun h => absurd rfl h⟩
set_option maxRecDepth 100000 in
theorem rdf_of_own {w : World} {base size : Nat} {e : TypeId} {v : Value} {n : Nat} {xs : List Value} (h : w.ownsRow base e size v n xs) : RdF w (base ≤ ·) v n xs := by
  rcases h.2 with ⟨rfl, h0⟩ | ⟨g, cap, cur, rfl, hb, hg, _⟩
  · subst h0
    have hl : xs = [] := List.eq_nil_of_length_eq_zero (by have := h.1; omega)
    exact ⟨none, 0, rfl, fun hne => absurd hl hne⟩
  · refine ⟨some ⟨g, 0, none⟩, cap, rfl, fun _ => ⟨g, 0, rfl, hb, fun i x hi => ?_⟩⟩
    have := h.cells (g := g) rfl i x hi
    have hadd : (⟨g, 0, none⟩ : Addr).add i = ⟨g, 0 + i, none⟩ := by unfold Addr.add; split <;> simp_all
    rw [hadd] at this
    exact this
set_option maxRecDepth 100000 in
theorem RdF.cells {α : Type} {f : α → List Value} {k : Nat} (hf : ∀ x, (f x).length = k) (hk : 0 < k) {w : World} {q : Nat → Prop} {p : Option Addr} {n c : Nat} {l : List α} (h : RdF w q (.slice p n c) l.length (l.flatMap f)) (hn : 0 < l.length) :
    n = l.length ∧ ∃ b off, p = some ⟨b, off, none⟩ ∧ q b ∧ ∀ i x, l[i]? = some x → ∀ j y, (f x)[j]? = some y → w.cell? ⟨b, off + i * k + j, none⟩ = some y := by
  obtain ⟨p1, c1, e1, hx⟩ := h
  injection e1 with a1 a2 a3
  subst a1
  have hne : l.flatMap f ≠ [] := by
    intro e
    have h2 := flat_len f k hf l
    rw [e, List.length_nil] at h2
    have := Nat.mul_pos hn hk
    omega
  obtain ⟨b, off, hp, hq, hc⟩ := hx hne
  refine ⟨a2, b, off, hp, hq, fun i x hi j y hj => ?_⟩
  have hjk : j < k := by
    have := (List.getElem?_eq_some_iff.1 hj).1
    rw [hf] at this
    exact this
  rw [Nat.add_assoc]
  exact hc _ _ ((flat_at f k hf l i j x hi hjk).trans hj)
/-- Routers, links, hops, that are read. -/
abbrev RdR (w : World) (q : Nat → Prop) (v : Value) (R : List Rt) : Prop := RdF w q v R.length (R.flatMap rtC)
abbrev RdL5 (w : World) (q : Nat → Prop) (v : Value) (L : List Lk) : Prop := RdF w q v L.length (L.flatMap lkC)
set_option maxRecDepth 100000 in
theorem rdr_cells {w : World} {q : Nat → Prop} {p : Option Addr} {n c : Nat} {R : List Rt} (h : RdR w q (.slice p n c) R) (hn : 0 < R.length) :
    n = R.length ∧ ∃ b off, p = some ⟨b, off, none⟩ ∧ q b ∧ ∀ i x, R[i]? = some x → w.cell? ⟨b, off + i * 2, none⟩ = some (.int .i64 x.id) ∧ w.cell? ⟨b, off + i * 2 + 1, none⟩ = some (.bool x.cap) := by
  obtain ⟨h0, b, off, hp, hq, hc⟩ := RdF.cells (f := rtC) (k := 2) (fun _ => rfl) (by decide) h hn
  exact ⟨h0, b, off, hp, hq, fun i x hi => ⟨hc i x hi 0 _ rfl, hc i x hi 1 _ rfl⟩⟩
set_option maxRecDepth 100000 in
theorem rdl_cells {w : World} {q : Nat → Prop} {p : Option Addr} {n c : Nat} {L : List Lk} (h : RdL5 w q (.slice p n c) L) (hn : 0 < L.length) :
    n = L.length ∧ ∃ b off, p = some ⟨b, off, none⟩ ∧ q b ∧ ∀ i x, L[i]? = some x → w.cell? ⟨b, off + i * 5, none⟩ = some (.int .i64 x.a) ∧ w.cell? ⟨b, off + i * 5 + 1, none⟩ = some (.int .i64 x.b) ∧ w.cell? ⟨b, off + i * 5 + 2, none⟩ = some (.int .i64 x.ca) ∧ w.cell? ⟨b, off + i * 5 + 3, none⟩ = some (.int .i64 x.cb) ∧ w.cell? ⟨b, off + i * 5 + 4, none⟩ = some (.int .i64 x.cp) := by
  obtain ⟨h0, b, off, hp, hq, hc⟩ := RdF.cells (f := lkC) (k := 5) (fun _ => rfl) (by decide) h hn
  exact ⟨h0, b, off, hp, hq, fun i x hi => ⟨hc i x hi 0 _ rfl, hc i x hi 1 _ rfl, hc i x hi 2 _ rfl, hc i x hi 3 _ rfl, hc i x hi 4 _ rfl⟩⟩
/-- A topology with where it lies. -/
structure Tg where
  R : List Rt
  L : List Lk
  pR : Option Addr
  cR : Nat
  pL : Option Addr
  cL : Nat
def Tg.vR (T : Tg) : Value := .slice T.pR T.R.length T.cR
def Tg.vL (T : Tg) : Value := .slice T.pL T.L.length T.cL
/-- A topology that can be read, in blocks that meet q. -/
structure TgOk (w : World) (q : Nat → Prop) (T : Tg) : Prop where
  r : RdR w q (.slice T.pR T.R.length T.cR) T.R
  l : RdL5 w q (.slice T.pL T.L.length T.cL) T.L
  cr : T.R.length ≤ T.cR ∧ T.cR ≤ 9223372036854775807
  cl : T.L.length ≤ T.cL ∧ T.cL ≤ 9223372036854775807
set_option maxRecDepth 100000 in
theorem TgOk.keep {w w' : World} {q : Nat → Prop} {T : Tg} (h : TgOk w q T) (g : w.grownBy w' none) : TgOk w' q T := ⟨h.r.keep g, h.l.keep g, h.cr, h.cl⟩
set_option maxRecDepth 100000 in
theorem TgOk.grown {w w' : World} {q : Nat → Prop} {T : Tg} {r : Option Nat} (h : TgOk w q T) (g : w.grownBy w' r) (hq : ∀ b, q b → some b ≠ r) : TgOk w' q T := ⟨h.r.grown g hq, h.l.grown g hq, h.cr, h.cl⟩
set_option maxRecDepth 100000 in
theorem TgOk.mono {w : World} {q q' : Nat → Prop} {T : Tg} (h : TgOk w q T) (hq : ∀ b, q b → q' b) : TgOk w q' T := ⟨h.r.mono hq, h.l.mono hq, h.cr, h.cl⟩
end Go.Proofs.Ytlefjdglcdopeaa

/- topology: within, wrongID, wrongNumbers, the comparisons. -/
namespace Go.Proofs.Ytlefjdglcdopeaa
open Go.RowKit Bs
set_option maxRecDepth 100000 in
theorem twithin_any (n a b : Int) (w : World) :
    Calls Try.prog 89 #[.int .i64 n, .int .i64 a, .int .i64 b] w fun e w' => e = .returned (.bool (decide (a ≤ n ∧ n ≤ b))) ∧ w' = w := by
  go_enter Try.func89, Try.ntmps89
  by_cases h1 : a ≤ n
  · by_cases h2 : n ≤ b
    · go_wp2_with fail
      go_ret
      exact ⟨by simp; omega, rfl⟩
    · go_wp2_with fail
      go_ret
      exact ⟨by simp; omega, rfl⟩
  · go_wp2_with fail
    go_ret
    exact ⟨by simp; omega, rfl⟩
def rtA (r : Rt) : Array Value := #[.int .i64 r.id, .bool r.cap]
def lkA (l : Lk) : Array Value := #[.int .i64 l.a, .int .i64 l.b, .int .i64 l.ca, .int .i64 l.cb, .int .i64 l.cp]
set_option maxRecDepth 100000 in
theorem lk_facts {w : World} {b : Nat} {l : Lk} (h : w.heap[b]? = some (.cells #[.int .i64 l.a, .int .i64 l.b, .int .i64 l.ca, .int .i64 l.cb, .int .i64 l.cp] 44 (0, 0))) :
    w.cell? ⟨b, 0, none⟩ = some (.int .i64 l.a) ∧ w.cell? ⟨b, 1, none⟩ = some (.int .i64 l.b) ∧ w.cell? ⟨b, 2, none⟩ = some (.int .i64 l.ca) ∧ w.cell? ⟨b, 3, none⟩ = some (.int .i64 l.cb) ∧ w.cell? ⟨b, 4, none⟩ = some (.int .i64 l.cp) :=
  ⟨cell_of_row _ _ _ _ _ _ h, cell_of_row _ _ _ _ _ _ h, cell_of_row _ _ _ _ _ _ h, cell_of_row _ _ _ _ _ _ h, cell_of_row _ _ _ _ _ _ h⟩
set_option maxRecDepth 100000 in
theorem rt_facts {w : World} {b : Nat} {r : Rt} (h : w.heap[b]? = some (.cells #[.int .i64 r.id, .bool r.cap] 63 (0, 0))) :
    w.cell? ⟨b, 0, none⟩ = some (.int .i64 r.id) ∧ w.cell? ⟨b, 1, none⟩ = some (.bool r.cap) :=
  ⟨cell_of_row _ _ _ _ _ _ h, cell_of_row _ _ _ _ _ _ h⟩
set_option maxRecDepth 100000 in
set_option maxHeartbeats 1600000 in
theorem twrid_any (r : Rt) (w : World) :
    Calls Try.prog 69 #[.agg #[.int .i64 r.id, .bool r.cap]] w fun e w' => e = .returned (.bool (wrId r)) ∧ w.grownBy w' none := by
  obtain ⟨k1, k2⟩ := tone_box w #[.int .i64 r.id, .bool r.cap] 63
  obtain ⟨c0, c1⟩ := rt_facts k1
  have K := Lib.hid k2
  clear k1 k2
  go_enter Try.func69, Try.ntmps69
  go_wp2_with fail
  generalize w.alloc _ = wa at *
  go_wp2_with (go_at_call 89; refine (twithin_any _ _ _ _).mono ?_; rintro e w' ⟨rfl, rfl⟩)
  go_ret
  exact ⟨by unfold wrId; simp, K.out⟩
set_option maxRecDepth 100000 in
set_option maxHeartbeats 1600000 in
theorem twrnum_any (l : Lk) (w : World) :
    Calls Try.prog 73 #[.agg #[.int .i64 l.a, .int .i64 l.b, .int .i64 l.ca, .int .i64 l.cb, .int .i64 l.cp]] w fun e w' => e = .returned (.bool (wrNum l)) ∧ w.grownBy w' none := by
  obtain ⟨k1, k2⟩ := tone_box w #[.int .i64 l.a, .int .i64 l.b, .int .i64 l.ca, .int .i64 l.cb, .int .i64 l.cp] 44
  obtain ⟨c0, c1, c2, c3, c4⟩ := lk_facts k1
  have K := Lib.hid k2
  clear k1 k2
  go_enter Try.func73, Try.ntmps73
  go_wp2_with fail
  generalize w.alloc _ = wa at *
  by_cases h1 : 1 ≤ l.ca ∧ l.ca ≤ 1000
  · have e1 : decide (1 ≤ l.ca ∧ l.ca ≤ 1000) = true := decide_eq_true h1
    by_cases h2 : 1 ≤ l.cb ∧ l.cb ≤ 1000
    · have e2 : decide (1 ≤ l.cb ∧ l.cb ≤ 1000) = true := decide_eq_true h2
      go_wp2_with (go_at_call 89; refine (twithin_any _ _ _ _).mono ?_; rintro e w' ⟨rfl, rfl⟩; try simp only [e1, e2])
      go_ret
      exact ⟨by unfold wrNum; simp [h1, h2], K.out⟩
    · have e2 : decide (1 ≤ l.cb ∧ l.cb ≤ 1000) = false := decide_eq_false h2
      go_wp2_with (go_at_call 89; refine (twithin_any _ _ _ _).mono ?_; rintro e w' ⟨rfl, rfl⟩; try simp only [e1, e2])
      go_ret
      exact ⟨by unfold wrNum; simp [h2], K.out⟩
  · have e1 : decide (1 ≤ l.ca ∧ l.ca ≤ 1000) = false := decide_eq_false h1
    go_wp2_with (go_at_call 89; refine (twithin_any _ _ _ _).mono ?_; rintro e w' ⟨rfl, rfl⟩; try simp only [e1])
    go_ret
    exact ⟨by unfold wrNum; simp [h1], K.out⟩
def cmpV (x y : Int) : Int := if x < y then -1 else if y < x then 1 else 0
set_option maxRecDepth 100000 in
theorem cmpV_lt {x y : Int} : (cmpV x y < 0) ↔ x < y := by unfold cmpV; split <;> (try split) <;> omega
set_option maxRecDepth 100000 in
theorem cmpV_ge {x y : Int} : (0 ≤ cmpV x y) ↔ y ≤ x := by unfold cmpV; split <;> (try split) <;> omega
set_option maxRecDepth 100000 in
theorem cmpV_eq {x y : Int} : (cmpV x y = 0) ↔ x = y := by unfold cmpV; split <;> (try split) <;> omega
set_option maxRecDepth 100000 in
set_option maxHeartbeats 1600000 in
theorem tcmp_any (x y : Int) (w : World) :
    Calls Try.prog 65 #[.int .i64 x, .int .i64 y] w fun e w' => e = .returned (.int .i64 (cmpV x y)) ∧ w' = w := by
  have N : ∀ (z : Int) (w : World), Calls Try.prog 84 #[.int .i64 z] w fun e w' => e = .returned (.bool false) ∧ w' = w := by
    intro z w
    go_enter Try.func84, Try.ntmps84
    go_wp2_with fail
    go_ret
    first | exact ⟨rfl, rfl⟩ | exact ⟨by simp, rfl⟩
  go_enter Try.func65, Try.ntmps65
  by_cases h1 : x < y
  · go_wp2_with (go_at_call 84; refine (N _ _).mono ?_; rintro e w' ⟨rfl, rfl⟩)
    go_ret
    exact ⟨by unfold cmpV; rw [if_pos (by omega)]; rfl, rfl⟩
  · by_cases h2 : y < x
    · go_wp2_with (go_at_call 84; refine (N _ _).mono ?_; rintro e w' ⟨rfl, rfl⟩)
      go_ret
      exact ⟨by unfold cmpV; rw [if_neg (by omega), if_pos (by omega)]; rfl, rfl⟩
    · go_wp2_with (go_at_call 84; refine (N _ _).mono ?_; rintro e w' ⟨rfl, rfl⟩)
      go_ret
      exact ⟨by unfold cmpV; rw [if_neg (by omega), if_neg (by omega)]; rfl, rfl⟩
set_option maxRecDepth 100000 in
set_option maxHeartbeats 1600000 in
theorem tcmpid_any (r s : Rt) (w : World) :
    Calls Try.prog 71 #[.agg #[.int .i64 r.id, .bool r.cap], .agg #[.int .i64 s.id, .bool s.cap]] w fun e w' => e = .returned (.int .i64 (cmpV r.id s.id)) ∧ w.grownBy w' none := by
  obtain ⟨k1, k2, k3, k4⟩ := two_boxes w #[.int .i64 r.id, .bool r.cap] #[.int .i64 s.id, .bool s.cap] 63 63
  obtain ⟨c0, c1⟩ := rt_facts k1
  obtain ⟨d0, d1⟩ := rt_facts k2
  have K := Lib.hid k3
  clear k1 k2 k3 k4
  go_enter Try.func71, Try.ntmps71
  go_wp2_with fail
  generalize (w.alloc _).alloc _ = wa at *
  go_wp2_with (go_at_call 65; refine (tcmp_any _ _ _).mono ?_; rintro e w' ⟨rfl, rfl⟩)
  go_ret
  exact ⟨rfl, K.out⟩
end Go.Proofs.Ytlefjdglcdopeaa

/- topology: lists that are searched by functions; what is ascending. -/
namespace Go.Proofs.Ytlefjdglcdopeaa
open Go.RowKit Bs
/-- The first number of a list that is not 0. -/
def orV : List Int → Int
  | [] => 0
  | x :: r => if x = 0 then orV r else x
set_option maxRecDepth 100000 in
theorem orV_take {r : List Int} {k : Nat} {y : Int} (h : orV (r.take k) = 0) (hy : r[k]? = some y) : orV (r.take (k + 1)) = y := by
  induction r generalizing k with
  | nil => simp at hy
  | cons x r ih =>
    cases k with
    | zero =>
      obtain rfl : x = y := by simpa using hy
      show (if x = 0 then orV (r.take 0) else x) = x
      split
      · rename_i e; rw [e]; rfl
      · rfl
    | succ k =>
      rw [List.take_succ_cons, orV] at h
      rw [List.take_succ_cons, orV]
      by_cases e : x = 0
      · rw [if_pos e] at h ⊢
        exact ih h (by simpa using hy)
      · rw [if_neg e] at h
        exact absurd h e
set_option maxRecDepth 100000 in
theorem orV_pre {r : List Int} {k : Nat} (h : orV (r.take k) ≠ 0) : orV r = orV (r.take k) := by
  induction r generalizing k with
  | nil => simp
  | cons x r ih =>
    cases k with
    | zero => exact absurd rfl h
    | succ k =>
      rw [List.take_succ_cons, orV] at h ⊢
      rw [orV]
      by_cases e : x = 0
      · rw [if_pos e] at h ⊢
        rw [if_pos e]
        exact ih h
      · rw [if_neg e]
        rw [if_neg e]
set_option maxRecDepth 100000 in
theorem rdi_at {w : World} {q : Nat → Prop} {p : Option Addr} {n c : Nat} {r : List Int} (h : Rd w q (.slice p n c) (r.map (fun z => Value.int .i64 z))) (hn : 0 < r.length) :
    n = r.length ∧ ∃ b off, p = some ⟨b, off, none⟩ ∧ q b ∧ ∀ i x, r[i]? = some x → w.cell? ⟨b, off + i, none⟩ = some (.int .i64 x) := by
  obtain ⟨p1, c1, e1, hx⟩ := h
  injection e1 with a1 a2 a3
  subst a1
  obtain ⟨b, off, hp, hq, hc⟩ := hx (by intro e; have := congrArg List.length e; simp only [List.length_map, List.length_nil] at this; omega)
  refine ⟨by rw [a2, List.length_map], b, off, hp, hq, fun i x hi => hc i _ ?_⟩
  rw [List.getElem?_map, hi]; rfl
set_option maxRecDepth 100000 in
set_option maxHeartbeats 1600000 in
theorem tor_any (r : List Int) (p : Option Addr) (c : Nat) (q : Nat → Prop) (w : World) (hR : Rd w q (.slice p r.length c) (r.map (fun z => Value.int .i64 z))) (hm : r.length ≤ 9223372036854775807) :
    Calls Try.prog 91 #[.slice p r.length c] w fun e w' => e = .returned (.int .i64 (orV r)) ∧ w' = w := by
  have HR := Lib.hid hR
  clear hR
  go_enter Try.func91, Try.ntmps91
  go_wp2_with fail
  go_loopw [8] (fun a wr => ∃ k : Nat, k ≤ r.length ∧ a = .int .i64 (k : Int) ∧ wr = w ∧ Hid (orV (r.take k) = 0)) (fun a _ => r.length - (RowKit.intOf a).toNat)
  case atStart => exact ⟨0, Nat.zero_le _, rfl, rfl, Lib.hid rfl⟩
  case round =>
    obtain ⟨k, hk, rfl, rfl, H0⟩ := hrel
    by_cases hlt : k < r.length
    · obtain ⟨-, b, off, rfl, hq, hc⟩ := rdi_at HR.out (by omega)
      obtain ⟨y, hy⟩ : ∃ y, r[k]? = some y := ⟨_, List.getElem?_eq_getElem hlt⟩
      have c0 := hc k y hy
      have HY := Lib.hid hy
      clear hc hy
      by_cases e : y = 0
      · have HE := Lib.hid e
        subst e
        go_wp2_with fail
        exact ⟨⟨k + 1, by omega, congrArg _ (by omega), trivial, Lib.hid (orV_take H0.out HY.out)⟩, by simp only [RowKit.intOf]; omega⟩
      · have e' : (y != 0) = true := by simpa using e
        go_wp2_with fail
        go_ret
        refine ⟨?_, rfl⟩
        have h1 := orV_take H0.out HY.out
        have h2 := orV_pre (r := r) (k := k + 1) (by rw [h1]; exact e)
        rw [h2, h1]; rfl
    · obtain rfl : k = r.length := by omega
      go_wp2_with fail
      go_ret
      have := H0.out
      rw [List.take_length] at this
      rw [this]
      exact ⟨rfl, rfl⟩
def cmpL (l m : Lk) : Int := orV [cmpV l.a m.a, cmpV l.b m.b]
set_option maxRecDepth 100000 in
theorem cmpL_ge {l m : Lk} : (0 ≤ cmpL l m) ↔ ltL l m = false := by
  unfold cmpL ltL orV orV orV cmpV
  rw [decide_eq_false_iff_not]
  repeat' split
  all_goals omega
set_option maxRecDepth 100000 in
theorem cmpL_eq {l m : Lk} : (cmpL l m = 0) ↔ (l.a = m.a ∧ l.b = m.b) := by
  unfold cmpL orV orV orV cmpV
  repeat' split
  all_goals omega
set_option maxRecDepth 100000 in
theorem keep4 {w5 w' : World} {b g : Nat} {l m : Lk} (h : w5.heap[b]? = some (.cells #[.int .i64 l.a, .int .i64 l.b, .int .i64 l.ca, .int .i64 l.cb, .int .i64 l.cp] 44 (0, 0)) ∧ w5.heap[g]? = some (.cells #[.int .i64 m.a, .int .i64 m.b, .int .i64 m.ca, .int .i64 m.cb, .int .i64 m.cp] 44 (0, 0))) (hg : Hid (w5.grownBy w' none)) :
    w'.cell? ⟨b, 0, none⟩ = some (.int .i64 l.a) ∧ w'.cell? ⟨b, 1, none⟩ = some (.int .i64 l.b) ∧ w'.cell? ⟨g, 0, none⟩ = some (.int .i64 m.a) ∧ w'.cell? ⟨g, 1, none⟩ = some (.int .i64 m.b) ∧ Hid (w5.grownBy w' none) := by
  obtain ⟨a0, a1, -, -, -⟩ := lk_facts (kept_row h.1 hg.out (by simp))
  obtain ⟨b0, b1, -, -, -⟩ := lk_facts (kept_row h.2 hg.out (by simp))
  exact ⟨a0, a1, b0, b1, hg⟩
set_option maxRecDepth 100000 in
theorem rd_pair (w : World) (x y : Int) (q : Nat → Prop) (hq : q w.heap.size) : Rd (w.alloc (.cells #[.int .i64 x, .int .i64 y] 3)) q (.slice (some ⟨w.heap.size, 0, none⟩) 2 2) ([x, y].map (fun z => Value.int .i64 z)) := by
  have hb : (w.alloc (.cells #[.int .i64 x, .int .i64 y] 3)).heap[w.heap.size]? = some (.cells #[.int .i64 x, .int .i64 y] 3 (0, 0)) := heap_alloc_new w _
  refine ⟨_, 2, rfl, fun _ => ⟨_, _, rfl, hq, fun i u hi => ?_⟩⟩
  rw [Nat.zero_add, cell_of_row _ _ _ _ _ _ hb]
  simpa using hi
set_option maxRecDepth 100000 in
set_option maxHeartbeats 3200000 in
theorem tcmpl_any (l m : Lk) (w : World) :
    Calls Try.prog 77 #[.agg #[.int .i64 l.a, .int .i64 l.b, .int .i64 l.ca, .int .i64 l.cb, .int .i64 l.cp], .agg #[.int .i64 m.a, .int .i64 m.b, .int .i64 m.ca, .int .i64 m.cb, .int .i64 m.cp]] w fun e w' => e = .returned (.int .i64 (cmpL l m)) ∧ w.grownBy w' none := by
  obtain ⟨k1, k2, k3, k4⟩ := two_boxes w #[.int .i64 l.a, .int .i64 l.b, .int .i64 l.ca, .int .i64 l.cb, .int .i64 l.cp] #[.int .i64 m.a, .int .i64 m.b, .int .i64 m.ca, .int .i64 m.cb, .int .i64 m.cp] 44 44
  have HB := Lib.hid (And.intro k1 k2)
  have K := Lib.hid k3
  clear k1 k2 k3 k4
  go_enter Try.func77, Try.ntmps77
  go_upto_region 1 with fail
  generalize (w.alloc _).alloc _ = wa at *
  have GZ : Hid (wa.grownBy wa none) := Lib.hid (grown_refl _ _)
  obtain ⟨a0, a1, b0, b1, -⟩ := keep4 HB.out GZ
  go_region_held3 (fun w' => w'.cell? ⟨w.heap.size, 0, none⟩ = some (.int .i64 l.a) ∧ w'.cell? ⟨w.heap.size, 1, none⟩ = some (.int .i64 l.b) ∧ w'.cell? ⟨w.heap.size + 1, 0, none⟩ = some (.int .i64 m.a) ∧ w'.cell? ⟨w.heap.size + 1, 1, none⟩ = some (.int .i64 m.b) ∧ Hid (wa.grownBy w' none))
    (first | with_reducible exact keep4 HB.out (hid_drew GZ) | with_reducible exact keep4 HB.out (hid_drew (hid_more GZ (World.grownBy_alloc _ _ _))) | (go_split_ands; with_reducible refine keep4 HB.out ?_; with_reducible assumption) | (go_split_ands; with_reducible refine keep4 HB.out (hid_more ?_ (World.grownBy_alloc _ _ _)); with_reducible assumption))
    (first
      | (go_at_call 65; refine (tcmp_any _ _ _).mono ?_; rintro e w' ⟨rfl, rfl⟩)
      | (go_at_call 91; refine (tor_any [cmpV l.a m.a, cmpV l.b m.b] _ _ (fun _ => True) _ ?_ (by simp)).mono ?_; exact (rd_pair _ _ _ _ trivial).keep (grown_drew (grown_refl _ _)); rintro e w' ⟨rfl, rfl⟩))
  all_goals
    go_split_ands
    go_wp2_with fail
    go_ret
    exact ⟨rfl, grown_trans K.out (Hid.out (by assumption))⟩
end Go.Proofs.Ytlefjdglcdopeaa
