/- Parts of the proof, packed: IoPut, IoRows, ToMath, ToMem, ToLeaf, ToFuns. -/
import Derived.Test.YtnpkihioklpnmaaPu1
import Derived.Laws.AppendOwnNone
import Derived.Laws.CopyOwn
import Derived.Laws.ResultCell
import Derived.Deep.Onto
import Derived.Deep.AppendLies
import Derived.Deep.RegionHeld3
import Derived.Shelf.Abstract
import Derived.Deep.CutRange
import Derived.Deep.QuietTactic
import Derived.BigQuiet
/- Streams as values; the reference's Put. -/
namespace Go.Proofs.Ytnpkihioklpnmaa
open Go.RowKit Bs
/-- v is a stream of n bits with the bytes l. -/
def SR (w : World) (q : Nat → Prop) (v : Value) (l : List Nat) (n : Int) : Prop := ∃ p c, v = .agg #[.slice p l.length c, .int .i64 n] ∧ Rd w q (.slice p l.length c) (l.map nv) ∧ (p = none → c = 0) ∧ By l
/-- A stream whose bytes lie in a row of the call's own. -/
structure Own (w : World) (base : Nat) (p : Option Addr) (c : Nat) (l : List Nat) : Prop where
  own : w.ownsRow base 5 1 (.slice p l.length c) l.length (l.map nv)
  pc : p = none → c = 0
  by_ : By l
def StreamPost (l : List Nat) (n : Int) (w : World) (e : Ending) (w' : World) : Prop := ∃ p c, e = .returned (.agg #[.slice p l.length c, .int .i64 n]) ∧ Own w' w.heap.size p c l ∧ w.grownBy w' none
set_option maxRecDepth 100000 in
theorem add_plain (b off j : Nat) : (⟨b, off, none⟩ : Addr).add j = ⟨b, off + j, none⟩ := by unfold Addr.add; split <;> simp_all
set_option maxRecDepth 100000 in
theorem nv_one {l : List Nat} : ∀ u ∈ l.map nv, u.oneCell' = true := by
  intro u hu
  obtain ⟨x, _, rfl⟩ := List.mem_map.1 hu
  rfl
set_option maxRecDepth 100000 in
theorem Rd.news {w : World} {q : Nat → Prop} {ad : Addr} {n c : Nat} {r : List Nat} (hR : Rd w q (.slice (some ad) n c) (r.map nv)) : ∀ j u, (r.map nv)[j]? = some u → w.cell? (ad.add j) = some u := by
  obtain ⟨p1, c1, e1, hx⟩ := hR
  injection e1 with a1 a2 a3
  subst a1
  intro j u hj
  obtain ⟨b, off, hp, hq, hc⟩ := hx (by intro e; rw [e] at hj; simp at hj)
  obtain rfl := Option.some.inj hp
  rw [add_plain]; exact hc j u hj
set_option maxRecDepth 100000 in
/-- append of a slice that is read, onto a row of the call's own. -/
theorem wpList_append_rd {w : World} {ops : Array Oper} {rest : List Oper} {o : Oper} {a : Act} {Q : Exit → Act → World → Prop} (hgd : o.guard = none) (s x : Operand)
    (ho : o.op = .call { callee := .builtin .append, args := #[s, x], argTypes := #[99, 99] }) (base : Nat) (v : Value) (n : Nat) (l : List Nat) (hs : a.eval s = v) (hown : w.ownsRow base 5 1 v n (l.map nv))
    (p : Option Addr) (k c : Nat) (r : List Nat) (hx : a.eval x = .slice p k c) (hk : k = r.length) (q : Nat → Prop) (hR : Rd w q (.slice p k c) (r.map nv)) (hpc : p = none → c = 0) (h63 : n + r.length ≤ 100000) (hbase : base ≤ w.heap.size)
    (h : ∀ v' w', w'.ownsRow base 5 1 v' (n + r.length) ((l ++ r).map nv) → w.grownBy w' v.ownBlock → wpList Try.prog ops Q rest (a.put o.dst v') w') : wpList Try.prog ops Q (o :: rest) a w := by
  obtain ⟨i0, hi, hz0, hz1, hz2⟩ := info_parts info_u8
  subst hk
  cases p with
  | none =>
    obtain rfl := hpc rfl
    have hr : r = [] := by
      obtain ⟨p1, c1, e1, hx⟩ := hR
      injection e1 with a1 a2 a3
      subst a1
      cases r with
      | nil => rfl
      | cons y r => obtain ⟨b, off, hp, _⟩ := hx (by simp); cases hp
    subst hr
    refine wpList_append_own_none hgd s x 99 ho base 5 i0 1 Try.underlying99 hi v n (l.map nv) hs hown hx ?_
    refine h v w ?_ (grown_refl _ _)
    rw [List.append_nil]; exact hown
  | some ad =>
    refine wpList_append_own w hgd s x 99 ho base 5 i0 (.int .u8 0) 1 1 Try.underlying99 hi hz0 hz1 hz2 rfl (by decide) v n (l.map nv) hs hown ad r.length c (r.map nv) hx (by simp) hR.news nv_one (by unfold maxLen; omega) (by omega) hbase ?_
    intro v' w' h1 h2 _
    refine h v' w' ?_ h2
    rw [List.map_append]; exact h1
set_option maxRecDepth 100000 in
theorem grown_drew {w w' : World} {r : Option Nat} (h : w.grownBy w' r) : w.grownBy w'.drew r := ⟨h.os, h.tape, h.output, h.size, h.block⟩
set_option maxRecDepth 100000 in
/-- Two blocks laid one behind the other. -/
theorem two_boxes (w : World) (A Z : Array Value) (t u : TypeId) :
    ((w.alloc (.cells A t)).alloc (.cells Z u)).heap[w.heap.size]? = some (.cells A t (0, 0)) ∧ ((w.alloc (.cells A t)).alloc (.cells Z u)).heap[w.heap.size + 1]? = some (.cells Z u (0, 0)) ∧
      w.grownBy ((w.alloc (.cells A t)).alloc (.cells Z u)) none ∧ ((w.alloc (.cells A t)).alloc (.cells Z u)).heap.size = w.heap.size + 2 := by
  have e1 : (w.alloc (.cells A t)).heap.size = w.heap.size + 1 := by simp
  refine ⟨?_, ?_, grown_trans (World.grownBy_alloc w _ _) (World.grownBy_alloc _ _ _), by simp⟩
  · rw [Below.heap_alloc _ _ _ (by omega)]; exact heap_alloc_new w _
  · rw [← e1]; exact heap_alloc_new _ _
set_option maxRecDepth 100000 in
theorem row_cells {w : World} {b : Nat} {x y : Value} {t : TypeId} (h : w.heap[b]? = some (.cells #[x, y] t (0, 0))) : w.cell? ⟨b, 0, none⟩ = some x ∧ w.cell? ⟨b, 1, none⟩ = some y := by
  refine ⟨?_, ?_⟩
  · rw [cell_of_row _ _ _ _ _ _ h]; rfl
  · rw [cell_of_row _ _ _ _ _ _ h]; rfl
set_option maxRecDepth 100000 in
theorem kept_row {w w' : World} {b : Nat} {o : Obj} {r : Option Nat} (h : w.heap[b]? = some o) (g : w.grownBy w' r) (hr : some b ≠ r) : w'.heap[b]? = some o :=
  (g.block b (Array.getElem?_eq_some_iff.1 h).1 hr).trans h
set_option maxRecDepth 100000 in
theorem rd_new (w : World) (cs : Array Value) (t : TypeId) (c : Nat) : Rd (w.alloc (.cells cs t)) (· = w.heap.size) (.slice (some ⟨w.heap.size, 0, none⟩) cs.toList.length c) cs.toList := by
  have hb : (w.alloc (.cells cs t)).heap[w.heap.size]? = some (.cells cs t (0, 0)) := heap_alloc_new w _
  refine ⟨_, c, rfl, fun _ => ⟨w.heap.size, 0, rfl, rfl, fun i x hi => ?_⟩⟩
  rw [Nat.zero_add, cell_of_row _ _ _ _ _ _ hb]
  simpa using hi
/-- What stands behind the copy: the boxes, the row of the call's own. -/
structure PutAt (w : World) (m : Nat) (v0 : Value) (v : Value) (L : List Nat) (wr : World) : Prop where
  b0 : wr.heap[w.heap.size]? = some (.cells #[v0, .int .i64 (m : Int)] 123 (0, 0))
  b1 : wr.heap[w.heap.size + 1]? = some (.cells #[.slice none 0 0, .int .i64 0] 123 (0, 0))
  own : wr.ownsRow (w.heap.size + 2) 5 1 v L.length (L.map nv)
  gr : w.grownBy wr none
  sz : w.heap.size + 2 ≤ wr.heap.size
set_option maxRecDepth 100000 in
theorem own_ne {w : World} {base k n : Nat} {e : TypeId} {v : Value} {xs : List Value} (h : w.ownsRow base e 1 v n xs) (hk : k < base) : some k ≠ v.ownBlock := by
  intro e2
  have := (h.lt k e2.symm).1
  omega
set_option maxRecDepth 100000 in
theorem grown_own {w wr w1 : World} {base n : Nat} {e : TypeId} {v : Value} {xs : List Value} (hg : w.grownBy wr none) (h : wr.ownsRow base e 1 v n xs) (hb : w.heap.size ≤ base) (k : wr.grownBy w1 v.ownBlock) : w.grownBy w1 none :=
  ⟨k.os.trans hg.os, k.tape.trans hg.tape, k.output.trans hg.output, Nat.le_trans hg.size k.size, fun b hb2 _ => (k.block b (Nat.lt_of_lt_of_le hb2 hg.size) (own_ne h (by omega))).trans (hg.block b hb2 (by simp))⟩
set_option maxRecDepth 100000 in
theorem PutAt.next {w wr w1 : World} {m : Nat} {v0 v v' : Value} {L L' : List Nat} {n : Nat} (h : PutAt w m v0 v L wr) (k : wr.grownBy w1 v.ownBlock) (hn : n = L'.length) (hown : w1.ownsRow (w.heap.size + 2) 5 1 v' n (L'.map nv)) : PutAt w m v0 v' L' w1 := by
  subst hn
  exact ⟨kept_row h.b0 k (own_ne h.own (by omega)), kept_row h.b1 k (own_ne h.own (by omega)), hown, grown_own h.gr h.own (by omega) k, Nat.le_trans h.sz k.size⟩
set_option maxRecDepth 100000 in
theorem pz_snoc (f : Nat → Bool) {m N : Nat} (h8 : m % 8 = 0) (hN : N = (m + 7) / 8) : pz f m N ++ [0] = pz f m (m / 8 + 1) := by
  obtain rfl : N = m / 8 := by omega
  unfold pz
  rw [List.range_succ, List.map_append, List.map_singleton, py_zero f (by omega)]
set_option maxRecDepth 100000 in
theorem pz_up (f : Nat → Bool) {m N : Nat} (hf : f m = false) : pz f m N = pz f (m + 1) N := by
  apply pz_congr
  intro i _
  by_cases e : i = m
  · subst e; rw [hf]; simp
  · rw [show decide (i < m) = decide (i < m + 1) by rw [decide_eq_decide]; omega]
set_option maxRecDepth 100000 in
theorem own_form {w : World} {base n : Nat} {e : TypeId} {v : Value} {xs : List Value} (h : w.ownsRow base e 1 v n xs) (hn : 0 < n) : ∃ g cap, v = .slice (some ⟨g, 0, none⟩) n cap ∧ base ≤ g := by
  rcases h.2 with ⟨_, h0⟩ | ⟨g, cap, cur, rfl, hb, _⟩
  · omega
  · exact ⟨g, cap, rfl, hb⟩
set_option maxRecDepth 100000 in
theorem or_bit {f : Nat → Bool} {m x s : Nat} (hf : f m = true) (hx : py f m (m / 8) = x) (hs : 7 - m % 8 = s) : bits .or .u8 (x : Int) (2 ^ s % 256) = ((py f (m + 1) (m / 8) : Nat) : Int) := by
  have h1 := py_lt f m (m / 8)
  have e := py_or f m 1 (by omega)
  rw [hx, show num f m 1 = 1 by simp [num, hf], Nat.one_mul, show 8 - m % 8 - 1 = s by omega] at e
  have h2 : 2 ^ s < 256 := Nat.pow_lt_pow_right (n := 8) (by decide) (by omega)
  rw [powI, ← e]
  generalize 2 ^ s = y at *
  rw [show ((y : Int) % 256) = (y : Int) by omega, u8_or_nat x _ (by omega) h2]
set_option maxRecDepth 100000 in
theorem PutAt.stored {w wr : World} {m : Nat} {v0 : Value} {L L' : List Nat} {g n cap j x : Nat} (h : PutAt w m v0 (.slice (some ⟨g, 0, none⟩) n cap) L wr) (hn : n = L.length) (hg : w.heap.size + 2 ≤ g) (hL : L' = L.set j x) :
    PutAt w m v0 (.slice (some ⟨g, 0, none⟩) n cap) L' (wr.setCell ⟨g, j, none⟩ (nv x)).drew := by
  subst hL
  subst hn
  obtain ⟨k1, k2⟩ := h.own.stored j (nv x)
  have k3 := h.next k2 (L' := L.set j x) (v' := .slice (some ⟨g, 0, none⟩) L.length cap) (by rw [List.length_set]) (by rw [List.map_set]; exact k1)
  exact ⟨k3.b0, k3.b1, k3.own, grown_drew k3.gr, k3.sz⟩
set_option maxRecDepth 100000 in
theorem store2 {w : World} {b : Nat} {x y u z : Value} {t : TypeId} (h : w.heap[b]? = some (.cells #[x, y] t (0, 0))) : ((w.setCell ⟨b, 0, none⟩ u).setCell ⟨b, 1, none⟩ z).heap[b]? = some (.cells #[u, z] t (0, 0)) := by
  have e1 := heap_setCell_same w b 0 _ _ u h
  have e2 := heap_setCell_same _ b 1 _ _ z e1
  rw [e2]; rfl
set_option maxRecDepth 100000 in
theorem grown_store2 (w : World) (b : Nat) (u z : Value) : w.grownBy ((w.setCell ⟨b, 0, none⟩ u).setCell ⟨b, 1, none⟩ z) (some b) := grown_trans (grown_setCell w ⟨b, 0, none⟩ u) (grown_setCell _ ⟨b, 1, none⟩ z)
set_option maxRecDepth 100000 in
/-- What lies behind the call's start may turn. -/
theorem grown_new {w w1 w2 : World} {b : Nat} (h : w.grownBy w1 none) (k : w1.grownBy w2 (some b)) (hb : w.heap.size ≤ b) : w.grownBy w2 none :=
  ⟨k.os.trans h.os, k.tape.trans h.tape, k.output.trans h.output, Nat.le_trans h.size k.size, fun i hi _ => (k.block i (Nat.lt_of_lt_of_le hi h.size) (by intro e; have := Option.some.inj e; omega)).trans (h.block i hi (by simp))⟩
set_option maxRecDepth 100000 in
theorem own_parts {w : World} {base n : Nat} {e : TypeId} {v : Value} {xs : List Value} (h : w.ownsRow base e 1 v n xs) : ∃ p c, v = .slice p n c ∧ (p = none → c = 0) := by
  rcases h.2 with ⟨rfl, h0⟩ | ⟨g, cap, cur, rfl, _⟩
  · subst h0; exact ⟨none, 0, rfl, fun _ => rfl⟩
  · exact ⟨some ⟨g, 0, none⟩, cap, rfl, (by intro e; cases e)⟩
set_option maxRecDepth 100000 in
theorem Own.rd {w : World} {base : Nat} {p : Option Addr} {c : Nat} {l : List Nat} (h : Own w base p c l) : Rd w (base ≤ ·) (.slice p l.length c) (l.map nv) := rd_of_own h.own
set_option maxRecDepth 100000 in
theorem Own.keep {w w' : World} {base : Nat} {p : Option Addr} {c : Nat} {l : List Nat} (h : Own w base p c l) (g : w.grownBy w' none) : Own w' base p c l := ⟨h.own.kept g (by cases hv : (Value.slice p l.length c).ownBlock <;> simp), h.pc, h.by_⟩
set_option maxRecDepth 100000 in
theorem Own.other {w w' : World} {base b : Nat} {p : Option Addr} {c : Nat} {l : List Nat} (h : Own w base p c l) (g : w.grownBy w' (some b)) (hb : b < base) : Own w' base p c l :=
  ⟨h.own.kept g (.inr (fun e => by have := h.own.lt _ e; omega)), h.pc, h.by_⟩
set_option maxRecDepth 100000 in
theorem Own.mono {w : World} {base base' : Nat} {p : Option Addr} {c : Nat} {l : List Nat} (h : Own w base p c l) (hb : base' ≤ base) : Own w base' p c l := ⟨h.own.mono hb, h.pc, h.by_⟩
set_option maxRecDepth 100000 in
theorem PutAt.ends {w wr : World} {m : Nat} {v0 v : Value} {L : List Nat} {n : Int} (h : PutAt w m v0 v L wr) (hl : By L) :
    StreamPost L n w (.returned (.agg #[v, .int .i64 n])) ((wr.setCell ⟨w.heap.size + 1, 0, none⟩ v).setCell ⟨w.heap.size + 1, 1, none⟩ (.int .i64 n)) := by
  have g := grown_store2 wr (w.heap.size + 1) v (.int .i64 n)
  have hown := h.own.kept g (.inr (by
    intro e
    have := h.own.lt _ e
    omega))
  have hgr := grown_new h.gr g (Nat.le_succ _)
  rcases own_parts h.own with ⟨p, c, rfl, hpc⟩
  exact ⟨p, c, rfl, ⟨hown.mono (by omega), hpc, hl⟩, hgr⟩
set_option maxRecDepth 100000 in
theorem stream_size : (Try.prog.info? 123).map (·.size) = some 2 := by kernel_rfl
set_option maxRecDepth 100000 in
theorem PutAt.fin {w wr : World} {m N : Nat} {v0 v : Value} {f : Nat → Bool} (h : PutAt w m v0 v (pz f (m + 1) N) wr) (hN : N = (m + 8) / 8) :
    StreamPost (pz f (m + 1) ((m + 8) / 8)) ((m + 1 : Nat) : Int) w (.returned (.agg #[v, .int .i64 ((m : Int) + 1)])) ((wr.setCell ⟨w.heap.size + 1, 0, none⟩ v).setCell ⟨w.heap.size + 1, 1, none⟩ (.int .i64 ((m : Int) + 1))) := by
  subst hN
  exact h.ends (pz_lt _ _ _)
set_option maxRecDepth 100000 in
/-- A struct comes back out of its block. -/
theorem res_stream {fn : Func} {p : Tmp} (h : fn.results = #[.cell p 123]) (tmps : Array Value) (w : World) (g : Nat) (x y : Value) (hp : tmps.getD p undef = .pointer (some ⟨g, 0, none⟩)) (hg : w.heap[g]? = some (.cells #[x, y] 123 (0, 0))) :
    (results fn tmps).run Try.prog w = .ok (.agg #[x, y]) w := by
  exact results_cell_row h tmps w g _ _ _ _ hp hg Try.underlying123 rfl stream_size
set_option maxRecDepth 100000 in
theorem res_stream_err {fn : Func} {p u : Tmp} (h : fn.results = #[.cell p 123, .tmp u]) (tmps : Array Value) (w : World) (g : Nat) (x y : Value) (hp : tmps.getD p undef = .pointer (some ⟨g, 0, none⟩)) (hg : w.heap[g]? = some (.cells #[x, y] 123 (0, 0))) :
    (results fn tmps).run Try.prog w = .ok (.tuple #[.agg #[x, y], tmps.getD u undef]) w := by
  have hp' : tmps[p]?.getD undef = .pointer (some ⟨g, 0, none⟩) := by simpa using hp
  rw [results_cell_tmp h]
  simp [hp', asAddr, run_loadVar_row w g _ _ _ _ _ hg Try.underlying123 rfl stream_size, Result.andThen]
set_option maxRecDepth 100000 in
set_option maxHeartbeats 1600000 in
theorem put_any (f : Nat → Bool) (m : Nat) (l : List Nat) (q : Nat → Prop) (p : Option Addr) (c : Nat) (hm : m ≤ 9000) (hl : l = pz f m ((m + 7) / 8)) (hpc : p = none → c = 0) (w : World) (hR : Rd w q (.slice p l.length c) (l.map nv)) :
    Calls Try.prog 125 #[.agg #[.slice p l.length c, .int .i64 (m : Int)], bw (f m)] w fun e w' => StreamPost (pz f (m + 1) ((m + 8) / 8)) ((m + 1 : Nat) : Int) w e w' := by
  have hll : l.length = (m + 7) / 8 := by rw [hl, pz_len]
  have HL := Lib.hid hl
  have HLL := Lib.hid hll
  have hl2 : l.length ≤ 2000 := by omega
  clear hl hll
  obtain ⟨i0, hi, hz0, hz1, hz2⟩ := info_parts info_u8
  obtain ⟨k1, k2, k3, k4⟩ := two_boxes w #[.slice p l.length c, .int .i64 (m : Int)] #[.slice none 0 0, .int .i64 0] 123 123
  have K := Lib.hid (And.intro k1 (And.intro k2 (And.intro k3 k4)))
  have hR2 := hR.keep k3
  clear hR k1 k2 k3 k4
  go_enter Try.func125, Try.ntmps125
  go_wp2_with (at_builtin; refine wpList_append_rd rfl _ _ rfl (w.heap.size + 2) _ 0 [] rfl (World.ownsRow_nil _ _ _ _) p l.length c l rfl rfl q hR2 hpc ?c1 ?c2 ?_)
  case c1 => omega
  case c2 => rw [K.out.2.2.2]; exact Nat.le_refl _
  intro v1 w1 hown1 hg1
  have P0 : PutAt w m (.slice p l.length c) v1 l w1 := by
    obtain ⟨k1, k2, k3, k4⟩ := K.out
    exact ⟨kept_row k1 hg1 (by exact nofun), kept_row k2 hg1 (by exact nofun), hown1, grown_trans k3 hg1, by rw [← k4]; exact hg1.size⟩
  clear hown1 hg1 hR2 K
  by_cases h8 : m % 8 = 0
  · have z8 : (m : Int) % 8 = 0 := by omega
    obtain ⟨c0, c1⟩ := row_cells P0.b0
    have H0 := Lib.hid P0
    have hown := P0.own
    have hbs : w.heap.size + 2 ≤ (w1.alloc (.cells #[nv 0] 5)).heap.size := by have := P0.sz; simp; omega
    clear P0
    go_wp2_with (at_builtin; refine wpList_append_rd rfl _ _ rfl (w.heap.size + 2) v1 l.length l rfl (hown.alloc _) (some ⟨w1.heap.size, 0, none⟩) 1 1 [0] rfl rfl _ (rd_new w1 #[nv 0] 5 1) (by exact nofun) ?c3 ?c4 ?_)
    case c3 => simp; omega
    case c4 => exact hbs
    intro v2 w2 hown2 hg2
    have P1 : PutAt w m (.slice p l.length c) v2 (pz f m (m / 8 + 1)) w2 := by
      refine PutAt.next ⟨(H0.out).b0, H0.out.b1, H0.out.own, H0.out.gr, H0.out.sz⟩ (grown_trans (World.grownBy_alloc w1 _ _) hg2) (n := l.length + 1) ?_ ?_
      · rw [pz_len]; have := HLL.out; omega
      · rw [← pz_snoc f h8 (N := l.length) (by have := HLL.out; omega)]
        have := HL.out
        rw [show pz f m l.length = l by rw [HLL.out]; exact this.symm]
        rw [List.map_append]; exact hown2
    clear hown2 hg2 hown H0 c0 c1
    obtain ⟨c0, c1⟩ := row_cells P1.b0
    by_cases hf : f m = true
    · skip
      obtain ⟨g, cap, rfl, hgb⟩ := own_form P1.own (by rw [pz_len]; omega)
      rw [pz_len]
      have hcell : w2.cell? ⟨g, m / 8, none⟩ = some (.int .u8 ((py f m (m / 8) : Nat) : Int)) := by
        rw [P1.own.cellAt (m / 8) (by rw [pz_len]; omega), List.getElem?_map, pz_at _ _ _ _ (by omega)]; rfl
      have hfz := P1.own.frozenAt (m / 8)
      have hx8 := py_lt f m (m / 8)
      obtain ⟨s, hs⟩ : ∃ s : Nat, 7 - m % 8 = s := ⟨_, rfl⟩
      have hs8 : s ≤ 7 := by omega
      have hsub : 7 - (m : Int) % 8 = (s : Int) := by omega
      obtain rfl : s = 7 := by omega
      have O0 := or_bit hf rfl hs
      rw [show ((2 : Int) ^ 7 % 256) = 128 from rfl] at O0
      have O := Lib.hid O0
      clear O0
      have P2 := P1.stored (x := py f (m + 1) (m / 8)) (j := m / 8) rfl hgb (pz_set f m 1 (m / 8 + 1) (by omega) (by omega)).symm
      rw [pz_len] at P2
      have H2 := Lib.hid P2
      clear P1 P2 hs
      generalize py f m (m / 8) = x at *
      generalize py f (m + 1) (m / 8) = y at *
      rw [bw_true hf]
      go_wp2_with fail
      go_region
      rw [O.out]
      have HB1 := H2.out.b1
      obtain ⟨d0, d1⟩ := row_cells H2.out.b0
      obtain ⟨e0, e1⟩ := row_cells HB1
      have f0 := frozen_of_row _ _ 0 _ _ HB1
      have f1 := frozen_of_row _ _ 1 _ _ HB1
      have HB := Lib.hid HB1
      clear HB1 c0 c1
      change Exit.then _ _ _ _ ((w2.setCell _ (nv y)).drew)
      generalize (w2.setCell ⟨g, m / 8, none⟩ (nv y)).drew = w3 at *
      go_wp2_with fail
      refine bodyPost_ret (res_stream rfl _ _ (w.heap.size + 1) _ _ rfl (store2 HB.out)) rfl ?_
      exact H2.out.fin (by omega)
    · skip
      have hf0 : f m = false := by simpa using hf
      obtain ⟨g, cap, rfl, hgb⟩ := own_form P1.own (by rw [pz_len]; omega)
      rw [pz_len] at P1 ⊢
      have P2 : PutAt w m (.slice p l.length c) (.slice (some ⟨g, 0, none⟩) (m / 8 + 1) cap) (pz f (m + 1) (m / 8 + 1)) w2 := by rw [← pz_up f hf0]; exact P1
      have H2 := Lib.hid P2
      have HB1 := H2.out.b1
      obtain ⟨e0, e1⟩ := row_cells HB1
      have f0 := frozen_of_row _ _ 0 _ _ HB1
      have f1 := frozen_of_row _ _ 1 _ _ HB1
      have HB := Lib.hid HB1
      clear HB1 P1 P2
      rw [bw_false hf0]
      go_wp2_with fail
      refine bodyPost_ret (res_stream rfl _ _ (w.heap.size + 1) _ _ rfl (store2 HB.out)) rfl ?_
      exact H2.out.fin (by omega)
  · have z8 : ¬ ((m : Int) % 8 = 0) := by omega
    have P1 : PutAt w m (.slice p l.length c) v1 (pz f m (m / 8 + 1)) w1 := by
      rw [show m / 8 + 1 = (m + 7) / 8 by omega, ← HL.out]
      exact P0
    clear P0
    obtain ⟨c0, c1⟩ := row_cells P1.b0
    by_cases hf : f m = true
    · skip
      obtain ⟨g, cap, rfl, hgb⟩ := own_form P1.own (by rw [pz_len]; omega)
      rw [pz_len]
      have hcell : w1.cell? ⟨g, m / 8, none⟩ = some (.int .u8 ((py f m (m / 8) : Nat) : Int)) := by
        rw [P1.own.cellAt (m / 8) (by rw [pz_len]; omega), List.getElem?_map, pz_at _ _ _ _ (by omega)]; rfl
      have hfz := P1.own.frozenAt (m / 8)
      have hx8 := py_lt f m (m / 8)
      obtain ⟨s, hs⟩ : ∃ s : Nat, 7 - m % 8 = s := ⟨_, rfl⟩
      have hs8 : s ≤ 7 := by omega
      have hsub : 7 - (m : Int) % 8 = (s : Int) := by omega
      have z9 : ((m : Int) % 8 == 0) = false := by simp; omega
      have O0 := or_bit hf rfl hs
      have O := Lib.hid O0
      clear O0
      have P2 := P1.stored (x := py f (m + 1) (m / 8)) (j := m / 8) rfl hgb (pz_set f m 1 (m / 8 + 1) (by omega) (by omega)).symm
      rw [pz_len] at P2
      have H2 := Lib.hid P2
      clear P1 P2 hs
      generalize py f m (m / 8) = x at *
      generalize py f (m + 1) (m / 8) = y at *
      rw [bw_true hf]
      go_wp2_with fail
      go_region
      rw [O.out]
      have HB1 := H2.out.b1
      obtain ⟨d0, d1⟩ := row_cells H2.out.b0
      obtain ⟨e0, e1⟩ := row_cells HB1
      have f0 := frozen_of_row _ _ 0 _ _ HB1
      have f1 := frozen_of_row _ _ 1 _ _ HB1
      have HB := Lib.hid HB1
      clear HB1 c0 c1
      change Exit.then _ _ _ _ ((w1.setCell _ (nv y)).drew)
      generalize (w1.setCell ⟨g, m / 8, none⟩ (nv y)).drew = w3 at *
      go_wp2_with fail
      refine bodyPost_ret (res_stream rfl _ _ (w.heap.size + 1) _ _ rfl (store2 HB.out)) rfl ?_
      exact H2.out.fin (by omega)
    · skip
      have hf0 : f m = false := by simpa using hf
      obtain ⟨g, cap, rfl, hgb⟩ := own_form P1.own (by rw [pz_len]; omega)
      rw [pz_len] at P1 ⊢
      have P2 : PutAt w m (.slice p l.length c) (.slice (some ⟨g, 0, none⟩) (m / 8 + 1) cap) (pz f (m + 1) (m / 8 + 1)) w1 := by rw [← pz_up f hf0]; exact P1
      have H2 := Lib.hid P2
      have HB1 := H2.out.b1
      obtain ⟨e0, e1⟩ := row_cells HB1
      have f0 := frozen_of_row _ _ 0 _ _ HB1
      have f1 := frozen_of_row _ _ 1 _ _ HB1
      have HB := Lib.hid HB1
      clear HB1 P1 P2
      rw [bw_false hf0]
      go_wp2_with fail
      refine bodyPost_ret (res_stream rfl _ _ (w.heap.size + 1) _ _ rfl (store2 HB.out)) rfl ?_
      exact H2.out.fin (by omega)
end Go.Proofs.Ytnpkihioklpnmaa

/- Rows of the call's own that grow apart. -/
namespace Go.Proofs.Ytnpkihioklpnmaa
open Go.RowKit Bs
set_option maxRecDepth 100000 in
theorem tp_new2 {w1 w2 : World} {a b : Nat} (h : Tp w1 a) (k : w1.grownBy w2 (some b)) (hb : a < b) : Tp w2 a := by
  have hlt := h.lt
  obtain ⟨v, n, i, T⟩ := h
  have hb' : w2.heap[a]? = w1.heap[a]? := k.block a hlt (by intro e; have := Option.some.inj e; omega)
  refine ⟨v, n, i, (World.cell?_of_block (a := ⟨a, 0, none⟩) hb').trans T.l, (World.cell?_of_block (a := ⟨a, 1, none⟩) hb').trans T.p, (World.frozen?_of_block (a := ⟨a, 1, none⟩) hb').trans T.fr, ?_, T.le, T.len⟩
  obtain ⟨p, c, hv, hc⟩ := T.ints
  refine ⟨p, c, hv, fun hn => ?_⟩
  obtain ⟨g, off, hp, hg, hx⟩ := hc hn
  exact ⟨g, off, hp, hg, fun i hi => by obtain ⟨x, hx, hcell⟩ := hx i hi; exact ⟨x, hx, k.cell hcell (by intro e; have e2 : g = b := Option.some.inj e; omega)⟩⟩
set_option maxRecDepth 100000 in
theorem St.none_ {a : Nat} {W w w1 : World} (h : St a W w) (g : w.grownBy w1 none) : St a W w1 := ⟨grown_trans h.1 (grown_none g _), h.2.keep g⟩
end Go.Proofs.Ytnpkihioklpnmaa

/- Topologies: the mathematics. -/
namespace Go.Proofs.Ytnpkihioklpnmaa
open Go.RowKit Bs
/-- A router and a link. -/
structure Rt where
  id : Int
  cap : Bool
structure Lk where
  a : Int
  b : Int
  ca : Int
  cb : Int
  cp : Int
def rtC (r : Rt) : List Value := [.int .i64 r.id, .bool r.cap]
def lkC (l : Lk) : List Value := [.int .i64 l.a, .int .i64 l.b, .int .i64 l.ca, .int .i64 l.cb, .int .i64 l.cp]
def wrId (r : Rt) : Bool := !decide (1 ≤ r.id ∧ r.id ≤ 99)
def wrNum (l : Lk) : Bool := !decide ((1 ≤ l.ca ∧ l.ca ≤ 1000) ∧ (1 ≤ l.cb ∧ l.cb ≤ 1000) ∧ (0 ≤ l.cp ∧ l.cp ≤ 1000))
def hasR (R : List Rt) (x : Int) : Bool := R.any fun r => decide (r.id = x)
def unk (R : List Rt) (l : Lk) : Bool := !hasR R l.a || !hasR R l.b
def wrEnd (l : Lk) : Bool := decide (l.b ≤ l.a)
def ltR (r s : Rt) : Bool := decide (r.id < s.id)
def ltL (l m : Lk) : Bool := decide (l.a < m.a ∨ (l.a = m.a ∧ l.b < m.b))
/-- Strictly ascending. -/
def ascB {α : Type} (f : α → α → Bool) : List α → Bool
  | a :: b :: t => f a b && ascB f (b :: t)
  | _ => true
set_option maxRecDepth 100000 in
theorem ascB_iff {α : Type} (f : α → α → Bool) : ∀ l : List α, ascB f l = true ↔ ∀ i x y, l[i]? = some x → l[i + 1]? = some y → f x y = true
  | [] => by simp [ascB]
  | [a] => by simp [ascB]
  | a :: b :: t => by
    rw [ascB, Bool.and_eq_true, ascB_iff f (b :: t)]
    constructor
    · rintro ⟨h1, h2⟩ i x y hx hy
      cases i with
      | zero => simp at hx hy; subst hx; subst hy; exact h1
      | succ i => exact h2 i x y (by simpa using hx) (by simpa using hy)
    · intro h
      exact ⟨h 0 a b rfl rfl, fun i x y hx hy => h (i + 1) x y (by simpa using hx) (by simpa using hy)⟩
/-- What Check returns. -/
def chk (R : List Rt) (L : List Lk) : Int :=
  if 24 < R.length ∨ 60 < L.length then 3
  else if R.any wrId then 2
  else if !ascB ltR R then 25
  else if L.any wrNum then 2
  else if L.any (unk R) then 4
  else if L.any wrEnd then 8
  else if !ascB ltL L then 25 else 0
set_option maxRecDepth 100000 in
theorem any_take {α : Type} {p : α → Bool} {l : List α} {k : Nat} {x : α} (h : (l.take k).any p = false) (hx : l[k]? = some x) (hp : p x = false) : (l.take (k + 1)).any p = false := by
  rw [List.take_add_one, List.any_append, h, hx]
  simpa using hp
set_option maxRecDepth 100000 in
theorem any_at {α : Type} {p : α → Bool} {l : List α} {k : Nat} {x : α} (hx : l[k]? = some x) (hp : p x = true) : l.any p = true :=
  List.any_eq_true.2 ⟨x, List.mem_of_getElem? hx, hp⟩
set_option maxRecDepth 100000 in
theorem any_end {α : Type} {p : α → Bool} {l : List α} {k : Nat} (h : (l.take k).any p = false) (hk : l.length ≤ k) : l.any p = false := by
  rwa [List.take_of_length_le hk] at h
set_option maxRecDepth 100000 in
/-- The cells of a list of elements of k cells each. -/
theorem flat_at {α : Type} (f : α → List Value) (n : Nat) (hf : ∀ x, (f x).length = n) : ∀ (l : List α) (i j : Nat) (x : α), l[i]? = some x → j < n → (l.flatMap f)[i * n + j]? = (f x)[j]?
  | [], i, j, x, h, _ => by simp at h
  | m :: l, 0, j, x, h, hj => by
    obtain rfl : m = x := by simpa using h
    rw [List.flatMap_cons, Nat.zero_mul, Nat.zero_add, List.getElem?_append_left (by rw [hf]; exact hj)]
  | m :: l, i + 1, j, x, h, hj => by
    rw [List.flatMap_cons, List.getElem?_append_right (by rw [hf, Nat.add_mul]; omega), show (i + 1) * n + j - (f m).length = i * n + j by rw [hf, Nat.add_mul]; omega]
    exact flat_at f n hf l i j x (by simpa using h) hj
set_option maxRecDepth 100000 in
theorem flat_len {α : Type} (f : α → List Value) (n : Nat) (hf : ∀ x, (f x).length = n) : ∀ (l : List α), (l.flatMap f).length = l.length * n
  | [] => by simp
  | m :: l => by rw [List.flatMap_cons, List.length_append, hf, flat_len f n hf l, List.length_cons, Nat.add_mul]; omega
end Go.Proofs.Ytnpkihioklpnmaa

/- Topologies in memory. -/
namespace Go.Proofs.Ytnpkihioklpnmaa
open Go.RowKit Bs
set_option maxRecDepth 100000 in
theorem tone_box (w : World) (A : Array Value) (t : TypeId) : (w.alloc (.cells A t)).heap[w.heap.size]? = some (.cells A t (0, 0)) ∧ w.grownBy (w.alloc (.cells A t)) none :=
  ⟨heap_alloc_new w _, World.grownBy_alloc w _ _⟩
/-- The slice value v has n elements, whose cells are xs. -/
def RdF (w : World) (q : Nat → Prop) (v : Value) (n : Nat) (xs : List Value) : Prop :=
  ∃ p c, v = .slice p n c ∧ (xs ≠ [] → ∃ b off, p = some ⟨b, off, none⟩ ∧ q b ∧ ∀ i x, xs[i]? = some x → w.cell? ⟨b, off + i, none⟩ = some x)
set_option maxRecDepth 100000 in
theorem RdF.grown {w w' : World} {q : Nat → Prop} {v : Value} {n : Nat} {xs : List Value} {r : Option Nat} (h : RdF w q v n xs) (g : w.grownBy w' r) (hq : ∀ b, q b → some b ≠ r) : RdF w' q v n xs := by
  obtain ⟨p, c, hv, hc⟩ := h
  refine ⟨p, c, hv, fun hne => ?_⟩
  obtain ⟨b, off, hp, hb, hx⟩ := hc hne
  exact ⟨b, off, hp, hb, fun i x hi => g.cell (hx i x hi) (hq b hb)⟩
set_option maxRecDepth 100000 in
theorem RdF.keep {w w' : World} {q : Nat → Prop} {v : Value} {n : Nat} {xs : List Value} (h : RdF w q v n xs) (g : w.grownBy w' none) : RdF w' q v n xs := h.grown g (fun _ _ => by simp)
set_option maxRecDepth 100000 in
theorem RdF.mono {w : World} {q q' : Nat → Prop} {v : Value} {n : Nat} {xs : List Value} (h : RdF w q v n xs) (hq : ∀ b, q b → q' b) : RdF w q' v n xs := by
  obtain ⟨p, c, hv, hc⟩ := h
  refine ⟨p, c, hv, fun hne => ?_⟩
  obtain ⟨b, off, hp, hb, hx⟩ := hc hne
  exact ⟨b, off, hp, hq b hb, hx⟩
set_option maxRecDepth 100000 in
theorem rdf_nil (w : World) (q : Nat → Prop) (p : Option Addr) (c : Nat) : RdF w q (.slice p 0 c) 0 [] := ⟨p, c, rfl, fun h => absurd rfl h⟩
set_option maxRecDepth 100000 in
theorem rdf_of_own {w : World} {base size : Nat} {e : TypeId} {v : Value} {n : Nat} {xs : List Value} (h : w.ownsRow base e size v n xs) : RdF w (base ≤ ·) v n xs := by
  rcases h.2 with ⟨rfl, h0⟩ | ⟨g, cap, cur, rfl, hb, hg, _⟩
  · subst h0
    have hl : xs = [] := List.eq_nil_of_length_eq_zero (by have := h.1; omega)
    exact ⟨none, 0, rfl, fun hne => absurd hl hne⟩
  · refine ⟨some ⟨g, 0, none⟩, cap, rfl, fun _ => ⟨g, 0, rfl, hb, fun i x hi => ?_⟩⟩
    have := h.cells (g := g) rfl i x hi
    have hadd : (⟨g, 0, none⟩ : Addr).add i = ⟨g, 0 + i, none⟩ := by unfold Addr.add; split <;> simp_all
    rw [hadd] at this
    exact this
set_option maxRecDepth 100000 in
theorem RdF.cells {α : Type} {f : α → List Value} {k : Nat} (hf : ∀ x, (f x).length = k) (hk : 0 < k) {w : World} {q : Nat → Prop} {p : Option Addr} {n c : Nat} {l : List α} (h : RdF w q (.slice p n c) l.length (l.flatMap f)) (hn : 0 < l.length) :
    n = l.length ∧ ∃ b off, p = some ⟨b, off, none⟩ ∧ q b ∧ ∀ i x, l[i]? = some x → ∀ j y, (f x)[j]? = some y → w.cell? ⟨b, off + i * k + j, none⟩ = some y := by
  obtain ⟨p1, c1, e1, hx⟩ := h
  injection e1 with a1 a2 a3
  subst a1
  have hne : l.flatMap f ≠ [] := by
    intro e
    have h2 := flat_len f k hf l
    rw [e, List.length_nil] at h2
    have := Nat.mul_pos hn hk
    omega
  obtain ⟨b, off, hp, hq, hc⟩ := hx hne
  refine ⟨a2, b, off, hp, hq, fun i x hi j y hj => ?_⟩
  have hjk : j < k := by
    have := (List.getElem?_eq_some_iff.1 hj).1
    rw [hf] at this
    exact this
  rw [Nat.add_assoc]
  exact hc _ _ ((flat_at f k hf l i j x hi hjk).trans hj)
/-- Routers, links, hops, that are read. -/
abbrev RdR (w : World) (q : Nat → Prop) (v : Value) (R : List Rt) : Prop := RdF w q v R.length (R.flatMap rtC)
abbrev RdL5 (w : World) (q : Nat → Prop) (v : Value) (L : List Lk) : Prop := RdF w q v L.length (L.flatMap lkC)
set_option maxRecDepth 100000 in
theorem rdr_cells {w : World} {q : Nat → Prop} {p : Option Addr} {n c : Nat} {R : List Rt} (h : RdR w q (.slice p n c) R) (hn : 0 < R.length) :
    n = R.length ∧ ∃ b off, p = some ⟨b, off, none⟩ ∧ q b ∧ ∀ i x, R[i]? = some x → w.cell? ⟨b, off + i * 2, none⟩ = some (.int .i64 x.id) ∧ w.cell? ⟨b, off + i * 2 + 1, none⟩ = some (.bool x.cap) := by
  obtain ⟨h0, b, off, hp, hq, hc⟩ := RdF.cells (f := rtC) (k := 2) (fun _ => rfl) (by decide) h hn
  exact ⟨h0, b, off, hp, hq, fun i x hi => ⟨hc i x hi 0 _ rfl, hc i x hi 1 _ rfl⟩⟩
set_option maxRecDepth 100000 in
theorem rdl_cells {w : World} {q : Nat → Prop} {p : Option Addr} {n c : Nat} {L : List Lk} (h : RdL5 w q (.slice p n c) L) (hn : 0 < L.length) :
    n = L.length ∧ ∃ b off, p = some ⟨b, off, none⟩ ∧ q b ∧ ∀ i x, L[i]? = some x → w.cell? ⟨b, off + i * 5, none⟩ = some (.int .i64 x.a) ∧ w.cell? ⟨b, off + i * 5 + 1, none⟩ = some (.int .i64 x.b) ∧ w.cell? ⟨b, off + i * 5 + 2, none⟩ = some (.int .i64 x.ca) ∧ w.cell? ⟨b, off + i * 5 + 3, none⟩ = some (.int .i64 x.cb) ∧ w.cell? ⟨b, off + i * 5 + 4, none⟩ = some (.int .i64 x.cp) := by
  obtain ⟨h0, b, off, hp, hq, hc⟩ := RdF.cells (f := lkC) (k := 5) (fun _ => rfl) (by decide) h hn
  exact ⟨h0, b, off, hp, hq, fun i x hi => ⟨hc i x hi 0 _ rfl, hc i x hi 1 _ rfl, hc i x hi 2 _ rfl, hc i x hi 3 _ rfl, hc i x hi 4 _ rfl⟩⟩
/-- A topology with where it lies. -/
structure Tg where
  R : List Rt
  L : List Lk
  pR : Option Addr
  cR : Nat
  pL : Option Addr
  cL : Nat
def Tg.vR (T : Tg) : Value := .slice T.pR T.R.length T.cR
def Tg.vL (T : Tg) : Value := .slice T.pL T.L.length T.cL
/-- A topology that can be read, in blocks that meet q. -/
structure TgOk (w : World) (q : Nat → Prop) (T : Tg) : Prop where
  r : RdR w q (.slice T.pR T.R.length T.cR) T.R
  l : RdL5 w q (.slice T.pL T.L.length T.cL) T.L
  cr : T.R.length ≤ T.cR ∧ T.cR ≤ 9223372036854775807
  cl : T.L.length ≤ T.cL ∧ T.cL ≤ 9223372036854775807
set_option maxRecDepth 100000 in
theorem TgOk.keep {w w' : World} {q : Nat → Prop} {T : Tg} (h : TgOk w q T) (g : w.grownBy w' none) : TgOk w' q T := ⟨h.r.keep g, h.l.keep g, h.cr, h.cl⟩
set_option maxRecDepth 100000 in
theorem TgOk.grown {w w' : World} {q : Nat → Prop} {T : Tg} {r : Option Nat} (h : TgOk w q T) (g : w.grownBy w' r) (hq : ∀ b, q b → some b ≠ r) : TgOk w' q T := ⟨h.r.grown g hq, h.l.grown g hq, h.cr, h.cl⟩
set_option maxRecDepth 100000 in
theorem TgOk.mono {w : World} {q q' : Nat → Prop} {T : Tg} (h : TgOk w q T) (hq : ∀ b, q b → q' b) : TgOk w q' T := ⟨h.r.mono hq, h.l.mono hq, h.cr, h.cl⟩
end Go.Proofs.Ytnpkihioklpnmaa

/- topology: within, wrongID, wrongNumbers, the comparisons. -/
namespace Go.Proofs.Ytnpkihioklpnmaa
open Go.RowKit Bs
set_option maxRecDepth 100000 in
theorem twithin_any (n a b : Int) (w : World) :
    Calls Try.prog 128 #[.int .i64 n, .int .i64 a, .int .i64 b] w fun e w' => e = .returned (.bool (decide (a ≤ n ∧ n ≤ b))) ∧ w' = w := by
  go_enter Try.func128, Try.ntmps128
  by_cases h1 : a ≤ n
  · by_cases h2 : n ≤ b
    · go_wp2_with fail
      go_ret
      exact ⟨by simp; omega, rfl⟩
    · go_wp2_with fail
      go_ret
      exact ⟨by simp; omega, rfl⟩
  · go_wp2_with fail
    go_ret
    exact ⟨by simp; omega, rfl⟩
set_option maxRecDepth 100000 in
theorem lk_facts {w : World} {b : Nat} {l : Lk} (h : w.heap[b]? = some (.cells #[.int .i64 l.a, .int .i64 l.b, .int .i64 l.ca, .int .i64 l.cb, .int .i64 l.cp] 71 (0, 0))) :
    w.cell? ⟨b, 0, none⟩ = some (.int .i64 l.a) ∧ w.cell? ⟨b, 1, none⟩ = some (.int .i64 l.b) ∧ w.cell? ⟨b, 2, none⟩ = some (.int .i64 l.ca) ∧ w.cell? ⟨b, 3, none⟩ = some (.int .i64 l.cb) ∧ w.cell? ⟨b, 4, none⟩ = some (.int .i64 l.cp) :=
  ⟨cell_of_row _ _ _ _ _ _ h, cell_of_row _ _ _ _ _ _ h, cell_of_row _ _ _ _ _ _ h, cell_of_row _ _ _ _ _ _ h, cell_of_row _ _ _ _ _ _ h⟩
set_option maxRecDepth 100000 in
theorem rt_facts {w : World} {b : Nat} {r : Rt} (h : w.heap[b]? = some (.cells #[.int .i64 r.id, .bool r.cap] 69 (0, 0))) :
    w.cell? ⟨b, 0, none⟩ = some (.int .i64 r.id) ∧ w.cell? ⟨b, 1, none⟩ = some (.bool r.cap) :=
  ⟨cell_of_row _ _ _ _ _ _ h, cell_of_row _ _ _ _ _ _ h⟩
set_option maxRecDepth 100000 in
set_option maxHeartbeats 1600000 in
theorem twrid_any (r : Rt) (w : World) :
    Calls Try.prog 99 #[.agg #[.int .i64 r.id, .bool r.cap]] w fun e w' => e = .returned (.bool (wrId r)) ∧ w.grownBy w' none := by
  obtain ⟨k1, k2⟩ := tone_box w #[.int .i64 r.id, .bool r.cap] 69
  obtain ⟨c0, c1⟩ := rt_facts k1
  have K := Lib.hid k2
  clear k1 k2
  go_enter Try.func99, Try.ntmps99
  go_wp2_with fail
  generalize w.alloc _ = wa at *
  go_wp2_with (go_at_call 128; refine (twithin_any _ _ _ _).mono ?_; rintro e w' ⟨rfl, rfl⟩)
  go_ret
  exact ⟨by unfold wrId; simp, K.out⟩
set_option maxRecDepth 100000 in
set_option maxHeartbeats 1600000 in
theorem twrnum_any (l : Lk) (w : World) :
    Calls Try.prog 103 #[.agg #[.int .i64 l.a, .int .i64 l.b, .int .i64 l.ca, .int .i64 l.cb, .int .i64 l.cp]] w fun e w' => e = .returned (.bool (wrNum l)) ∧ w.grownBy w' none := by
  obtain ⟨k1, k2⟩ := tone_box w #[.int .i64 l.a, .int .i64 l.b, .int .i64 l.ca, .int .i64 l.cb, .int .i64 l.cp] 71
  obtain ⟨c0, c1, c2, c3, c4⟩ := lk_facts k1
  have K := Lib.hid k2
  clear k1 k2
  go_enter Try.func103, Try.ntmps103
  go_wp2_with fail
  generalize w.alloc _ = wa at *
  by_cases h1 : 1 ≤ l.ca ∧ l.ca ≤ 1000
  · have e1 : decide (1 ≤ l.ca ∧ l.ca ≤ 1000) = true := decide_eq_true h1
    by_cases h2 : 1 ≤ l.cb ∧ l.cb ≤ 1000
    · have e2 : decide (1 ≤ l.cb ∧ l.cb ≤ 1000) = true := decide_eq_true h2
      go_wp2_with (go_at_call 128; refine (twithin_any _ _ _ _).mono ?_; rintro e w' ⟨rfl, rfl⟩; try simp only [e1, e2])
      go_ret
      exact ⟨by unfold wrNum; simp [h1, h2], K.out⟩
    · have e2 : decide (1 ≤ l.cb ∧ l.cb ≤ 1000) = false := decide_eq_false h2
      go_wp2_with (go_at_call 128; refine (twithin_any _ _ _ _).mono ?_; rintro e w' ⟨rfl, rfl⟩; try simp only [e1, e2])
      go_ret
      exact ⟨by unfold wrNum; simp [h2], K.out⟩
  · have e1 : decide (1 ≤ l.ca ∧ l.ca ≤ 1000) = false := decide_eq_false h1
    go_wp2_with (go_at_call 128; refine (twithin_any _ _ _ _).mono ?_; rintro e w' ⟨rfl, rfl⟩; try simp only [e1])
    go_ret
    exact ⟨by unfold wrNum; simp [h1], K.out⟩
def cmpV (x y : Int) : Int := if x < y then -1 else if y < x then 1 else 0
set_option maxRecDepth 100000 in
theorem cmpV_lt {x y : Int} : (cmpV x y < 0) ↔ x < y := by unfold cmpV; split <;> (try split) <;> omega
set_option maxRecDepth 100000 in
theorem cmpV_ge {x y : Int} : (0 ≤ cmpV x y) ↔ y ≤ x := by unfold cmpV; split <;> (try split) <;> omega
set_option maxRecDepth 100000 in
theorem cmpV_eq {x y : Int} : (cmpV x y = 0) ↔ x = y := by unfold cmpV; split <;> (try split) <;> omega
set_option maxRecDepth 100000 in
set_option maxHeartbeats 1600000 in
theorem tcmp_any (x y : Int) (w : World) :
    Calls Try.prog 112 #[.int .i64 x, .int .i64 y] w fun e w' => e = .returned (.int .i64 (cmpV x y)) ∧ w' = w := by
  have N : ∀ (z : Int) (w : World), Calls Try.prog 130 #[.int .i64 z] w fun e w' => e = .returned (.bool false) ∧ w' = w := by
    intro z w
    go_enter Try.func130, Try.ntmps130
    go_wp2_with fail
    go_ret
    first | exact ⟨rfl, rfl⟩ | exact ⟨by simp, rfl⟩
  go_enter Try.func112, Try.ntmps112
  by_cases h1 : x < y
  · go_wp2_with (go_at_call 130; refine (N _ _).mono ?_; rintro e w' ⟨rfl, rfl⟩)
    go_ret
    exact ⟨by unfold cmpV; rw [if_pos (by omega)]; rfl, rfl⟩
  · by_cases h2 : y < x
    · go_wp2_with (go_at_call 130; refine (N _ _).mono ?_; rintro e w' ⟨rfl, rfl⟩)
      go_ret
      exact ⟨by unfold cmpV; rw [if_neg (by omega), if_pos (by omega)]; rfl, rfl⟩
    · go_wp2_with (go_at_call 130; refine (N _ _).mono ?_; rintro e w' ⟨rfl, rfl⟩)
      go_ret
      exact ⟨by unfold cmpV; rw [if_neg (by omega), if_neg (by omega)]; rfl, rfl⟩
set_option maxRecDepth 100000 in
set_option maxHeartbeats 1600000 in
theorem tcmpid_any (r s : Rt) (w : World) :
    Calls Try.prog 101 #[.agg #[.int .i64 r.id, .bool r.cap], .agg #[.int .i64 s.id, .bool s.cap]] w fun e w' => e = .returned (.int .i64 (cmpV r.id s.id)) ∧ w.grownBy w' none := by
  obtain ⟨k1, k2, k3, k4⟩ := two_boxes w #[.int .i64 r.id, .bool r.cap] #[.int .i64 s.id, .bool s.cap] 69 69
  obtain ⟨c0, c1⟩ := rt_facts k1
  obtain ⟨d0, d1⟩ := rt_facts k2
  have K := Lib.hid k3
  clear k1 k2 k3 k4
  go_enter Try.func101, Try.ntmps101
  go_wp2_with fail
  generalize (w.alloc _).alloc _ = wa at *
  go_wp2_with (go_at_call 112; refine (tcmp_any _ _ _).mono ?_; rintro e w' ⟨rfl, rfl⟩)
  go_ret
  exact ⟨rfl, K.out⟩
end Go.Proofs.Ytnpkihioklpnmaa

/- topology: lists that are searched by functions; what is ascending. -/
namespace Go.Proofs.Ytnpkihioklpnmaa
open Go.RowKit Bs
/-- The first number of a list that is not 0. -/
def orV : List Int → Int
  | [] => 0
  | x :: r => if x = 0 then orV r else x
set_option maxRecDepth 100000 in
theorem orV_take {r : List Int} {k : Nat} {y : Int} (h : orV (r.take k) = 0) (hy : r[k]? = some y) : orV (r.take (k + 1)) = y := by
  induction r generalizing k with
  | nil => simp at hy
  | cons x r ih =>
    cases k with
    | zero =>
      obtain rfl : x = y := by simpa using hy
      show (if x = 0 then orV (r.take 0) else x) = x
      split
      · rename_i e; rw [e]; rfl
      · rfl
    | succ k =>
      rw [List.take_succ_cons, orV] at h
      rw [List.take_succ_cons, orV]
      by_cases e : x = 0
      · rw [if_pos e] at h ⊢
        exact ih h (by simpa using hy)
      · rw [if_neg e] at h
        exact absurd h e
set_option maxRecDepth 100000 in
theorem orV_pre {r : List Int} {k : Nat} (h : orV (r.take k) ≠ 0) : orV r = orV (r.take k) := by
  induction r generalizing k with
  | nil => simp
  | cons x r ih =>
    cases k with
    | zero => exact absurd rfl h
    | succ k =>
      rw [List.take_succ_cons, orV] at h ⊢
      rw [orV]
      by_cases e : x = 0
      · rw [if_pos e] at h ⊢
        rw [if_pos e]
        exact ih h
      · rw [if_neg e]
        rw [if_neg e]
set_option maxRecDepth 100000 in
theorem rdi_at {w : World} {q : Nat → Prop} {p : Option Addr} {n c : Nat} {r : List Int} (h : Rd w q (.slice p n c) (r.map (fun z => Value.int .i64 z))) (hn : 0 < r.length) :
    n = r.length ∧ ∃ b off, p = some ⟨b, off, none⟩ ∧ q b ∧ ∀ i x, r[i]? = some x → w.cell? ⟨b, off + i, none⟩ = some (.int .i64 x) := by
  obtain ⟨p1, c1, e1, hx⟩ := h
  injection e1 with a1 a2 a3
  subst a1
  obtain ⟨b, off, hp, hq, hc⟩ := hx (by intro e; have := congrArg List.length e; simp only [List.length_map, List.length_nil] at this; omega)
  refine ⟨by rw [a2, List.length_map], b, off, hp, hq, fun i x hi => hc i _ ?_⟩
  rw [List.getElem?_map, hi]; rfl
set_option maxRecDepth 100000 in
set_option maxHeartbeats 1600000 in
theorem tor_any (r : List Int) (p : Option Addr) (c : Nat) (q : Nat → Prop) (w : World) (hR : Rd w q (.slice p r.length c) (r.map (fun z => Value.int .i64 z))) (hm : r.length ≤ 9223372036854775807) :
    Calls Try.prog 111 #[.slice p r.length c] w fun e w' => e = .returned (.int .i64 (orV r)) ∧ w' = w := by
  have HR := Lib.hid hR
  clear hR
  go_enter Try.func111, Try.ntmps111
  go_wp2_with fail
  go_loopw [8] (fun a wr => ∃ k : Nat, k ≤ r.length ∧ a = .int .i64 (k : Int) ∧ wr = w ∧ Hid (orV (r.take k) = 0)) (fun a _ => r.length - (RowKit.intOf a).toNat)
  case atStart => exact ⟨0, Nat.zero_le _, rfl, rfl, Lib.hid rfl⟩
  case round =>
    obtain ⟨k, hk, rfl, rfl, H0⟩ := hrel
    by_cases hlt : k < r.length
    · obtain ⟨-, b, off, rfl, hq, hc⟩ := rdi_at HR.out (by omega)
      obtain ⟨y, hy⟩ : ∃ y, r[k]? = some y := ⟨_, List.getElem?_eq_getElem hlt⟩
      have c0 := hc k y hy
      have HY := Lib.hid hy
      clear hc hy
      by_cases e : y = 0
      · have HE := Lib.hid e
        subst e
        go_wp2_with fail
        exact ⟨⟨k + 1, by omega, congrArg _ (by omega), trivial, Lib.hid (orV_take H0.out HY.out)⟩, by simp only [RowKit.intOf]; omega⟩
      · have e' : (y != 0) = true := by simpa using e
        go_wp2_with fail
        go_ret
        refine ⟨?_, rfl⟩
        have h1 := orV_take H0.out HY.out
        have h2 := orV_pre (r := r) (k := k + 1) (by rw [h1]; exact e)
        rw [h2, h1]; rfl
    · obtain rfl : k = r.length := by omega
      go_wp2_with fail
      go_ret
      have := H0.out
      rw [List.take_length] at this
      rw [this]
      exact ⟨rfl, rfl⟩
def cmpL (l m : Lk) : Int := orV [cmpV l.a m.a, cmpV l.b m.b]
set_option maxRecDepth 100000 in
theorem cmpL_ge {l m : Lk} : (0 ≤ cmpL l m) ↔ ltL l m = false := by
  unfold cmpL ltL orV orV orV cmpV
  rw [decide_eq_false_iff_not]
  repeat' split
  all_goals omega
set_option maxRecDepth 100000 in
theorem keep4 {w5 w' : World} {b g : Nat} {l m : Lk} (h : w5.heap[b]? = some (.cells #[.int .i64 l.a, .int .i64 l.b, .int .i64 l.ca, .int .i64 l.cb, .int .i64 l.cp] 71 (0, 0)) ∧ w5.heap[g]? = some (.cells #[.int .i64 m.a, .int .i64 m.b, .int .i64 m.ca, .int .i64 m.cb, .int .i64 m.cp] 71 (0, 0))) (hg : Hid (w5.grownBy w' none)) :
    w'.cell? ⟨b, 0, none⟩ = some (.int .i64 l.a) ∧ w'.cell? ⟨b, 1, none⟩ = some (.int .i64 l.b) ∧ w'.cell? ⟨g, 0, none⟩ = some (.int .i64 m.a) ∧ w'.cell? ⟨g, 1, none⟩ = some (.int .i64 m.b) ∧ Hid (w5.grownBy w' none) := by
  obtain ⟨a0, a1, -, -, -⟩ := lk_facts (kept_row h.1 hg.out (by simp))
  obtain ⟨b0, b1, -, -, -⟩ := lk_facts (kept_row h.2 hg.out (by simp))
  exact ⟨a0, a1, b0, b1, hg⟩
set_option maxRecDepth 100000 in
theorem rd_pair (w : World) (x y : Int) (q : Nat → Prop) (hq : q w.heap.size) : Rd (w.alloc (.cells #[.int .i64 x, .int .i64 y] 3)) q (.slice (some ⟨w.heap.size, 0, none⟩) 2 2) ([x, y].map (fun z => Value.int .i64 z)) := by
  have hb : (w.alloc (.cells #[.int .i64 x, .int .i64 y] 3)).heap[w.heap.size]? = some (.cells #[.int .i64 x, .int .i64 y] 3 (0, 0)) := heap_alloc_new w _
  refine ⟨_, 2, rfl, fun _ => ⟨_, _, rfl, hq, fun i u hi => ?_⟩⟩
  rw [Nat.zero_add, cell_of_row _ _ _ _ _ _ hb]
  simpa using hi
set_option maxRecDepth 100000 in
set_option maxHeartbeats 3200000 in
theorem tcmpl_any (l m : Lk) (w : World) :
    Calls Try.prog 107 #[.agg #[.int .i64 l.a, .int .i64 l.b, .int .i64 l.ca, .int .i64 l.cb, .int .i64 l.cp], .agg #[.int .i64 m.a, .int .i64 m.b, .int .i64 m.ca, .int .i64 m.cb, .int .i64 m.cp]] w fun e w' => e = .returned (.int .i64 (cmpL l m)) ∧ w.grownBy w' none := by
  obtain ⟨k1, k2, k3, k4⟩ := two_boxes w #[.int .i64 l.a, .int .i64 l.b, .int .i64 l.ca, .int .i64 l.cb, .int .i64 l.cp] #[.int .i64 m.a, .int .i64 m.b, .int .i64 m.ca, .int .i64 m.cb, .int .i64 m.cp] 71 71
  have HB := Lib.hid (And.intro k1 k2)
  have K := Lib.hid k3
  clear k1 k2 k3 k4
  go_enter Try.func107, Try.ntmps107
  go_upto_region 1 with fail
  generalize (w.alloc _).alloc _ = wa at *
  have GZ : Hid (wa.grownBy wa none) := Lib.hid (grown_refl _ _)
  obtain ⟨a0, a1, b0, b1, -⟩ := keep4 HB.out GZ
  go_region_held3 (fun w' => w'.cell? ⟨w.heap.size, 0, none⟩ = some (.int .i64 l.a) ∧ w'.cell? ⟨w.heap.size, 1, none⟩ = some (.int .i64 l.b) ∧ w'.cell? ⟨w.heap.size + 1, 0, none⟩ = some (.int .i64 m.a) ∧ w'.cell? ⟨w.heap.size + 1, 1, none⟩ = some (.int .i64 m.b) ∧ Hid (wa.grownBy w' none))
    (first | with_reducible exact keep4 HB.out (hid_drew GZ) | with_reducible exact keep4 HB.out (hid_drew (hid_more GZ (World.grownBy_alloc _ _ _))) | (go_split_ands; with_reducible refine keep4 HB.out ?_; with_reducible assumption) | (go_split_ands; with_reducible refine keep4 HB.out (hid_more ?_ (World.grownBy_alloc _ _ _)); with_reducible assumption))
    (first
      | (go_at_call 112; refine (tcmp_any _ _ _).mono ?_; rintro e w' ⟨rfl, rfl⟩)
      | (go_at_call 111; refine (tor_any [cmpV l.a m.a, cmpV l.b m.b] _ _ (fun _ => True) _ ?_ (by simp)).mono ?_; exact (rd_pair _ _ _ _ trivial).keep (grown_drew (grown_refl _ _)); rintro e w' ⟨rfl, rfl⟩))
  all_goals
    go_split_ands
    go_wp2_with fail
    go_ret
    exact ⟨rfl, grown_trans K.out (Hid.out (by assumption))⟩
end Go.Proofs.Ytnpkihioklpnmaa
