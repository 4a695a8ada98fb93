/- Streams as values; the reference's Put. -/
import Derived.Test.YtnfgkakhdgiepaaDoorIoRef
import Derived.Laws.AppendOwnNone
import Derived.Laws.CopyOwn
import Derived.Laws.ResultCell
import Derived.Deep.Onto
import Derived.Deep.AppendLies
import Derived.Deep.RegionHeld3
namespace Go.Proofs.YtnfgkakhdgiepaaDoor
open Go.RowKit Bs
/-- v is a stream of n bits with the bytes l. -/
def SR (w : World) (q : Nat → Prop) (v : Value) (l : List Nat) (n : Int) : Prop := ∃ p c, v = .agg #[.slice p l.length c, .int .i64 n] ∧ Rd w q (.slice p l.length c) (l.map nv) ∧ (p = none → c = 0) ∧ By l
/-- A stream whose bytes lie in a row of the call's own. -/
structure Own (w : World) (base : Nat) (p : Option Addr) (c : Nat) (l : List Nat) : Prop where
  own : w.ownsRow base 5 1 (.slice p l.length c) l.length (l.map nv)
  pc : p = none → c = 0
  by_ : By l
def StreamPost (l : List Nat) (n : Int) (w : World) (e : Ending) (w' : World) : Prop := ∃ p c, e = .returned (.agg #[.slice p l.length c, .int .i64 n]) ∧ Own w' w.heap.size p c l ∧ w.grownBy w' none
def StreamErr (l : List Nat) (n err : Int) (w : World) (e : Ending) (w' : World) : Prop := ∃ v, e = .returned (.tuple #[v, .int .i64 err]) ∧ SR w' (w.heap.size ≤ ·) v l n ∧ w.grownBy w' none
set_option maxRecDepth 100000 in
theorem add_plain (b off j : Nat) : (⟨b, off, none⟩ : Addr).add j = ⟨b, off + j, none⟩ := by unfold Addr.add; split <;> simp_all
set_option maxRecDepth 100000 in
theorem nv_one {l : List Nat} : ∀ u ∈ l.map nv, u.oneCell' = true := by
  intro u hu
  obtain ⟨x, _, rfl⟩ := List.mem_map.1 hu
  rfl
set_option maxRecDepth 100000 in
theorem Rd.news {w : World} {q : Nat → Prop} {ad : Addr} {n c : Nat} {r : List Nat} (hR : Rd w q (.slice (some ad) n c) (r.map nv)) : ∀ j u, (r.map nv)[j]? = some u → w.cell? (ad.add j) = some u := by
  obtain ⟨p1, c1, e1, hx⟩ := hR
  injection e1 with a1 a2 a3
  subst a1
  intro j u hj
  obtain ⟨b, off, hp, hq, hc⟩ := hx (by intro e; rw [e] at hj; simp at hj)
  obtain rfl := Option.some.inj hp
  rw [add_plain]; exact hc j u hj
set_option maxRecDepth 100000 in
/-- append of a slice that is read, onto a row of the call's own. -/
theorem wpList_append_rd {w : World} {ops : Array Oper} {rest : List Oper} {o : Oper} {a : Act} {Q : Exit → Act → World → Prop} (hgd : o.guard = none) (s x : Operand)
    (ho : o.op = .call { callee := .builtin .append, args := #[s, x], argTypes := #[34, 34] }) (base : Nat) (v : Value) (n : Nat) (l : List Nat) (hs : a.eval s = v) (hown : w.ownsRow base 5 1 v n (l.map nv))
    (p : Option Addr) (k c : Nat) (r : List Nat) (hx : a.eval x = .slice p k c) (hk : k = r.length) (q : Nat → Prop) (hR : Rd w q (.slice p k c) (r.map nv)) (hpc : p = none → c = 0) (h63 : n + r.length ≤ 100000) (hbase : base ≤ w.heap.size)
    (h : ∀ v' w', w'.ownsRow base 5 1 v' (n + r.length) ((l ++ r).map nv) → w.grownBy w' v.ownBlock → wpList Tryd.prog ops Q rest (a.put o.dst v') w') : wpList Tryd.prog ops Q (o :: rest) a w := by
  obtain ⟨i0, hi, hz0, hz1, hz2⟩ := info_parts info_u8
  subst hk
  cases p with
  | none =>
    obtain rfl := hpc rfl
    have hr : r = [] := by
      obtain ⟨p1, c1, e1, hx⟩ := hR
      injection e1 with a1 a2 a3
      subst a1
      cases r with
      | nil => rfl
      | cons y r => obtain ⟨b, off, hp, _⟩ := hx (by simp); cases hp
    subst hr
    refine wpList_append_own_none hgd s x 34 ho base 5 i0 1 Tryd.underlying34 hi v n (l.map nv) hs hown hx ?_
    refine h v w ?_ (grown_refl _ _)
    rw [List.append_nil]; exact hown
  | some ad =>
    refine wpList_append_own w hgd s x 34 ho base 5 i0 (.int .u8 0) 1 1 Tryd.underlying34 hi hz0 hz1 hz2 rfl (by decide) v n (l.map nv) hs hown ad r.length c (r.map nv) hx (by simp) hR.news nv_one (by unfold maxLen; omega) (by omega) hbase ?_
    intro v' w' h1 h2 _
    refine h v' w' ?_ h2
    rw [List.map_append]; exact h1
set_option maxRecDepth 100000 in
theorem grown_drew {w w' : World} {r : Option Nat} (h : w.grownBy w' r) : w.grownBy w'.drew r := ⟨h.os, h.tape, h.output, h.size, h.block⟩
set_option maxRecDepth 100000 in
/-- Two blocks laid one behind the other. -/
theorem two_boxes (w : World) (A Z : Array Value) (t u : TypeId) :
    ((w.alloc (.cells A t)).alloc (.cells Z u)).heap[w.heap.size]? = some (.cells A t (0, 0)) ∧ ((w.alloc (.cells A t)).alloc (.cells Z u)).heap[w.heap.size + 1]? = some (.cells Z u (0, 0)) ∧
      w.grownBy ((w.alloc (.cells A t)).alloc (.cells Z u)) none ∧ ((w.alloc (.cells A t)).alloc (.cells Z u)).heap.size = w.heap.size + 2 := by
  have e1 : (w.alloc (.cells A t)).heap.size = w.heap.size + 1 := by simp
  refine ⟨?_, ?_, grown_trans (World.grownBy_alloc w _ _) (World.grownBy_alloc _ _ _), by simp⟩
  · rw [Below.heap_alloc _ _ _ (by omega)]; exact heap_alloc_new w _
  · rw [← e1]; exact heap_alloc_new _ _
set_option maxRecDepth 100000 in
theorem row_cells {w : World} {b : Nat} {x y : Value} {t : TypeId} (h : w.heap[b]? = some (.cells #[x, y] t (0, 0))) : w.cell? ⟨b, 0, none⟩ = some x ∧ w.cell? ⟨b, 1, none⟩ = some y := by
  refine ⟨?_, ?_⟩
  · rw [cell_of_row _ _ _ _ _ _ h]; rfl
  · rw [cell_of_row _ _ _ _ _ _ h]; rfl
set_option maxRecDepth 100000 in
theorem kept_row {w w' : World} {b : Nat} {o : Obj} {r : Option Nat} (h : w.heap[b]? = some o) (g : w.grownBy w' r) (hr : some b ≠ r) : w'.heap[b]? = some o :=
  (g.block b (Array.getElem?_eq_some_iff.1 h).1 hr).trans h
set_option maxRecDepth 100000 in
theorem rd_new (w : World) (cs : Array Value) (t : TypeId) (c : Nat) : Rd (w.alloc (.cells cs t)) (· = w.heap.size) (.slice (some ⟨w.heap.size, 0, none⟩) cs.toList.length c) cs.toList := by
  have hb : (w.alloc (.cells cs t)).heap[w.heap.size]? = some (.cells cs t (0, 0)) := heap_alloc_new w _
  refine ⟨_, c, rfl, fun _ => ⟨w.heap.size, 0, rfl, rfl, fun i x hi => ?_⟩⟩
  rw [Nat.zero_add, cell_of_row _ _ _ _ _ _ hb]
  simpa using hi
/-- What stands behind the copy: the boxes, the row of the call's own. -/
structure PutAt (w : World) (m : Nat) (v0 : Value) (v : Value) (L : List Nat) (wr : World) : Prop where
  b0 : wr.heap[w.heap.size]? = some (.cells #[v0, .int .i64 (m : Int)] 91 (0, 0))
  b1 : wr.heap[w.heap.size + 1]? = some (.cells #[.slice none 0 0, .int .i64 0] 91 (0, 0))
  own : wr.ownsRow (w.heap.size + 2) 5 1 v L.length (L.map nv)
  gr : w.grownBy wr none
  sz : w.heap.size + 2 ≤ wr.heap.size
set_option maxRecDepth 100000 in
theorem own_ne {w : World} {base k n : Nat} {e : TypeId} {v : Value} {xs : List Value} (h : w.ownsRow base e 1 v n xs) (hk : k < base) : some k ≠ v.ownBlock := by
  intro e2
  have := (h.lt k e2.symm).1
  omega
set_option maxRecDepth 100000 in
theorem grown_own {w wr w1 : World} {base n : Nat} {e : TypeId} {v : Value} {xs : List Value} (hg : w.grownBy wr none) (h : wr.ownsRow base e 1 v n xs) (hb : w.heap.size ≤ base) (k : wr.grownBy w1 v.ownBlock) : w.grownBy w1 none :=
  ⟨k.os.trans hg.os, k.tape.trans hg.tape, k.output.trans hg.output, Nat.le_trans hg.size k.size, fun b hb2 _ => (k.block b (Nat.lt_of_lt_of_le hb2 hg.size) (own_ne h (by omega))).trans (hg.block b hb2 (by simp))⟩
set_option maxRecDepth 100000 in
theorem PutAt.next {w wr w1 : World} {m : Nat} {v0 v v' : Value} {L L' : List Nat} {n : Nat} (h : PutAt w m v0 v L wr) (k : wr.grownBy w1 v.ownBlock) (hn : n = L'.length) (hown : w1.ownsRow (w.heap.size + 2) 5 1 v' n (L'.map nv)) : PutAt w m v0 v' L' w1 := by
  subst hn
  exact ⟨kept_row h.b0 k (own_ne h.own (by omega)), kept_row h.b1 k (own_ne h.own (by omega)), hown, grown_own h.gr h.own (by omega) k, Nat.le_trans h.sz k.size⟩
set_option maxRecDepth 100000 in
theorem pz_snoc (f : Nat → Bool) {m N : Nat} (h8 : m % 8 = 0) (hN : N = (m + 7) / 8) : pz f m N ++ [0] = pz f m (m / 8 + 1) := by
  obtain rfl : N = m / 8 := by omega
  unfold pz
  rw [List.range_succ, List.map_append, List.map_singleton, py_zero f (by omega)]
set_option maxRecDepth 100000 in
theorem pz_up (f : Nat → Bool) {m N : Nat} (hf : f m = false) : pz f m N = pz f (m + 1) N := by
  apply pz_congr
  intro i _
  by_cases e : i = m
  · subst e; rw [hf]; simp
  · rw [show decide (i < m) = decide (i < m + 1) by rw [decide_eq_decide]; omega]
set_option maxRecDepth 100000 in
theorem own_form {w : World} {base n : Nat} {e : TypeId} {v : Value} {xs : List Value} (h : w.ownsRow base e 1 v n xs) (hn : 0 < n) : ∃ g cap, v = .slice (some ⟨g, 0, none⟩) n cap ∧ base ≤ g := by
  rcases h.2 with ⟨_, h0⟩ | ⟨g, cap, cur, rfl, hb, _⟩
  · omega
  · exact ⟨g, cap, rfl, hb⟩
set_option maxRecDepth 100000 in
theorem or_bit {f : Nat → Bool} {m x s : Nat} (hf : f m = true) (hx : py f m (m / 8) = x) (hs : 7 - m % 8 = s) : bits .or .u8 (x : Int) (2 ^ s % 256) = ((py f (m + 1) (m / 8) : Nat) : Int) := by
  have h1 := py_lt f m (m / 8)
  have e := py_or f m 1 (by omega)
  rw [hx, show num f m 1 = 1 by simp [num, hf], Nat.one_mul, show 8 - m % 8 - 1 = s by omega] at e
  have h2 : 2 ^ s < 256 := Nat.pow_lt_pow_right (n := 8) (by decide) (by omega)
  rw [powI, ← e]
  generalize 2 ^ s = y at *
  rw [show ((y : Int) % 256) = (y : Int) by omega, u8_or_nat x _ (by omega) h2]
set_option maxRecDepth 100000 in
theorem PutAt.stored {w wr : World} {m : Nat} {v0 : Value} {L L' : List Nat} {g n cap j x : Nat} (h : PutAt w m v0 (.slice (some ⟨g, 0, none⟩) n cap) L wr) (hn : n = L.length) (hg : w.heap.size + 2 ≤ g) (hL : L' = L.set j x) :
    PutAt w m v0 (.slice (some ⟨g, 0, none⟩) n cap) L' (wr.setCell ⟨g, j, none⟩ (nv x)).drew := by
  subst hL
  subst hn
  obtain ⟨k1, k2⟩ := h.own.stored j (nv x)
  have k3 := h.next k2 (L' := L.set j x) (v' := .slice (some ⟨g, 0, none⟩) L.length cap) (by rw [List.length_set]) (by rw [List.map_set]; exact k1)
  exact ⟨k3.b0, k3.b1, k3.own, grown_drew k3.gr, k3.sz⟩
set_option maxRecDepth 100000 in
theorem store2 {w : World} {b : Nat} {x y u z : Value} {t : TypeId} (h : w.heap[b]? = some (.cells #[x, y] t (0, 0))) : ((w.setCell ⟨b, 0, none⟩ u).setCell ⟨b, 1, none⟩ z).heap[b]? = some (.cells #[u, z] t (0, 0)) := by
  have e1 := heap_setCell_same w b 0 _ _ u h
  have e2 := heap_setCell_same _ b 1 _ _ z e1
  rw [e2]; rfl
set_option maxRecDepth 100000 in
theorem grown_store2 (w : World) (b : Nat) (u z : Value) : w.grownBy ((w.setCell ⟨b, 0, none⟩ u).setCell ⟨b, 1, none⟩ z) (some b) := grown_trans (grown_setCell w ⟨b, 0, none⟩ u) (grown_setCell _ ⟨b, 1, none⟩ z)
set_option maxRecDepth 100000 in
/-- What lies behind the call's start may turn. -/
theorem grown_new {w w1 w2 : World} {b : Nat} (h : w.grownBy w1 none) (k : w1.grownBy w2 (some b)) (hb : w.heap.size ≤ b) : w.grownBy w2 none :=
  ⟨k.os.trans h.os, k.tape.trans h.tape, k.output.trans h.output, Nat.le_trans h.size k.size, fun i hi _ => (k.block i (Nat.lt_of_lt_of_le hi h.size) (by intro e; have := Option.some.inj e; omega)).trans (h.block i hi (by simp))⟩
set_option maxRecDepth 100000 in
theorem own_sr {w : World} {base : Nat} {v : Value} {l : List Nat} {n : Int} (h : w.ownsRow base 5 1 v l.length (l.map nv)) (hl : By l) (q : Nat → Prop) (hq : ∀ b, base ≤ b → q b) : SR w q (.agg #[v, .int .i64 n]) l n := by
  have hR := (rd_of_own h).mono hq
  rcases h.2 with ⟨rfl, h0⟩ | ⟨g, cap, cur, rfl, _⟩
  · obtain rfl : l = [] := List.eq_nil_of_length_eq_zero h0
    exact ⟨none, 0, rfl, hR, fun _ => rfl, hl⟩
  · exact ⟨some ⟨g, 0, none⟩, cap, rfl, hR, (by intro e; cases e), hl⟩
set_option maxRecDepth 100000 in
theorem own_parts {w : World} {base n : Nat} {e : TypeId} {v : Value} {xs : List Value} (h : w.ownsRow base e 1 v n xs) : ∃ p c, v = .slice p n c ∧ (p = none → c = 0) := by
  rcases h.2 with ⟨rfl, h0⟩ | ⟨g, cap, cur, rfl, _⟩
  · subst h0; exact ⟨none, 0, rfl, fun _ => rfl⟩
  · exact ⟨some ⟨g, 0, none⟩, cap, rfl, (by intro e; cases e)⟩
set_option maxRecDepth 100000 in
theorem Own.rd {w : World} {base : Nat} {p : Option Addr} {c : Nat} {l : List Nat} (h : Own w base p c l) : Rd w (base ≤ ·) (.slice p l.length c) (l.map nv) := rd_of_own h.own
set_option maxRecDepth 100000 in
theorem Own.keep {w w' : World} {base : Nat} {p : Option Addr} {c : Nat} {l : List Nat} (h : Own w base p c l) (g : w.grownBy w' none) : Own w' base p c l := ⟨h.own.kept g (by cases hv : (Value.slice p l.length c).ownBlock <;> simp), h.pc, h.by_⟩
set_option maxRecDepth 100000 in
theorem Own.other {w w' : World} {base b : Nat} {p : Option Addr} {c : Nat} {l : List Nat} (h : Own w base p c l) (g : w.grownBy w' (some b)) (hb : b < base) : Own w' base p c l :=
  ⟨h.own.kept g (.inr (fun e => by have := h.own.lt _ e; omega)), h.pc, h.by_⟩
set_option maxRecDepth 100000 in
theorem Own.mono {w : World} {base base' : Nat} {p : Option Addr} {c : Nat} {l : List Nat} (h : Own w base p c l) (hb : base' ≤ base) : Own w base' p c l := ⟨h.own.mono hb, h.pc, h.by_⟩
set_option maxRecDepth 100000 in
theorem Own.sr {w : World} {base : Nat} {p : Option Addr} {c : Nat} {l : List Nat} (h : Own w base p c l) (n : Int) (q : Nat → Prop) (hq : ∀ b, base ≤ b → q b) : SR w q (.agg #[.slice p l.length c, .int .i64 n]) l n := ⟨p, c, rfl, h.rd.mono hq, h.pc, h.by_⟩
set_option maxRecDepth 100000 in
theorem PutAt.ends {w wr : World} {m : Nat} {v0 v : Value} {L : List Nat} {n : Int} (h : PutAt w m v0 v L wr) (hl : By L) :
    StreamPost L n w (.returned (.agg #[v, .int .i64 n])) ((wr.setCell ⟨w.heap.size + 1, 0, none⟩ v).setCell ⟨w.heap.size + 1, 1, none⟩ (.int .i64 n)) := by
  have g := grown_store2 wr (w.heap.size + 1) v (.int .i64 n)
  have hown := h.own.kept g (.inr (by
    intro e
    have := h.own.lt _ e
    omega))
  have hgr := grown_new h.gr g (Nat.le_succ _)
  rcases own_parts h.own with ⟨p, c, rfl, hpc⟩
  exact ⟨p, c, rfl, ⟨hown.mono (by omega), hpc, hl⟩, hgr⟩
set_option maxRecDepth 100000 in
theorem stream_size : (Tryd.prog.info? 91).map (·.size) = some 2 := by kernel_rfl
set_option maxRecDepth 100000 in
theorem PutAt.fin {w wr : World} {m N : Nat} {v0 v : Value} {f : Nat → Bool} (h : PutAt w m v0 v (pz f (m + 1) N) wr) (hN : N = (m + 8) / 8) :
    StreamPost (pz f (m + 1) ((m + 8) / 8)) ((m + 1 : Nat) : Int) w (.returned (.agg #[v, .int .i64 ((m : Int) + 1)])) ((wr.setCell ⟨w.heap.size + 1, 0, none⟩ v).setCell ⟨w.heap.size + 1, 1, none⟩ (.int .i64 ((m : Int) + 1))) := by
  subst hN
  exact h.ends (pz_lt _ _ _)
set_option maxRecDepth 100000 in
/-- A struct comes back out of its block. -/
theorem res_stream {fn : Func} {p : Tmp} (h : fn.results = #[.cell p 91]) (tmps : Array Value) (w : World) (g : Nat) (x y : Value) (hp : tmps.getD p undef = .pointer (some ⟨g, 0, none⟩)) (hg : w.heap[g]? = some (.cells #[x, y] 91 (0, 0))) :
    (results fn tmps).run Tryd.prog w = .ok (.agg #[x, y]) w := by
  exact results_cell_row h tmps w g _ _ _ _ hp hg Tryd.underlying91 rfl stream_size
set_option maxRecDepth 100000 in
theorem res_stream_err {fn : Func} {p u : Tmp} (h : fn.results = #[.cell p 91, .tmp u]) (tmps : Array Value) (w : World) (g : Nat) (x y : Value) (hp : tmps.getD p undef = .pointer (some ⟨g, 0, none⟩)) (hg : w.heap[g]? = some (.cells #[x, y] 91 (0, 0))) :
    (results fn tmps).run Tryd.prog w = .ok (.tuple #[.agg #[x, y], tmps.getD u undef]) w := by
  have hp' : tmps[p]?.getD undef = .pointer (some ⟨g, 0, none⟩) := by simpa using hp
  rw [results_cell_tmp h]
  simp [hp', asAddr, run_loadVar_row w g _ _ _ _ _ hg Tryd.underlying91 rfl stream_size, Result.andThen]
set_option maxRecDepth 100000 in
set_option maxHeartbeats 1600000 in
theorem put_any (f : Nat → Bool) (m : Nat) (l : List Nat) (q : Nat → Prop) (p : Option Addr) (c : Nat) (hm : m ≤ 9000) (hl : l = pz f m ((m + 7) / 8)) (hpc : p = none → c = 0) (w : World) (hR : Rd w q (.slice p l.length c) (l.map nv)) :
    Calls Tryd.prog 117 #[.agg #[.slice p l.length c, .int .i64 (m : Int)], bw (f m)] w fun e w' => StreamPost (pz f (m + 1) ((m + 8) / 8)) ((m + 1 : Nat) : Int) w e w' := by
  have hll : l.length = (m + 7) / 8 := by rw [hl, pz_len]
  have HL := Lib.hid hl
  have HLL := Lib.hid hll
  have hl2 : l.length ≤ 2000 := by omega
  clear hl hll
  obtain ⟨i0, hi, hz0, hz1, hz2⟩ := info_parts info_u8
  obtain ⟨k1, k2, k3, k4⟩ := two_boxes w #[.slice p l.length c, .int .i64 (m : Int)] #[.slice none 0 0, .int .i64 0] 91 91
  have K := Lib.hid (And.intro k1 (And.intro k2 (And.intro k3 k4)))
  have hR2 := hR.keep k3
  clear hR k1 k2 k3 k4
  go_enter Tryd.func117, Tryd.ntmps117
  go_wp2_with (at_builtin; refine wpList_append_rd rfl _ _ rfl (w.heap.size + 2) _ 0 [] rfl (World.ownsRow_nil _ _ _ _) p l.length c l rfl rfl q hR2 hpc ?c1 ?c2 ?_)
  case c1 => omega
  case c2 => rw [K.out.2.2.2]; exact Nat.le_refl _
  intro v1 w1 hown1 hg1
  have P0 : PutAt w m (.slice p l.length c) v1 l w1 := by
    obtain ⟨k1, k2, k3, k4⟩ := K.out
    exact ⟨kept_row k1 hg1 (by exact nofun), kept_row k2 hg1 (by exact nofun), hown1, grown_trans k3 hg1, by rw [← k4]; exact hg1.size⟩
  clear hown1 hg1 hR2 K
  by_cases h8 : m % 8 = 0
  · have z8 : (m : Int) % 8 = 0 := by omega
    obtain ⟨c0, c1⟩ := row_cells P0.b0
    have H0 := Lib.hid P0
    have hown := P0.own
    have hbs : w.heap.size + 2 ≤ (w1.alloc (.cells #[nv 0] 5)).heap.size := by have := P0.sz; simp; omega
    clear P0
    go_wp2_with (at_builtin; refine wpList_append_rd rfl _ _ rfl (w.heap.size + 2) v1 l.length l rfl (hown.alloc _) (some ⟨w1.heap.size, 0, none⟩) 1 1 [0] rfl rfl _ (rd_new w1 #[nv 0] 5 1) (by exact nofun) ?c3 ?c4 ?_)
    case c3 => simp; omega
    case c4 => exact hbs
    intro v2 w2 hown2 hg2
    have P1 : PutAt w m (.slice p l.length c) v2 (pz f m (m / 8 + 1)) w2 := by
      refine PutAt.next ⟨(H0.out).b0, H0.out.b1, H0.out.own, H0.out.gr, H0.out.sz⟩ (grown_trans (World.grownBy_alloc w1 _ _) hg2) (n := l.length + 1) ?_ ?_
      · rw [pz_len]; have := HLL.out; omega
      · rw [← pz_snoc f h8 (N := l.length) (by have := HLL.out; omega)]
        have := HL.out
        rw [show pz f m l.length = l by rw [HLL.out]; exact this.symm]
        rw [List.map_append]; exact hown2
    clear hown2 hg2 hown H0 c0 c1
    obtain ⟨c0, c1⟩ := row_cells P1.b0
    by_cases hf : f m = true
    · skip
      obtain ⟨g, cap, rfl, hgb⟩ := own_form P1.own (by rw [pz_len]; omega)
      rw [pz_len]
      have hcell : w2.cell? ⟨g, m / 8, none⟩ = some (.int .u8 ((py f m (m / 8) : Nat) : Int)) := by
        rw [P1.own.cellAt (m / 8) (by rw [pz_len]; omega), List.getElem?_map, pz_at _ _ _ _ (by omega)]; rfl
      have hfz := P1.own.frozenAt (m / 8)
      have hx8 := py_lt f m (m / 8)
      obtain ⟨s, hs⟩ : ∃ s : Nat, 7 - m % 8 = s := ⟨_, rfl⟩
      have hs8 : s ≤ 7 := by omega
      have hsub : 7 - (m : Int) % 8 = (s : Int) := by omega
      obtain rfl : s = 7 := by omega
      have O0 := or_bit hf rfl hs
      rw [show ((2 : Int) ^ 7 % 256) = 128 from rfl] at O0
      have O := Lib.hid O0
      clear O0
      have P2 := P1.stored (x := py f (m + 1) (m / 8)) (j := m / 8) rfl hgb (pz_set f m 1 (m / 8 + 1) (by omega) (by omega)).symm
      rw [pz_len] at P2
      have H2 := Lib.hid P2
      clear P1 P2 hs
      generalize py f m (m / 8) = x at *
      generalize py f (m + 1) (m / 8) = y at *
      rw [bw_true hf]
      go_wp2_with fail
      go_region
      rw [O.out]
      have HB1 := H2.out.b1
      obtain ⟨d0, d1⟩ := row_cells H2.out.b0
      obtain ⟨e0, e1⟩ := row_cells HB1
      have f0 := frozen_of_row _ _ 0 _ _ HB1
      have f1 := frozen_of_row _ _ 1 _ _ HB1
      have HB := Lib.hid HB1
      clear HB1 c0 c1
      change Exit.then _ _ _ _ ((w2.setCell _ (nv y)).drew)
      generalize (w2.setCell ⟨g, m / 8, none⟩ (nv y)).drew = w3 at *
      go_wp2_with fail
      refine bodyPost_ret (res_stream rfl _ _ (w.heap.size + 1) _ _ rfl (store2 HB.out)) rfl ?_
      exact H2.out.fin (by omega)
    · skip
      have hf0 : f m = false := by simpa using hf
      obtain ⟨g, cap, rfl, hgb⟩ := own_form P1.own (by rw [pz_len]; omega)
      rw [pz_len] at P1 ⊢
      have P2 : PutAt w m (.slice p l.length c) (.slice (some ⟨g, 0, none⟩) (m / 8 + 1) cap) (pz f (m + 1) (m / 8 + 1)) w2 := by rw [← pz_up f hf0]; exact P1
      have H2 := Lib.hid P2
      have HB1 := H2.out.b1
      obtain ⟨e0, e1⟩ := row_cells HB1
      have f0 := frozen_of_row _ _ 0 _ _ HB1
      have f1 := frozen_of_row _ _ 1 _ _ HB1
      have HB := Lib.hid HB1
      clear HB1 P1 P2
      rw [bw_false hf0]
      go_wp2_with fail
      refine bodyPost_ret (res_stream rfl _ _ (w.heap.size + 1) _ _ rfl (store2 HB.out)) rfl ?_
      exact H2.out.fin (by omega)
  · have z8 : ¬ ((m : Int) % 8 = 0) := by omega
    have P1 : PutAt w m (.slice p l.length c) v1 (pz f m (m / 8 + 1)) w1 := by
      rw [show m / 8 + 1 = (m + 7) / 8 by omega, ← HL.out]
      exact P0
    clear P0
    obtain ⟨c0, c1⟩ := row_cells P1.b0
    by_cases hf : f m = true
    · skip
      obtain ⟨g, cap, rfl, hgb⟩ := own_form P1.own (by rw [pz_len]; omega)
      rw [pz_len]
      have hcell : w1.cell? ⟨g, m / 8, none⟩ = some (.int .u8 ((py f m (m / 8) : Nat) : Int)) := by
        rw [P1.own.cellAt (m / 8) (by rw [pz_len]; omega), List.getElem?_map, pz_at _ _ _ _ (by omega)]; rfl
      have hfz := P1.own.frozenAt (m / 8)
      have hx8 := py_lt f m (m / 8)
      obtain ⟨s, hs⟩ : ∃ s : Nat, 7 - m % 8 = s := ⟨_, rfl⟩
      have hs8 : s ≤ 7 := by omega
      have hsub : 7 - (m : Int) % 8 = (s : Int) := by omega
      have z9 : ((m : Int) % 8 == 0) = false := by simp; omega
      have O0 := or_bit hf rfl hs
      have O := Lib.hid O0
      clear O0
      have P2 := P1.stored (x := py f (m + 1) (m / 8)) (j := m / 8) rfl hgb (pz_set f m 1 (m / 8 + 1) (by omega) (by omega)).symm
      rw [pz_len] at P2
      have H2 := Lib.hid P2
      clear P1 P2 hs
      generalize py f m (m / 8) = x at *
      generalize py f (m + 1) (m / 8) = y at *
      rw [bw_true hf]
      go_wp2_with fail
      go_region
      rw [O.out]
      have HB1 := H2.out.b1
      obtain ⟨d0, d1⟩ := row_cells H2.out.b0
      obtain ⟨e0, e1⟩ := row_cells HB1
      have f0 := frozen_of_row _ _ 0 _ _ HB1
      have f1 := frozen_of_row _ _ 1 _ _ HB1
      have HB := Lib.hid HB1
      clear HB1 c0 c1
      change Exit.then _ _ _ _ ((w1.setCell _ (nv y)).drew)
      generalize (w1.setCell ⟨g, m / 8, none⟩ (nv y)).drew = w3 at *
      go_wp2_with fail
      refine bodyPost_ret (res_stream rfl _ _ (w.heap.size + 1) _ _ rfl (store2 HB.out)) rfl ?_
      exact H2.out.fin (by omega)
    · skip
      have hf0 : f m = false := by simpa using hf
      obtain ⟨g, cap, rfl, hgb⟩ := own_form P1.own (by rw [pz_len]; omega)
      rw [pz_len] at P1 ⊢
      have P2 : PutAt w m (.slice p l.length c) (.slice (some ⟨g, 0, none⟩) (m / 8 + 1) cap) (pz f (m + 1) (m / 8 + 1)) w1 := by rw [← pz_up f hf0]; exact P1
      have H2 := Lib.hid P2
      have HB1 := H2.out.b1
      obtain ⟨e0, e1⟩ := row_cells HB1
      have f0 := frozen_of_row _ _ 0 _ _ HB1
      have f1 := frozen_of_row _ _ 1 _ _ HB1
      have HB := Lib.hid HB1
      clear HB1 P1 P2
      rw [bw_false hf0]
      go_wp2_with fail
      refine bodyPost_ret (res_stream rfl _ _ (w.heap.size + 1) _ _ rfl (store2 HB.out)) rfl ?_
      exact H2.out.fin (by omega)
end Go.Proofs.YtnfgkakhdgiepaaDoor
