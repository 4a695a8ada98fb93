/- Parts of the proof, packed: IoRef, IoPut, IoZeros, IoTake, IoAppend. -/
import Derived.Test.YtnfgkakhdgiepaaDoorDt2
import Derived.Laws.AppendOwnNone
import Derived.Laws.CopyOwn
import Derived.Laws.ResultCell
import Derived.Deep.Onto
import Derived.Deep.AppendLies
import Derived.Deep.RegionHeld3
import Derived.Deep.OwnRows
/- Of the reference: one bit, Valid. -/
namespace Go.Proofs.YtnfgkakhdgiepaaDoor
open Go.RowKit Bs
/-- A bit as a word. -/
def bw (b : Bool) : Value := .int .u64 ((b.toNat : Nat) : Int)
set_option maxRecDepth 100000 in
theorem bt_word {l : List Nat} {i x s : Nat} (hx : l.getD (i / 8) 0 = x) (hs : 7 - i % 8 = s) (hx8 : x < 256) : bits .and .u64 (IntKind.u64.wrap ((x : Int) / 2 ^ s)) 1 = (((bt l i).toNat : Nat) : Int) := by
  rw [show IntKind.u64.wrap ((x : Int) / 2 ^ s) = (x : Int) / 2 ^ s by rw [shrW]; exact wrapU _ (u64_div _ _ (u64_mk (by omega))), bitW x s (u64_mk (by omega))]
  unfold bt
  rw [hx, hs, Nat.toNat_testBit]
set_option maxRecDepth 100000 in
set_option maxHeartbeats 800000 in
theorem bitr_any (l : List Nat) (i : Nat) (q : Nat → Prop) (p : Option Addr) (c : Nat) (hl : By l) (hi : i < 8 * l.length) (hi2 : i ≤ 1000000) (w : World) (hR : Rd w q (.slice p l.length c) (l.map nv)) :
    Calls Tryd.prog 118 #[.slice p l.length c, .int .i64 (i : Int)] w fun e w' => e = .returned (bw (bt l i)) ∧ w = w' := by
  have hK : i / 8 < l.length := by omega
  obtain ⟨g, off, rfl, _, hcell⟩ := hR.at_ (nv_at hK)
  have hx := hl.at_ hK
  generalize hX : l.getD (i / 8) 0 = x at *
  obtain ⟨s, hs⟩ : ∃ s : Nat, 7 - i % 8 = s := ⟨_, rfl⟩
  have hs8 : s ≤ 7 := by omega
  have hsub : 7 - (i : Int) % 8 = (s : Int) := by omega
  have HB := Lib.hid (bt_word hX hs hx)
  clear hs hX hR
  go_enter Tryd.func118, Tryd.ntmps118
  go_wp2_with fail
  go_ret
  exact ⟨ret_int HB.out, rfl⟩
set_option maxRecDepth 100000 in
theorem bw_true {b : Bool} (h : b = true) : bw b = .int .u64 1 := by rw [h]; rfl
set_option maxRecDepth 100000 in
theorem bw_false {b : Bool} (h : b = false) : bw b = .int .u64 0 := by rw [h]; rfl
set_option maxRecDepth 100000 in
set_option maxHeartbeats 1600000 in
theorem validr_any (l : List Nat) (n : Int) (q : Nat → Prop) (p : Option Addr) (c : Nat) (hl : By l) (w : World) (hq : ∀ b, q b → b < w.heap.size) (hR : Rd w q (.slice p l.length c) (l.map nv)) :
    Calls Tryd.prog 116 #[.agg #[.slice p l.length c, .int .i64 n]] w fun e w' => ValidPost l n w e w' := by
  by_cases h1 : n < 0
  · have V := Lib.hid (vs_neg (l := l) h1)
    go_enter Tryd.func116, Tryd.ntmps116
    go_wp2_with fail
    go_ret
    exact ⟨ret_bool (by rw [V.out]), World.grownBy_alloc _ _ _⟩
  · by_cases h2 : 8192 < n
    · have V := Lib.hid (vs_big (l := l) h2)
      go_enter Tryd.func116, Tryd.ntmps116
      go_wp2_with fail
      go_ret
      exact ⟨ret_bool (by rw [V.out]), World.grownBy_alloc _ _ _⟩
    · obtain ⟨N, rfl⟩ := Int.eq_ofNat_of_zero_le (show 0 ≤ n by omega)
      have hN : N ≤ 8192 := by omega
      obtain ⟨M, hM⟩ : ∃ M : Nat, M = (N + 7) / 8 := ⟨_, rfl⟩
      have hMe : ((N : Int) + 7) / 8 = (M : Int) := by omega
      by_cases h3 : l.length = M
      · have hM2 : M ≤ 1024 := by omega
        subst h3
        have HM := Lib.hid hM
        clear hM
        go_enter Tryd.func116, Tryd.ntmps116
        go_wp2_with fail
        obtain ⟨c0, c1⟩ := box2 w (.slice p l.length c) (.int .i64 (N : Int)) 91
        have HG := Lib.hid (World.grownBy_alloc w (.cells #[.slice p l.length c, .int .i64 (N : Int)] 91) none)
        have hR1 := hR.keep HG.out
        generalize w.alloc (.cells #[.slice p l.length c, .int .i64 (N : Int)] 91) = w1 at *
        generalize w.heap.size = b at *
        go_wp2_with fail
        go_loop [3] (fun i => ∃ j : Nat, N ≤ j ∧ i = .int .i64 (j : Int) ∧ (N ≤ 8 * l.length → j ≤ 8 * l.length) ∧ ∀ t, t < j → N ≤ t → t < 8 * l.length → bt l t = false) (fun i => (8 * l.length - (intOf i).toNat))
        case atStart => exact ⟨N, Nat.le_refl _, rfl, fun h => h, fun t h1 h2 => by omega⟩
        case round =>
          obtain ⟨j, hj, rfl, hj2, hz⟩ := hrel
          by_cases hlt : j < 8 * l.length
          · have C1 := bitr_any l j q p c hl hlt (by omega) w1 hR1
            have HZ := Lib.hid hz
            have hj9 : j ≤ 9000 := by omega
            by_cases hb : bt l j = true
            · rw [bw_true hb] at C1
              have H1 := Lib.hid C1
              have V : Hid (vs l (N : Int) = false) := by
                show vs l (N : Int) = false
                rw [Bool.eq_false_iff]
                intro h
                have := (vs_iff.1 h).2.2 j hlt hj
                rw [hb] at this; cases this
              clear C1 hz hb
              go_wp2_with (go_at_call 118; refine H1.out.mono ?_; rintro e w' ⟨rfl, rfl⟩)
              go_ret
              exact ⟨ret_bool (by rw [V.out]), HG.out⟩
            · have hb0 : bt l j = false := by simpa using hb
              rw [bw_false hb0] at C1
              have H1 := Lib.hid C1
              have HB := Lib.hid hb0
              clear C1 hz hb hb0
              go_wp2_with (go_at_call 118; refine H1.out.mono ?_; rintro e w' ⟨rfl, rfl⟩)
              go_round
              case rel =>
                refine ⟨j + 1, by omega, by go_num, fun _ => by omega, fun t h1 h2 h3 => ?_⟩
                by_cases e : t = j
                · rw [e]; exact HB.out
                · exact HZ.out t (by omega) h2 h3
              case measure => simp [intOf]; omega
          · have V : Hid (vs l (N : Int) = true) := by
              show vs l (N : Int) = true
              exact vs_iff.2 ⟨hN, by have := HM.out; omega, fun i h1 h2 => hz i (by omega) h2 (by omega)⟩
            clear hz
            go_wp2_with fail
            go_ret
            exact ⟨ret_bool (by rw [V.out]), HG.out⟩
      · have V := Lib.hid (vs_len (l := l) (N := N) (by omega))
        have d4 : ¬ ((l.length : Int) = (M : Int)) := by omega
        clear hM
        go_enter Tryd.func116, Tryd.ntmps116
        go_wp2_with fail
        go_ret
        exact ⟨ret_bool (by rw [V.out]), World.grownBy_alloc _ _ _⟩
end Go.Proofs.YtnfgkakhdgiepaaDoor

/- Streams as values; the reference's Put. -/
namespace Go.Proofs.YtnfgkakhdgiepaaDoor
open Go.RowKit Bs
/-- v is a stream of n bits with the bytes l. -/
def SR (w : World) (q : Nat → Prop) (v : Value) (l : List Nat) (n : Int) : Prop := ∃ p c, v = .agg #[.slice p l.length c, .int .i64 n] ∧ Rd w q (.slice p l.length c) (l.map nv) ∧ (p = none → c = 0) ∧ By l
/-- A stream whose bytes lie in a row of the call's own. -/
structure Own (w : World) (base : Nat) (p : Option Addr) (c : Nat) (l : List Nat) : Prop where
  own : w.ownsRow base 5 1 (.slice p l.length c) l.length (l.map nv)
  pc : p = none → c = 0
  by_ : By l
def StreamPost (l : List Nat) (n : Int) (w : World) (e : Ending) (w' : World) : Prop := ∃ p c, e = .returned (.agg #[.slice p l.length c, .int .i64 n]) ∧ Own w' w.heap.size p c l ∧ w.grownBy w' none
def StreamErr (l : List Nat) (n err : Int) (w : World) (e : Ending) (w' : World) : Prop := ∃ v, e = .returned (.tuple #[v, .int .i64 err]) ∧ SR w' (w.heap.size ≤ ·) v l n ∧ w.grownBy w' none
set_option maxRecDepth 100000 in
theorem add_plain (b off j : Nat) : (⟨b, off, none⟩ : Addr).add j = ⟨b, off + j, none⟩ := by unfold Addr.add; split <;> simp_all
set_option maxRecDepth 100000 in
theorem nv_one {l : List Nat} : ∀ u ∈ l.map nv, u.oneCell' = true := by
  intro u hu
  obtain ⟨x, _, rfl⟩ := List.mem_map.1 hu
  rfl
set_option maxRecDepth 100000 in
theorem Rd.news {w : World} {q : Nat → Prop} {ad : Addr} {n c : Nat} {r : List Nat} (hR : Rd w q (.slice (some ad) n c) (r.map nv)) : ∀ j u, (r.map nv)[j]? = some u → w.cell? (ad.add j) = some u := by
  obtain ⟨p1, c1, e1, hx⟩ := hR
  injection e1 with a1 a2 a3
  subst a1
  intro j u hj
  obtain ⟨b, off, hp, hq, hc⟩ := hx (by intro e; rw [e] at hj; simp at hj)
  obtain rfl := Option.some.inj hp
  rw [add_plain]; exact hc j u hj
set_option maxRecDepth 100000 in
/-- append of a slice that is read, onto a row of the call's own. -/
theorem wpList_append_rd {w : World} {ops : Array Oper} {rest : List Oper} {o : Oper} {a : Act} {Q : Exit → Act → World → Prop} (hgd : o.guard = none) (s x : Operand)
    (ho : o.op = .call { callee := .builtin .append, args := #[s, x], argTypes := #[34, 34] }) (base : Nat) (v : Value) (n : Nat) (l : List Nat) (hs : a.eval s = v) (hown : w.ownsRow base 5 1 v n (l.map nv))
    (p : Option Addr) (k c : Nat) (r : List Nat) (hx : a.eval x = .slice p k c) (hk : k = r.length) (q : Nat → Prop) (hR : Rd w q (.slice p k c) (r.map nv)) (hpc : p = none → c = 0) (h63 : n + r.length ≤ 100000) (hbase : base ≤ w.heap.size)
    (h : ∀ v' w', w'.ownsRow base 5 1 v' (n + r.length) ((l ++ r).map nv) → w.grownBy w' v.ownBlock → wpList Tryd.prog ops Q rest (a.put o.dst v') w') : wpList Tryd.prog ops Q (o :: rest) a w := by
  obtain ⟨i0, hi, hz0, hz1, hz2⟩ := info_parts info_u8
  subst hk
  cases p with
  | none =>
    obtain rfl := hpc rfl
    have hr : r = [] := by
      obtain ⟨p1, c1, e1, hx⟩ := hR
      injection e1 with a1 a2 a3
      subst a1
      cases r with
      | nil => rfl
      | cons y r => obtain ⟨b, off, hp, _⟩ := hx (by simp); cases hp
    subst hr
    refine wpList_append_own_none hgd s x 34 ho base 5 i0 1 Tryd.underlying34 hi v n (l.map nv) hs hown hx ?_
    refine h v w ?_ (grown_refl _ _)
    rw [List.append_nil]; exact hown
  | some ad =>
    refine wpList_append_own w hgd s x 34 ho base 5 i0 (.int .u8 0) 1 1 Tryd.underlying34 hi hz0 hz1 hz2 rfl (by decide) v n (l.map nv) hs hown ad r.length c (r.map nv) hx (by simp) hR.news nv_one (by unfold maxLen; omega) (by omega) hbase ?_
    intro v' w' h1 h2 _
    refine h v' w' ?_ h2
    rw [List.map_append]; exact h1
set_option maxRecDepth 100000 in
theorem grown_drew {w w' : World} {r : Option Nat} (h : w.grownBy w' r) : w.grownBy w'.drew r := ⟨h.os, h.tape, h.output, h.size, h.block⟩
set_option maxRecDepth 100000 in
/-- Two blocks laid one behind the other. -/
theorem two_boxes (w : World) (A Z : Array Value) (t u : TypeId) :
    ((w.alloc (.cells A t)).alloc (.cells Z u)).heap[w.heap.size]? = some (.cells A t (0, 0)) ∧ ((w.alloc (.cells A t)).alloc (.cells Z u)).heap[w.heap.size + 1]? = some (.cells Z u (0, 0)) ∧
      w.grownBy ((w.alloc (.cells A t)).alloc (.cells Z u)) none ∧ ((w.alloc (.cells A t)).alloc (.cells Z u)).heap.size = w.heap.size + 2 := by
  have e1 : (w.alloc (.cells A t)).heap.size = w.heap.size + 1 := by simp
  refine ⟨?_, ?_, grown_trans (World.grownBy_alloc w _ _) (World.grownBy_alloc _ _ _), by simp⟩
  · rw [Below.heap_alloc _ _ _ (by omega)]; exact heap_alloc_new w _
  · rw [← e1]; exact heap_alloc_new _ _
set_option maxRecDepth 100000 in
theorem row_cells {w : World} {b : Nat} {x y : Value} {t : TypeId} (h : w.heap[b]? = some (.cells #[x, y] t (0, 0))) : w.cell? ⟨b, 0, none⟩ = some x ∧ w.cell? ⟨b, 1, none⟩ = some y := by
  refine ⟨?_, ?_⟩
  · rw [cell_of_row _ _ _ _ _ _ h]; rfl
  · rw [cell_of_row _ _ _ _ _ _ h]; rfl
set_option maxRecDepth 100000 in
theorem kept_row {w w' : World} {b : Nat} {o : Obj} {r : Option Nat} (h : w.heap[b]? = some o) (g : w.grownBy w' r) (hr : some b ≠ r) : w'.heap[b]? = some o :=
  (g.block b (Array.getElem?_eq_some_iff.1 h).1 hr).trans h
set_option maxRecDepth 100000 in
theorem rd_new (w : World) (cs : Array Value) (t : TypeId) (c : Nat) : Rd (w.alloc (.cells cs t)) (· = w.heap.size) (.slice (some ⟨w.heap.size, 0, none⟩) cs.toList.length c) cs.toList := by
  have hb : (w.alloc (.cells cs t)).heap[w.heap.size]? = some (.cells cs t (0, 0)) := heap_alloc_new w _
  refine ⟨_, c, rfl, fun _ => ⟨w.heap.size, 0, rfl, rfl, fun i x hi => ?_⟩⟩
  rw [Nat.zero_add, cell_of_row _ _ _ _ _ _ hb]
  simpa using hi
/-- What stands behind the copy: the boxes, the row of the call's own. -/
structure PutAt (w : World) (m : Nat) (v0 : Value) (v : Value) (L : List Nat) (wr : World) : Prop where
  b0 : wr.heap[w.heap.size]? = some (.cells #[v0, .int .i64 (m : Int)] 91 (0, 0))
  b1 : wr.heap[w.heap.size + 1]? = some (.cells #[.slice none 0 0, .int .i64 0] 91 (0, 0))
  own : wr.ownsRow (w.heap.size + 2) 5 1 v L.length (L.map nv)
  gr : w.grownBy wr none
  sz : w.heap.size + 2 ≤ wr.heap.size
set_option maxRecDepth 100000 in
theorem own_ne {w : World} {base k n : Nat} {e : TypeId} {v : Value} {xs : List Value} (h : w.ownsRow base e 1 v n xs) (hk : k < base) : some k ≠ v.ownBlock := by
  intro e2
  have := (h.lt k e2.symm).1
  omega
set_option maxRecDepth 100000 in
theorem grown_own {w wr w1 : World} {base n : Nat} {e : TypeId} {v : Value} {xs : List Value} (hg : w.grownBy wr none) (h : wr.ownsRow base e 1 v n xs) (hb : w.heap.size ≤ base) (k : wr.grownBy w1 v.ownBlock) : w.grownBy w1 none :=
  ⟨k.os.trans hg.os, k.tape.trans hg.tape, k.output.trans hg.output, Nat.le_trans hg.size k.size, fun b hb2 _ => (k.block b (Nat.lt_of_lt_of_le hb2 hg.size) (own_ne h (by omega))).trans (hg.block b hb2 (by simp))⟩
set_option maxRecDepth 100000 in
theorem PutAt.next {w wr w1 : World} {m : Nat} {v0 v v' : Value} {L L' : List Nat} {n : Nat} (h : PutAt w m v0 v L wr) (k : wr.grownBy w1 v.ownBlock) (hn : n = L'.length) (hown : w1.ownsRow (w.heap.size + 2) 5 1 v' n (L'.map nv)) : PutAt w m v0 v' L' w1 := by
  subst hn
  exact ⟨kept_row h.b0 k (own_ne h.own (by omega)), kept_row h.b1 k (own_ne h.own (by omega)), hown, grown_own h.gr h.own (by omega) k, Nat.le_trans h.sz k.size⟩
set_option maxRecDepth 100000 in
theorem pz_snoc (f : Nat → Bool) {m N : Nat} (h8 : m % 8 = 0) (hN : N = (m + 7) / 8) : pz f m N ++ [0] = pz f m (m / 8 + 1) := by
  obtain rfl : N = m / 8 := by omega
  unfold pz
  rw [List.range_succ, List.map_append, List.map_singleton, py_zero f (by omega)]
set_option maxRecDepth 100000 in
theorem pz_up (f : Nat → Bool) {m N : Nat} (hf : f m = false) : pz f m N = pz f (m + 1) N := by
  apply pz_congr
  intro i _
  by_cases e : i = m
  · subst e; rw [hf]; simp
  · rw [show decide (i < m) = decide (i < m + 1) by rw [decide_eq_decide]; omega]
set_option maxRecDepth 100000 in
theorem own_form {w : World} {base n : Nat} {e : TypeId} {v : Value} {xs : List Value} (h : w.ownsRow base e 1 v n xs) (hn : 0 < n) : ∃ g cap, v = .slice (some ⟨g, 0, none⟩) n cap ∧ base ≤ g := by
  rcases h.2 with ⟨_, h0⟩ | ⟨g, cap, cur, rfl, hb, _⟩
  · omega
  · exact ⟨g, cap, rfl, hb⟩
set_option maxRecDepth 100000 in
theorem or_bit {f : Nat → Bool} {m x s : Nat} (hf : f m = true) (hx : py f m (m / 8) = x) (hs : 7 - m % 8 = s) : bits .or .u8 (x : Int) (2 ^ s % 256) = ((py f (m + 1) (m / 8) : Nat) : Int) := by
  have h1 := py_lt f m (m / 8)
  have e := py_or f m 1 (by omega)
  rw [hx, show num f m 1 = 1 by simp [num, hf], Nat.one_mul, show 8 - m % 8 - 1 = s by omega] at e
  have h2 : 2 ^ s < 256 := Nat.pow_lt_pow_right (n := 8) (by decide) (by omega)
  rw [powI, ← e]
  generalize 2 ^ s = y at *
  rw [show ((y : Int) % 256) = (y : Int) by omega, u8_or_nat x _ (by omega) h2]
set_option maxRecDepth 100000 in
theorem PutAt.stored {w wr : World} {m : Nat} {v0 : Value} {L L' : List Nat} {g n cap j x : Nat} (h : PutAt w m v0 (.slice (some ⟨g, 0, none⟩) n cap) L wr) (hn : n = L.length) (hg : w.heap.size + 2 ≤ g) (hL : L' = L.set j x) :
    PutAt w m v0 (.slice (some ⟨g, 0, none⟩) n cap) L' (wr.setCell ⟨g, j, none⟩ (nv x)).drew := by
  subst hL
  subst hn
  obtain ⟨k1, k2⟩ := h.own.stored j (nv x)
  have k3 := h.next k2 (L' := L.set j x) (v' := .slice (some ⟨g, 0, none⟩) L.length cap) (by rw [List.length_set]) (by rw [List.map_set]; exact k1)
  exact ⟨k3.b0, k3.b1, k3.own, grown_drew k3.gr, k3.sz⟩
set_option maxRecDepth 100000 in
theorem store2 {w : World} {b : Nat} {x y u z : Value} {t : TypeId} (h : w.heap[b]? = some (.cells #[x, y] t (0, 0))) : ((w.setCell ⟨b, 0, none⟩ u).setCell ⟨b, 1, none⟩ z).heap[b]? = some (.cells #[u, z] t (0, 0)) := by
  have e1 := heap_setCell_same w b 0 _ _ u h
  have e2 := heap_setCell_same _ b 1 _ _ z e1
  rw [e2]; rfl
set_option maxRecDepth 100000 in
theorem grown_store2 (w : World) (b : Nat) (u z : Value) : w.grownBy ((w.setCell ⟨b, 0, none⟩ u).setCell ⟨b, 1, none⟩ z) (some b) := grown_trans (grown_setCell w ⟨b, 0, none⟩ u) (grown_setCell _ ⟨b, 1, none⟩ z)
set_option maxRecDepth 100000 in
/-- What lies behind the call's start may turn. -/
theorem grown_new {w w1 w2 : World} {b : Nat} (h : w.grownBy w1 none) (k : w1.grownBy w2 (some b)) (hb : w.heap.size ≤ b) : w.grownBy w2 none :=
  ⟨k.os.trans h.os, k.tape.trans h.tape, k.output.trans h.output, Nat.le_trans h.size k.size, fun i hi _ => (k.block i (Nat.lt_of_lt_of_le hi h.size) (by intro e; have := Option.some.inj e; omega)).trans (h.block i hi (by simp))⟩
set_option maxRecDepth 100000 in
theorem own_sr {w : World} {base : Nat} {v : Value} {l : List Nat} {n : Int} (h : w.ownsRow base 5 1 v l.length (l.map nv)) (hl : By l) (q : Nat → Prop) (hq : ∀ b, base ≤ b → q b) : SR w q (.agg #[v, .int .i64 n]) l n := by
  have hR := (rd_of_own h).mono hq
  rcases h.2 with ⟨rfl, h0⟩ | ⟨g, cap, cur, rfl, _⟩
  · obtain rfl : l = [] := List.eq_nil_of_length_eq_zero h0
    exact ⟨none, 0, rfl, hR, fun _ => rfl, hl⟩
  · exact ⟨some ⟨g, 0, none⟩, cap, rfl, hR, (by intro e; cases e), hl⟩
set_option maxRecDepth 100000 in
theorem own_parts {w : World} {base n : Nat} {e : TypeId} {v : Value} {xs : List Value} (h : w.ownsRow base e 1 v n xs) : ∃ p c, v = .slice p n c ∧ (p = none → c = 0) := by
  rcases h.2 with ⟨rfl, h0⟩ | ⟨g, cap, cur, rfl, _⟩
  · subst h0; exact ⟨none, 0, rfl, fun _ => rfl⟩
  · exact ⟨some ⟨g, 0, none⟩, cap, rfl, (by intro e; cases e)⟩
set_option maxRecDepth 100000 in
theorem Own.rd {w : World} {base : Nat} {p : Option Addr} {c : Nat} {l : List Nat} (h : Own w base p c l) : Rd w (base ≤ ·) (.slice p l.length c) (l.map nv) := rd_of_own h.own
set_option maxRecDepth 100000 in
theorem Own.keep {w w' : World} {base : Nat} {p : Option Addr} {c : Nat} {l : List Nat} (h : Own w base p c l) (g : w.grownBy w' none) : Own w' base p c l := ⟨h.own.kept g (by cases hv : (Value.slice p l.length c).ownBlock <;> simp), h.pc, h.by_⟩
set_option maxRecDepth 100000 in
theorem Own.other {w w' : World} {base b : Nat} {p : Option Addr} {c : Nat} {l : List Nat} (h : Own w base p c l) (g : w.grownBy w' (some b)) (hb : b < base) : Own w' base p c l :=
  ⟨h.own.kept g (.inr (fun e => by have := h.own.lt _ e; omega)), h.pc, h.by_⟩
set_option maxRecDepth 100000 in
theorem Own.mono {w : World} {base base' : Nat} {p : Option Addr} {c : Nat} {l : List Nat} (h : Own w base p c l) (hb : base' ≤ base) : Own w base' p c l := ⟨h.own.mono hb, h.pc, h.by_⟩
set_option maxRecDepth 100000 in
theorem Own.sr {w : World} {base : Nat} {p : Option Addr} {c : Nat} {l : List Nat} (h : Own w base p c l) (n : Int) (q : Nat → Prop) (hq : ∀ b, base ≤ b → q b) : SR w q (.agg #[.slice p l.length c, .int .i64 n]) l n := ⟨p, c, rfl, h.rd.mono hq, h.pc, h.by_⟩
set_option maxRecDepth 100000 in
theorem PutAt.ends {w wr : World} {m : Nat} {v0 v : Value} {L : List Nat} {n : Int} (h : PutAt w m v0 v L wr) (hl : By L) :
    StreamPost L n w (.returned (.agg #[v, .int .i64 n])) ((wr.setCell ⟨w.heap.size + 1, 0, none⟩ v).setCell ⟨w.heap.size + 1, 1, none⟩ (.int .i64 n)) := by
  have g := grown_store2 wr (w.heap.size + 1) v (.int .i64 n)
  have hown := h.own.kept g (.inr (by
    intro e
    have := h.own.lt _ e
    omega))
  have hgr := grown_new h.gr g (Nat.le_succ _)
  rcases own_parts h.own with ⟨p, c, rfl, hpc⟩
  exact ⟨p, c, rfl, ⟨hown.mono (by omega), hpc, hl⟩, hgr⟩
set_option maxRecDepth 100000 in
theorem stream_size : (Tryd.prog.info? 91).map (·.size) = some 2 := by kernel_rfl
set_option maxRecDepth 100000 in
theorem PutAt.fin {w wr : World} {m N : Nat} {v0 v : Value} {f : Nat → Bool} (h : PutAt w m v0 v (pz f (m + 1) N) wr) (hN : N = (m + 8) / 8) :
    StreamPost (pz f (m + 1) ((m + 8) / 8)) ((m + 1 : Nat) : Int) w (.returned (.agg #[v, .int .i64 ((m : Int) + 1)])) ((wr.setCell ⟨w.heap.size + 1, 0, none⟩ v).setCell ⟨w.heap.size + 1, 1, none⟩ (.int .i64 ((m : Int) + 1))) := by
  subst hN
  exact h.ends (pz_lt _ _ _)
set_option maxRecDepth 100000 in
/-- A struct comes back out of its block. -/
theorem res_stream {fn : Func} {p : Tmp} (h : fn.results = #[.cell p 91]) (tmps : Array Value) (w : World) (g : Nat) (x y : Value) (hp : tmps.getD p undef = .pointer (some ⟨g, 0, none⟩)) (hg : w.heap[g]? = some (.cells #[x, y] 91 (0, 0))) :
    (results fn tmps).run Tryd.prog w = .ok (.agg #[x, y]) w := by
  exact results_cell_row h tmps w g _ _ _ _ hp hg Tryd.underlying91 rfl stream_size
set_option maxRecDepth 100000 in
theorem res_stream_err {fn : Func} {p u : Tmp} (h : fn.results = #[.cell p 91, .tmp u]) (tmps : Array Value) (w : World) (g : Nat) (x y : Value) (hp : tmps.getD p undef = .pointer (some ⟨g, 0, none⟩)) (hg : w.heap[g]? = some (.cells #[x, y] 91 (0, 0))) :
    (results fn tmps).run Tryd.prog w = .ok (.tuple #[.agg #[x, y], tmps.getD u undef]) w := by
  have hp' : tmps[p]?.getD undef = .pointer (some ⟨g, 0, none⟩) := by simpa using hp
  rw [results_cell_tmp h]
  simp [hp', asAddr, run_loadVar_row w g _ _ _ _ _ hg Tryd.underlying91 rfl stream_size, Result.andThen]
set_option maxRecDepth 100000 in
set_option maxHeartbeats 1600000 in
theorem put_any (f : Nat → Bool) (m : Nat) (l : List Nat) (q : Nat → Prop) (p : Option Addr) (c : Nat) (hm : m ≤ 9000) (hl : l = pz f m ((m + 7) / 8)) (hpc : p = none → c = 0) (w : World) (hR : Rd w q (.slice p l.length c) (l.map nv)) :
    Calls Tryd.prog 117 #[.agg #[.slice p l.length c, .int .i64 (m : Int)], bw (f m)] w fun e w' => StreamPost (pz f (m + 1) ((m + 8) / 8)) ((m + 1 : Nat) : Int) w e w' := by
  have hll : l.length = (m + 7) / 8 := by rw [hl, pz_len]
  have HL := Lib.hid hl
  have HLL := Lib.hid hll
  have hl2 : l.length ≤ 2000 := by omega
  clear hl hll
  obtain ⟨i0, hi, hz0, hz1, hz2⟩ := info_parts info_u8
  obtain ⟨k1, k2, k3, k4⟩ := two_boxes w #[.slice p l.length c, .int .i64 (m : Int)] #[.slice none 0 0, .int .i64 0] 91 91
  have K := Lib.hid (And.intro k1 (And.intro k2 (And.intro k3 k4)))
  have hR2 := hR.keep k3
  clear hR k1 k2 k3 k4
  go_enter Tryd.func117, Tryd.ntmps117
  go_wp2_with (at_builtin; refine wpList_append_rd rfl _ _ rfl (w.heap.size + 2) _ 0 [] rfl (World.ownsRow_nil _ _ _ _) p l.length c l rfl rfl q hR2 hpc ?c1 ?c2 ?_)
  case c1 => omega
  case c2 => rw [K.out.2.2.2]; exact Nat.le_refl _
  intro v1 w1 hown1 hg1
  have P0 : PutAt w m (.slice p l.length c) v1 l w1 := by
    obtain ⟨k1, k2, k3, k4⟩ := K.out
    exact ⟨kept_row k1 hg1 (by exact nofun), kept_row k2 hg1 (by exact nofun), hown1, grown_trans k3 hg1, by rw [← k4]; exact hg1.size⟩
  clear hown1 hg1 hR2 K
  by_cases h8 : m % 8 = 0
  · have z8 : (m : Int) % 8 = 0 := by omega
    obtain ⟨c0, c1⟩ := row_cells P0.b0
    have H0 := Lib.hid P0
    have hown := P0.own
    have hbs : w.heap.size + 2 ≤ (w1.alloc (.cells #[nv 0] 5)).heap.size := by have := P0.sz; simp; omega
    clear P0
    go_wp2_with (at_builtin; refine wpList_append_rd rfl _ _ rfl (w.heap.size + 2) v1 l.length l rfl (hown.alloc _) (some ⟨w1.heap.size, 0, none⟩) 1 1 [0] rfl rfl _ (rd_new w1 #[nv 0] 5 1) (by exact nofun) ?c3 ?c4 ?_)
    case c3 => simp; omega
    case c4 => exact hbs
    intro v2 w2 hown2 hg2
    have P1 : PutAt w m (.slice p l.length c) v2 (pz f m (m / 8 + 1)) w2 := by
      refine PutAt.next ⟨(H0.out).b0, H0.out.b1, H0.out.own, H0.out.gr, H0.out.sz⟩ (grown_trans (World.grownBy_alloc w1 _ _) hg2) (n := l.length + 1) ?_ ?_
      · rw [pz_len]; have := HLL.out; omega
      · rw [← pz_snoc f h8 (N := l.length) (by have := HLL.out; omega)]
        have := HL.out
        rw [show pz f m l.length = l by rw [HLL.out]; exact this.symm]
        rw [List.map_append]; exact hown2
    clear hown2 hg2 hown H0 c0 c1
    obtain ⟨c0, c1⟩ := row_cells P1.b0
    by_cases hf : f m = true
    · skip
      obtain ⟨g, cap, rfl, hgb⟩ := own_form P1.own (by rw [pz_len]; omega)
      rw [pz_len]
      have hcell : w2.cell? ⟨g, m / 8, none⟩ = some (.int .u8 ((py f m (m / 8) : Nat) : Int)) := by
        rw [P1.own.cellAt (m / 8) (by rw [pz_len]; omega), List.getElem?_map, pz_at _ _ _ _ (by omega)]; rfl
      have hfz := P1.own.frozenAt (m / 8)
      have hx8 := py_lt f m (m / 8)
      obtain ⟨s, hs⟩ : ∃ s : Nat, 7 - m % 8 = s := ⟨_, rfl⟩
      have hs8 : s ≤ 7 := by omega
      have hsub : 7 - (m : Int) % 8 = (s : Int) := by omega
      obtain rfl : s = 7 := by omega
      have O0 := or_bit hf rfl hs
      rw [show ((2 : Int) ^ 7 % 256) = 128 from rfl] at O0
      have O := Lib.hid O0
      clear O0
      have P2 := P1.stored (x := py f (m + 1) (m / 8)) (j := m / 8) rfl hgb (pz_set f m 1 (m / 8 + 1) (by omega) (by omega)).symm
      rw [pz_len] at P2
      have H2 := Lib.hid P2
      clear P1 P2 hs
      generalize py f m (m / 8) = x at *
      generalize py f (m + 1) (m / 8) = y at *
      rw [bw_true hf]
      go_wp2_with fail
      go_region
      rw [O.out]
      have HB1 := H2.out.b1
      obtain ⟨d0, d1⟩ := row_cells H2.out.b0
      obtain ⟨e0, e1⟩ := row_cells HB1
      have f0 := frozen_of_row _ _ 0 _ _ HB1
      have f1 := frozen_of_row _ _ 1 _ _ HB1
      have HB := Lib.hid HB1
      clear HB1 c0 c1
      change Exit.then _ _ _ _ ((w2.setCell _ (nv y)).drew)
      generalize (w2.setCell ⟨g, m / 8, none⟩ (nv y)).drew = w3 at *
      go_wp2_with fail
      refine bodyPost_ret (res_stream rfl _ _ (w.heap.size + 1) _ _ rfl (store2 HB.out)) rfl ?_
      exact H2.out.fin (by omega)
    · skip
      have hf0 : f m = false := by simpa using hf
      obtain ⟨g, cap, rfl, hgb⟩ := own_form P1.own (by rw [pz_len]; omega)
      rw [pz_len] at P1 ⊢
      have P2 : PutAt w m (.slice p l.length c) (.slice (some ⟨g, 0, none⟩) (m / 8 + 1) cap) (pz f (m + 1) (m / 8 + 1)) w2 := by rw [← pz_up f hf0]; exact P1
      have H2 := Lib.hid P2
      have HB1 := H2.out.b1
      obtain ⟨e0, e1⟩ := row_cells HB1
      have f0 := frozen_of_row _ _ 0 _ _ HB1
      have f1 := frozen_of_row _ _ 1 _ _ HB1
      have HB := Lib.hid HB1
      clear HB1 P1 P2
      rw [bw_false hf0]
      go_wp2_with fail
      refine bodyPost_ret (res_stream rfl _ _ (w.heap.size + 1) _ _ rfl (store2 HB.out)) rfl ?_
      exact H2.out.fin (by omega)
  · have z8 : ¬ ((m : Int) % 8 = 0) := by omega
    have P1 : PutAt w m (.slice p l.length c) v1 (pz f m (m / 8 + 1)) w1 := by
      rw [show m / 8 + 1 = (m + 7) / 8 by omega, ← HL.out]
      exact P0
    clear P0
    obtain ⟨c0, c1⟩ := row_cells P1.b0
    by_cases hf : f m = true
    · skip
      obtain ⟨g, cap, rfl, hgb⟩ := own_form P1.own (by rw [pz_len]; omega)
      rw [pz_len]
      have hcell : w1.cell? ⟨g, m / 8, none⟩ = some (.int .u8 ((py f m (m / 8) : Nat) : Int)) := by
        rw [P1.own.cellAt (m / 8) (by rw [pz_len]; omega), List.getElem?_map, pz_at _ _ _ _ (by omega)]; rfl
      have hfz := P1.own.frozenAt (m / 8)
      have hx8 := py_lt f m (m / 8)
      obtain ⟨s, hs⟩ : ∃ s : Nat, 7 - m % 8 = s := ⟨_, rfl⟩
      have hs8 : s ≤ 7 := by omega
      have hsub : 7 - (m : Int) % 8 = (s : Int) := by omega
      have z9 : ((m : Int) % 8 == 0) = false := by simp; omega
      have O0 := or_bit hf rfl hs
      have O := Lib.hid O0
      clear O0
      have P2 := P1.stored (x := py f (m + 1) (m / 8)) (j := m / 8) rfl hgb (pz_set f m 1 (m / 8 + 1) (by omega) (by omega)).symm
      rw [pz_len] at P2
      have H2 := Lib.hid P2
      clear P1 P2 hs
      generalize py f m (m / 8) = x at *
      generalize py f (m + 1) (m / 8) = y at *
      rw [bw_true hf]
      go_wp2_with fail
      go_region
      rw [O.out]
      have HB1 := H2.out.b1
      obtain ⟨d0, d1⟩ := row_cells H2.out.b0
      obtain ⟨e0, e1⟩ := row_cells HB1
      have f0 := frozen_of_row _ _ 0 _ _ HB1
      have f1 := frozen_of_row _ _ 1 _ _ HB1
      have HB := Lib.hid HB1
      clear HB1 c0 c1
      change Exit.then _ _ _ _ ((w1.setCell _ (nv y)).drew)
      generalize (w1.setCell ⟨g, m / 8, none⟩ (nv y)).drew = w3 at *
      go_wp2_with fail
      refine bodyPost_ret (res_stream rfl _ _ (w.heap.size + 1) _ _ rfl (store2 HB.out)) rfl ?_
      exact H2.out.fin (by omega)
    · skip
      have hf0 : f m = false := by simpa using hf
      obtain ⟨g, cap, rfl, hgb⟩ := own_form P1.own (by rw [pz_len]; omega)
      rw [pz_len] at P1 ⊢
      have P2 : PutAt w m (.slice p l.length c) (.slice (some ⟨g, 0, none⟩) (m / 8 + 1) cap) (pz f (m + 1) (m / 8 + 1)) w1 := by rw [← pz_up f hf0]; exact P1
      have H2 := Lib.hid P2
      have HB1 := H2.out.b1
      obtain ⟨e0, e1⟩ := row_cells HB1
      have f0 := frozen_of_row _ _ 0 _ _ HB1
      have f1 := frozen_of_row _ _ 1 _ _ HB1
      have HB := Lib.hid HB1
      clear HB1 P1 P2
      rw [bw_false hf0]
      go_wp2_with fail
      refine bodyPost_ret (res_stream rfl _ _ (w.heap.size + 1) _ _ rfl (store2 HB.out)) rfl ?_
      exact H2.out.fin (by omega)
end Go.Proofs.YtnfgkakhdgiepaaDoor

/- The program's zeros; copy into a row of the call's own. -/
namespace Go.Proofs.YtnfgkakhdgiepaaDoor
open Go.RowKit Bs
set_option maxRecDepth 100000 in
theorem made_zero (N : Nat) : madeCells #[Value.int .u8 0] N = ((List.replicate N 0).map nv).toArray := by
  unfold madeCells
  apply Array.ext'
  rw [Array.toList_map, Array.toList_range, List.map_replicate]
  apply List.ext_getElem?
  intro i
  rw [List.getElem?_map, List.getElem?_replicate]
  by_cases h : i < N
  · rw [List.getElem?_range h, if_pos h]
    simp [nv, Nat.mod_one]
  · rw [List.getElem?_eq_none (by simpa using h), if_neg h]; rfl
/-- A stream of zero bits: its block is new. -/
def ZerosPost (n : Nat) (w : World) (e : Ending) (w' : World) : Prop :=
  ∃ g, e = .returned (.agg #[.slice (some ⟨g, 0, none⟩) ((n + 7) / 8) ((n + 7) / 8), .int .i64 (n : Int)]) ∧ w.heap.size ≤ g ∧ Blk w' g (List.replicate ((n + 7) / 8) 0) ∧ w.grownBy w' none
set_option maxRecDepth 100000 in
/-- make of bytes, as a law for the walk: the block a letter. -/
theorem wpList_make_bytes (w : World) {ops : Array Oper} {rest : List Oper} {o : Oper} {a : Act} {Q : Exit → Act → World → Prop} (hg : o.guard = none) (l c : Operand) (hop : o.op = Op.makeSlice 34 l c) (M : Nat)
    (hl : a.eval l = .int .i64 (M : Int)) (hc : a.eval c = .int .i64 (M : Int)) (hM : M ≤ 100000)
    (hK : ∀ g w', w.heap.size ≤ g → Blk w' g (List.replicate M 0) → w.grownBy w' none → wpList Tryd.prog ops Q rest (a.put o.dst (.slice (some ⟨g, 0, none⟩) M M)) w') : wpList Tryd.prog ops Q (o :: rest) a w := by
  obtain ⟨i0, hi, hz0, hz1, hz2⟩ := info_parts info_u8
  refine wpList_make_row w hg l c 34 hop 5 i0 (.int .u8 0) Tryd.underlying34 hi hz0 hz1 rfl .i64 .i64 M hl hc (by rw [hz2]; omega) (by omega) ?_
  refine hK w.heap.size _ (Nat.le_refl _) ?_ (World.grownBy_alloc w _ _)
  refine (heap_alloc_new w _).trans ?_
  rw [made_zero]
set_option maxRecDepth 100000 in
theorem zeros_fin {w w3 : World} {n M g : Nat} (hrow : w3.heap[w.heap.size]? = some (.cells #[.slice none 0 0, .int .i64 0] 91 (0, 0))) (hg : w.heap.size + 1 ≤ g) (hB : Blk w3 g (List.replicate M 0)) (hgr : w.grownBy w3 none) (hM : M = (n + 7) / 8) :
    (((w3.setCell ⟨w.heap.size, 0, none⟩ (.slice (some ⟨g, 0, none⟩) M M)).setCell ⟨w.heap.size, 1, none⟩ (.int .i64 (n : Int)))).heap[w.heap.size]? = some (.cells #[.slice (some ⟨g, 0, none⟩) M M, .int .i64 (n : Int)] 91 (0, 0)) ∧
      ZerosPost n w (.returned (.agg #[.slice (some ⟨g, 0, none⟩) M M, .int .i64 (n : Int)])) ((w3.setCell ⟨w.heap.size, 0, none⟩ (.slice (some ⟨g, 0, none⟩) M M)).setCell ⟨w.heap.size, 1, none⟩ (.int .i64 (n : Int))) := by
  subst hM
  have gr := grown_store2 w3 w.heap.size (.slice (some ⟨g, 0, none⟩) ((n + 7) / 8) ((n + 7) / 8)) (.int .i64 (n : Int))
  exact ⟨store2 hrow, g, rfl, by omega, hB.grown gr (by intro e; have := Option.some.inj e; omega), grown_new hgr gr (Nat.le_refl _)⟩
set_option maxRecDepth 100000 in
set_option maxHeartbeats 800000 in
theorem zeros_any (n : Nat) (hn : n ≤ 20000) (w : World) :
    Calls Tryd.prog 112 #[.int .i64 (n : Int)] w fun e w' => ZerosPost n w e w' := by
  obtain ⟨M, hM⟩ : ∃ M : Nat, M = (n + 7) / 8 := ⟨_, rfl⟩
  have hB := fun w => bytesFor_any n (by omega) w
  rw [← hM] at hB
  have HM := Lib.hid hM
  have hM9 : M ≤ 20000 := by omega
  clear hM
  go_enter Tryd.func112, Tryd.ntmps112
  go_wp2_with fail
  generalize hw2 : w.alloc (.cells #[.slice none 0 0, .int .i64 0] 91) = w2
  have hs : w2.heap.size = w.heap.size + 1 := by rw [← hw2]; simp
  have hrow : Hid (w2.heap[w.heap.size]? = some (.cells #[.slice none 0 0, .int .i64 0] 91 (0, 0))) := Lib.hid (by rw [← hw2]; exact heap_alloc_new w _)
  have hgw : Hid (w.grownBy w2 none) := Lib.hid (by rw [← hw2]; exact World.grownBy_alloc w _ _)
  have HS := Lib.hid hs
  clear hw2 hs
  go_wp2_with (first
    | (go_at_call 115; refine (hB _).mono ?_; rintro e w' ⟨rfl, rfl⟩)
    | (at_make; refine wpList_make_bytes _ rfl _ _ rfl M rfl rfl (by omega) ?_; intro g w3 hge hB3 hg3; have hrow3 := kept_row hrow.out hg3 (by simp); obtain ⟨r0, r1⟩ := row_cells hrow3; have g0 := frozen_of_row _ _ 0 _ _ hrow3; have g1 := frozen_of_row _ _ 1 _ _ hrow3; have HB := Lib.hid (zeros_fin (n := n) hrow3 (by rw [← HS.out]; exact hge) hB3 (grown_trans hgw.out hg3) HM.out); clear hrow3 hB3 hg3))
  refine bodyPost_ret (res_stream rfl _ _ w.heap.size _ _ rfl HB.out.1) rfl ?_
  exact HB.out.2
end Go.Proofs.YtnfgkakhdgiepaaDoor

/- Take, of the program and of the reference. -/
namespace Go.Proofs.YtnfgkakhdgiepaaDoor
open Go.RowKit Bs
/-- What Take returns. -/
def takeV (l : List Nat) (n a k : Int) : Nat × Int :=
  if vs l n = false then (0, 1) else if vw k = false then (0, 2) else if a < 0 then (0, 2) else if n - k < a then (0, 20) else (num (bt l) a.toNat k.toNat, 0)
set_option maxRecDepth 100000 in
theorem takeV_inv {l : List Nat} {n a k : Int} (h : vs l n = false) : takeV l n a k = (0, 1) := by unfold takeV; rw [if_pos h]
set_option maxRecDepth 100000 in
theorem takeV_width {l : List Nat} {n a k : Int} (h : vs l n = true) (h2 : vw k = false) : takeV l n a k = (0, 2) := by unfold takeV; rw [if_neg (by simp [h]), if_pos h2]
set_option maxRecDepth 100000 in
theorem takeV_neg {l : List Nat} {n a k : Int} (h : vs l n = true) (h2 : vw k = true) (h3 : a < 0) : takeV l n a k = (0, 2) := by unfold takeV; rw [if_neg (by simp [h]), if_neg (by simp [h2]), if_pos h3]
set_option maxRecDepth 100000 in
theorem takeV_short {l : List Nat} {n a k : Int} (h : vs l n = true) (h2 : vw k = true) (h3 : ¬ a < 0) (h4 : n - k < a) : takeV l n a k = (0, 20) := by unfold takeV; rw [if_neg (by simp [h]), if_neg (by simp [h2]), if_neg h3, if_pos h4]
set_option maxRecDepth 100000 in
theorem takeV_ok {l : List Nat} {n a k : Int} (h : vs l n = true) (h2 : vw k = true) (h3 : ¬ a < 0) (h4 : ¬ n - k < a) : takeV l n a k = (num (bt l) a.toNat k.toNat, 0) := by unfold takeV; rw [if_neg (by simp [h]), if_neg (by simp [h2]), if_neg h3, if_neg h4]
def TakePost (l : List Nat) (n a k : Int) (w : World) (e : Ending) (w' : World) : Prop := e = .returned (.tuple #[.int .u64 (((takeV l n a k).1 : Nat) : Int), .int .i64 (takeV l n a k).2]) ∧ w.grownBy w' none
set_option maxRecDepth 100000 in
theorem take_end {l : List Nat} {n a k : Int} {x : Nat} {y : Int} {w w' : World} (h : takeV l n a k = (x, y)) (g : w.grownBy w' none) : TakePost l n a k w (.returned (.tuple #[.int .u64 (x : Int), .int .i64 y])) w' := ⟨by rw [h], g⟩
set_option maxRecDepth 100000 in
theorem vw_nat {k : Int} (h : vw k = true) : ∃ K : Nat, k = (K : Int) ∧ K ≤ 64 := by
  unfold vw at h
  simp at h
  exact ⟨k.toNat, by omega, by omega⟩
set_option maxRecDepth 100000 in
theorem vs_bits {l : List Nat} {N : Nat} (h : vs l (N : Int) = true) : N ≤ 8192 ∧ l.length = (N + 7) / 8 := ⟨(vs_iff.1 h).1, (vs_iff.1 h).2.1⟩
set_option maxRecDepth 100000 in
/-- One block laid. -/
theorem one_box (w : World) (A : Array Value) (t : TypeId) : (w.alloc (.cells A t)).heap[w.heap.size]? = some (.cells A t (0, 0)) ∧ w.grownBy (w.alloc (.cells A t)) none := ⟨heap_alloc_new w _, World.grownBy_alloc w _ _⟩
set_option maxRecDepth 100000 in
set_option maxHeartbeats 1600000 in
theorem takep_any (l : List Nat) (n a k : Int) (q : Nat → Prop) (p : Option Addr) (c : Nat) (hl : By l) (ha : I64 a) (w : World) (hR : Rd w q (.slice p l.length c) (l.map nv)) :
    Calls Tryd.prog 119 #[.agg #[.slice p l.length c, .int .i64 n], .int .i64 a, .int .i64 k] w fun e w' => TakePost l n a k w e w' := by
  obtain ⟨k1, k2⟩ := one_box w #[.slice p l.length c, .int .i64 n] 91
  have H0 := Lib.hid (And.intro k1 k2)
  have hR1 := hR.keep k2
  unfold I64 at ha
  clear k1 k2 hR
  go_enter Tryd.func119, Tryd.ntmps119
  go_wp2_with fail
  generalize w.alloc (.cells #[.slice p l.length c, .int .i64 n] 91) = w1 at *
  refine (validp_any l n q p c hl _ hR1).mono ?_
  rintro e w2 ⟨rfl, hg⟩
  have hrow := kept_row H0.out.1 hg (by simp)
  obtain ⟨c0, c1⟩ := row_cells hrow
  have HG := Lib.hid (grown_trans H0.out.2 hg)
  have hR2 := hR1.keep hg
  clear hrow hg hR1 H0
  by_cases hv : vs l n = true
  · obtain ⟨N, rfl⟩ := vs_nat hv
    obtain ⟨hN, hlen⟩ := vs_bits hv
    rw [hv]
    by_cases hw : vw k = true
    · obtain ⟨K, rfl, hK⟩ := vw_nat hw
      by_cases h3 : a < 0
      · have V := Lib.hid (takeV_neg hv hw h3)
        clear hv hlen
        go_wp2_with (go_at_call 111; refine (width_any _ _).mono ?_; rintro e w' ⟨rfl, rfl⟩; rw [hw])
        go_ret2
        exact take_end V.out HG.out
      · by_cases h4 : (N : Int) - (K : Int) < a
        · have V := Lib.hid (takeV_short hv hw h3 h4)
          clear hv hlen
          go_wp2_with (go_at_call 111; refine (width_any _ _).mono ?_; rintro e w' ⟨rfl, rfl⟩; rw [hw])
          go_ret2
          exact take_end V.out HG.out
        · have V := Lib.hid (takeV_ok hv hw h3 h4)
          obtain ⟨A, rfl⟩ := Int.eq_ofNat_of_zero_le (show 0 ≤ a by omega)
          have C := read_any l q p c A K hl (by omega) (by omega) hK w2 hR2
          have H1 := Lib.hid C
          clear hv hlen C
          go_wp2_with (first
            | (go_at_call 111; refine (width_any _ _).mono ?_; rintro e w' ⟨rfl, rfl⟩; rw [hw])
            | (go_at_call 127; refine H1.out.mono ?_; rintro e w' ⟨rfl, m, rfl⟩))
          go_ret2
          exact take_end V.out (grown_trans HG.out (grown_drewN _ _ _))
    · have hw0 : vw k = false := by simpa using hw
      have V := Lib.hid (takeV_width (a := a) hv hw0)
      clear hv hlen
      go_wp2_with (go_at_call 111; refine (width_any _ _).mono ?_; rintro e w' ⟨rfl, rfl⟩; rw [hw0])
      go_ret2
      exact take_end V.out HG.out
  · have hv0 : vs l n = false := by simpa using hv
    have V := Lib.hid (takeV_inv (a := a) (k := k) hv0)
    rw [hv0]
    go_wp2_with fail
    go_ret2
    exact take_end V.out HG.out
set_option maxRecDepth 100000 in
theorem tk_word (v b : Nat) (hb : b ≤ 1) (hv : v * 2 + 2 ≤ 18446744073709551616) : bits .or .u64 (IntKind.u64.wrap ((v : Int) * 2)) (b : Int) = ((2 * v + b : Nat) : Int) := by
  rw [show IntKind.u64.wrap ((v : Int) * 2) = ((v * 2 : Nat) : Int) by rw [IntKind.wrap_u64]; omega, orU _ _ (u64_mk (by omega)) (u64_mk (by omega))]
  rw [nat_join 1 (v * 2) b (by omega) (by omega)]
  congr 1; omega
set_option maxRecDepth 100000 in
theorem tk_step {l : List Nat} {a j : Nat} (hj : j < 64) : bits .or .u64 (IntKind.u64.wrap (((num (bt l) a j : Nat) : Int) * 2)) (((bt l (a + j)).toNat : Nat) : Int) = ((num (bt l) a (j + 1) : Nat) : Int) := by
  have h1 := num_lt (bt l) a j
  have h2 : 2 ^ (j + 1) ≤ 2 ^ 64 := Nat.pow_le_pow_right (by decide) hj
  rw [Nat.pow_succ] at h2
  rw [tk_word _ _ (Bool.toNat_le _) (by have h3 : (2 : Nat) ^ 64 = 18446744073709551616 := rfl; omega)]
  rfl
set_option maxRecDepth 100000 in
set_option maxHeartbeats 1600000 in
theorem taker_any (l : List Nat) (n a k : Int) (q : Nat → Prop) (p : Option Addr) (c : Nat) (hl : By l) (ha : I64 a) (w : World) (hq : ∀ b, q b → b < w.heap.size) (hR : Rd w q (.slice p l.length c) (l.map nv)) :
    Calls Tryd.prog 84 #[.agg #[.slice p l.length c, .int .i64 n], .int .i64 a, .int .i64 k] w fun e w' => TakePost l n a k w e w' := by
  obtain ⟨k1, k2⟩ := one_box w #[.slice p l.length c, .int .i64 n] 91
  have H0 := Lib.hid (And.intro k1 k2)
  have hR1 := hR.keep k2
  have hq1 : ∀ b, q b → b < (w.alloc (.cells #[.slice p l.length c, .int .i64 n] 91)).heap.size := fun b hb => Nat.lt_of_lt_of_le (hq b hb) k2.size
  unfold I64 at ha
  clear k1 k2 hR
  go_enter Tryd.func84, Tryd.ntmps84
  go_wp2_with fail
  generalize w.alloc (.cells #[.slice p l.length c, .int .i64 n] 91) = w1 at *
  refine (validr_any l n q p c hl _ hq1 hR1).mono ?_
  rintro e w2 ⟨rfl, hg⟩
  have hrow := kept_row H0.out.1 hg (by simp)
  obtain ⟨c0, c1⟩ := row_cells hrow
  have HG := Lib.hid (grown_trans H0.out.2 hg)
  have hR2 := hR1.keep hg
  clear hrow hg hR1 H0 hq1
  by_cases hv : vs l n = true
  · obtain ⟨N, rfl⟩ := vs_nat hv
    obtain ⟨hN, hlen⟩ := vs_bits hv
    rw [hv]
    by_cases hw : vw k = true
    · obtain ⟨K, rfl, hK⟩ := vw_nat hw
      by_cases h3 : a < 0
      · have V := Lib.hid (takeV_neg hv hw h3)
        clear hv hlen hw
        go_wp2_with fail
        go_ret2
        exact take_end V.out HG.out
      · by_cases h4 : (N : Int) - (K : Int) < a
        · have V := Lib.hid (takeV_short hv hw h3 h4)
          clear hv hlen hw
          go_wp2_with fail
          go_ret2
          exact take_end V.out HG.out
        · have V := Lib.hid (takeV_ok hv hw h3 h4)
          obtain ⟨A, rfl⟩ := Int.eq_ofNat_of_zero_le (show 0 ≤ a by omega)
          have hA : A ≤ 8192 := by omega
          have hAK : A + K ≤ 8 * l.length := by omega
          rw [Int.toNat_natCast, Int.toNat_natCast] at V
          clear hv hw hlen
          go_wp2_with fail
          go_loop [8, 9] (fun x i => ∃ j : Nat, j ≤ K ∧ i = .int .i64 ((A + j : Nat) : Int) ∧ x = .int .u64 ((num (bt l) A j : Nat) : Int)) (fun _ i => (A + K - (intOf i).toNat))
          case atStart => exact ⟨0, Nat.zero_le _, rfl, rfl⟩
          case round =>
            obtain ⟨j, hj, rfl, rfl⟩ := hrel
            by_cases hlt : j < K
            · have C := bitr_any l (A + j) q p c hl (by omega) (by omega) w2 hR2
              unfold bw at C
              have H1 := Lib.hid C
              have S := Lib.hid (tk_step (l := l) (a := A) (j := j) (by omega))
              have hAj : A + j ≤ 9000 := by omega
              clear C
              generalize (bt l (A + j)).toNat = x at *
              generalize num (bt l) A j = y at *
              go_wp2_with (go_at_call 118; refine H1.out.mono ?_; rintro e w' ⟨rfl, rfl⟩)
              go_round
              case rel => exact ⟨j + 1, by omega, by simp; omega, by rw [S.out]⟩
              case measure => simp [intOf]; omega
            · obtain rfl : j = K := by omega
              go_wp2_with fail
              go_ret2
              exact take_end V.out HG.out
    · have hw0 : vw k = false := by simpa using hw
      have V := Lib.hid (takeV_width (a := a) hv hw0)
      have hk : k < 0 ∨ 64 < k := by unfold vw at hw0; simp at hw0; omega
      clear hv hlen hw hw0
      rcases hk with hk | hk
      · go_wp2_with fail
        go_ret2
        exact take_end V.out HG.out
      · have hk0 : ¬ k < 0 := by omega
        go_wp2_with fail
        go_ret2
        exact take_end V.out HG.out
  · have hv0 : vs l n = false := by simpa using hv
    have V := Lib.hid (takeV_inv (a := a) (k := k) hv0)
    rw [hv0]
    go_wp2_with fail
    go_ret2
    exact take_end V.out HG.out
end Go.Proofs.YtnfgkakhdgiepaaDoor

/- The program's Append. -/
namespace Go.Proofs.YtnfgkakhdgiepaaDoor
open Go.RowKit Bs
/-- The bits of a stream, then the k lowest bits of v. -/
def apf (l : List Nat) (N v K : Nat) : Nat → Bool := fun i => if i < N then bt l i else v.testBit (K - 1 - (i - N))
/-- What Append returns: the bytes, the number of bits, the error. -/
def apV (l : List Nat) (n : Int) (v : Nat) (k : Int) : List Nat × Int × Int :=
  if vs l n = false then ([], 0, 1) else if vw k = false then ([], 0, 2) else if 2 ^ k.toNat ≤ v then ([], 0, 2) else if 8192 < n + k then ([], 0, 3) else
    (pz (apf l n.toNat v k.toNat) (n.toNat + k.toNat) ((n.toNat + k.toNat + 7) / 8), n + k, 0)
set_option maxRecDepth 100000 in
theorem apV_inv {l : List Nat} {n k : Int} {v : Nat} (h : vs l n = false) : apV l n v k = ([], 0, 1) := by unfold apV; rw [if_pos h]
set_option maxRecDepth 100000 in
theorem apV_width {l : List Nat} {n k : Int} {v : Nat} (h : vs l n = true) (h2 : vw k = false) : apV l n v k = ([], 0, 2) := by unfold apV; rw [if_neg (by simp [h]), if_pos h2]
set_option maxRecDepth 100000 in
theorem apV_value {l : List Nat} {n : Int} {K v : Nat} (h : vs l n = true) (h2 : vw (K : Int) = true) (h3 : 2 ^ K ≤ v) : apV l n v (K : Int) = ([], 0, 2) := by unfold apV; rw [if_neg (by simp [h]), if_neg (by simp [h2]), Int.toNat_natCast, if_pos h3]
set_option maxRecDepth 100000 in
theorem apV_limit {l : List Nat} {N K v : Nat} (h : vs l (N : Int) = true) (h2 : vw (K : Int) = true) (h3 : ¬ 2 ^ K ≤ v) (h4 : 8192 < N + K) : apV l (N : Int) v (K : Int) = ([], 0, 3) := by
  unfold apV; rw [if_neg (by simp [h]), if_neg (by simp [h2]), Int.toNat_natCast, if_neg h3, if_pos (by omega)]
set_option maxRecDepth 100000 in
theorem apV_ok {l : List Nat} {N K v : Nat} (h : vs l (N : Int) = true) (h2 : vw (K : Int) = true) (h3 : ¬ 2 ^ K ≤ v) (h4 : ¬ 8192 < N + K) : apV l (N : Int) v (K : Int) = (pz (apf l N v K) (N + K) ((N + K + 7) / 8), ((N + K : Nat) : Int), 0) := by
  unfold apV; rw [if_neg (by simp [h]), if_neg (by simp [h2]), Int.toNat_natCast, Int.toNat_natCast, if_neg h3, if_neg (by omega)]; rfl
/-- A stream and an error come back. -/
def SPost (r : List Nat × Int × Int) (w : World) (e : Ending) (w' : World) : Prop := StreamErr r.1 r.2.1 r.2.2 w e w'
set_option maxRecDepth 100000 in
theorem SPost.of {r : List Nat × Int × Int} {l : List Nat} {n x : Int} {w w' : World} {e : Ending} (h : r = (l, n, x)) (k : StreamErr l n x w e w') : SPost r w e w' := by subst h; exact k
set_option maxRecDepth 100000 in
theorem sr_nil (w : World) (q : Nat → Prop) (n : Int) : SR w q (.agg #[.slice none 0 0, .int .i64 n]) [] n := ⟨none, 0, rfl, Rd.nil_ _ _ _ _, fun _ => rfl, fun x hx => by cases hx⟩
set_option maxRecDepth 100000 in
theorem err_end {w w2 : World} {b : Nat} {x : Int} (h : w.grownBy w2 none) (hb : w.heap.size ≤ b) : StreamErr [] 0 x w (.returned (.tuple #[.agg #[.slice none 0 0, .int .i64 0], .int .i64 x])) ((w2.setCell ⟨b, 0, none⟩ (.slice none 0 0)).setCell ⟨b, 1, none⟩ (.int .i64 0)) :=
  ⟨_, rfl, sr_nil _ _ _, grown_new h (grown_store2 w2 b _ _) hb⟩
set_option maxRecDepth 100000 in
/-- copy into a block of the call's own. -/
theorem wpList_copy_into {w : World} {ops : Array Oper} {rest : List Oper} {o : Oper} {a : Act} {Q : Exit → Act → World → Prop} (hgd : o.guard = none) (d s : Operand)
    (ho : o.op = .call { callee := .builtin .copy, args := #[d, s], argTypes := #[34, 34] }) (g N c : Nat) (hd : a.eval d = .slice (some ⟨g, 0, none⟩) N c) (p : Option Addr) (k c' : Nat) (hs : a.eval s = .slice p k c')
    (L : List Nat) (hB : Blk w g L) (hL : L.length = N) (l : List Nat) (hk : k = l.length) (q : Nat → Prop) (hR : Rd w q (.slice p k c') (l.map nv)) (hle : l.length ≤ N)
    (h : ∀ w', Blk w' g (l ++ L.drop l.length) → w.grownBy w' (some g) → wpList Tryd.prog ops Q rest (a.put o.dst (goInt l.length)) w') : wpList Tryd.prog ops Q (o :: rest) a w := by
  subst hk
  have hsz : (Tryd.prog.info? 5).map (·.size) = some 1 := by
    obtain ⟨i0, hi, hz0, hz1, hz2⟩ := info_parts info_u8
    rw [hi]; simp [hz1]
  by_cases h0 : l = []
  · subst h0
    refine wpList_copy_nothing hgd d s 34 34 ho 5 Tryd.underlying34 hsz _ _ _ _ _ _ hd hs (by simp) ?_
    exact h w (by simpa using hB) (grown_refl _ _)
  · obtain ⟨p1, c1, e1, hx⟩ := id hR
    injection e1 with a1 a2 a3
    subst a1
    obtain ⟨b, off, rfl, _, _⟩ := hx (by simpa using h0)
    have hBl : w.heap[g]? = some (.cells (L.map nv).toArray 5 (0, 0)) := hB
    refine wpList_copy_own hgd d s 34 34 ho 5 Tryd.underlying34 hsz g 0 N c ⟨b, off, none⟩ l.length c' hd hs _ _ hBl (l.map nv) (by rw [List.length_map]; exact (Nat.min_eq_left hle).symm) hR.news (by simp; omega) nv_one ?_
    rw [List.length_map]
    refine h _ ?_ ⟨rfl, rfl, rfl, by simp [World.setRow], fun k _ hk => setRow_other _ _ _ _ (by intro e; exact hk (by rw [e]))⟩
    refine (setRow_heap w g _ _ _ _ hBl).trans ?_
    congr 2
    simp [List.map_drop]
set_option maxRecDepth 100000 in
theorem pz_copy {l : List Nat} {N M : Nat} {f : Nat → Bool} (hl : By l) (hv : vs l (N : Int) = true) (hM : l.length ≤ M) (hf : ∀ i, i < N → f i = bt l i) : l ++ (List.replicate M 0).drop l.length = pz f N M := by
  obtain ⟨h1, h2, h3⟩ := vs_iff.1 hv
  have e := pz_bt l N hl fun i hi hi2 => h3 i hi2 hi
  apply List.ext_getElem?
  intro j
  by_cases hj : j < M
  · rw [pz_at _ _ _ _ hj]
    by_cases hjl : j < l.length
    · rw [List.getElem?_append_left hjl]
      have e2 : l[j]? = (pz (bt l) N l.length)[j]? := congrArg (fun x : List Nat => x[j]?) e
      rw [e2, pz_at _ _ _ _ hjl]
      refine congrArg some (py_congr fun i _ _ => ?_)
      by_cases hi : i < N
      · rw [hf i hi]
      · simp [hi]
    · rw [List.getElem?_append_right (by omega), List.getElem?_drop, List.getElem?_replicate, if_pos (by omega), py_zero f (by omega)]
  · rw [List.getElem?_eq_none (by simp; omega), List.getElem?_eq_none (by rw [pz_len]; omega)]
set_option maxRecDepth 100000 in
theorem ok_end {w w6 : World} {b g M : Nat} {L : List Nat} {T : Int} (hB : Blk w6 g L) (hM : M = L.length) (hL : By L) (hg : w.heap.size ≤ g) (h : w.grownBy w6 none) (hb : w.heap.size ≤ b) (hne : b ≠ g) :
    StreamErr L T 0 w (.returned (.tuple #[.agg #[.slice (some ⟨g, 0, none⟩) M M, .int .i64 T], .int .i64 0])) ((w6.setCell ⟨b, 0, none⟩ (.slice (some ⟨g, 0, none⟩) M M)).setCell ⟨b, 1, none⟩ (.int .i64 T)) := by
  subst hM
  have gr := grown_store2 w6 b (.slice (some ⟨g, 0, none⟩) L.length L.length) (.int .i64 T)
  refine ⟨_, rfl, ⟨some ⟨g, 0, none⟩, L.length, rfl, ?_, (by intro e; cases e), hL⟩, grown_new h gr hb⟩
  exact (hB.grown gr (by intro e; exact hne (Option.some.inj e).symm)).rd _ hg _
/-- Zeros' struct has been laid into a block of its own. -/
structure Made (W : World) (g M : Nat) (T : Int) (L : List Nat) (t : Nat) (w' : World) : Prop where
  blk : Blk w' g L
  row : w'.heap[t]? = some (.cells #[.slice (some ⟨g, 0, none⟩) M M, .int .i64 T] 91 (0, 0))
  gr : W.grownBy w' none
  ne : t ≠ g
  lo : W.heap.size ≤ g
set_option maxRecDepth 100000 in
theorem made_of {W w3 : World} {g M : Nat} {T : Int} {L : List Nat} (hB : Blk w3 g L) (hg : W.heap.size ≤ g) (h : W.grownBy w3 none) :
    Made W g M T L w3.heap.size (w3.alloc (.cells #[.slice (some ⟨g, 0, none⟩) M M, .int .i64 T] 91)) := by
  have hlt := hB.lt
  exact ⟨hB.keep (World.grownBy_alloc w3 _ _), heap_alloc_new w3 _, grown_trans h (World.grownBy_alloc w3 _ _), by omega, hg⟩
set_option maxRecDepth 100000 in
theorem grown_at {W w1 w2 : World} {g : Nat} (h : W.grownBy w1 none) (k : w1.grownBy w2 (some g)) (hb : W.heap.size ≤ g) : W.grownBy w2 none := grown_new h k hb
set_option maxRecDepth 100000 in
theorem Made.next {W w1 w2 : World} {g M t : Nat} {T : Int} {L L' : List Nat} (h : Made W g M T L t w1) (k : w1.grownBy w2 (some g)) (hB : Blk w2 g L') : Made W g M T L' t w2 :=
  ⟨hB, kept_row h.row k (by intro e; exact h.ne (Option.some.inj e)), grown_at h.gr k h.lo, h.ne, h.lo⟩
set_option maxRecDepth 100000 in
theorem apf_low {l : List Nat} {N v K : Nat} : ∀ i, i < N → apf l N v K i = bt l i := fun i hi => by unfold apf; rw [if_pos hi]
set_option maxRecDepth 100000 in
theorem apf_high {l : List Nat} {N v K : Nat} : ∀ t, t < K → apf l N v K (N + t) = v.testBit (K - 1 - t) := fun t _ => by
  unfold apf; rw [if_neg (by omega), show N + t - N = t by omega]
set_option maxRecDepth 100000 in
set_option maxHeartbeats 3200000 in
theorem appendp_any (l : List Nat) (n : Int) (v : Nat) (k : Int) (q : Nat → Prop) (p : Option Addr) (c : Nat) (hl : By l) (hv64 : U64 v) (w : World) (hq : ∀ b, q b → b < w.heap.size) (hR : Rd w q (.slice p l.length c) (l.map nv)) :
    Calls Tryd.prog 69 #[.agg #[.slice p l.length c, .int .i64 n], .int .u64 (v : Int), .int .i64 k] w fun e w' => SPost (apV l n v k) w e w' := by
  obtain ⟨k1, k2, k3, k4⟩ := two_boxes w #[.slice p l.length c, .int .i64 n] #[.slice none 0 0, .int .i64 0] 91 91
  have H0 := Lib.hid (And.intro k1 (And.intro k2 (And.intro k3 k4)))
  have hR1 := hR.keep k3
  clear k1 k2 k3 k4 hR
  go_enter Tryd.func69, Tryd.ntmps69
  go_wp2_with fail
  generalize (w.alloc (.cells #[.slice p l.length c, .int .i64 n] 91)).alloc (.cells #[.slice none 0 0, .int .i64 0] 91) = w1 at *
  refine (validp_any l n q p c hl _ hR1).mono ?_
  rintro e w2 ⟨rfl, hg⟩
  have hrow := kept_row H0.out.1 hg (by simp)
  have hres := kept_row H0.out.2.1 hg (by simp)
  obtain ⟨c0, c1⟩ := row_cells hrow
  obtain ⟨r0, r1⟩ := row_cells hres
  have g0 := frozen_of_row _ _ 0 _ _ hres
  have g1 := frozen_of_row _ _ 1 _ _ hres
  have HG := Lib.hid (grown_trans H0.out.2.2.1 hg)
  have HRES := Lib.hid hres
  have HROW := Lib.hid hrow
  have HSZ : Hid (w.heap.size + 2 ≤ w2.heap.size) := Lib.hid (by rw [← H0.out.2.2.2]; exact hg.size)
  have hR2 := hR1.keep hg
  clear hrow hres hg hR1 H0
  by_cases hv : vs l n = true
  · obtain ⟨N, rfl⟩ := vs_nat hv
    obtain ⟨hN, hlen⟩ := vs_bits hv
    rw [hv]
    by_cases hw : vw k = true
    · obtain ⟨K, rfl, hK⟩ := vw_nat hw
      have hKu : (K : Int) < 65 := by omega
      by_cases h3 : 2 ^ K ≤ v
      · have V := Lib.hid (apV_value hv hw h3)
        have hne : ((v : Int) / 2 ^ K == 0) = false := by
          rw [shrW]
          have := Nat.div_pos h3 (Nat.pow_pos (by decide))
          generalize v / 2 ^ K = z at *
          simp; omega
        clear hv hlen
        go_wp2_with (go_at_call 111; refine (width_any _ _).mono ?_; rintro e w' ⟨rfl, rfl⟩; rw [hw])
        refine bodyPost_ret (res_stream_err rfl _ _ (w.heap.size + 1) _ _ rfl (store2 HRES.out)) rfl ?_
        exact SPost.of V.out (err_end HG.out (by omega))
      · have hz : (v : Int) / 2 ^ K = 0 := by
          rw [shrW, Nat.div_eq_of_lt (by omega)]; rfl
        by_cases h4 : 8192 < N + K
        · have V := Lib.hid (apV_limit hv hw h3 h4)
          have h4' : (8192 : Int) < (N : Int) + (K : Int) := by omega
          clear hv hlen
          go_wp2_with (go_at_call 111; refine (width_any _ _).mono ?_; rintro e w' ⟨rfl, rfl⟩; rw [hw])
          refine bodyPost_ret (res_stream_err rfl _ _ (w.heap.size + 1) _ _ rfl (store2 HRES.out)) rfl ?_
          exact SPost.of V.out (err_end HG.out (by omega))
        · have V := Lib.hid (apV_ok hv hw h3 h4)
          have h4' : ¬ (8192 : Int) < (N : Int) + (K : Int) := by omega
          obtain ⟨T, hT⟩ : ∃ T : Nat, N + K = T := ⟨_, rfl⟩
          have hTi : (N : Int) + (K : Int) = (T : Int) := by omega
          have hT8 : T ≤ 8192 := by omega
          have C := zeros_any T (by omega) w2
          unfold ZerosPost at C
          generalize hM : (T + 7) / 8 = M at C
          have H1 := Lib.hid C
          have HM := Lib.hid hM
          have HT := Lib.hid hT
          have HL := Lib.hid hlen
          have HV := Lib.hid hv
          clear hv hlen C hM hT
          go_wp2_with (go_at_call 111; refine (width_any _ _).mono ?_; rintro e w' ⟨rfl, rfl⟩; rw [hw])
          refine H1.out.mono ?_
          rintro e w3 ⟨g, rfl, hgg, hB3, hg3⟩
          have hrow := kept_row HROW.out hg3 (by simp)
          have hres := kept_row HRES.out hg3 (by simp)
          obtain ⟨c0, c1⟩ := row_cells hrow
          obtain ⟨r0, r1⟩ := row_cells hres
          have g0 := frozen_of_row _ _ 0 _ _ hres
          have g1 := frozen_of_row _ _ 1 _ _ hres
          have hgne : ∀ b, q b → some b ≠ some g := fun b hb e => by have := hq b hb; have := Option.some.inj e; have := HG.out.size; omega
          have M4 := Lib.hid (made_of (W := w) (M := M) (T := (T : Int)) hB3 (by have := HG.out.size; omega) (grown_trans HG.out hg3))
          have hR4 := (hR2.keep hg3).keep (World.grownBy_alloc w3 (.cells #[.slice (some ⟨g, 0, none⟩) M M, .int .i64 (T : Int)] 91) none)
          have HR4 := Lib.hid hR4
          have n1 : ¬ w.heap.size = w3.heap.size := by have := HSZ.out; have := hg3.size; omega
          have n2 : w.heap.size ≠ w3.heap.size := n1
          have n3 : w.heap.size < w3.heap.size := by have := HSZ.out; have := hg3.size; omega
          have hgw : w.heap.size + 2 ≤ g := by have := HSZ.out; omega
          have HRES3 := Lib.hid (kept_row hres (World.grownBy_alloc w3 (.cells #[.slice (some ⟨g, 0, none⟩) M M, .int .i64 (T : Int)] 91) none) (by simp))
          have HROW3 := Lib.hid (kept_row hrow (World.grownBy_alloc w3 (.cells #[.slice (some ⟨g, 0, none⟩) M M, .int .i64 (T : Int)] 91) none) (by simp))
          clear hR4 hB3 hrow hres H1 hR2
          go_wp2_with (first
            | (refine wpList_copy_into rfl _ _ rfl g M M rfl p l.length c rfl (List.replicate M 0) M4.out.blk (by simp) l rfl q HR4.out (by have := HM.out; have := HL.out; have := HT.out; omega) ?_; intro w5 hB5 hg5; rw [pz_copy (f := apf l N v K) hl HV.out (by have := HM.out; have := HL.out; have := HT.out; omega) apf_low] at hB5; have M5 := Lib.hid (M4.out.next hg5 hB5); have HR5 := Lib.hid (kept_row HRES3.out hg5 (by intro e; have := Option.some.inj e; omega)); obtain ⟨d0, d1⟩ := row_cells (kept_row HROW3.out hg5 (by intro e; have := Option.some.inj e; omega)); obtain ⟨e0, e1⟩ := row_cells M5.out.row; clear hB5 hg5)
            | (go_at_call 113; refine (write_any (apf l N v K) M g M N K v (by have := HM.out; omega) (by have := HM.out; have := HT.out; omega) hK hv64 apf_high _ M5.out.blk).mono ?_; rintro e w6 ⟨rfl, hw6⟩; have M6 := Lib.hid (M5.out.next hw6.2 hw6.1); have HR6 := Lib.hid (kept_row HR5.out hw6.2 (by intro e; have := Option.some.inj e; omega)); obtain ⟨f0, f1⟩ := row_cells M6.out.row; obtain ⟨r0, r1⟩ := row_cells HR6.out; have g0 := frozen_of_row _ _ 0 _ _ HR6.out; have g1 := frozen_of_row _ _ 1 _ _ HR6.out; clear hw6))
          refine bodyPost_ret (res_stream_err rfl _ _ (w.heap.size + 1) _ _ rfl (store2 HR6.out)) rfl ?_
          refine SPost.of V.out ?_
          rw [HT.out, HM.out]
          have M6' := M6.out
          rw [HT.out] at M6'
          exact ok_end M6'.blk (by rw [pz_len]) (pz_lt _ _ _) M6'.lo M6'.gr (by omega) (by omega)
    · have hw0 : vw k = false := by simpa using hw
      have V := Lib.hid (apV_width (v := v) hv hw0)
      clear hv hlen
      go_wp2_with (go_at_call 111; refine (width_any _ _).mono ?_; rintro e w' ⟨rfl, rfl⟩; rw [hw0])
      refine bodyPost_ret (res_stream_err rfl _ _ (w.heap.size + 1) _ _ rfl (store2 HRES.out)) rfl ?_
      exact SPost.of V.out (err_end HG.out (by omega))
  · have hv0 : vs l n = false := by simpa using hv
    have V := Lib.hid (apV_inv (v := v) (k := k) hv0)
    rw [hv0]
    go_wp2_with fail
    refine bodyPost_ret (res_stream_err rfl _ _ (w.heap.size + 1) _ _ rfl (store2 HRES.out)) rfl ?_
    exact SPost.of V.out (err_end HG.out (by omega))
end Go.Proofs.YtnfgkakhdgiepaaDoor
