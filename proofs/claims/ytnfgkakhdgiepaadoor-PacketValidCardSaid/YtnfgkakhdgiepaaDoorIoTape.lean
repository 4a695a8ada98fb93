/- Both. -/
import Derived.Test.YtnfgkakhdgiepaaDoorIoLeaf
namespace Go.Proofs.YtnfgkakhdgiepaaDoor
open Go.RowKit Bs

/-- A slice value of n ints, its cells in a block ahead of block a. -/
def IntsV (w : World) (a : Nat) (v : Value) (n : Nat) : Prop :=
  ∃ p c, v = .slice p n c ∧ (0 < n → ∃ b off, p = some ⟨b, off, none⟩ ∧ b < a ∧ ∀ i, i < n → ∃ x, I64 x ∧ w.cell? ⟨b, off + i, none⟩ = some (.int .i64 x))
/-- Block a is a tape. -/
structure TapeOf (w : World) (a : Nat) (v : Value) (n i : Nat) : Prop where
  l : w.cell? ⟨a, 0, none⟩ = some v
  p : w.cell? ⟨a, 1, none⟩ = some (.int .i64 (i : Int))
  fr : w.frozen? ⟨a, 1, none⟩ = false
  ints : IntsV w a v n
  le : i ≤ n
  len : n ≤ 600
def Tp (w : World) (a : Nat) : Prop := ∃ v n i, TapeOf w a v n i
/-- From w to w' the tape's block alone has changed, and blocks have come. -/
def St (a : Nat) (w w' : World) : Prop := w.grownBy w' (some a) ∧ Tp w' a
def IntPost (P : Int → Prop) (a : Nat) (w : World) (e : Ending) (w' : World) : Prop := ∃ r, e = .returned (.int .i64 r) ∧ P r ∧ St a w w'

set_option maxRecDepth 100000 in
theorem grown_refl (w : World) (r : Option Nat) : w.grownBy w r := ⟨rfl, rfl, rfl, Nat.le_refl _, fun _ _ _ => rfl⟩
set_option maxRecDepth 100000 in
theorem grown_trans {w0 w1 w2 : World} {r : Option Nat} (h : w0.grownBy w1 r) (k : w1.grownBy w2 r) : w0.grownBy w2 r :=
  ⟨k.os.trans h.os, k.tape.trans h.tape, k.output.trans h.output, Nat.le_trans h.size k.size, fun b hb hr => (k.block b (Nat.lt_of_lt_of_le hb h.size) hr).trans (h.block b hb hr)⟩
set_option maxRecDepth 100000 in
theorem grown_none {w0 w1 : World} (h : w0.grownBy w1 none) (r : Option Nat) : w0.grownBy w1 r :=
  ⟨h.os, h.tape, h.output, h.size, fun b hb _ => h.block b hb (by simp)⟩
set_option maxRecDepth 100000 in
theorem grown_drewN (w : World) (n : Nat) (r : Option Nat) : w.grownBy (w.drewN n) r := ⟨rfl, rfl, rfl, Nat.le_refl _, fun _ _ _ => rfl⟩
set_option maxRecDepth 100000 in
theorem grown_setCell (w : World) (p : Addr) (u : Value) : w.grownBy (w.setCell p u) (some p.block) :=
  ⟨rfl, rfl, rfl, by simp [World.setCell], fun k _ hk => Below.heap_setCell _ _ _ _ (by simpa using hk)⟩
set_option maxRecDepth 100000 in
theorem St.trans {a : Nat} {w0 w1 w2 : World} (h : St a w0 w1) (k : St a w1 w2) : St a w0 w2 := ⟨grown_trans h.1 k.1, k.2⟩
set_option maxRecDepth 100000 in
theorem IntsV.grown {w w' : World} {a n : Nat} {v : Value} (h : IntsV w a v n) (g : w.grownBy w' (some a)) : IntsV w' a v n := by
  obtain ⟨p, c, hv, hc⟩ := h
  refine ⟨p, c, hv, fun hn => ?_⟩
  obtain ⟨b, off, hp, hb, hx⟩ := hc hn
  refine ⟨b, off, hp, hb, fun i hi => ?_⟩
  obtain ⟨x, hx, hcell⟩ := hx i hi
  exact ⟨x, hx, g.cell hcell (by simp; omega)⟩

set_option maxRecDepth 100000 in
set_option maxHeartbeats 400000 in
theorem raw_end (a : Nat) (p : Option Addr) (n c i : Nat) (w : World) (h1 : w.cell? ⟨a, 0, none⟩ = some (.slice p n c)) (h2 : w.cell? ⟨a, 1, none⟩ = some (.int .i64 (i : Int))) (h : n ≤ i) :
    Calls Tryd.prog 79 #[.pointer (some ⟨a, 0, none⟩)] w fun e w' => e = .returned (.int .i64 0) ∧ ∃ nq, w' = w.drewN nq := by
  go_enter Tryd.func79, Tryd.ntmps79
  go_wp2
  go_quiet (fail)
  go_wp2
  go_ret
  exact ⟨rfl, _, rfl⟩
set_option maxRecDepth 100000 in
set_option maxHeartbeats 400000 in
theorem raw_step (a b off n c i : Nat) (x : Int) (w : World) (h1 : w.cell? ⟨a, 0, none⟩ = some (.slice (some ⟨b, off, none⟩) n c)) (h2 : w.cell? ⟨a, 1, none⟩ = some (.int .i64 (i : Int)))
    (hf : w.frozen? ⟨a, 1, none⟩ = false) (hba : b ≠ a) (hx : w.cell? ⟨b, off + i, none⟩ = some (.int .i64 x)) (h : i < n) (hn : n ≤ 600) :
    Calls Tryd.prog 79 #[.pointer (some ⟨a, 0, none⟩)] w fun e w' => e = .returned (.int .i64 x) ∧ ∃ m q, w' = ((w.drewN m).setCell ⟨a, 1, none⟩ (.int .i64 ((i : Int) + 1))).drewN q := by
  go_enter Tryd.func79, Tryd.ntmps79
  go_wp2
  go_quiet (fail)
  go_wp2
  go_quiet (fail)
  go_wp2
  go_ret
  exact ⟨rfl, _, _, rfl⟩
set_option maxRecDepth 100000 in
theorem raw_any (a : Nat) (w : World) (hT : Tp w a) :
    Calls Tryd.prog 79 #[.pointer (some ⟨a, 0, none⟩)] w fun e w' => IntPost I64 a w e w' := by
  obtain ⟨v, n, i, T⟩ := hT
  have zero : I64 0 := by unfold I64; omega
  have keep : ∀ nq, St a w (w.drewN nq) := fun nq =>
    ⟨grown_drewN w nq _, v, n, i, T.l, T.p, T.fr, T.ints.grown (grown_drewN w nq _), T.le, T.len⟩
  obtain ⟨p, c, rfl, hc⟩ := T.ints
  by_cases hlt : i < n
  · obtain ⟨b, off, rfl, hb, hx⟩ := hc (by omega)
    obtain ⟨x, hx, hcell⟩ := hx i hlt
    refine (raw_step a b off n c i x w T.l T.p T.fr (Nat.ne_of_lt hb) hcell hlt T.len).mono ?_
    rintro e w' ⟨rfl, m, q, rfl⟩
    have g : w.grownBy (((w.drewN m).setCell ⟨a, 1, none⟩ (.int .i64 ((i : Int) + 1))).drewN q) (some a) :=
      grown_trans (grown_trans (grown_drewN w m _) (grown_setCell _ ⟨a, 1, none⟩ _)) (grown_drewN _ q _)
    refine ⟨x, rfl, hx, g, .slice (some ⟨b, off, none⟩) n c, n, i + 1, ?_, ?_, ?_, T.ints.grown g, hlt, T.len⟩
    · exact (World.cell?_setCell_other (w.drewN m) ⟨a, 1, none⟩ ⟨a, 0, none⟩ _ (by simp)).trans T.l
    · exact World.cell?_setCell_same' (w.drewN m) ⟨a, 1, none⟩ _ (by rw [show (w.drewN m).cell? ⟨a, 1, none⟩ = _ from T.p]; rfl)
    · exact (World.frozen?_setCell (w.drewN m) ⟨a, 1, none⟩ ⟨a, 1, none⟩ _).trans T.fr
  · refine (raw_end a p n c i w T.l T.p (by omega)).mono ?_
    rintro e w' ⟨rfl, nq, rfl⟩
    exact ⟨0, rfl, zero, keep nq⟩

def NewPost (w : World) (e : Ending) (w' : World) : Prop := e = .returned (.pointer (some ⟨w.heap.size, 0, none⟩)) ∧ w.grownBy w' none ∧ Tp w' w.heap.size
set_option maxRecDepth 100000 in
set_option maxHeartbeats 400000 in
theorem new_some (p : Option Addr) (n c : Nat) (w : World) (hn : n ≤ 600) (hcm : c ≤ 9223372036854775807) :
    Calls Tryd.prog 14 #[.slice p n c] w fun e w' => e = .returned (.pointer (some ⟨w.heap.size, 0, none⟩)) ∧ w' = w.alloc (.cells #[.slice p n c, .int .i64 0] 83) := by
  go_enter Tryd.func14, Tryd.ntmps14
  go_wp2
  go_ret
  exact ⟨rfl, rfl⟩
set_option maxRecDepth 100000 in
set_option maxHeartbeats 400000 in
theorem new_cut (b off n c : Nat) (w : World) (hn : 600 < n) (hc : n ≤ c) (hcm : c ≤ 9223372036854775807) :
    Calls Tryd.prog 14 #[.slice (some ⟨b, off, none⟩) n c] w fun e w' => e = .returned (.pointer (some ⟨w.heap.size, 0, none⟩)) ∧ w' = w.alloc (.cells #[.slice (some ⟨b, off, none⟩) 600 c, .int .i64 0] 83) := by
  go_enter Tryd.func14, Tryd.ntmps14
  go_wp2
  go_ret
  exact ⟨rfl, rfl⟩
/-- A slice of ints that came in. -/
def IntsIn (w : World) (v : Value) : Prop :=
  ∃ p n c, v = .slice p n c ∧ n ≤ c ∧ c ≤ 9223372036854775807 ∧ (0 < n → ∃ b off, p = some ⟨b, off, none⟩ ∧ b < w.heap.size ∧ ∀ i, i < n → ∃ x, I64 x ∧ w.cell? ⟨b, off + i, none⟩ = some (.int .i64 x))
set_option maxRecDepth 100000 in
theorem tape_new (w : World) (v : Value) (n : Nat) (hv : IntsV w w.heap.size v n) (hn : n ≤ 600) : Tp (w.alloc (.cells #[v, .int .i64 0] 83)) w.heap.size := by
  have hb : (w.alloc (.cells #[v, .int .i64 0] 83)).heap[w.heap.size]? = some (.cells #[v, .int .i64 0] 83 (0, 0)) := heap_alloc_new w _
  refine ⟨v, n, 0, ?_, ?_, ?_, hv.grown (World.grownBy_alloc w _ _), Nat.zero_le _, hn⟩
  · rw [cell_of_row _ _ _ _ _ _ hb]; rfl
  · rw [cell_of_row _ _ _ _ _ _ hb]; rfl
  · unfold World.frozen?; rw [show (Addr.mk w.heap.size 1 none).block = w.heap.size from rfl, hb]; rfl
set_option maxRecDepth 100000 in
theorem new_any (v : Value) (w : World) (hv : IntsIn w v) :
    Calls Tryd.prog 14 #[v] w fun e w' => NewPost w e w' := by
  obtain ⟨p, n, c, rfl, hnc, hcm, hc⟩ := hv
  by_cases hn : n ≤ 600
  · refine (new_some p n c w hn hcm).mono ?_
    rintro e w' ⟨rfl, rfl⟩
    refine ⟨rfl, World.grownBy_alloc w _ _, tape_new w _ n ⟨p, c, rfl, fun h => ?_⟩ hn⟩
    obtain ⟨b, off, hp, hb, hx⟩ := hc h
    exact ⟨b, off, hp, by omega, hx⟩
  · obtain ⟨b, off, rfl, hb, hx⟩ := hc (by omega)
    refine (new_cut b off n c w (by omega) hnc hcm).mono ?_
    rintro e w' ⟨rfl, rfl⟩
    exact ⟨rfl, World.grownBy_alloc w _ _, tape_new w _ 600 ⟨_, c, rfl, fun _ => ⟨b, off, rfl, by omega, fun i hi => hx i (by omega)⟩⟩ (by omega)⟩

set_option maxRecDepth 100000 in
set_option maxHeartbeats 400000 in
theorem next_any (a : Nat) (n : Int) (hn : I64 n) (w : World) (hT : Tp w a) :
    Calls Tryd.prog 25 #[.pointer (some ⟨a, 0, none⟩), .int .i64 n] w fun e w' => IntPost (CutOf n) a w e w' := by
  go_enter Tryd.func25, Tryd.ntmps25
  go_wp2_with fail
  refine (raw_any a _ hT).mono ?_
  rintro e w1 ⟨x, rfl, hx, hs⟩
  go_wp2_with fail
  refine (cut_any x n hn _).mono ?_
  rintro e w2 ⟨⟨r, rfl, hr⟩, rfl⟩
  go_wp2_with fail
  go_ret
  exact ⟨r, rfl, hr, hs⟩

def RangeOf (low high r : Int) : Prop := low ≤ r ∧ (low ≤ high → r ≤ high) ∧ (high < low → r = low)
set_option maxRecDepth 100000 in
set_option maxHeartbeats 400000 in
theorem range_any (a : Nat) (low high : Int) (h1 : -1099511627776 ≤ low) (h2 : low ≤ 1099511627776) (h3 : -1099511627776 ≤ high) (h4 : high ≤ 1099511627776) (w : World) (hT : Tp w a) :
    Calls Tryd.prog 29 #[.pointer (some ⟨a, 0, none⟩), .int .i64 low, .int .i64 high] w fun e w' => IntPost (RangeOf low high) a w e w' := by
  go_enter Tryd.func29, Tryd.ntmps29
  go_wp2_with fail
  refine (next_any a _ (by unfold I64; omega) _ hT).mono ?_
  rintro e w1 ⟨r, rfl, hr, hs⟩
  have hlo : 0 ≤ r := hr.1
  have hhi : r ≤ 2199023255553 := by unfold CutOf at hr; omega
  have hR : Hid (RangeOf low high (low + r)) := by show RangeOf _ _ _; unfold CutOf at hr; unfold RangeOf; omega
  go_wp2_with fail
  go_ret
  exact ⟨_, rfl, hR, hs⟩

/-- Each of n ints of a slice, outside block a, meets P. -/
def Among (P : Int → Prop) (w : World) (a b off n : Nat) : Prop := b ≠ a ∧ b < w.heap.size ∧ ∀ i, i < n → ∃ x, P x ∧ w.cell? ⟨b, off + i, none⟩ = some (.int .i64 x)
set_option maxRecDepth 100000 in
theorem Among.at_ {P : Int → Prop} {w w' : World} {a b off n : Nat} (h : Among P w a b off n) (g : w.grownBy w' (some a)) (i : Nat) (hi : i < n) :
    ∃ x, P x ∧ w'.cell? ⟨b, off + i, none⟩ = some (.int .i64 x) := by
  obtain ⟨x, hx, hc⟩ := h.2.2 i hi
  exact ⟨x, hx, g.cell hc (by simpa using h.1)⟩
set_option maxRecDepth 100000 in
set_option maxHeartbeats 400000 in
theorem pick_any (P : Int → Prop) (a b off n c : Nat) (h0 : 0 < n) (hn : n ≤ 1000) (w : World) (hT : Tp w a) (hA : Among P w a b off n) :
    Calls Tryd.prog 42 #[.pointer (some ⟨a, 0, none⟩), .slice (some ⟨b, off, none⟩) n c] w fun e w' => IntPost P a w e w' := by
  go_enter Tryd.func42, Tryd.ntmps42
  go_wp2_with fail
  refine (next_any a _ (by unfold I64; omega) _ hT).mono ?_
  rintro e w1 ⟨r, rfl, hr, hs⟩
  obtain ⟨k, rfl⟩ := Int.eq_ofNat_of_zero_le hr.1
  have hk : k < n := by unfold CutOf at hr; omega
  obtain ⟨x, hx, hc⟩ := hA.at_ hs.1 k hk
  have HX : Hid (P x) := hx
  clear hx
  go_wp2_with fail
  go_ret
  exact ⟨x, rfl, HX, hs⟩

set_option maxRecDepth 100000 in
set_option maxHeartbeats 400000 in
theorem one_any (a : Nat) (n : Int) (hn : I64 n) (w : World) (hT : Tp w a) :
    Calls Tryd.prog 43 #[.pointer (some ⟨a, 0, none⟩), .int .i64 n] w fun e w' => ∃ b, e = .returned (.bool b) ∧ St a w w' := by
  go_enter Tryd.func43, Tryd.ntmps43
  go_wp2_with fail
  refine (next_any a n hn _ hT).mono ?_
  rintro e w1 ⟨r, rfl, hr, hs⟩
  go_wp2_with fail
  go_ret
  exact ⟨_, rfl, hs⟩

set_option maxRecDepth 100000 in
theorem among_new (P : Int → Prop) (w : World) (a : Nat) (cs : Array Value) (t : TypeId) (ha : a < w.heap.size) (h : ∀ i, i < cs.size → ∃ x, P x ∧ cs[i]? = some (.int .i64 x)) :
    Among P (w.alloc (.cells cs t)) a w.heap.size 0 cs.size := by
  have hb : (w.alloc (.cells cs t)).heap[w.heap.size]? = some (.cells cs t (0, 0)) := heap_alloc_new w _
  refine ⟨by omega, by simp, fun i hi => ?_⟩
  obtain ⟨x, hx, hc⟩ := h i hi
  refine ⟨x, hx, ?_⟩
  rw [Nat.zero_add, cell_of_row _ _ _ _ _ _ hb]; exact hc
set_option maxRecDepth 100000 in
theorem among_list (P : Int → Prop) (w : World) (a : Nat) (l : List Int) (cs : Array Value) (t : TypeId) (ha : a < w.heap.size) (hl : cs = (l.map fun x => Value.int .i64 x).toArray) (h : ∀ x ∈ l, P x) :
    Among P (w.alloc (.cells cs t)) a w.heap.size 0 cs.size := by
  refine among_new P w a cs t ha fun i hi => ?_
  subst hl
  have hi' : i < l.length := by simpa using hi
  exact ⟨l[i], h _ (List.getElem_mem hi'), by simp [hi']⟩
set_option maxRecDepth 100000 in
theorem Tp.lt {w : World} {a : Nat} (h : Tp w a) : a < w.heap.size := by
  obtain ⟨v, n, i, T⟩ := h
  exact World.block_lt_of_cell? w ⟨a, 0, none⟩ T.l
set_option maxRecDepth 100000 in
theorem Tp.alloc {w : World} {a : Nat} (h : Tp w a) (o : Obj) : Tp (w.alloc o) a := by
  have hlt := h.lt
  obtain ⟨v, n, i, T⟩ := h
  have hb : (w.alloc o).heap[a]? = w.heap[a]? := Below.heap_alloc w o a hlt
  exact ⟨v, n, i, (World.cell?_of_block (a := ⟨a, 0, none⟩) hb).trans T.l, (World.cell?_of_block (a := ⟨a, 1, none⟩) hb).trans T.p, (World.frozen?_of_block (a := ⟨a, 1, none⟩) hb).trans T.fr, T.ints.grown (World.grownBy_alloc w o _), T.le, T.len⟩
set_option maxRecDepth 100000 in
theorem St.alloc_left {w w' : World} {a : Nat} {o : Obj} (h : St a (w.alloc o) w') : St a w w' := ⟨grown_trans (World.grownBy_alloc w o _) h.1, h.2⟩
set_option maxRecDepth 100000 in
set_option maxHeartbeats 400000 in
theorem length_any (a : Nat) (w : World) (hT : Tp w a) :
    Calls Tryd.prog 60 #[.pointer (some ⟨a, 0, none⟩)] w fun e w' => IntPost (fun r => vl r = true) a w e w' := by
  go_enter Tryd.func60, Tryd.ntmps60
  go_wp2_with fail
  refine (pick_any (fun r => vl r = true) a _ 0 5 5 (by omega) (by omega) _ (hT.alloc _) (among_list _ w a [8, 8, 16, 32, 64] _ _ hT.lt rfl (by decide))).mono ?_
  rintro e w1 ⟨r, rfl, hr, hs⟩
  go_wp2_with fail
  go_ret
  exact ⟨_, rfl, hr, hs.alloc_left⟩
set_option maxRecDepth 100000 in
/-- Behind New the tape's block is new: what writes it alone has turned nothing old. -/
theorem grown_tape {w w1 w2 : World} (h : w.grownBy w1 none) (k : w1.grownBy w2 (some w.heap.size)) : w.grownBy w2 none :=
  ⟨k.os.trans h.os, k.tape.trans h.tape, k.output.trans h.output, Nat.le_trans h.size k.size, fun b hb _ => (k.block b (Nat.lt_of_lt_of_le hb h.size) (by simp; omega)).trans (h.block b hb (by simp))⟩
set_option maxRecDepth 100000 in
theorem St.grown_alloc {a : Nat} {w w' : World} (h : St a w w') (o : Obj) : w.grownBy (w'.alloc o) (some a) := grown_trans h.1 (World.grownBy_alloc w' o _)
set_option maxRecDepth 100000 in
theorem Tp.drew {w : World} {a : Nat} (h : Tp w a) : Tp w.drew a := by
  obtain ⟨v, n, i, T⟩ := h
  exact ⟨v, n, i, T.l, T.p, T.fr, T.ints, T.le, T.len⟩
set_option maxRecDepth 100000 in
theorem Tp.keep {w w' : World} {a : Nat} (h : Tp w a) (g : w.grownBy w' none) : Tp w' a := by
  have hlt := h.lt
  obtain ⟨v, n, i, T⟩ := h
  have hb : w'.heap[a]? = w.heap[a]? := g.block a hlt (by simp)
  exact ⟨v, n, i, (World.cell?_of_block (a := ⟨a, 0, none⟩) hb).trans T.l, (World.cell?_of_block (a := ⟨a, 1, none⟩) hb).trans T.p, (World.frozen?_of_block (a := ⟨a, 1, none⟩) hb).trans T.fr, T.ints.grown (grown_none g _), T.le, T.len⟩

end Go.Proofs.YtnfgkakhdgiepaaDoor
