/- Parts of the proof, packed: PkDetM, PkOpn, PkDetLaw. -/
import Derived.Test.YtnfgkakhdgiepaaDoorDt8
import Derived.Test.YtnfgkakhdgiepaaDoorDt9
import Derived.Test.YtnfgkakhdgiepaaDoorDt2
import Derived.Test.YtnfgkakhdgiepaaDoorDt5
/- PacketDetects: the walk. -/
namespace Go.Proofs.YtnfgkakhdgiepaaDoor
open Go.RowKit Bs
/-- May this bit be changed? -/
def fre (i : Nat) : Bool := decide (2 ≤ i) && ((decide (i < 12) || decide (13 < i)) && (decide (i < 42) || decide (48 < i)))
/-- The places that may be changed. -/
def frl (n : Nat) : List Nat := (List.range n).filter fre
set_option maxRecDepth 100000 in
theorem frl_hit {k : Nat} (h : fre k = true) : frl (k + 1) = frl k ++ [k] := by unfold frl; rw [List.range_succ, List.filter_append]; simp [h]
set_option maxRecDepth 100000 in
theorem frl_miss {k : Nat} (h : fre k = false) : frl (k + 1) = frl k := by unfold frl; rw [List.range_succ, List.filter_append]; simp [h]
set_option maxRecDepth 100000 in
theorem frl_le (k : Nat) : (frl k).length ≤ k := by
  have := List.length_filter_le fre (List.range k)
  rw [List.length_range] at this
  exact this
set_option maxRecDepth 100000 in
theorem frl_ge {k : Nat} (h : 42 ≤ k) : 20 ≤ (frl k).length := by
  obtain ⟨m, rfl⟩ : ∃ m, k = 42 + m := ⟨k - 42, by omega⟩
  have e : (frl 42).length = 38 := by decide
  have e2 : frl (42 + m) = frl 42 ++ ((List.range m).map (42 + ·)).filter fre := by unfold frl; rw [List.range_add, List.filter_append]
  rw [e2, List.length_append, e]; omega
set_option maxRecDepth 100000 in
theorem frl_free {n j : Nat} (h : j < (frl n).length) : Free n ((frl n).getD j 0) := by
  have hm : (frl n).getD j 0 ∈ frl n := by rw [List.getD_eq_getElem?_getD, List.getElem?_eq_getElem h]; exact List.getElem_mem h
  unfold frl at hm
  obtain ⟨h1, h2⟩ := List.mem_filter.1 hm
  have h1 := List.mem_range.1 h1
  unfold frl at *
  generalize (List.filter fre (List.range n)).getD j 0 = x at *
  unfold fre at h2
  simp only [Bool.and_eq_true, Bool.or_eq_true, decide_eq_true_eq] at h2
  exact ⟨h2.1, h1, h2.2.1, h2.2.2⟩
set_option maxRecDepth 100000 in
theorem frl_ne {n j k : Nat} (hj : j < (frl n).length) (hk : k < (frl n).length) (hjk : j ≠ k) : (frl n).getD j 0 ≠ (frl n).getD k 0 := by
  have hn : (frl n).Nodup := List.Nodup.sublist List.filter_sublist List.nodup_range
  rw [List.getD_eq_getElem?_getD, List.getD_eq_getElem?_getD, List.getElem?_eq_getElem hj, List.getElem?_eq_getElem hk]
  intro e
  exact hjk ((List.getElem_inj hn).1 e)
/-- The place that the i-th number of an order of m means, among N. -/
def dpl (l : List Nat) (N m i : Nat) : Nat := l.getD i 0 * N / m
set_option maxRecDepth 100000 in
theorem dpl_lt {l : List Nat} {N m i : Nat} (h : Ord l m) (hi : i < m) (hN : 0 < N) : dpl l N m i < N := by
  have hm : l.getD i 0 < m := by
    rw [List.getD_eq_getElem?_getD, List.getElem?_eq_getElem (by rw [h.1]; exact hi)]
    exact h.2.2 _ (List.getElem_mem _)
  unfold dpl
  rw [Nat.div_lt_iff_lt_mul (by omega), Nat.mul_comm N m]
  exact Nat.mul_lt_mul_of_pos_right hm hN
set_option maxRecDepth 100000 in
theorem dpl_ne {l : List Nat} {N m i j : Nat} (h : Ord l m) (hi : i < m) (hj : j < m) (hij : i ≠ j) (hN : m ≤ N) : dpl l N m i ≠ dpl l N m j := by
  have key : ∀ x y : Nat, x < y → x * N / m < y * N / m := by
    intro x y hxy
    have h1 : x * N / m + 1 ≤ y * N / m := by
      rw [Nat.le_div_iff_mul_le (by omega), Nat.add_mul, Nat.one_mul]
      have h2 := Nat.div_mul_le_self (x * N) m
      have h3 : (x + 1) * N ≤ y * N := Nat.mul_le_mul_right _ hxy
      rw [Nat.add_mul, Nat.one_mul] at h3
      omega
    omega
  have hne : l.getD i 0 ≠ l.getD j 0 := by
    rw [List.getD_eq_getElem?_getD, List.getD_eq_getElem?_getD, List.getElem?_eq_getElem (by rw [h.1]; exact hi), List.getElem?_eq_getElem (by rw [h.1]; exact hj)]
    intro e
    exact hij ((List.getElem_inj h.2.1).1 e)
  unfold dpl
  rcases Nat.lt_or_ge (l.getD i 0) (l.getD j 0) with h1 | h1
  · have := key _ _ h1; omega
  · have := key _ _ (show l.getD j 0 < l.getD i 0 by omega); omega
/-- The i-th place to be changed. -/
def dps (n : Nat) (o : List Nat) (i : Nat) : Nat := (frl n).getD (dpl o (frl n).length 20 i) 0
set_option maxRecDepth 100000 in
theorem dps_free {n : Nat} {o : List Nat} {i : Nat} (hn : 42 ≤ n) (h : Ord o 20) (hi : i < 20) : Free n (dps n o i) := frl_free (dpl_lt h hi (by have := frl_ge hn; omega))
set_option maxRecDepth 100000 in
theorem dps_ne {n : Nat} {o : List Nat} {i j : Nat} (hn : 42 ≤ n) (h : Ord o 20) (hi : i < 20) (hj : j < 20) (hij : i ≠ j) : dps n o i ≠ dps n o j :=
  frl_ne (dpl_lt h hi (by have := frl_ge hn; omega)) (dpl_lt h hj (by have := frl_ge hn; omega)) (dpl_ne h hi hj hij (frl_ge hn))
/-- l is b with the places i+1 to r of the order turned. -/
def Trn (b l : List Nat) (o : List Nat) (r i : Nat) : Prop := l.length = b.length ∧ By l ∧ ∀ k, k < 8 * b.length → (bt b k != bt l k) = ((decide ((i < 1 ∧ 1 ≤ r) ∧ k = dps (8 * b.length) o 1) != decide ((i < 2 ∧ 2 ≤ r) ∧ k = dps (8 * b.length) o 2)) != decide ((i < 3 ∧ 3 ≤ r) ∧ k = dps (8 * b.length) o 3))
set_option maxRecDepth 100000 in
theorem trn_zero {b o : List Nat} {r : Nat} (hb : By b) (hr : r ≤ 3) : Trn b b o r r := by
  refine ⟨rfl, hb, fun k _ => ?_⟩
  have a1 : decide ((r < 1 ∧ 1 ≤ r) ∧ k = dps (8 * b.length) o 1) = false := by rw [decide_eq_false_iff_not]; omega
  have a2 : decide ((r < 2 ∧ 2 ≤ r) ∧ k = dps (8 * b.length) o 2) = false := by rw [decide_eq_false_iff_not]; omega
  have a3 : decide ((r < 3 ∧ 3 ≤ r) ∧ k = dps (8 * b.length) o 3) = false := by rw [decide_eq_false_iff_not]; omega
  rw [a1, a2, a3]; simp
set_option maxRecDepth 100000 in
theorem trn_next {b l o : List Nat} {r i : Nat} (h : Trn b l o r i) (hr : r ≤ 3) (hi : 1 ≤ i) (hir : i ≤ r) (hp : dps (8 * b.length) o i < 8 * b.length) : Trn b (flp l (dps (8 * b.length) o i)) o r (i - 1) := by
  obtain ⟨h1, h2, h3⟩ := h
  refine ⟨by rw [flp_len, h1], flp_by h2 (by omega), fun k hk => ?_⟩
  have h4 := h3 k hk
  rw [flp_bt (by omega)]
  have on : ∀ {A B : Prop} [Decidable A] [Decidable B] {x : Nat}, (A ↔ B) → decide (A ∧ k = x) = decide (B ∧ k = x) := by
    intro A B _ _ x hab
    rw [decide_eq_decide, hab]
  have off : ∀ {A : Prop} [Decidable A] {x : Nat}, ¬ A → decide (A ∧ k = x) = false := by
    intro A _ x ha
    rw [decide_eq_false_iff_not]
    exact fun h => ha h.1
  have yes : ∀ {A : Prop} [Decidable A] {x : Nat}, A → decide (A ∧ k = x) = decide (k = x) := by
    intro A _ x ha
    rw [decide_eq_decide]
    exact ⟨fun h => h.2, fun h => ⟨ha, h⟩⟩
  have k1 : ∀ a c d x y : Bool, (a != c) = ((false != x) != y) → (a != (c != d)) = ((d != x) != y) := by decide
  have k2 : ∀ a c d x y : Bool, (a != c) = ((x != false) != y) → (a != (c != d)) = ((x != d) != y) := by decide
  have k3 : ∀ a c d x y : Bool, (a != c) = ((x != y) != false) → (a != (c != d)) = ((x != y) != d) := by decide
  rcases (show i = 1 ∨ i = 2 ∨ i = 3 by omega) with rfl | rfl | rfl
  · rw [off (by omega), on (A := 1 < 2 ∧ 2 ≤ r) (B := 1 - 1 < 2 ∧ 2 ≤ r) (by omega), on (A := 1 < 3 ∧ 3 ≤ r) (B := 1 - 1 < 3 ∧ 3 ≤ r) (by omega)] at h4
    rw [yes (A := 1 - 1 < 1 ∧ 1 ≤ r) (by omega)]
    exact k1 _ _ _ _ _ h4
  · rw [off (A := 2 < 2 ∧ 2 ≤ r) (by omega), on (A := 2 < 1 ∧ 1 ≤ r) (B := 2 - 1 < 1 ∧ 1 ≤ r) (by omega), on (A := 2 < 3 ∧ 3 ≤ r) (B := 2 - 1 < 3 ∧ 3 ≤ r) (by omega)] at h4
    rw [yes (A := 2 - 1 < 2 ∧ 2 ≤ r) (by omega)]
    exact k2 _ _ _ _ _ h4
  · rw [off (A := 3 < 3 ∧ 3 ≤ r) (by omega), on (A := 3 < 1 ∧ 1 ≤ r) (B := 3 - 1 < 1 ∧ 1 ≤ r) (by omega), on (A := 3 < 2 ∧ 2 ≤ r) (B := 3 - 1 < 2 ∧ 2 ≤ r) (by omega)] at h4
    rw [yes (A := 3 - 1 < 3 ∧ 3 ≤ r) (by omega)]
    exact k3 _ _ _ _ _ h4
set_option maxRecDepth 100000 in
theorem trn_seen {P : Pk} (hP : P.Wf) (h : vpk P = true) {l o : List Nat} {r : Nat} (ho : Ord o 20) (h1 : 1 ≤ r) (ht : Trn (enc P) l o r 0) : (decV l).2 ≠ 0 := by
  have hl := enc_len P
  have h42 : 42 ≤ 8 * (enc P).length := by omega
  refine det hP h ht.1 (a := dps (8 * (enc P).length) o 1) (b := dps (8 * (enc P).length) o 2) (c := dps (8 * (enc P).length) o 3) (A := 0 < 1 ∧ 1 ≤ r) (B := 0 < 2 ∧ 2 ≤ r) (C := 0 < 3 ∧ 3 ≤ r) ⟨by decide, h1⟩ ?_ ?_ ?_ ?_ ?_ ?_ ?_
  · intro _; rw [ht.1]; exact dps_free h42 ho (by decide)
  · intro _; rw [ht.1]; exact dps_free h42 ho (by decide)
  · intro _; rw [ht.1]; exact dps_free h42 ho (by decide)
  · intro _ _; exact dps_ne h42 ho (by decide) (by decide) (by decide)
  · intro _ _; exact dps_ne h42 ho (by decide) (by decide) (by decide)
  · intro _ _; exact dps_ne h42 ho (by decide) (by decide) (by decide)
  · intro k hk; rw [ht.1] at hk; exact ht.2.2 k hk
end Go.Proofs.YtnfgkakhdgiepaaDoor

/- A packet that comes in as an argument. -/
namespace Go.Proofs.YtnfgkakhdgiepaaDoor
open Go.ChangeShapes Go.WideShapes Go.ChangeAt Go.RowKit Go.Joins Bs
set_option maxRecDepth 100000 in
theorem array10 {xs : Array Value} (h : xs.size = 10) : ∃ c0 c1 c2 c3 c4 c5 c6 c7 c8 c9, xs = #[c0, c1, c2, c3, c4, c5, c6, c7, c8, c9] := by
  obtain ⟨l⟩ := xs
  match l, h with
  | [c0, c1, c2, c3, c4, c5, c6, c7, c8, c9], _ => exact ⟨c0, c1, c2, c3, c4, c5, c6, c7, c8, c9, rfl⟩
set_option maxRecDepth 100000 in
theorem list10 {A : Type} {xs : List A} (h : xs.length = 10) : ∃ x0 x1 x2 x3 x4 x5 x6 x7 x8 x9, xs = [x0, x1, x2, x3, x4, x5, x6, x7, x8, x9] := by
  match xs, h with
  | [x0, x1, x2, x3, x4, x5, x6, x7, x8, x9], _ => exact ⟨x0, x1, x2, x3, x4, x5, x6, x7, x8, x9, rfl⟩
set_option maxRecDepth 100000 in
theorem kit_cellsStr : Tryd.prog.cellsOf 9 = 1 := by kernel_rfl
section
variable {H : Type} {enc : TypeId × Value → H} {W : World} {base : Nat} {v : Value} {d : DataW H} {ps : List MemPlace}
set_option maxRecDepth 100000 in
theorem opn_packet (hval : Value.okWide Tryd.prog W .any base 25 v) (h : DataW.Trod enc Tryd.prog W 0 (fun _ => true) true 25 v d ps) : ∃ P : Pk, v = P.val ∧ P.Wf := by
  have hs := Tryd.underlying25
  obtain ⟨cs, rfl, hsz⟩ := okWide_struct hs hval
  obtain ⟨c0, c1, c2, c3, c4, c5, c6, c7, c8, c9, rfl⟩ := array10 (hsz.trans (by kernel_rfl))
  obtain ⟨fuel, hf⟩ := h
  obtain ⟨xs, n, _, _, hl, hlen, hf⟩ := DataW.trod_struct hs hf
  obtain ⟨x0, x1, x2, x3, x4, x5, x6, x7, x8, x9, rfl⟩ := list10 hlen
  have h0 : DataW.trod enc Tryd.prog W 0 (fun _ => true) true n 3 [c0] = some x0 := by simpa [Value.cells, kit_cellsInt] using hf 0 _ rfl
  have h1 : DataW.trod enc Tryd.prog W 0 (fun _ => true) true n 3 [c1] = some x1 := by simpa [Value.cells, kit_cellsInt] using hf 1 _ rfl
  have h2 : DataW.trod enc Tryd.prog W 0 (fun _ => true) true n 3 [c2] = some x2 := by simpa [Value.cells, kit_cellsInt] using hf 2 _ rfl
  have h3 : DataW.trod enc Tryd.prog W 0 (fun _ => true) true n 3 [c3] = some x3 := by simpa [Value.cells, kit_cellsInt] using hf 3 _ rfl
  have h4 : DataW.trod enc Tryd.prog W 0 (fun _ => true) true n 3 [c4] = some x4 := by simpa [Value.cells, kit_cellsInt] using hf 4 _ rfl
  have h5 : DataW.trod enc Tryd.prog W 0 (fun _ => true) true n 3 [c5] = some x5 := by simpa [Value.cells, kit_cellsInt] using hf 5 _ rfl
  have h6 : DataW.trod enc Tryd.prog W 0 (fun _ => true) true n 3 [c6] = some x6 := by simpa [Value.cells, kit_cellsInt] using hf 6 _ rfl
  have h7 : DataW.trod enc Tryd.prog W 0 (fun _ => true) true n 3 [c7] = some x7 := by simpa [Value.cells, kit_cellsInt] using hf 7 _ rfl
  have h8 : DataW.trod enc Tryd.prog W 0 (fun _ => true) true n 23 [c8] = some x8 := by simpa [Value.cells, kit_cellsU64] using hf 8 _ rfl
  have h9 : DataW.trod enc Tryd.prog W 0 (fun _ => true) true n 9 [c9] = some x9 := by simpa [Value.cells, kit_cellsStr] using hf 9 _ rfl
  obtain ⟨m0, e0, _, w0⟩ := DataW.trod_int Tryd.underlying3 h0
  obtain rfl : c0 = .int .i64 m0 := by simpa using e0
  obtain ⟨m1, e1, _, w1⟩ := DataW.trod_int Tryd.underlying3 h1
  obtain rfl : c1 = .int .i64 m1 := by simpa using e1
  obtain ⟨m2, e2, _, w2⟩ := DataW.trod_int Tryd.underlying3 h2
  obtain rfl : c2 = .int .i64 m2 := by simpa using e2
  obtain ⟨m3, e3, _, w3⟩ := DataW.trod_int Tryd.underlying3 h3
  obtain rfl : c3 = .int .i64 m3 := by simpa using e3
  obtain ⟨m4, e4, _, w4⟩ := DataW.trod_int Tryd.underlying3 h4
  obtain rfl : c4 = .int .i64 m4 := by simpa using e4
  obtain ⟨m5, e5, _, w5⟩ := DataW.trod_int Tryd.underlying3 h5
  obtain rfl : c5 = .int .i64 m5 := by simpa using e5
  obtain ⟨m6, e6, _, w6⟩ := DataW.trod_int Tryd.underlying3 h6
  obtain rfl : c6 = .int .i64 m6 := by simpa using e6
  obtain ⟨m7, e7, _, w7⟩ := DataW.trod_int Tryd.underlying3 h7
  obtain rfl : c7 = .int .i64 m7 := by simpa using e7
  obtain ⟨m8, e8, _, w8⟩ := DataW.trod_int Tryd.underlying23 h8
  obtain rfl : c8 = .int .u64 m8 := by simpa using e8
  obtain ⟨s9, e9, _, w9⟩ := DataW.trod_string Tryd.underlying9 h9
  obtain rfl : c9 = .string s9 := by simpa using e9
  have hb : 0 ≤ m8 ∧ m8 < 18446744073709551616 := by
    simp [Lit.wf, IntKind.min, IntKind.max, IntKind.bits, IntKind.signed] at w8
    omega
  obtain ⟨b, rfl⟩ := Int.eq_ofNat_of_zero_le hb.1
  exact ⟨⟨m0, m1, m2, m3, m4, m5, m6, m7, b, s9⟩, rfl, ⟨i64_wf w0, i64_wf w1, i64_wf w2, i64_wf w3, i64_wf w4, i64_wf w5, i64_wf w6, i64_wf w7, (show U64 b by unfold U64; omega), w9⟩⟩
end
end Go.Proofs.YtnfgkakhdgiepaaDoor

/- PacketDetects: the walk. -/
namespace Go.Proofs.YtnfgkakhdgiepaaDoor
open Go.RowKit Bs
/-- The list of the places, while it is made. -/
def FreeRel (w0 : World) (k : Nat) (v : Value) (wr : World) : Prop := wr.ownsRow w0.heap.size 3 1 v (frl k).length ((frl k).map zv) ∧ w0.grownBy wr none
set_option maxRecDepth 100000 in
theorem freerel_hit {w0 wr w1 : World} {v v' : Value} {k : Nat} {o : Obj} (h : FreeRel w0 k v wr) (ht : fre k = true) (hown : w1.ownsRow w0.heap.size 3 1 v' ((frl k).length + 1) ((frl k).map zv ++ [zv k])) (hg : (wr.alloc o).grownBy w1 v.ownBlock) : FreeRel w0 (k + 1) v' w1 := by
  unfold FreeRel
  rw [frl_hit ht, List.length_append, List.map_append]
  exact ⟨hown, own_step h.2 h.1 hg⟩
set_option maxRecDepth 100000 in
theorem freerel_miss {w0 wr : World} {v : Value} {k : Nat} (h : FreeRel w0 k v wr) (ht : fre k = false) : FreeRel w0 (k + 1) v wr := by
  unfold FreeRel
  rw [frl_miss ht]; exact h
set_option maxRecDepth 100000 in
theorem own_other {w w1 : World} {base g h n cap : Nat} {e : TypeId} {xs : List Value} (o : w.ownsRow base e 1 (.slice (some ⟨h, 0, none⟩) n cap) n xs) (k : w.grownBy w1 (some g)) (hne : h ≠ g) : w1.ownsRow base e 1 (.slice (some ⟨h, 0, none⟩) n cap) n xs :=
  o.kept k (.inr (fun e => hne (Option.some.inj (show some h = some g from e))))
set_option maxRecDepth 100000 in
theorem own_cell {w : World} {base g n cap k : Nat} {e : TypeId} {xs : List Value} {x : Value} (h : w.ownsRow base e 1 (.slice (some ⟨g, 0, none⟩) n cap) n xs) (hk : xs[k]? = some x) : w.cell? ⟨g, k, none⟩ = some x := by
  obtain ⟨p, c, hv, hc⟩ := rd_of_own h
  injection hv with h1 _ _
  obtain ⟨b, off, hp, _, hx⟩ := hc (by intro e2; rw [e2] at hk; cases hk)
  rw [hp] at h1
  have h2 := Option.some.inj h1
  injection h2 with h3 h4 _
  have := hx k x hk
  rw [← h3, ← h4, Nat.zero_add] at this
  exact this
set_option maxRecDepth 100000 in
theorem getD_some {l : List Nat} {i : Nat} (h : i < l.length) : l[i]? = some (l.getD i 0) := by rw [List.getD_eq_getElem?_getD, List.getElem?_eq_getElem h]; rfl
set_option maxRecDepth 100000 in
theorem dec_form (l : List Nat) : ∃ (m0 m1 m2 m3 m4 m5 m6 m7 m8 : Int) (s9 : ByteArray), (decV l).1 = #[.int .i64 m0, .int .i64 m1, .int .i64 m2, .int .i64 m3, .int .i64 m4, .int .i64 m5, .int .i64 m6, .int .i64 m7, .int .u64 m8, .string s9] := by
  unfold decV
  split
  · exact ⟨_, _, _, _, _, _, _, _, _, _, rfl⟩
  · split
    · exact ⟨_, _, _, _, _, _, _, _, _, _, rfl⟩
    · split
      · exact ⟨_, _, _, _, _, _, _, _, _, _, rfl⟩
      · split
        · exact ⟨_, _, _, _, _, _, _, _, _, _, rfl⟩
        · split
          · exact ⟨_, _, _, _, _, _, _, _, _, _, rfl⟩
          · unfold restV
            split
            · exact ⟨_, _, _, _, _, _, _, _, _, _, rfl⟩
            · exact ⟨_, _, _, _, _, _, _, _, _, _, rfl⟩
/-- While places are turned. -/
structure DL (W : World) (s7 sr : Nat) (g g2 g3 cap2 cap3 Lf : Nat) (b o : List Nat) (r i : Nat) (l : List Nat) (w : World) : Prop where
  blk : Blk w g l
  fro : w.ownsRow s7 3 1 (.slice (some ⟨g2, 0, none⟩) Lf cap2) Lf ((frl (8 * b.length)).map zv)
  oro : w.ownsRow sr 3 1 (.slice (some ⟨g3, 0, none⟩) 20 cap3) 20 (o.map zv)
  gr : W.grownBy w none
  trn : Trn b l o r i
set_option maxRecDepth 100000 in
set_option maxHeartbeats 3200000 in
theorem detects_walk (v : Value) (w : World) (hv : IntsIn w v) (hT : Tb w) :
    Calls Tryd.prog 6 #[v] w fun e w' => e = .returned (.bool true) ∧ w.grownBy w' none := by
  obtain ⟨i0, hi, hz0, hz1, hz2⟩ := info_parts info_int
  go_enter Tryd.func6, Tryd.ntmps6
  have HT0 := Lib.hid hT
  clear hT
  go_wp2_with fail
  refine (new_any v w hv).mono ?_
  rintro e w2 ⟨rfl, hg1, hT1⟩
  go_wp2_with fail
  refine (packet0_any _ _ hT1).mono ?_
  rintro e w3 ⟨P, rfl, hWf, hvp, hs⟩
  have hT3 := hs.tp
  have G3 := Lib.hid (grown_tape hg1 hs.1)
  have HW := Lib.hid (And.intro hWf hvp)
  clear hs hg1 hT1 hv hWf hvp
  have hval : P.val = .agg #[.int .i64 P.mode, .int .i64 P.sub, .int .i64 P.set, .int .i64 P.len, .int .i64 P.ttl, .int .i64 P.ent, .int .i64 P.ing, .int .i64 P.pro, .int .u64 (P.bits : Int), .string P.pay] := rfl
  rw [hval]
  obtain ⟨k1, k2⟩ := one_box w3 (pcells P) 25
  have HP := Lib.hid k1
  have G4 := Lib.hid (grown_trans G3.out k2)
  have hTp4 := hT3.keep k2
  have HAT : Hid (w.heap.size < w3.heap.size) := Lib.hid hT3.lt
  clear k1 k2 hT3
  unfold pcells at HP G4 hTp4
  go_wp2_with fail
  generalize w3.alloc _ = w4 at *
  change Hid (w4.heap[w3.heap.size]? = some (.cells (pcells P) 25 (0, 0))) at HP
  rw [← hval]
  refine (pencode_any P HW.out.1 w4 (HT0.out.keep G4.out)).mono ?_
  rintro e w5 (⟨_, g, rfl, hB, hge, hg⟩ | ⟨h, _⟩)
  · have HB := Lib.hid hB
    have G5 := Lib.hid (grown_trans G4.out hg)
    have HTp5 := Lib.hid (hTp4.keep hg)
    have HP5 := Lib.hid (kept_row HP.out hg (by simp))
    have HG : Hid (w.heap.size < g) := Lib.hid (Nat.lt_of_lt_of_le (Nat.lt_trans HAT.out (World.lt_of_row' HP.out)) hge)
    have hlen : Hid ((enc P).length = sizeV P) := Lib.hid (by unfold sizeV; rw [if_pos HW.out.2, enc_len])
    have hLb : 10 ≤ (enc P).length ∧ (enc P).length ≤ 200 := by
      have h1 := (vpk_parts HW.out.2)
      have h8 : 8 ≤ P.len.toNat ∧ P.len.toNat ≤ 64 := by rcases vl_cases (vb_vl h1.2.2.2.2.2.2.2.2) with h | h | h | h <;> rw [h] <;> decide
      have := h1.2.2.2.2.2.2.2.1
      rw [enc_len]; omega
    have HBY := Lib.hid (pk_by (allb P))
    rw [← enc_all] at HBY
    clear hB hge hg HP hTp4
    obtain ⟨a0, a1, a2, a3, a4, a5, a6, a7, a8, a9⟩ := p_facts HP5.out
    go_wp2_with fail
    rw [← hval]
    refine (rsize_any P HW.out.1 _).mono ?_
    rintro e w7 ⟨rfl, hg⟩
    rw [← hlen.out]
    have G7 := Lib.hid (grown_trans G5.out hg)
    have HTp7 := Lib.hid (HTp5.out.keep hg)
    have HB7 := Lib.hid (HB.out.keep hg)
    obtain ⟨b, hb⟩ : ∃ b, b = enc P := ⟨_, rfl⟩
    rw [← hb] at HB7 hLb HBY ⊢
    have HBP := Lib.hid hb
    obtain ⟨L, hL⟩ : ∃ L, L = b.length := ⟨_, rfl⟩
    rw [← hL] at hLb ⊢
    have HLB := Lib.hid hL
    obtain ⟨hL10, hL200⟩ := hLb
    clear hg a0 a1 a2 a3 a4 a5 a6 a7 a8 a9 G5 HTp5 HP5 HB hb hL hlen hval G3 G4
    have HF0 : Hid (FreeRel w7 2 (.slice none 0 0) w7) := Lib.hid ⟨World.ownsRow_nil _ _ _ _, grown_refl _ _⟩
    go_wp2_with fail
    go_loopw [7, 8] (fun v i wr => ∃ k : Nat, 2 ≤ k ∧ k ≤ 8 * L ∧ i = .int .i64 (k : Int) ∧ FreeRel w7 k v wr) (fun _ i _ => (8 * L - (intOf i).toNat))
    case atStart => exact ⟨2, Nat.le_refl _, by omega, rfl, HF0.out⟩
    case round =>
      obtain ⟨k, hk2, hk, rfl, hF⟩ := hrel
      have hlen := frl_le k
      have hsz := hF.2.size
      clear HF0
      by_cases hlt : k < 8 * L
      · rcases (show k < 12 ∨ (12 ≤ k ∧ k ≤ 13) ∨ (14 ≤ k ∧ k < 42) ∨ (42 ≤ k ∧ k ≤ 48) ∨ 48 < k by omega) with h | ⟨h, h'⟩ | ⟨h, h'⟩ | ⟨h, h'⟩ | h
        · have ht : fre k = true := by unfold fre; simp; omega
          have q1 : ¬ 13 < k := by omega
          have q2 : k < 42 := by omega
          have q3 : ¬ 48 < k := by omega
          have HF := Lib.hid hF
          have hown := hF.1
          have HT := Lib.hid ht
          clear hF ht
          go_wp2_with (at_builtin; refine wpList_append_own _ rfl _ _ 22 rfl w7.heap.size 3 i0 (.int .i64 0) 1 8 Tryd.underlying22 hi hz0 hz1 hz2 rfl (by decide) _ _ _ rfl (hown.alloc _) ⟨wr.heap.size, 0, none⟩ 1 1 [.int .i64 (k : Int)] rfl rfl ?c1 ?c2 ?c3 ?c4 ?c5 ?_)
          try (case c1 => exact cell_one _ _ _)
          case c2 => first | rfl | (intro u hu; simp at hu; subst hu; rfl)
          case c3 => first | omega | (unfold maxLen; omega)
          case c4 => omega
          case c5 => first | omega | (simp; omega)
          intro v' w1 hown' hg _
          have R := Lib.hid (freerel_hit HF.out HT.out hown' hg)
          clear hown' hg hown HF
          go_wp2_with fail
          go_roundw
          case rel => exact ⟨k + 1, by omega, by omega, by go_num, R.out⟩
          case measure => simp [intOf]; omega
        · have ht : fre k = false := by unfold fre; simp; omega
          have q0 : ¬ k < 12 := by omega
          have d0 : decide (k < 12) = false := by simpa using q0
          have d0i : decide ((k : Int) < 12) = false := by simp; omega
          have q1 : ¬ 13 < k := by omega
          have R := Lib.hid (freerel_miss hF ht)
          clear hF ht
          go_wp2_with fail
          go_roundw
          case rel => exact ⟨k + 1, by omega, by omega, by go_num, R.out⟩
          case measure => simp [intOf]; omega
        · have ht : fre k = true := by unfold fre; simp; omega
          have q0 : ¬ k < 12 := by omega
          have d0 : decide (k < 12) = false := by simpa using q0
          have d0i : decide ((k : Int) < 12) = false := by simp; omega
          have q1 : 13 < k := by omega
          have q3 : ¬ 48 < k := by omega
          have HF := Lib.hid hF
          have hown := hF.1
          have HT := Lib.hid ht
          clear hF ht
          go_wp2_with (at_builtin; refine wpList_append_own _ rfl _ _ 22 rfl w7.heap.size 3 i0 (.int .i64 0) 1 8 Tryd.underlying22 hi hz0 hz1 hz2 rfl (by decide) _ _ _ rfl (hown.alloc _) ⟨wr.heap.size, 0, none⟩ 1 1 [.int .i64 (k : Int)] rfl rfl ?c1 ?c2 ?c3 ?c4 ?c5 ?_)
          try (case c1 => exact cell_one _ _ _)
          case c2 => first | rfl | (intro u hu; simp at hu; subst hu; rfl)
          case c3 => first | omega | (unfold maxLen; omega)
          case c4 => omega
          case c5 => first | omega | (simp; omega)
          intro v' w1 hown' hg _
          have R := Lib.hid (freerel_hit HF.out HT.out hown' hg)
          clear hown' hg hown HF
          go_wp2_with fail
          go_roundw
          case rel => exact ⟨k + 1, by omega, by omega, by go_num, R.out⟩
          case measure => simp [intOf]; omega
        · have ht : fre k = false := by unfold fre; simp; omega
          have q0 : ¬ k < 12 := by omega
          have d0 : decide (k < 12) = false := by simpa using q0
          have d0i : decide ((k : Int) < 12) = false := by simp; omega
          have q1 : 13 < k := by omega
          have q2 : ¬ k < 42 := by omega
          have d2 : decide (k < 42) = false := by simpa using q2
          have d2i : decide ((k : Int) < 42) = false := by simp; omega
          have q3 : ¬ 48 < k := by omega
          have R := Lib.hid (freerel_miss hF ht)
          clear hF ht
          go_wp2_with fail
          go_roundw
          case rel => exact ⟨k + 1, by omega, by omega, by go_num, R.out⟩
          case measure => simp [intOf]; omega
        · have ht : fre k = true := by unfold fre; simp; omega
          have q0 : ¬ k < 12 := by omega
          have d0 : decide (k < 12) = false := by simpa using q0
          have d0i : decide ((k : Int) < 12) = false := by simp; omega
          have q1 : 13 < k := by omega
          have q2 : ¬ k < 42 := by omega
          have d2 : decide (k < 42) = false := by simpa using q2
          have d2i : decide ((k : Int) < 42) = false := by simp; omega
          have HF := Lib.hid hF
          have hown := hF.1
          have HT := Lib.hid ht
          clear hF ht
          go_wp2_with (at_builtin; refine wpList_append_own _ rfl _ _ 22 rfl w7.heap.size 3 i0 (.int .i64 0) 1 8 Tryd.underlying22 hi hz0 hz1 hz2 rfl (by decide) _ _ _ rfl (hown.alloc _) ⟨wr.heap.size, 0, none⟩ 1 1 [.int .i64 (k : Int)] rfl rfl ?c1 ?c2 ?c3 ?c4 ?c5 ?_)
          try (case c1 => exact cell_one _ _ _)
          case c2 => first | rfl | (intro u hu; simp at hu; subst hu; rfl)
          case c3 => first | omega | (unfold maxLen; omega)
          case c4 => omega
          case c5 => first | omega | (simp; omega)
          intro v' w1 hown' hg _
          have R := Lib.hid (freerel_hit HF.out HT.out hown' hg)
          clear hown' hg hown HF
          go_wp2_with fail
          go_roundw
          case rel => exact ⟨k + 1, by omega, by omega, by go_num, R.out⟩
          case measure => simp [intOf]; omega
      · obtain rfl : k = 8 * L := by omega
        have HF := Lib.hid hF
        clear hF hlen hsz hk2 hk hlt
        have hTp := HTp7.out.keep HF.out.2
        go_wp2_with fail
        have hoo := order_any w.heap.size 20 (by decide) wr hTp
        rw [show ((20 : Nat) : Int) = 20 from rfl] at hoo
        refine hoo.mono ?_
        rintro e w8 ⟨ov, rfl, o, hO, hown2, _, hS⟩
        have HFO := Lib.hid (own_kept (Nat.lt_of_lt_of_le HTp7.out.lt (Nat.le_refl _)) HF.out.1 hS.1)
        have HOO := Lib.hid hown2
        have HO := Lib.hid hO
        have HS8 := Lib.hid hS
        have hTp8 := hS.2
        have HLTr := Lib.hid hTp.lt
        clear hoo hO hown2 hS hTp
        go_wp2_with fail
        refine (range_any _ 1 3 (by decide) (by decide) (by decide) (by decide) _ hTp8).mono ?_
        rintro e w9 ⟨rr, rfl, hr, hS⟩
        obtain ⟨r, rfl⟩ := Int.eq_ofNat_of_zero_le (show 0 ≤ rr by have := hr.1; omega)
        have hr1 : 1 ≤ r ∧ r ≤ 3 := by have h1 := hr.1; have h2 := hr.2; omega
        have HFO9 := own_kept (Nat.lt_of_lt_of_le HTp7.out.lt (Nat.le_refl _)) HFO.out hS.1
        have HOO9 := own_kept HLTr.out HOO.out hS.1
        have HB9 := (HB7.out.keep HF.out.2).grown (grown_trans HS8.out.1 hS.1) (fun e => by have h1 := HG.out; have := Option.some.inj e; omega)
        have G9 := grown_tape (grown_trans G7.out HF.out.2) (grown_trans HS8.out.1 hS.1)
        have hN42 : 42 ≤ 8 * L := by omega
        have hfl := frl_le (8 * L)
        have hfg := frl_ge hN42
        obtain ⟨Lf, hLf⟩ : ∃ Lf, Lf = (frl (8 * L)).length := ⟨_, rfl⟩
        rw [← hLf] at HFO9 hfl hfg
        obtain ⟨g2, cap2, rfl, hg2⟩ := own_form HFO9 (by omega)
        obtain ⟨g3, cap3, rfl, hg3⟩ := own_form HOO9 (by omega)
        have HLF := Lib.hid hLf
        have HN : Hid (g < w7.heap.size ∧ w.heap.size ≤ g ∧ g2 ≠ g ∧ g3 ≠ g) := Lib.hid (by have h1 := HB7.out.lt; have h2 := HF.out.2.size; have h3 := HG.out; omega)
        obtain ⟨s7, hs7⟩ : ∃ s, s = w7.heap.size := ⟨_, rfl⟩
        obtain ⟨sr, hsr⟩ : ∃ s, s = wr.heap.size := ⟨_, rfl⟩
        rw [← hs7] at HFO9 HN
        rw [← hsr] at HOO9
        have HD0 : Hid (DL w s7 sr g g2 g3 cap2 cap3 Lf b o r r b w9) := Lib.hid ⟨HB9, by rw [← HLB.out]; exact HFO9, HOO9, G9, trn_zero HBY.out hr1.2⟩
        have hr4 : r ≤ 3 := hr1.2
        have hr5 : 1 ≤ r := hr1.1
        have HFR := Lib.hid (fun i (hi : i < 20) => dps_free hN42 HO.out hi)
        clear hr hS HFO9 HOO9 HB9 G9 hLf hg2 hg3 hr1 HFO HOO HS8 hTp8 HLTr HF G7 HTp7 HB7 hs7 hsr
        go_wp2_with fail
        go_loopw [10] (fun x wr => ∃ i : Nat, i ≤ r ∧ x = .int .i64 (i : Int) ∧ ∃ l, Hid (DL w s7 sr g g2 g3 cap2 cap3 Lf b o r i l wr)) (fun x _ => (intOf x).toNat)
        case atStart => exact ⟨r, Nat.le_refl _, rfl, b, HD0⟩
        case round =>
          obtain ⟨i, hir, rfl, l, hD⟩ := hrel
          clear HD0
          by_cases hi1 : 1 ≤ i
          · have hi20 : i < 20 := by omega
            obtain ⟨x, hx⟩ : ∃ x, x = o.getD i 0 := ⟨_, rfl⟩
            obtain ⟨d, hd⟩ : ∃ d, d = dpl o Lf 20 i := ⟨_, rfl⟩
            obtain ⟨q, hq⟩ : ∃ q, q = dps (8 * L) o i := ⟨_, rfl⟩
            have hx20 : x < 20 := by
              rw [hx, List.getD_eq_getElem?_getD, List.getElem?_eq_getElem (by rw [HO.out.1]; exact hi20)]
              exact HO.out.2.2 _ (List.getElem_mem _)
            have c1 : wr.cell? ⟨g3, i, none⟩ = some (.int .i64 (x : Int)) := own_cell hD.out.oro (by rw [List.getElem?_map, getD_some (show i < o.length by rw [HO.out.1]; exact hi20), ← hx]; rfl)
            have hdL : d < Lf := by rw [hd]; exact dpl_lt HO.out hi20 (by omega)
            have hqd : q = (frl (8 * L)).getD d 0 := by rw [hq, hd, HLF.out]; rfl
            have c2 : wr.cell? ⟨g2, d, none⟩ = some (.int .i64 (q : Int)) := own_cell hD.out.fro (by
              rw [← HLB.out]
              have hdl : d < (frl (8 * L)).length := by rw [← HLF.out]; exact hdL
              rw [List.getElem?_map, getD_some hdl, ← hqd]; rfl)
            obtain ⟨pp, hpp⟩ : ∃ pp, pp = x * Lf := ⟨_, rfl⟩
            have hppb : pp ≤ 19 * 1600 := by rw [hpp]; exact Nat.mul_le_mul (by omega) (by omega)
            have hmul : (x : Int) * (Lf : Int) = (pp : Int) := by rw [hpp]; simp
            have hdp : (pp : Int) / 20 = (d : Int) := by rw [hd]; unfold dpl; rw [← hx, ← hpp]; omega
            have hdt : Int.tdiv (pp : Int) 20 = (d : Int) := by rw [Int.tdiv_eq_ediv_of_nonneg (by omega)]; exact hdp
            have hqL : q < 8 * L := by rw [hq]; exact (HFR.out i hi20).2.1
            have hll : l.length = L := by rw [hD.out.trn.1]; exact HLB.out.symm
            have hal : q / 8 < l.length := by omega
            have hcell := hD.out.blk.cell hal
            have hfz := hD.out.blk.frozen (q / 8)
            have hxb := hD.out.trn.2.1.at_ hal
            obtain ⟨k, hk⟩ : ∃ k : Nat, q % 8 = k := ⟨_, rfl⟩
            have hk7 : k ≤ 7 := by omega
            have hki : (q : Int) % 8 = (k : Int) := by omega
            obtain ⟨y, hy⟩ : ∃ y : Nat, y = l.getD (q / 8) 0 ^^^ 2 ^ (7 - q % 8) := ⟨_, rfl⟩
            have O : Hid (bits .xor .u8 ((l.getD (q / 8) 0 : Nat) : Int) ((128 : Int) / 2 ^ k) = (y : Int)) := by
              show _ = _
              rw [hy, hk]; exact flip_word hxb hk7
            have R : Hid (DL w s7 sr g g2 g3 cap2 cap3 Lf b o r (i - 1) (flp l q) (wr.setCell ⟨g, q / 8, none⟩ (nv y))) := by
              have j := grown_setCell wr ⟨g, q / 8, none⟩ (nv y)
              refine Lib.hid ⟨?_, own_other hD.out.fro j HN.out.2.2.1, own_other hD.out.oro j HN.out.2.2.2, grown_new hD.out.gr j HN.out.2.1, ?_⟩
              · have := hD.out.blk.set (q / 8) y
                rw [hy] at this ⊢
                exact this
              · rw [hq, HLB.out]; exact trn_next hD.out.trn hr4 hi1 hir (by rw [← HLB.out, ← hq]; exact hqL)
            have hqL2 : q / 8 < L := by omega
            clear hk hy hxb hll hal hqd hpp hx hd hq hD HN
            generalize l.getD (q / 8) 0 = z at *
            go_wp2_with fail
            rw [O.out]
            exact ⟨⟨i - 1, by omega, by congr 1; omega, flp l q, R⟩, by simp [intOf]; omega⟩
          · obtain rfl : i = 0 := by omega
            have hll : l.length = L := by rw [hD.out.trn.1]; exact HLB.out.symm
            have hne := trn_seen HW.out.1 HW.out.2 HO.out hr5 (HBP.out ▸ hD.out.trn)
            have hDec := pdecode_any l hD.out.trn.2.1 (some ⟨g, 0, none⟩) l.length (Nat.le_refl _) (fun _ => True) wr (hD.out.blk.rd _ trivial _)
            rw [hll] at hDec
            obtain ⟨X, y, hXy⟩ : ∃ X y, decV l = (X, y) := ⟨_, _, rfl⟩
            obtain ⟨c0, c1, c2, c3, c4, c5, c6, c7, c8, c9, hX⟩ := dec_form l
            rw [hXy] at hne hDec hX
            have hX : X = _ := hX
            subst hX
            have GG := Lib.hid hD.out.gr
            have HDec := Lib.hid hDec
            have hyn : ¬ y = 0 := hne
            have hy0 : (y == 0) = false := by simpa using hyn
            have hyb : (y != 0) = true := by simpa using hyn
            clear hXy hDec hD hll hne hir hi1 HFR HN
            go_wp2_with fail
            refine HDec.out.mono ?_
            rintro e w11 ⟨rfl, hg⟩
            have G11 := Lib.hid (grown_trans (grown_trans GG.out hg) (World.grownBy_alloc w11 (.cells #[.int .i64 c0, .int .i64 c1, .int .i64 c2, .int .i64 c3, .int .i64 c4, .int .i64 c5, .int .i64 c6, .int .i64 c7, .int .u64 c8, .string c9] 25) none))
            have hT11 := HT0.out.keep G11.out
            clear hg HDec
            go_wp2_with fail
            refine (awake_any _ hT11).mono ?_
            rintro e w12 ⟨rfl, hg⟩
            have G12 := Lib.hid (grown_trans G11.out hg)
            clear hg
            go_wp2_with fail
            go_ret
            exact ⟨rfl, G12.out⟩
  · rw [HW.out.2] at h; cases h
end Go.Proofs.YtnfgkakhdgiepaaDoor
