/- Parts of the proof, packed: ToRws, IdArr, IdLeaf, IdCnt, IdSeek, IdChk, IdFre, IdCon. -/
import Derived.Test.YtlgmankojgjfjaaDoorBk2
import Derived.Deep.WholeRow
import Derived.Deep.CutBlock
/- Rows of structs: parts of them, and append. -/
namespace Go.Proofs.YtlgmankojgjfjaaDoor
open Go.RowKit Bs
set_option maxRecDepth 100000 in
/-- A walk stops here. -/
theorem hold_on {p : Prop} (h : Hid p) : p := h.out
set_option maxRecDepth 100000 in
theorem flat_drop {α : Type} (f : α → List Value) (k : Nat) (hf : ∀ x, (f x).length = k) : ∀ (l : List α) (j : Nat), (l.drop j).flatMap f = (l.flatMap f).drop (j * k)
  | [], j => by simp
  | a :: t, 0 => by simp
  | a :: t, j + 1 => by
    rw [List.drop_succ_cons, flat_drop f k hf t j, List.flatMap_cons, Nat.add_mul, Nat.one_mul, Nat.add_comm, ← List.drop_drop, List.drop_append_of_le_length (by rw [hf]; exact Nat.le_refl _), ← hf a, List.drop_length, List.nil_append]
set_option maxRecDepth 100000 in
theorem flat_take {α : Type} (f : α → List Value) (k : Nat) (hf : ∀ x, (f x).length = k) : ∀ (l : List α) (j : Nat), (l.take j).flatMap f = (l.flatMap f).take (j * k)
  | [], j => by simp
  | a :: t, 0 => by simp
  | a :: t, j + 1 => by
    rw [List.take_succ_cons, List.flatMap_cons, flat_take f k hf t j, List.flatMap_cons, List.take_append, hf, List.take_of_length_le (l := f a) (by rw [hf, Nat.add_mul]; omega), Nat.add_mul, Nat.one_mul, Nat.add_sub_cancel]
set_option maxRecDepth 100000 in
theorem RdF.part {α : Type} {f : α → List Value} {k : Nat} (hf : ∀ x, (f x).length = k) {w : World} {q : Nat → Prop} {p : Option Addr} {c : Nat} {l : List α} (h : RdF w q (.slice p l.length c) l.length (l.flatMap f)) (j : Nat) (hj : j ≤ l.length) (c' : Nat) :
    RdF w q (.slice p j c') (l.take j).length ((l.take j).flatMap f) := by
  obtain ⟨p1, c1, e1, hx⟩ := h
  injection e1 with a1 a2 a3
  subst a1
  have hlen : (l.take j).length = j := by rw [List.length_take]; omega
  rw [hlen]
  refine ⟨p, c', rfl, fun hne => ?_⟩
  rw [flat_take f k hf] at hne ⊢
  obtain ⟨b, off, hp, hq, hc⟩ := hx (by intro e; rw [e] at hne; simp at hne)
  refine ⟨b, off, hp, hq, fun i x hi => hc i x ?_⟩
  rw [List.getElem?_take] at hi
  split at hi
  · exact hi
  · cases hi
set_option maxRecDepth 100000 in
theorem RdF.rest {α : Type} {f : α → List Value} {k : Nat} (hf : ∀ x, (f x).length = k) {w : World} {q : Nat → Prop} {b off c : Nat} {l : List α} (h : RdF w q (.slice (some ⟨b, off, none⟩) l.length c) l.length (l.flatMap f)) (j : Nat) (c' : Nat) :
    RdF w q (.slice (some ⟨b, off + j * k, none⟩) (l.length - j) c') (l.drop j).length ((l.drop j).flatMap f) := by
  obtain ⟨p1, c1, e1, hx⟩ := h
  injection e1 with a1 a2 a3
  subst a1
  have hlen : (l.drop j).length = l.length - j := by rw [List.length_drop]
  rw [hlen]
  refine ⟨_, c', rfl, fun hne => ?_⟩
  rw [flat_drop f k hf] at hne ⊢
  obtain ⟨b1, off1, hp, hq, hc⟩ := hx (by intro e; rw [e] at hne; simp at hne)
  injection hp with hp
  injection hp with hb ho
  subst hb
  subst ho
  refine ⟨b, off + j * k, rfl, hq, fun i x hi => ?_⟩
  rw [List.getElem?_drop] at hi
  rw [Nat.add_assoc]
  exact hc _ x hi
set_option maxRecDepth 100000 in
theorem rdf_news {w : World} {q : Nat → Prop} {ad : Addr} {n c m : Nat} {xs : List Value} (hR : RdF w q (.slice (some ad) n c) m xs) : ∀ j u, xs[j]? = some u → w.cell? (ad.add j) = some u := by
  intro j u hj
  obtain ⟨p1, c1, e1, hx⟩ := hR
  injection e1 with a1 a2 a3
  subst a1
  obtain ⟨b, off, hp, hq, hc⟩ := hx (by intro e; rw [e] at hj; simp at hj)
  injection hp with hp
  subst hp
  rw [add_plain]
  exact hc j u hj
set_option maxRecDepth 100000 in
theorem rdf_one {w : World} {b off n : Nat} {xs : List Value} (q : Nat → Prop) (hq : q b) (h : ∀ j u, xs[j]? = some u → w.cell? ((⟨b, off, none⟩ : Addr).add j) = some u) (c : Nat) : RdF w q (.slice (some ⟨b, off, none⟩) n c) n xs :=
  ⟨_, c, rfl, fun _ => ⟨b, off, rfl, hq, fun i x hi => by have := h i x hi; rw [add_plain] at this; exact this⟩⟩
set_option maxRecDepth 100000 in
theorem wpList_append_f {α : Type} (f : α → List Value) (size bytes : Nat) (hsz : 0 < size) (hf : ∀ x, (f x).length = size) (hone : ∀ x, ∀ u ∈ f x, u.oneCell' = true) (e t : TypeId) (i : TypeInfo) (z : Value)
    (ht : Tryd.prog.underlying t = some (.slice e)) (hi : Tryd.prog.info? e = some i) (hz : i.zero = some z) (hsize : i.size = size) (hby : i.bytes = bytes) (hzs : z.cells.size = size) (hb40 : bytes ≤ 1000)
    {w : World} {ops : Array Oper} {rest : List Oper} {o : Oper} {a : Act} {Q : Exit → Act → World → Prop} (hgd : o.guard = none) (s x : Operand)
    (ho : o.op = .call { callee := .builtin .append, args := #[s, x], argTypes := #[t, t] }) (base : Nat) (v : Value) (l : List α) (n : Nat) (hn : n = l.length) (hs : a.eval s = v) (hown : w.ownsRow base e size v n (l.flatMap f))
    (p : Option Addr) (k c : Nat) (r : List α) (hx : a.eval x = .slice p k c) (hk : k = r.length) (hn0 : p = none → c = 0) (q : Nat → Prop) (hR : RdF w q (.slice p k c) r.length (r.flatMap f)) (hkc : k ≤ c) (h63 : n + r.length ≤ 100000) (hbase : base ≤ w.heap.size)
    (h : ∀ v' w', w'.ownsRow base e size v' (l ++ r).length ((l ++ r).flatMap f) → w.grownBy w' v.ownBlock → wpList Tryd.prog ops Q rest (a.put o.dst v') w') : wpList Tryd.prog ops Q (o :: rest) a w := by
  subst hn
  cases p with
  | none =>
    obtain rfl := hn0 rfl
    have hr : r.length = 0 := by omega
    obtain rfl := List.eq_nil_of_length_eq_zero hr
    obtain rfl : k = 0 := hk
    refine wpList_append_own_none hgd s x t ho base e i size ht hi v l.length (l.flatMap f) hs hown hx ?_
    refine h v w ?_ (grown_refl _ _)
    rw [List.append_nil]; exact hown
  | some ad =>
    have hb2 : (l.length + k) * bytes ≤ 140737488355328 := Nat.le_trans (Nat.mul_le_mul (show l.length + k ≤ 100000 by omega) hb40) (by decide)
    refine wpList_append_own w hgd s x t ho base e i z size bytes ht hi hz hsize hby hzs hsz v l.length (l.flatMap f) hs hown ad k c (r.flatMap f) hx (by rw [flat_len f size hf, hk]) (rdf_news hR) ?_ (by unfold maxLen; omega) hb2 hbase ?_
    · intro u hu
      obtain ⟨y, _, hy⟩ := List.mem_flatMap.1 hu
      exact hone y u hy
    · intro v' w' h1 h2 _
      refine h v' w' ?_ h2
      rw [List.length_append, List.flatMap_append, ← hk]; exact h1
set_option maxRecDepth 100000 in
theorem own_apartF {w w1 : World} {base base2 size size2 : Nat} {e e2 : TypeId} {v v2 : Value} {n m : Nat} {xs ys : List Value} (h : w.ownsRow base e size v n xs) (hv : w.ownsRow base2 e2 size2 v2 m ys) (hg : ∀ g, v.ownBlock = some g → g < base2) (k : w.grownBy w1 v2.ownBlock) : w1.ownsRow base e size v n xs := by
  refine h.kept k ?_
  cases hb : v.ownBlock with
  | none => exact .inl rfl
  | some g =>
    refine .inr fun e => ?_
    have := (hv.lt g e.symm).1
    have := hg g hb
    omega
set_option maxRecDepth 100000 in
theorem old_grow {w w1 : World} {base2 size2 : Nat} {e2 : TypeId} {v2 : Value} {m : Nat} {ys : List Value} {W : World} (g : W.grownBy w none) (hv : w.ownsRow base2 e2 size2 v2 m ys) (hb : W.heap.size ≤ base2) (k : w.grownBy w1 v2.ownBlock) : W.grownBy w1 none :=
  grown_any g k (fun b hlt e => by have := (hv.lt b e.symm).1; omega)
set_option maxRecDepth 100000 in
theorem lk_one (x : Lk) : ∀ u ∈ lkC x, u.oneCell' = true := by
  intro u hu
  simp [lkC] at hu
  rcases hu with rfl | rfl | rfl | rfl | rfl <;> rfl
end Go.Proofs.YtlgmankojgjfjaaDoor

/- identify: arrays by value, count. -/
namespace Go.Proofs.YtlgmankojgjfjaaDoor
open Go.RowKit Bs
/-- The cells of an array. -/
def arrV (n : Nat) (f : Nat → Value) : Array Value := ((List.range n).map f).toArray
set_option maxRecDepth 100000 in
theorem arr_size (n : Nat) (f : Nat → Value) : (arrV n f).size = n := by simp [arrV]
set_option maxRecDepth 100000 in
theorem arr_at {n k : Nat} (f : Nat → Value) (h : k < n) : (arrV n f)[k]? = some (f k) := by
  unfold arrV
  simp [h]
set_option maxRecDepth 100000 in
theorem arr_set {n k : Nat} (f : Nat → Value) (v : Value) (h : k < n) : (arrV n f).setIfInBounds k v = arrV n (fun j => if j = k then v else f j) := by
  apply Array.ext'
  unfold arrV
  simp only [List.setIfInBounds_toArray]
  apply List.ext_getElem?
  intro j
  rw [List.getElem?_set]
  simp only [List.length_map, List.length_range, List.getElem?_map, List.getElem?_range]
  by_cases hj : k = j
  · subst hj
    simp [h]
  · by_cases hn : j < n
    · simp [hj, hn, List.getElem?_range, Ne.symm hj, fun e : j = k => hj e.symm]
    · simp [hj, hn]
set_option maxRecDepth 100000 in
theorem arr_congr {n : Nat} {f g : Nat → Value} (h : ∀ k, k < n → f k = g k) : arrV n f = arrV n g := by
  unfold arrV
  congr 1
  exact List.map_congr_left (fun k hk => h k (List.mem_range.1 hk))
set_option maxRecDepth 100000 in
theorem arr_one {n : Nat} {f : Nat → Value} (h : ∀ k, (f k).oneCell' = true) : (arrV n f).all (·.oneCell') = true := by
  rw [Array.all_eq_true_iff_forall_mem]
  intro v hv
  unfold arrV at hv
  rw [List.mem_toArray] at hv
  obtain ⟨k, -, rfl⟩ := List.mem_map.1 hv
  exact h k
def ivN (f : Nat → Nat) (k : Nat) : Value := .int .i64 (f k : Int)
def bvN (f : Nat → Bool) (k : Nat) : Value := .bool (f k)
set_option maxRecDepth 100000 in
theorem info_cs : (Tryd.prog.info? 103).map (fun i => (i.zero, i.size)) = some (some (.agg (arrV 257 (ivN fun _ => 0))), 257) := by kernel_rfl
set_option maxRecDepth 100000 in
theorem arr_row {w : World} {b n k : Nat} {f : Nat → Value} {t : TypeId} (h : w.heap[b]? = some (.cells (arrV n f) t (0, 0))) (hk : k < n) : w.cell? ⟨b, k, none⟩ = some (f k) := by
  rw [cell_of_row _ _ _ _ _ _ h]; exact arr_at f hk
set_option maxRecDepth 100000 in
theorem arr_put {w : World} {b n k : Nat} {f : Nat → Value} {t : TypeId} (v : Value) (h : w.heap[b]? = some (.cells (arrV n f) t (0, 0))) (hk : k < n) :
    (w.setCell ⟨b, k, none⟩ v).heap[b]? = some (.cells (arrV n (fun j => if j = k then v else f j)) t (0, 0)) ∧ w.grownBy (w.setCell ⟨b, k, none⟩ v) (some b) := by
  have h1 := heap_setCell_same w b k _ _ v h
  rw [arr_set f v hk] at h1
  exact ⟨h1, grown_setCell w ⟨b, k, none⟩ v⟩
set_option maxRecDepth 100000 in
theorem grown_setRow {w : World} {b : Nat} {cs : Array Value} : w.grownBy (w.setRow b cs) (some b) := by
  refine ⟨rfl, rfl, rfl, by simp, fun k hk hne => ?_⟩
  unfold World.setRow
  simp only [Array.getElem?_modify]
  have : b ≠ k := fun e => hne (by rw [e])
  simp [this]
set_option maxRecDepth 100000 in
theorem od_cells {w : World} {q : Nat → Prop} {p : Option Addr} {n c : Nat} {l : List Od} (h : RdF w q (.slice p n c) l.length (l.flatMap odC)) (hn : 0 < l.length) :
    n = l.length ∧ ∃ b off, p = some ⟨b, off, none⟩ ∧ q b ∧ ∀ i x, l[i]? = some x → w.cell? ⟨b, off + i * 4, none⟩ = some (.int .i64 x.r) ∧ w.cell? ⟨b, off + i * 4 + 1, none⟩ = some (.int .i64 x.s) ∧ w.cell? ⟨b, off + i * 4 + 2, none⟩ = some (.int .i64 x.i) ∧ w.cell? ⟨b, off + i * 4 + 3, none⟩ = some (.int .i64 x.l) := by
  obtain ⟨h0, b, off, hp, hq, hc⟩ := RdF.cells (f := odC) (k := 4) (fun _ => rfl) (by decide) h hn
  exact ⟨h0, b, off, hp, hq, fun i x hi => ⟨hc i x hi 0 _ rfl, hc i x hi 1 _ rfl, hc i x hi 2 _ rfl, hc i x hi 3 _ rfl⟩⟩
set_option maxRecDepth 100000 in
theorem ed_cells {w : World} {q : Nat → Prop} {p : Option Addr} {n c : Nat} {l : List Ed} (h : RdF w q (.slice p n c) l.length (l.flatMap edC)) (hn : 0 < l.length) :
    n = l.length ∧ ∃ b off, p = some ⟨b, off, none⟩ ∧ q b ∧ ∀ i x, l[i]? = some x → w.cell? ⟨b, off + i * 2, none⟩ = some (.int .i64 x.r) ∧ w.cell? ⟨b, off + i * 2 + 1, none⟩ = some (.int .i64 x.i) := by
  obtain ⟨h0, b, off, hp, hq, hc⟩ := RdF.cells (f := edC) (k := 2) (fun _ => rfl) (by decide) h hn
  exact ⟨h0, b, off, hp, hq, fun i x hi => ⟨hc i x hi 0 _ rfl, hc i x hi 1 _ rfl⟩⟩
end Go.Proofs.YtlgmankojgjfjaaDoor

/- identify: the leaves, of the program and of the reference. -/
namespace Go.Proofs.YtlgmankojgjfjaaDoor
open Go.RowKit Bs
set_option maxRecDepth 100000 in
theorem row4i {w : World} {b : Nat} {x0 x1 x2 x3 : Value} {t : TypeId} (h : w.heap[b]? = some (.cells #[x0, x1, x2, x3] t (0, 0))) :
    w.cell? ⟨b, 0, none⟩ = some x0 ∧ w.cell? ⟨b, 1, none⟩ = some x1 ∧ w.cell? ⟨b, 2, none⟩ = some x2 ∧ w.cell? ⟨b, 3, none⟩ = some x3 :=
  ⟨cell_of_row _ _ _ _ _ _ h, cell_of_row _ _ _ _ _ _ h, cell_of_row _ _ _ _ _ _ h, cell_of_row _ _ _ _ _ _ h⟩
set_option maxRecDepth 100000 in
theorem ivr_lit (n : Int) (b : Bool) (h : inV n 1 99 = b) (w : World) :
    Calls Tryd.prog 70 #[.int .i64 n] w fun e w' => e = .returned (.bool b) ∧ w = w' := by
  subst h
  unfold inV
  go_enter Tryd.func70, Tryd.ntmps70
  by_cases h1 : (1 : Int) ≤ n
  · by_cases h2 : n ≤ (99 : Int)
    · rw [decide_eq_true (show 1 ≤ n ∧ n ≤ 99 from ⟨h1, h2⟩)]
      go_wp2_with fail
      go_ret
      exact ⟨rfl, rfl⟩
    · rw [decide_eq_false (show ¬ (1 ≤ n ∧ n ≤ 99) from fun h => h2 h.2)]
      go_wp2_with fail
      go_ret
      exact ⟨rfl, rfl⟩
  · rw [decide_eq_false (show ¬ (1 ≤ n ∧ n ≤ 99) from fun h => h1 h.1)]
    go_wp2_with fail
    go_ret
    exact ⟨rfl, rfl⟩
set_option maxRecDepth 100000 in
theorem ivs_lit (n : Int) (b : Bool) (h : inV n 0 7 = b) (w : World) :
    Calls Tryd.prog 44 #[.int .i64 n] w fun e w' => e = .returned (.bool b) ∧ w = w' := by
  subst h
  unfold inV
  go_enter Tryd.func44, Tryd.ntmps44
  by_cases h1 : (0 : Int) ≤ n
  · by_cases h2 : n ≤ (7 : Int)
    · rw [decide_eq_true (show 0 ≤ n ∧ n ≤ 7 from ⟨h1, h2⟩)]
      go_wp2_with fail
      go_ret
      exact ⟨rfl, rfl⟩
    · rw [decide_eq_false (show ¬ (0 ≤ n ∧ n ≤ 7) from fun h => h2 h.2)]
      go_wp2_with fail
      go_ret
      exact ⟨rfl, rfl⟩
  · rw [decide_eq_false (show ¬ (0 ≤ n ∧ n ≤ 7) from fun h => h1 h.1)]
    go_wp2_with fail
    go_ret
    exact ⟨rfl, rfl⟩
set_option maxRecDepth 100000 in
theorem ivi_lit (n : Int) (b : Bool) (h : inV n 1 256 = b) (w : World) :
    Calls Tryd.prog 55 #[.int .i64 n] w fun e w' => e = .returned (.bool b) ∧ w = w' := by
  subst h
  unfold inV
  go_enter Tryd.func55, Tryd.ntmps55
  by_cases h1 : (1 : Int) ≤ n
  · by_cases h2 : n ≤ (256 : Int)
    · rw [decide_eq_true (show 1 ≤ n ∧ n ≤ 256 from ⟨h1, h2⟩)]
      go_wp2_with fail
      go_ret
      exact ⟨rfl, rfl⟩
    · rw [decide_eq_false (show ¬ (1 ≤ n ∧ n ≤ 256) from fun h => h2 h.2)]
      go_wp2_with fail
      go_ret
      exact ⟨rfl, rfl⟩
  · rw [decide_eq_false (show ¬ (1 ≤ n ∧ n ≤ 256) from fun h => h1 h.1)]
    go_wp2_with fail
    go_ret
    exact ⟨rfl, rfl⟩
set_option maxRecDepth 100000 in
theorem vlp_lit (n : Int) (b : Bool) (h : vl n = b) (w : World) :
    Calls Tryd.prog 45 #[.int .i64 n] w fun e w' => e = .returned (.bool b) ∧ w = w' := by
  rw [← h]; exact vlp_any n w
set_option maxRecDepth 100000 in
set_option maxHeartbeats 1600000 in
theorem iwrc_any (x : Od) (w : World) :
    Calls Tryd.prog 74 #[.agg #[.int .i64 x.r, .int .i64 x.s, .int .i64 x.i, .int .i64 x.l]] w fun e w' => e = .returned (.bool (wrO x)) ∧ w.grownBy w' none := by
  obtain ⟨k1, k2⟩ := tone_box w #[.int .i64 x.r, .int .i64 x.s, .int .i64 x.i, .int .i64 x.l] 79
  obtain ⟨c0, c1, c2, c3⟩ := row4i k1
  have K := Lib.hid k2
  clear k1 k2
  go_enter Tryd.func74, Tryd.ntmps74
  go_upto_region 1 with fail
  generalize w.alloc _ = wa at *
  obtain ⟨n1, n2⟩ := tone_box wa #[.int .i64 x.s, .int .i64 x.i, .int .i64 x.l] 77
  have hb0 : w.heap.size < wa.heap.size := block_lt_of_cell c0
  have d0 := n2.cell c0 (by simp)
  have e0 : (wa.alloc (.cells #[.int .i64 x.s, .int .i64 x.i, .int .i64 x.l] 77)).cell? ⟨wa.heap.size, 0, none⟩ = some (.int .i64 x.s) := cell_of_row _ _ _ _ _ _ n1
  have e1 : (wa.alloc (.cells #[.int .i64 x.s, .int .i64 x.i, .int .i64 x.l] 77)).cell? ⟨wa.heap.size, 1, none⟩ = some (.int .i64 x.i) := cell_of_row _ _ _ _ _ _ n1
  have e2 : (wa.alloc (.cells #[.int .i64 x.s, .int .i64 x.i, .int .i64 x.l] 77)).cell? ⟨wa.heap.size, 2, none⟩ = some (.int .i64 x.l) := cell_of_row _ _ _ _ _ _ n1
  have K2 := Lib.hid (grown_trans K.out n2)
  clear n1 n2 K
  go_upto_region 2 with fail
  clear c0 c1 c2 c3
  generalize wa.alloc _ = wb at *
  have HW : Hid (wrO x = !(inV x.r 1 99 && inV x.s 0 7 && inV x.i 1 256 && vl x.l)) := Lib.hid rfl
  obtain ⟨b1, h1⟩ : ∃ b, inV x.r 1 99 = b := ⟨_, rfl⟩
  obtain ⟨b2, h2⟩ : ∃ b, inV x.s 0 7 = b := ⟨_, rfl⟩
  obtain ⟨b3, h3⟩ : ∃ b, inV x.i 1 256 = b := ⟨_, rfl⟩
  obtain ⟨b4, h4⟩ : ∃ b, vl x.l = b := ⟨_, rfl⟩
  rw [h1, h2, h3, h4] at HW
  have H1 := Lib.hid h1
  have H2 := Lib.hid h2
  have H3 := Lib.hid h3
  have H4 := Lib.hid h4
  clear h1 h2 h3 h4
  cases b1
  case false =>
    go_wp2_with (go_at_call 70; refine (ivr_lit _ _ H1.out _).mono ?_; rintro e w' ⟨rfl, rfl⟩)
    go_ret
    exact ⟨by rw [HW.out]; rfl, K2.out⟩
  cases b2
  case false =>
    go_wp2_with (first | (go_at_call 70; refine (ivr_lit _ _ H1.out _).mono ?_; rintro e w' ⟨rfl, rfl⟩) | (go_at_call 44; refine (ivs_lit _ _ H2.out _).mono ?_; rintro e w' ⟨rfl, rfl⟩))
    go_ret
    exact ⟨by rw [HW.out]; rfl, K2.out⟩
  cases b3
  case false =>
    go_wp2_with (first | (go_at_call 70; refine (ivr_lit _ _ H1.out _).mono ?_; rintro e w' ⟨rfl, rfl⟩) | (go_at_call 44; refine (ivs_lit _ _ H2.out _).mono ?_; rintro e w' ⟨rfl, rfl⟩) | (go_at_call 55; refine (ivi_lit _ _ H3.out _).mono ?_; rintro e w' ⟨rfl, rfl⟩))
    go_ret
    exact ⟨by rw [HW.out]; rfl, K2.out⟩
  go_wp2_with (first | (go_at_call 70; refine (ivr_lit _ _ H1.out _).mono ?_; rintro e w' ⟨rfl, rfl⟩) | (go_at_call 44; refine (ivs_lit _ _ H2.out _).mono ?_; rintro e w' ⟨rfl, rfl⟩) | (go_at_call 55; refine (ivi_lit _ _ H3.out _).mono ?_; rintro e w' ⟨rfl, rfl⟩) | (go_at_call 45; refine (vlp_lit _ _ H4.out _).mono ?_; rintro e w' ⟨rfl, rfl⟩))
  go_ret
  exact ⟨by rw [HW.out]; rfl, K2.out⟩
set_option maxRecDepth 100000 in
set_option maxHeartbeats 1600000 in
theorem iwre_any (x : Ed) (w : World) :
    Calls Tryd.prog 47 #[.agg #[.int .i64 x.r, .int .i64 x.i]] w fun e w' => e = .returned (.bool (wrE x)) ∧ w.grownBy w' none := by
  obtain ⟨k1, k2⟩ := tone_box w #[.int .i64 x.r, .int .i64 x.i] 39
  obtain ⟨c0, c1⟩ := row_cells k1
  have K := Lib.hid k2
  clear k1 k2
  go_enter Tryd.func47, Tryd.ntmps47
  go_upto_region 1 with fail
  generalize w.alloc _ = wa at *
  have HW : Hid (wrE x = !(inV x.r 1 99 && inV x.i 1 256)) := Lib.hid rfl
  obtain ⟨b1, h1⟩ : ∃ b, inV x.r 1 99 = b := ⟨_, rfl⟩
  obtain ⟨b2, h2⟩ : ∃ b, inV x.i 1 256 = b := ⟨_, rfl⟩
  rw [h1, h2] at HW
  have H1 := Lib.hid h1
  have H2 := Lib.hid h2
  clear h1 h2
  cases b1
  case false =>
    go_wp2_with (go_at_call 70; refine (ivr_lit _ _ H1.out _).mono ?_; rintro e w' ⟨rfl, rfl⟩)
    go_ret
    exact ⟨by rw [HW.out]; rfl, K.out⟩
  go_wp2_with (first | (go_at_call 70; refine (ivr_lit _ _ H1.out _).mono ?_; rintro e w' ⟨rfl, rfl⟩) | (go_at_call 55; refine (ivi_lit _ _ H2.out _).mono ?_; rintro e w' ⟨rfl, rfl⟩))
  go_ret
  exact ⟨by rw [HW.out]; rfl, K.out⟩
set_option maxRecDepth 100000 in
set_option maxHeartbeats 1600000 in
theorem icmpe_any (r s : Ed) (w : World) :
    Calls Tryd.prog 49 #[.agg #[.int .i64 r.r, .int .i64 r.i], .agg #[.int .i64 s.r, .int .i64 s.i]] w fun e w' => e = .returned (.int .i64 (cmpV r.i s.i)) ∧ w' = (w.alloc (.cells #[.int .i64 r.r, .int .i64 r.i] 39)).alloc (.cells #[.int .i64 s.r, .int .i64 s.i] 39) := by
  obtain ⟨k1, k2, k3, k4⟩ := two_boxes w #[.int .i64 r.r, .int .i64 r.i] #[.int .i64 s.r, .int .i64 s.i] 39 39
  obtain ⟨c0, c1⟩ := row_cells k1
  obtain ⟨d0, d1⟩ := row_cells k2
  clear k1 k2 k3 k4
  go_enter Tryd.func49, Tryd.ntmps49
  go_wp2_with (go_at_call 28; refine (tcmp_any _ _ _).mono ?_; rintro e w' ⟨rfl, rfl⟩)
  go_ret
  exact ⟨rfl, rfl⟩
set_option maxRecDepth 100000 in
theorem keep4o {w5 w' : World} {b g : Nat} {l m : Od} (h : w5.heap[b]? = some (.cells #[.int .i64 l.r, .int .i64 l.s, .int .i64 l.i, .int .i64 l.l] 79 (0, 0)) ∧ w5.heap[g]? = some (.cells #[.int .i64 m.r, .int .i64 m.s, .int .i64 m.i, .int .i64 m.l] 79 (0, 0))) (hg : Hid (w5.grownBy w' none)) :
    w'.cell? ⟨b, 0, none⟩ = some (.int .i64 l.r) ∧ w'.cell? ⟨b, 1, none⟩ = some (.int .i64 l.s) ∧ w'.cell? ⟨g, 0, none⟩ = some (.int .i64 m.r) ∧ w'.cell? ⟨g, 1, none⟩ = some (.int .i64 m.s) ∧ Hid (w5.grownBy w' none) := by
  obtain ⟨a0, a1, -, -⟩ := row4i (kept_row h.1 hg.out (by simp))
  obtain ⟨b0, b1, -, -⟩ := row4i (kept_row h.2 hg.out (by simp))
  exact ⟨a0, a1, b0, b1, hg⟩
set_option maxRecDepth 100000 in
set_option maxHeartbeats 3200000 in
theorem icmpo_any (l m : Od) (w : World) :
    Calls Tryd.prog 76 #[.agg #[.int .i64 l.r, .int .i64 l.s, .int .i64 l.i, .int .i64 l.l], .agg #[.int .i64 m.r, .int .i64 m.s, .int .i64 m.i, .int .i64 m.l]] w fun e w' => e = .returned (.int .i64 (cmpO l m)) ∧ w.grownBy w' none := by
  obtain ⟨k1, k2, k3, k4⟩ := two_boxes w #[.int .i64 l.r, .int .i64 l.s, .int .i64 l.i, .int .i64 l.l] #[.int .i64 m.r, .int .i64 m.s, .int .i64 m.i, .int .i64 m.l] 79 79
  have HB := Lib.hid (And.intro k1 k2)
  have K := Lib.hid k3
  clear k1 k2 k3 k4
  go_enter Tryd.func76, Tryd.ntmps76
  go_upto_region 1 with fail
  generalize (w.alloc _).alloc _ = wa at *
  have GZ : Hid (wa.grownBy wa none) := Lib.hid (grown_refl _ _)
  obtain ⟨a0, a1, b0, b1, -⟩ := keep4o HB.out GZ
  go_region_held3 (fun w' => w'.cell? ⟨w.heap.size, 0, none⟩ = some (.int .i64 l.r) ∧ w'.cell? ⟨w.heap.size, 1, none⟩ = some (.int .i64 l.s) ∧ w'.cell? ⟨w.heap.size + 1, 0, none⟩ = some (.int .i64 m.r) ∧ w'.cell? ⟨w.heap.size + 1, 1, none⟩ = some (.int .i64 m.s) ∧ Hid (wa.grownBy w' none))
    (first | with_reducible exact keep4o HB.out (hid_drew GZ) | with_reducible exact keep4o HB.out (hid_drew (hid_more GZ (World.grownBy_alloc _ _ _))) | (go_split_ands; with_reducible refine keep4o HB.out ?_; with_reducible assumption) | (go_split_ands; with_reducible refine keep4o HB.out (hid_more ?_ (World.grownBy_alloc _ _ _)); with_reducible assumption))
    (first
      | (go_at_call 28; refine (tcmp_any _ _ _).mono ?_; rintro e w' ⟨rfl, rfl⟩)
      | (go_at_call 79; refine (tor_any [cmpV l.r m.r, cmpV l.s m.s] _ _ (fun _ => True) _ ?_ (by simp)).mono ?_; exact (rd_pair _ _ _ _ trivial).keep (grown_drew (grown_refl _ _)); rintro e w' ⟨rfl, rfl⟩))
  all_goals
    go_split_ands
    go_wp2_with fail
    go_ret
    exact ⟨rfl, grown_trans K.out (Hid.out (by assumption))⟩
end Go.Proofs.YtlgmankojgjfjaaDoor

/- identify: count. -/
namespace Go.Proofs.YtlgmankojgjfjaaDoor
open Go.RowKit Bs
/-- While claims are counted: the result's box, the counts. -/
structure CN (W : World) (q : Nat → Prop) (l : List Od) (p : Option Addr) (c : Nat) (f : Nat → Nat) (w : World) : Prop where
  rb : w.heap[W.heap.size]? = some (.cells (arrV 257 (ivN fun _ => 0)) 103 (0, 0))
  cb : w.heap[W.heap.size + 1]? = some (.cells (arrV 257 (ivN f)) 103 (0, 0))
  rd : RdF w (· < W.heap.size) (.slice p l.length c) l.length (l.flatMap odC)
  gr : W.grownBy w none
section
variable {W w w1 : World} {q : Nat → Prop} {l : List Od} {p : Option Addr} {c : Nat} {f : Nat → Nat}
set_option maxRecDepth 100000 in
theorem CN.keep (h : CN W q l p c f w) (g : w.grownBy w1 none) : CN W q l p c f w1 := ⟨kept_row h.rb g (by simp), kept_row h.cb g (by simp), h.rd.keep g, grown_trans h.gr g⟩
set_option maxRecDepth 100000 in
theorem CN.start (hR : RdF W q (.slice p l.length c) l.length (l.flatMap odC)) : CN W q l p c (fun _ => 0) ((W.alloc (.cells (arrV 257 (ivN fun _ => 0)) 103)).alloc (.cells (arrV 257 (ivN fun _ => 0)) 103)) := by
  obtain ⟨k1, k2, k3, k4⟩ := two_boxes W (arrV 257 (ivN fun _ => 0)) (arrV 257 (ivN fun _ => 0)) 103 103
  exact ⟨k1, k2, hR.old.keep k3, k3⟩
set_option maxRecDepth 100000 in
theorem CN.put (h : CN W q l p c f w) {k : Nat} (hk : k < 257) (m : Nat) : CN W q l p c (fun j => if j = k then m else f j) (w.setCell ⟨W.heap.size + 1, k, none⟩ (.int .i64 (m : Int))) := by
  obtain ⟨h1, h2⟩ := arr_put (.int .i64 (m : Int)) h.cb hk
  refine ⟨kept_row h.rb h2 (fun e => by have := Option.some.inj e; omega), ?_, h.rd.grown h2 (fun b hb e => by have := Option.some.inj e; omega), grown_new h.gr h2 (by omega)⟩
  rw [h1]
  congr 2
  refine arr_congr fun j _ => ?_
  unfold ivN
  show (if j = k then _ else _) = Value.int .i64 (((if j = k then m else f j : Nat)) : Int)
  split <;> rfl
end
set_option maxRecDepth 100000 in
set_option maxHeartbeats 3200000 in
theorem icount_any (l : List Od) (p : Option Addr) (c : Nat) (sub : Int) (q : Nat → Prop) (w : World) (hR : RdF w q (.slice p l.length c) l.length (l.flatMap odC)) (hm : l.length ≤ 1000) (hv : ∀ x ∈ l, 1 ≤ x.i ∧ x.i ≤ 256) :
    Calls Tryd.prog 67 #[.slice p l.length c, .int .i64 sub] w fun e w' => e = .returned (.agg (arrV 257 (ivN fun k => cntO l sub k))) ∧ w.grownBy w' none := by
  have HZ := (zero_of_info info_cs).1
  have H0 := Lib.hid (CN.start hR)
  have HV := Lib.hid hv
  clear hR hv
  go_enter Tryd.func67, Tryd.ntmps67
  go_upto_region 2 with fail
  generalize (w.alloc _).alloc _ = wa at *
  have H1 : Hid (CN w q l p c (fun j => cntO (l.take 0) sub j) wa) := H0
  clear HZ H0
  go_wp2_with fail
  go_loopw [10] (fun a wr => ∃ k : Nat, k ≤ l.length ∧ a = .int .i64 (k : Int) ∧ Hid (CN w q l p c (fun j => cntO (l.take k) sub j) wr)) (fun a _ => l.length - (RowKit.intOf a).toNat)
  case atStart => exact ⟨0, Nat.zero_le _, rfl, H1⟩
  case round =>
    obtain ⟨w2, rfl⟩ : ∃ w2, w2 = wr := ⟨_, rfl⟩
    obtain ⟨k, hk, rfl, H⟩ := hrel
    clear H1
    by_cases hlt : k < l.length
    · obtain ⟨-, b, off, rfl, -, hc⟩ := od_cells H.out.rd (by omega)
      obtain ⟨x, hx⟩ : ∃ x, l[k]? = some x := ⟨_, List.getElem?_eq_getElem hlt⟩
      obtain ⟨a0, a1, a2, a3⟩ := hc k x hx
      obtain ⟨m, hm1⟩ : ∃ m : Nat, x.i = (m : Int) := ⟨x.i.toNat, by have := HV.out x (List.mem_of_getElem? hx); omega⟩
      have hm2 : m < 257 := by have := HV.out x (List.mem_of_getElem? hx); omega
      have HX := Lib.hid hx
      have HB := Lib.hid (heap_alloc_new w2 (.cells #[.int .i64 x.r, .int .i64 x.s, .int .i64 x.i, .int .i64 x.l] 79))
      have HG := Lib.hid (World.grownBy_alloc w2 (.cells #[.int .i64 x.r, .int .i64 x.s, .int .i64 x.i, .int .i64 x.l] 79) none)
      have HM1 := Lib.hid hm1
      clear hc hx hm1
      go_upto_region 5 with fail
      clear a0 a1 a2 a3
      generalize w2.alloc _ = w3 at *
      have H2 := Lib.hid (H.out.keep HG.out)
      rw [HM1.out] at HB
      obtain ⟨d0, d1, d2, d3⟩ := row4i HB.out
      obtain ⟨n, hn⟩ : ∃ n : Nat, cntO (l.take k) sub m = n := ⟨_, rfl⟩
      have hnl : n ≤ 1000 := by have := cntO_le (l.take k) sub m; have := List.length_take_le k l; omega
      have e1 : w3.cell? ⟨w.heap.size + 1, m, none⟩ = some (.int .i64 (n : Int)) := by
        rw [← hn]; exact arr_row H2.out.cb hm2
      have f1 := frozen_of_row _ _ m _ _ H2.out.cb
      have HT : Hid (x.s = sub → (fun j : Nat => cntO (l.take (k + 1)) sub j) = fun j => if j = m then n + 1 else cntO (l.take k) sub j) := Lib.hid (fun hs => by
        funext j
        rw [cnt_take HX.out, ← hn]
        by_cases hj : j = m
        · subst hj
          rw [if_pos ⟨hs, HM1.out⟩, if_pos rfl]
        · rw [if_neg (fun e => hj (by have := e.2; have := HM1.out; omega)), if_neg hj]; rfl)
      have HF : Hid (x.s ≠ sub → (fun j : Nat => cntO (l.take (k + 1)) sub j) = fun j : Nat => cntO (l.take k) sub j) := Lib.hid (fun hs => by
        funext j
        rw [cnt_take HX.out, if_neg (fun e => hs e.1)]; rfl)
      have HP := Lib.hid (H2.out.put hm2 (n + 1))
      clear hn H HG
      by_cases h1 : x.s = sub
      · have h1' : (x.s == sub) = true := by simpa using h1
        have HN : Hid (CN w q l _ c (fun j => cntO (l.take (k + 1)) sub j) _) := Lib.hid (by rw [HT.out h1]; exact HP.out)
        clear HT HF HP h1
        go_wp2_with fail
        exact ⟨⟨k + 1, by omega, congrArg _ (by omega), HN⟩, by simp only [RowKit.intOf]; omega⟩
      · have h1' : (x.s == sub) = false := by simpa using h1
        have HN : Hid (CN w q l _ c (fun j => cntO (l.take (k + 1)) sub j) w3) := Lib.hid (by rw [HF.out h1]; exact H2.out)
        clear HT HF HP h1
        go_wp2_with fail
        exact ⟨⟨k + 1, by omega, congrArg _ (by omega), HN⟩, by simp only [RowKit.intOf]; omega⟩
    · obtain rfl : k = l.length := by omega
      have HE : Hid (CN w q l p c (fun j => cntO l sub j) w2) := by rw [List.take_length] at H; exact H
      clear H
      have hsz : (Tryd.prog.info? 103).map (·.size) = some 257 := (zero_of_info info_cs).2
      have hus := Tryd.underlying103
      have HSZ := Lib.hid hsz
      have HU := Lib.hid hus
      clear hsz hus
      go_wp2_with fail
      refine wp_load_row 103 (.tmp 5) rfl (w.heap.size + 1) rfl _ (arrV 257 (ivN fun j : Nat => cntO l sub j)) _ _ HE.out.cb HU.out rfl (by rw [arr_size]; exact HSZ.out) ?_
      obtain ⟨F, hF⟩ : ∃ F, (arrV 257 (ivN fun j : Nat => cntO l sub j)) = F := ⟨_, rfl⟩
      have hFs : F.size = 257 := by rw [← hF, arr_size]
      rw [hF]
      have hst := run_storeCells_from (P := Tryd.prog) w.heap.size 103 F.toList 0 _ w2 HE.out.rb (by rw [arr_size, Array.length_toList, hFs]) (fun v hv => by rw [← hF] at hv; exact (Array.all_eq_true_iff_forall_mem.1 (arr_one (n := 257) (f := ivN fun j : Nat => cntO l sub j) fun _ => rfl)) v (by simpa using hv))
      have HST := Lib.hid hst
      have HFF := Lib.hid hF
      clear hst hF
      go_wp2_with fail
      rw [HST.out, Result.andThen_ok, Oper.upon_skip]
      go_wp2_with fail
      have e0 : (List.take 0 (arrV 257 (ivN fun _ => 0)).toList ++ F.toList).toArray = F := by simp
      rw [e0]
      have hrow := setRow_heap w2 w.heap.size _ F _ _ HE.out.rb
      refine bodyPost_ret (v := .agg F) (results_cell_row (p := 4) (fr := (0, 0)) (by kernel_rfl) _ _ w.heap.size _ F _ rfl hrow HU.out rfl (by rw [hFs]; exact HSZ.out)) rfl ⟨by rw [HFF.out], grown_new HE.out.gr grown_setRow (Nat.le_refl _)⟩
end Go.Proofs.YtlgmankojgjfjaaDoor

/- identify: IndexFunc, ContainsFunc and ascending at claims and at edges. -/
namespace Go.Proofs.YtlgmankojgjfjaaDoor
open Go.RowKit Bs
set_option maxRecDepth 100000 in
theorem icmpe2_any (r s : Ed) (w : World) :
    Calls Tryd.prog 49 #[.agg #[.int .i64 r.r, .int .i64 r.i], .agg #[.int .i64 s.r, .int .i64 s.i]] w fun e w' => e = .returned (.int .i64 (cmpV r.i s.i)) ∧ w.grownBy w' none := by
  refine (icmpe_any r s w).mono ?_
  rintro e w' ⟨rfl, rfl⟩
  exact ⟨rfl, grown_trans (World.grownBy_alloc w _ _) (World.grownBy_alloc _ _ _)⟩
set_option maxRecDepth 100000 in
set_option maxHeartbeats 1600000 in
theorem iidxO_any (g : Nat) (lb : Array Value) (P : Od → Bool) (eg : EnterF g) (R : List Od) (p : Option Addr) (c : Nat) (q : Nat → Prop) (w : World) (hR : RdF w q (.slice p R.length c) R.length (R.flatMap odC)) (hm : R.length ≤ 9223372036854775807)
    (hP : ∀ (r : Od) (w' : World), w.grownBy w' none → Calls Tryd.prog g (#[.agg #[.int .i64 r.r, .int .i64 r.s, .int .i64 r.i, .int .i64 r.l]] ++ lb) w' fun e w2 => e = .returned (.bool (P r)) ∧ w'.grownBy w2 none) :
    Calls Tryd.prog 78 #[.slice p R.length c, .func (.func g) #[] lb] w fun e w' => ∃ i : Int, e = .returned (.int .i64 i) ∧ decide (0 ≤ i) = R.any P ∧ w.grownBy w' none := by
  have HR := Lib.hid hR
  have HP := Lib.hid hP
  clear hR hP
  go_enter Tryd.func78, Tryd.ntmps78
  go_wp2_with fail
  go_loopw [8] (fun a wr => ∃ k : Nat, k ≤ R.length ∧ a = .int .i64 (k : Int) ∧ Hid (w.grownBy wr none) ∧ Hid ((R.take k).any P = false)) (fun a _ => R.length - (RowKit.intOf a).toNat)
  case atStart => exact ⟨0, Nat.zero_le _, rfl, Lib.hid (grown_refl _ _), Lib.hid rfl⟩
  case round =>
    obtain ⟨k, hk, rfl, G, HN⟩ := hrel
    by_cases hlt : k < R.length
    · obtain ⟨-, b, off, rfl, hq, hc⟩ := od_cells (HR.out.keep G.out) (by omega)
      obtain ⟨x, hx⟩ : ∃ x, R[k]? = some x := ⟨_, List.getElem?_eq_getElem hlt⟩
      obtain ⟨a0, a1, a2, a3⟩ := hc k x hx
      have HX := Lib.hid hx
      clear hc hx
      have hcall := HP.out x wr G.out
      cases hp : P x
      · rw [hp] at hcall
        have HY := Lib.hid hp
        clear hp
        go_wp2_with (go_at_fn g; refine hcall.mono ?_; rintro e w' ⟨rfl, hg⟩; have HG := Lib.hid (grown_trans G.out hg); clear hg)
        exact ⟨⟨k + 1, by omega, congrArg _ (by omega), HG, Lib.hid (any_take HN.out HX.out HY.out)⟩, by simp only [RowKit.intOf]; omega⟩
      · rw [hp] at hcall
        have HY := Lib.hid hp
        clear hp
        go_wp2_with (go_at_fn g; refine hcall.mono ?_; rintro e w' ⟨rfl, hg⟩; have HG := Lib.hid (grown_trans G.out hg); clear hg)
        go_ret
        refine ⟨_, rfl, ?_, HG.out⟩
        rw [any_at HX.out HY.out, decide_eq_true_eq]; omega
    · obtain rfl : k = R.length := by omega
      go_wp2_with fail
      go_ret
      refine ⟨_, rfl, ?_, G.out⟩
      rw [any_end HN.out (Nat.le_refl _)]; decide
set_option maxRecDepth 100000 in
set_option maxHeartbeats 1600000 in
theorem icontO_any (g : Nat) (lb : Array Value) (P : Od → Bool) (eg : EnterF g) (R : List Od) (p : Option Addr) (c : Nat) (q : Nat → Prop) (w : World) (hR : RdF w q (.slice p R.length c) R.length (R.flatMap odC)) (hm : R.length ≤ 9223372036854775807)
    (hP : ∀ (r : Od) (w' : World), w.grownBy w' none → Calls Tryd.prog g (#[.agg #[.int .i64 r.r, .int .i64 r.s, .int .i64 r.i, .int .i64 r.l]] ++ lb) w' fun e w2 => e = .returned (.bool (P r)) ∧ w'.grownBy w2 none) :
    Calls Tryd.prog 73 #[.slice p R.length c, .func (.func g) #[] lb] w fun e w' => e = .returned (.bool (R.any P)) ∧ w.grownBy w' none := by
  have HR := Lib.hid hR
  have HP := Lib.hid hP
  clear hR hP
  go_enter Tryd.func73, Tryd.ntmps73
  go_wp2_with (go_at_call 78; refine (iidxO_any g lb P eg R p c q w HR.out hm HP.out).mono ?_; rintro e w' ⟨i, rfl, hi, hg⟩; have HI := Lib.hid (And.intro hi hg); clear hi hg)
  go_ret
  rw [← HI.out.1]
  exact ⟨rfl, HI.out.2⟩
set_option maxRecDepth 100000 in
theorem ascO_end {R : List Od} (h : ∀ i x y, i + 1 < R.length → R[i]? = some x → R[i + 1]? = some y → ltO x y = true) : ascB ltO R = true :=
  (ascB_iff _ _).2 fun i x y hx hy => h i x y ((List.getElem?_eq_some_iff.1 hy).1) hx hy
set_option maxRecDepth 100000 in
theorem ascO_hit {R : List Od} {i : Nat} {x y : Od} (hx : R[i]? = some x) (hy : R[i + 1]? = some y) (h : ltO x y = false) : ascB ltO R = false := by
  rw [Bool.eq_false_iff]
  intro h2
  have := (ascB_iff _ _).1 h2 i x y hx hy
  rw [h] at this; cases this
set_option maxRecDepth 100000 in
theorem ltO_of_ge {x y : Od} (h : 0 ≤ cmpO x y) : ltO x y = false := by
  exact cmpO_ge.1 h
set_option maxRecDepth 100000 in
theorem ltO_of_lt {x y : Od} (h : ¬ 0 ≤ cmpO x y) : ltO x y = true := by
  exact (by have : ¬ ltO x y = false := fun e => h (cmpO_ge.2 e); simpa using this)
set_option maxRecDepth 100000 in
theorem keepAO {wr w' : World} {b i j : Nat} {x y : Od} (h : wr.cell? ⟨b, i, none⟩ = some (.int .i64 x.r) ∧ wr.cell? ⟨b, i + 1, none⟩ = some (.int .i64 x.s) ∧ wr.cell? ⟨b, i + 2, none⟩ = some (.int .i64 x.i) ∧ wr.cell? ⟨b, i + 3, none⟩ = some (.int .i64 x.l) ∧ wr.cell? ⟨b, j, none⟩ = some (.int .i64 y.r) ∧ wr.cell? ⟨b, j + 1, none⟩ = some (.int .i64 y.s) ∧ wr.cell? ⟨b, j + 2, none⟩ = some (.int .i64 y.i) ∧ wr.cell? ⟨b, j + 3, none⟩ = some (.int .i64 y.l)) (hg : Hid (wr.grownBy w' none)) : w'.cell? ⟨b, i, none⟩ = some (.int .i64 x.r) ∧ w'.cell? ⟨b, i + 1, none⟩ = some (.int .i64 x.s) ∧ w'.cell? ⟨b, i + 2, none⟩ = some (.int .i64 x.i) ∧ w'.cell? ⟨b, i + 3, none⟩ = some (.int .i64 x.l) ∧ w'.cell? ⟨b, j, none⟩ = some (.int .i64 y.r) ∧ w'.cell? ⟨b, j + 1, none⟩ = some (.int .i64 y.s) ∧ w'.cell? ⟨b, j + 2, none⟩ = some (.int .i64 y.i) ∧ w'.cell? ⟨b, j + 3, none⟩ = some (.int .i64 y.l) ∧ Hid (wr.grownBy w' none) := by
  obtain ⟨h0, h1, h2, h3, h4, h5, h6, h7⟩ := h
  exact ⟨hg.out.cell h0 (by simp), hg.out.cell h1 (by simp), hg.out.cell h2 (by simp), hg.out.cell h3 (by simp), hg.out.cell h4 (by simp), hg.out.cell h5 (by simp), hg.out.cell h6 (by simp), hg.out.cell h7 (by simp), hg⟩
set_option maxRecDepth 100000 in
set_option maxHeartbeats 3200000 in
theorem iascO_any (R : List Od) (p : Option Addr) (c : Nat) (q : Nat → Prop) (w : World) (hR : RdF w q (.slice p R.length c) R.length (R.flatMap odC)) (hm : R.length ≤ 9223372036854775807) :
    Calls Tryd.prog 75 #[.slice p R.length c, .func (.func 76) #[] #[]] w fun e w' => e = .returned (.bool (ascB ltO R)) ∧ w.grownBy w' none := by
  have eg : EnterF 76 := enters_of Tryd.func76 (by kernel_rfl) rfl
  have HR := Lib.hid hR
  clear hR
  go_enter Tryd.func75, Tryd.ntmps75
  go_wp2_with fail
  go_loopw [5] (fun a wr => ∃ k : Nat, 1 ≤ k ∧ (k ≤ R.length ∨ k = 1) ∧ a = .int .i64 (k : Int) ∧ Hid (w.grownBy wr none) ∧ Hid (∀ i x y, i + 1 < k → R[i]? = some x → R[i + 1]? = some y → ltO x y = true)) (fun a _ => R.length - (RowKit.intOf a).toNat)
  case atStart => exact ⟨1, by omega, Or.inr rfl, rfl, Lib.hid (grown_refl _ _), Lib.hid (fun i x y h => by omega)⟩
  case round =>
    obtain ⟨k, hk1, hk, rfl, G, HN⟩ := hrel
    by_cases hlt : k < R.length
    · obtain ⟨j, rfl⟩ : ∃ j, k = j + 1 := ⟨k - 1, by omega⟩
      obtain ⟨-, b, off, rfl, hq, hc⟩ := od_cells (HR.out.keep G.out) (by omega)
      obtain ⟨x, hx⟩ : ∃ x, R[j]? = some x := ⟨_, List.getElem?_eq_getElem (by omega)⟩
      obtain ⟨y, hy⟩ : ∃ y, R[j + 1]? = some y := ⟨_, List.getElem?_eq_getElem hlt⟩
      obtain ⟨a0, a1, a2, a3⟩ := hc j x hx
      obtain ⟨b0, b1, b2, b3⟩ := hc (j + 1) y hy
      have HXY := Lib.hid (And.intro hx hy)
      have ew1 : ((j : Int) + 1 - 1) = (j : Int) := by omega
      have ew2 : IntKind.i64.wrap ((j : Int) + 1 - 1) = (j : Int) := by rw [ew1, IntWalk.i64_in _ (by omega)]
      have ew3 : IntKind.i64.wrap (j : Int) = (j : Int) := IntWalk.i64_in _ (by omega)
      have j0 : (0 : Int) ≤ (j : Int) := by omega
      have j1 : (0 : Int) ≤ (j : Int) + 1 := by omega
      have j2 : (j : Int) < (R.length : Int) := by omega
      have j3 : (j : Int) + 1 < (R.length : Int) := by omega
      have j4 : ((j : Int) + 1).toNat = j + 1 := by omega
      clear hc hx hy
      have hcast : ((j + 1 : Nat) : Int) = (j : Int) + 1 := by omega
      rw [hcast]
      have HF := Lib.hid (show wr.cell? ⟨b, off + j * 4, none⟩ = some (.int .i64 x.r) ∧ wr.cell? ⟨b, off + j * 4 + 1, none⟩ = some (.int .i64 x.s) ∧ wr.cell? ⟨b, off + j * 4 + 2, none⟩ = some (.int .i64 x.i) ∧ wr.cell? ⟨b, off + j * 4 + 3, none⟩ = some (.int .i64 x.l) ∧ wr.cell? ⟨b, off + (j + 1) * 4, none⟩ = some (.int .i64 y.r) ∧ wr.cell? ⟨b, off + (j + 1) * 4 + 1, none⟩ = some (.int .i64 y.s) ∧ wr.cell? ⟨b, off + (j + 1) * 4 + 2, none⟩ = some (.int .i64 y.i) ∧ wr.cell? ⟨b, off + (j + 1) * 4 + 3, none⟩ = some (.int .i64 y.l) from ⟨a0, a1, a2, a3, b0, b1, b2, b3⟩)
      have GZ : Hid (wr.grownBy wr none) := Lib.hid (grown_refl _ _)
      go_upto_region 4 with fail
      cases hlt2 : ltO x y
      · have hge : 0 ≤ cmpO x y := by
          by_cases h : 0 ≤ cmpO x y
          · exact h
          · rw [ltO_of_lt h] at hlt2; cases hlt2
        have HL := Lib.hid hlt2
        clear hlt2
        go_region_held3 (fun w' => w'.cell? ⟨b, off + j * 4, none⟩ = some (.int .i64 x.r) ∧ w'.cell? ⟨b, off + j * 4 + 1, none⟩ = some (.int .i64 x.s) ∧ w'.cell? ⟨b, off + j * 4 + 2, none⟩ = some (.int .i64 x.i) ∧ w'.cell? ⟨b, off + j * 4 + 3, none⟩ = some (.int .i64 x.l) ∧ w'.cell? ⟨b, off + (j + 1) * 4, none⟩ = some (.int .i64 y.r) ∧ w'.cell? ⟨b, off + (j + 1) * 4 + 1, none⟩ = some (.int .i64 y.s) ∧ w'.cell? ⟨b, off + (j + 1) * 4 + 2, none⟩ = some (.int .i64 y.i) ∧ w'.cell? ⟨b, off + (j + 1) * 4 + 3, none⟩ = some (.int .i64 y.l) ∧ Hid (wr.grownBy w' none))
          (first | with_reducible exact keepAO HF.out (hid_drew GZ) | (with_reducible exact keepAO HF.out (hid_drew (hid_more GZ hg))) | (go_split_ands; with_reducible refine keepAO HF.out ?_; with_reducible assumption) | (go_split_ands; with_reducible refine keepAO HF.out (hid_more ?_ hg); with_reducible assumption))
          ((go_at_call 76; refine (icmpo_any x y _).mono ?_; rintro e w' ⟨rfl, hg⟩))
        all_goals
          go_split_ands
          go_wp2_with fail
          go_ret
          rw [ascO_hit HXY.out.1 HXY.out.2 HL.out]
          exact ⟨rfl, grown_trans G.out (Hid.out (by assumption))⟩
      · have hge : ¬ 0 ≤ cmpO x y := by
          intro h
          rw [ltO_of_ge h] at hlt2; cases hlt2
        have HL := Lib.hid hlt2
        clear hlt2
        go_region_held3 (fun w' => w'.cell? ⟨b, off + j * 4, none⟩ = some (.int .i64 x.r) ∧ w'.cell? ⟨b, off + j * 4 + 1, none⟩ = some (.int .i64 x.s) ∧ w'.cell? ⟨b, off + j * 4 + 2, none⟩ = some (.int .i64 x.i) ∧ w'.cell? ⟨b, off + j * 4 + 3, none⟩ = some (.int .i64 x.l) ∧ w'.cell? ⟨b, off + (j + 1) * 4, none⟩ = some (.int .i64 y.r) ∧ w'.cell? ⟨b, off + (j + 1) * 4 + 1, none⟩ = some (.int .i64 y.s) ∧ w'.cell? ⟨b, off + (j + 1) * 4 + 2, none⟩ = some (.int .i64 y.i) ∧ w'.cell? ⟨b, off + (j + 1) * 4 + 3, none⟩ = some (.int .i64 y.l) ∧ Hid (wr.grownBy w' none))
          (first | with_reducible exact keepAO HF.out (hid_drew GZ) | (with_reducible exact keepAO HF.out (hid_drew (hid_more GZ hg))) | (go_split_ands; with_reducible refine keepAO HF.out ?_; with_reducible assumption) | (go_split_ands; with_reducible refine keepAO HF.out (hid_more ?_ hg); with_reducible assumption))
          ((go_at_call 76; refine (icmpo_any x y _).mono ?_; rintro e w' ⟨rfl, hg⟩))
        all_goals
          go_split_ands
          have HGW := Lib.hid (grown_trans G.out (Hid.out (by assumption)))
          go_wp2_with fail
          refine ⟨⟨j + 1 + 1, by omega, Or.inl (by omega), congrArg _ (by omega), HGW, Lib.hid fun i x2 y2 hi hx2 hy2 => ?_⟩, by simp only [RowKit.intOf]; omega⟩
          by_cases hij : i = j
          · subst hij
            have e1 := HXY.out.1.symm.trans hx2
            have e2 := HXY.out.2.symm.trans hy2
            injection e1 with e1
            injection e2 with e2
            subst e1
            subst e2
            exact HL.out
          · exact HN.out i x2 y2 (by omega) hx2 hy2
    · have h1 : ¬ (k : Int) < (R.length : Int) := by omega
      go_wp2_with fail
      go_ret
      rw [ascO_end fun i x y hi hx hy => HN.out i x y (by omega) hx hy]
      exact ⟨rfl, G.out⟩
set_option maxRecDepth 100000 in
set_option maxHeartbeats 1600000 in
theorem iidxE_any (g : Nat) (lb : Array Value) (P : Ed → Bool) (eg : EnterF g) (R : List Ed) (p : Option Addr) (c : Nat) (q : Nat → Prop) (w : World) (hR : RdF w q (.slice p R.length c) R.length (R.flatMap edC)) (hm : R.length ≤ 9223372036854775807)
    (hP : ∀ (r : Ed) (w' : World), w.grownBy w' none → Calls Tryd.prog g (#[.agg #[.int .i64 r.r, .int .i64 r.i]] ++ lb) w' fun e w2 => e = .returned (.bool (P r)) ∧ w'.grownBy w2 none) :
    Calls Tryd.prog 69 #[.slice p R.length c, .func (.func g) #[] lb] w fun e w' => ∃ i : Int, e = .returned (.int .i64 i) ∧ decide (0 ≤ i) = R.any P ∧ w.grownBy w' none := by
  have HR := Lib.hid hR
  have HP := Lib.hid hP
  clear hR hP
  go_enter Tryd.func69, Tryd.ntmps69
  go_wp2_with fail
  go_loopw [8] (fun a wr => ∃ k : Nat, k ≤ R.length ∧ a = .int .i64 (k : Int) ∧ Hid (w.grownBy wr none) ∧ Hid ((R.take k).any P = false)) (fun a _ => R.length - (RowKit.intOf a).toNat)
  case atStart => exact ⟨0, Nat.zero_le _, rfl, Lib.hid (grown_refl _ _), Lib.hid rfl⟩
  case round =>
    obtain ⟨k, hk, rfl, G, HN⟩ := hrel
    by_cases hlt : k < R.length
    · obtain ⟨-, b, off, rfl, hq, hc⟩ := ed_cells (HR.out.keep G.out) (by omega)
      obtain ⟨x, hx⟩ : ∃ x, R[k]? = some x := ⟨_, List.getElem?_eq_getElem hlt⟩
      obtain ⟨a0, a1⟩ := hc k x hx
      have HX := Lib.hid hx
      clear hc hx
      have hcall := HP.out x wr G.out
      cases hp : P x
      · rw [hp] at hcall
        have HY := Lib.hid hp
        clear hp
        go_wp2_with (go_at_fn g; refine hcall.mono ?_; rintro e w' ⟨rfl, hg⟩; have HG := Lib.hid (grown_trans G.out hg); clear hg)
        exact ⟨⟨k + 1, by omega, congrArg _ (by omega), HG, Lib.hid (any_take HN.out HX.out HY.out)⟩, by simp only [RowKit.intOf]; omega⟩
      · rw [hp] at hcall
        have HY := Lib.hid hp
        clear hp
        go_wp2_with (go_at_fn g; refine hcall.mono ?_; rintro e w' ⟨rfl, hg⟩; have HG := Lib.hid (grown_trans G.out hg); clear hg)
        go_ret
        refine ⟨_, rfl, ?_, HG.out⟩
        rw [any_at HX.out HY.out, decide_eq_true_eq]; omega
    · obtain rfl : k = R.length := by omega
      go_wp2_with fail
      go_ret
      refine ⟨_, rfl, ?_, G.out⟩
      rw [any_end HN.out (Nat.le_refl _)]; decide
set_option maxRecDepth 100000 in
set_option maxHeartbeats 1600000 in
theorem icontE_any (g : Nat) (lb : Array Value) (P : Ed → Bool) (eg : EnterF g) (R : List Ed) (p : Option Addr) (c : Nat) (q : Nat → Prop) (w : World) (hR : RdF w q (.slice p R.length c) R.length (R.flatMap edC)) (hm : R.length ≤ 9223372036854775807)
    (hP : ∀ (r : Ed) (w' : World), w.grownBy w' none → Calls Tryd.prog g (#[.agg #[.int .i64 r.r, .int .i64 r.i]] ++ lb) w' fun e w2 => e = .returned (.bool (P r)) ∧ w'.grownBy w2 none) :
    Calls Tryd.prog 46 #[.slice p R.length c, .func (.func g) #[] lb] w fun e w' => e = .returned (.bool (R.any P)) ∧ w.grownBy w' none := by
  have HR := Lib.hid hR
  have HP := Lib.hid hP
  clear hR hP
  go_enter Tryd.func46, Tryd.ntmps46
  go_wp2_with (go_at_call 69; refine (iidxE_any g lb P eg R p c q w HR.out hm HP.out).mono ?_; rintro e w' ⟨i, rfl, hi, hg⟩; have HI := Lib.hid (And.intro hi hg); clear hi hg)
  go_ret
  rw [← HI.out.1]
  exact ⟨rfl, HI.out.2⟩
set_option maxRecDepth 100000 in
theorem ascE_end {R : List Ed} (h : ∀ i x y, i + 1 < R.length → R[i]? = some x → R[i + 1]? = some y → ltE x y = true) : ascB ltE R = true :=
  (ascB_iff _ _).2 fun i x y hx hy => h i x y ((List.getElem?_eq_some_iff.1 hy).1) hx hy
set_option maxRecDepth 100000 in
theorem ascE_hit {R : List Ed} {i : Nat} {x y : Ed} (hx : R[i]? = some x) (hy : R[i + 1]? = some y) (h : ltE x y = false) : ascB ltE R = false := by
  rw [Bool.eq_false_iff]
  intro h2
  have := (ascB_iff _ _).1 h2 i x y hx hy
  rw [h] at this; cases this
set_option maxRecDepth 100000 in
theorem ltE_of_ge {x y : Ed} (h : 0 ≤ cmpV x.i y.i) : ltE x y = false := by
  exact (by have := cmpV_ge.1 h; unfold ltE; rw [decide_eq_false_iff_not]; omega)
set_option maxRecDepth 100000 in
theorem ltE_of_lt {x y : Ed} (h : ¬ 0 ≤ cmpV x.i y.i) : ltE x y = true := by
  exact (by have : ¬ y.i ≤ x.i := fun e => h (cmpV_ge.2 e); unfold ltE; rw [decide_eq_true_eq]; omega)
set_option maxRecDepth 100000 in
theorem keepAE {wr w' : World} {b i j : Nat} {x y : Ed} (h : wr.cell? ⟨b, i, none⟩ = some (.int .i64 x.r) ∧ wr.cell? ⟨b, i + 1, none⟩ = some (.int .i64 x.i) ∧ wr.cell? ⟨b, j, none⟩ = some (.int .i64 y.r) ∧ wr.cell? ⟨b, j + 1, none⟩ = some (.int .i64 y.i)) (hg : Hid (wr.grownBy w' none)) : w'.cell? ⟨b, i, none⟩ = some (.int .i64 x.r) ∧ w'.cell? ⟨b, i + 1, none⟩ = some (.int .i64 x.i) ∧ w'.cell? ⟨b, j, none⟩ = some (.int .i64 y.r) ∧ w'.cell? ⟨b, j + 1, none⟩ = some (.int .i64 y.i) ∧ Hid (wr.grownBy w' none) := by
  obtain ⟨h0, h1, h2, h3⟩ := h
  exact ⟨hg.out.cell h0 (by simp), hg.out.cell h1 (by simp), hg.out.cell h2 (by simp), hg.out.cell h3 (by simp), hg⟩
set_option maxRecDepth 100000 in
set_option maxHeartbeats 3200000 in
theorem iascE_any (R : List Ed) (p : Option Addr) (c : Nat) (q : Nat → Prop) (w : World) (hR : RdF w q (.slice p R.length c) R.length (R.flatMap edC)) (hm : R.length ≤ 9223372036854775807) :
    Calls Tryd.prog 48 #[.slice p R.length c, .func (.func 49) #[] #[]] w fun e w' => e = .returned (.bool (ascB ltE R)) ∧ w.grownBy w' none := by
  have eg : EnterF 49 := enters_of Tryd.func49 (by kernel_rfl) rfl
  have HR := Lib.hid hR
  clear hR
  go_enter Tryd.func48, Tryd.ntmps48
  go_wp2_with fail
  go_loopw [5] (fun a wr => ∃ k : Nat, 1 ≤ k ∧ (k ≤ R.length ∨ k = 1) ∧ a = .int .i64 (k : Int) ∧ Hid (w.grownBy wr none) ∧ Hid (∀ i x y, i + 1 < k → R[i]? = some x → R[i + 1]? = some y → ltE x y = true)) (fun a _ => R.length - (RowKit.intOf a).toNat)
  case atStart => exact ⟨1, by omega, Or.inr rfl, rfl, Lib.hid (grown_refl _ _), Lib.hid (fun i x y h => by omega)⟩
  case round =>
    obtain ⟨k, hk1, hk, rfl, G, HN⟩ := hrel
    by_cases hlt : k < R.length
    · obtain ⟨j, rfl⟩ : ∃ j, k = j + 1 := ⟨k - 1, by omega⟩
      obtain ⟨-, b, off, rfl, hq, hc⟩ := ed_cells (HR.out.keep G.out) (by omega)
      obtain ⟨x, hx⟩ : ∃ x, R[j]? = some x := ⟨_, List.getElem?_eq_getElem (by omega)⟩
      obtain ⟨y, hy⟩ : ∃ y, R[j + 1]? = some y := ⟨_, List.getElem?_eq_getElem hlt⟩
      obtain ⟨a0, a1⟩ := hc j x hx
      obtain ⟨b0, b1⟩ := hc (j + 1) y hy
      have HXY := Lib.hid (And.intro hx hy)
      have ew1 : ((j : Int) + 1 - 1) = (j : Int) := by omega
      have ew2 : IntKind.i64.wrap ((j : Int) + 1 - 1) = (j : Int) := by rw [ew1, IntWalk.i64_in _ (by omega)]
      have ew3 : IntKind.i64.wrap (j : Int) = (j : Int) := IntWalk.i64_in _ (by omega)
      have j0 : (0 : Int) ≤ (j : Int) := by omega
      have j1 : (0 : Int) ≤ (j : Int) + 1 := by omega
      have j2 : (j : Int) < (R.length : Int) := by omega
      have j3 : (j : Int) + 1 < (R.length : Int) := by omega
      have j4 : ((j : Int) + 1).toNat = j + 1 := by omega
      clear hc hx hy
      have hcast : ((j + 1 : Nat) : Int) = (j : Int) + 1 := by omega
      rw [hcast]
      have HF := Lib.hid (show wr.cell? ⟨b, off + j * 2, none⟩ = some (.int .i64 x.r) ∧ wr.cell? ⟨b, off + j * 2 + 1, none⟩ = some (.int .i64 x.i) ∧ wr.cell? ⟨b, off + (j + 1) * 2, none⟩ = some (.int .i64 y.r) ∧ wr.cell? ⟨b, off + (j + 1) * 2 + 1, none⟩ = some (.int .i64 y.i) from ⟨a0, a1, b0, b1⟩)
      have GZ : Hid (wr.grownBy wr none) := Lib.hid (grown_refl _ _)
      go_upto_region 4 with fail
      cases hlt2 : ltE x y
      · have hge : 0 ≤ cmpV x.i y.i := by
          by_cases h : 0 ≤ cmpV x.i y.i
          · exact h
          · rw [ltE_of_lt h] at hlt2; cases hlt2
        have HL := Lib.hid hlt2
        clear hlt2
        go_region_held3 (fun w' => w'.cell? ⟨b, off + j * 2, none⟩ = some (.int .i64 x.r) ∧ w'.cell? ⟨b, off + j * 2 + 1, none⟩ = some (.int .i64 x.i) ∧ w'.cell? ⟨b, off + (j + 1) * 2, none⟩ = some (.int .i64 y.r) ∧ w'.cell? ⟨b, off + (j + 1) * 2 + 1, none⟩ = some (.int .i64 y.i) ∧ Hid (wr.grownBy w' none))
          (first | with_reducible exact keepAE HF.out (hid_drew GZ) | (with_reducible exact keepAE HF.out (hid_drew (hid_more GZ hg))) | (go_split_ands; with_reducible refine keepAE HF.out ?_; with_reducible assumption) | (go_split_ands; with_reducible refine keepAE HF.out (hid_more ?_ hg); with_reducible assumption))
          ((go_at_call 49; refine (icmpe2_any x y _).mono ?_; rintro e w' ⟨rfl, hg⟩))
        all_goals
          go_split_ands
          go_wp2_with fail
          go_ret
          rw [ascE_hit HXY.out.1 HXY.out.2 HL.out]
          exact ⟨rfl, grown_trans G.out (Hid.out (by assumption))⟩
      · have hge : ¬ 0 ≤ cmpV x.i y.i := by
          intro h
          rw [ltE_of_ge h] at hlt2; cases hlt2
        have HL := Lib.hid hlt2
        clear hlt2
        go_region_held3 (fun w' => w'.cell? ⟨b, off + j * 2, none⟩ = some (.int .i64 x.r) ∧ w'.cell? ⟨b, off + j * 2 + 1, none⟩ = some (.int .i64 x.i) ∧ w'.cell? ⟨b, off + (j + 1) * 2, none⟩ = some (.int .i64 y.r) ∧ w'.cell? ⟨b, off + (j + 1) * 2 + 1, none⟩ = some (.int .i64 y.i) ∧ Hid (wr.grownBy w' none))
          (first | with_reducible exact keepAE HF.out (hid_drew GZ) | (with_reducible exact keepAE HF.out (hid_drew (hid_more GZ hg))) | (go_split_ands; with_reducible refine keepAE HF.out ?_; with_reducible assumption) | (go_split_ands; with_reducible refine keepAE HF.out (hid_more ?_ hg); with_reducible assumption))
          ((go_at_call 49; refine (icmpe2_any x y _).mono ?_; rintro e w' ⟨rfl, hg⟩))
        all_goals
          go_split_ands
          have HGW := Lib.hid (grown_trans G.out (Hid.out (by assumption)))
          go_wp2_with fail
          refine ⟨⟨j + 1 + 1, by omega, Or.inl (by omega), congrArg _ (by omega), HGW, Lib.hid fun i x2 y2 hi hx2 hy2 => ?_⟩, by simp only [RowKit.intOf]; omega⟩
          by_cases hij : i = j
          · subst hij
            have e1 := HXY.out.1.symm.trans hx2
            have e2 := HXY.out.2.symm.trans hy2
            injection e1 with e1
            injection e2 with e2
            subst e1
            subst e2
            exact HL.out
          · exact HN.out i x2 y2 (by omega) hx2 hy2
    · have h1 : ¬ (k : Int) < (R.length : Int) := by omega
      go_wp2_with fail
      go_ret
      rw [ascE_end fun i x y hi hx hy => HN.out i x y (by omega) hx hy]
      exact ⟨rfl, G.out⟩
end Go.Proofs.YtlgmankojgjfjaaDoor

/- identify: Check. -/
namespace Go.Proofs.YtlgmankojgjfjaaDoor
open Go.RowKit Bs
set_option maxRecDepth 100000 in
set_option maxHeartbeats 3200000 in
theorem icheck_any (l : List Od) (p : Option Addr) (c : Nat) (q : Nat → Prop) (w : World) (hR : RdF w q (.slice p l.length c) l.length (l.flatMap odC)) (hm : l.length ≤ 9223372036854775807) :
    Calls Tryd.prog 63 #[.slice p l.length c] w fun e w' => e = .returned (.int .i64 (ckO l)) ∧ w.grownBy w' none := by
  have HR := Lib.hid hR
  have e1 : EnterF 74 := enters_of Tryd.func74 (by kernel_rfl) rfl
  have E1 := Lib.hid e1
  clear hR e1
  go_enter Tryd.func63, Tryd.ntmps63
  by_cases h1 : 192 < l.length
  · have h1' : (192 : Int) < (l.length : Int) := by omega
    go_wp2_with fail
    go_ret
    exact ⟨by unfold ckO; rw [if_pos h1]; rfl, grown_refl _ _⟩
  have h1' : ¬ (192 : Int) < (l.length : Int) := by omega
  go_wp2_with fail
  refine (icontO_any 74 #[] wrO E1.out l p c _ w HR.out hm (fun r w' _ => iwrc_any r w')).mono ?_
  rintro e w1 ⟨rfl, hg⟩
  have G1 := Lib.hid hg
  clear hg
  cases f1 : l.any wrO
  case true =>
    have F1 := Lib.hid f1
    clear f1
    go_wp2_with fail
    go_ret
    exact ⟨by unfold ckO; rw [if_neg h1, F1.out]; rfl, G1.out⟩
  have F1 := Lib.hid f1
  clear f1
  go_wp2_with fail
  refine (iascO_any l p c _ w1 (HR.out.keep G1.out) hm).mono ?_
  rintro e w2 ⟨rfl, hg⟩
  have G2 := Lib.hid (grown_trans G1.out hg)
  clear hg
  cases f2 : ascB ltO l
  case false =>
    have F2 := Lib.hid f2
    clear f2
    go_wp2_with fail
    go_ret
    exact ⟨by unfold ckO; rw [if_neg h1, F1.out, F2.out]; rfl, G2.out⟩
  have F2 := Lib.hid f2
  clear f2
  go_wp2_with fail
  go_ret
  exact ⟨by unfold ckO; rw [if_neg h1, F1.out, F2.out]; rfl, G2.out⟩
end Go.Proofs.YtlgmankojgjfjaaDoor

/- identify: free. -/
namespace Go.Proofs.YtlgmankojgjfjaaDoor
open Go.RowKit Bs
set_option maxRecDepth 100000 in
set_option maxHeartbeats 3200000 in
theorem ifree_any (f : Nat → Nat) (w : World) :
    Calls Tryd.prog 68 #[.agg (arrV 257 (ivN f))] w fun e w' => ∃ n ok, e = .returned (.tuple #[.int .i64 n, .bool ok]) ∧ FreeIs f n ok ∧ w.grownBy w' none := by
  obtain ⟨k1, k2⟩ := tone_box w (arrV 257 (ivN f)) 103
  have HB := Lib.hid k1
  have K := Lib.hid k2
  clear k1 k2
  go_enter Tryd.func68, Tryd.ntmps68
  go_upto_region 1 with fail
  generalize w.alloc _ = wa at *
  go_wp2_with fail
  go_loopw [4] (fun a wr => ∃ k : Nat, 1 ≤ k ∧ k ≤ 257 ∧ a = .int .i64 (k : Int) ∧ wr = wa ∧ Hid (∀ j : Nat, 1 ≤ j → j < k → f j ≠ 0)) (fun a _ => 257 - (RowKit.intOf a).toNat)
  case atStart => exact ⟨1, Nat.le_refl _, by omega, rfl, rfl, Lib.hid (fun j h1 h2 => by omega)⟩
  case round =>
    obtain ⟨k, hk1, hk, rfl, rfl, HN⟩ := hrel
    by_cases hlt : k ≤ 256
    · obtain ⟨n, hn⟩ : ∃ n, f k = n := ⟨_, rfl⟩
      have hc := arr_row HB.out (show k < 257 by omega)
      unfold ivN at hc
      rw [hn] at hc
      have h3 : (k : Int) ≤ 256 := by omega
      have HF := Lib.hid hn
      clear hn
      by_cases h0 : n = 0
      · subst h0
        go_wp2_with fail
        go_ret2
        refine ⟨_, _, rfl, Or.inl ⟨rfl, by omega, by omega, by rw [Int.toNat_natCast]; exact HF.out, fun j h1 h2 => HN.out j h1 (by omega)⟩, K.out⟩
      · have h4 : ((n : Int) == 0) = false := by simpa using h0
        have HN2 : Hid (∀ j : Nat, 1 ≤ j → j < k + 1 → f j ≠ 0) := Lib.hid (fun j h1 h2 => by
          by_cases hj : j = k
          · subst hj; rw [HF.out]; exact h0
          · exact HN.out j h1 (by omega))
        go_wp2_with fail
        exact ⟨⟨k + 1, by omega, by omega, congrArg _ (by omega), (by first | rfl | trivial), HN2⟩, by simp only [RowKit.intOf]; omega⟩
    · obtain rfl : k = 257 := by omega
      go_wp2_with fail
      go_ret2
      exact ⟨_, _, rfl, Or.inr ⟨rfl, rfl, fun j h1 h2 => HN.out j h1 (by omega)⟩, K.out⟩
end Go.Proofs.YtlgmankojgjfjaaDoor

/- identify: Conflicts, Length, Free. -/
namespace Go.Proofs.YtlgmankojgjfjaaDoor
open Go.RowKit Bs
def ivC (z : Int) : List Value := [.int .i64 z]
set_option maxRecDepth 100000 in
theorem ivC_one (z : Int) : ∀ u ∈ ivC z, u.oneCell' = true := by
  intro u hu
  simp [ivC] at hu
  subst hu
  rfl
set_option maxRecDepth 100000 in
theorem flat_iv : ∀ X : List Int, X.flatMap ivC = X.map (fun z => Value.int .i64 z)
  | [] => rfl
  | a :: t => by rw [List.flatMap_cons, flat_iv t]; rfl
end Go.Proofs.YtlgmankojgjfjaaDoor
