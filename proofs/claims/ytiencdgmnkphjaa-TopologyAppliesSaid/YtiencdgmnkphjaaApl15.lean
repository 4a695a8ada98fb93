/- Parts of the proof, packed: ToCpy, ToDel, ToInsr, ToInM. -/
import Derived.Test.YtiencdgmnkphjaaApl6
import Derived.ArgAppend
import Derived.Laws.IdiomCopy
import Derived.Laws.BitsLemmas
import Derived.Deep.AppendLies
import Derived.Test.YtiencdgmnkphjaaApl8
import Derived.Lib.Overlaps
import Derived.Test.YtiencdgmnkphjaaApl14
import Derived.Test.YtiencdgmnkphjaaApl3
/- copy, clear, append within a row of structs of the call's own; append of zeros. -/
namespace Go.Proofs.Ytiencdgmnkphjaa
open Go.RowKit Bs
/-- Cells laid over others. -/
def setAt (xs : List Value) (o : Nat) : List Value → List Value
  | [] => xs
  | v :: r => setAt (xs.set o v) (o + 1) r
theorem setAt_len : ∀ (vs : List Value) (o : Nat) (xs : List Value), (setAt xs o vs).length = xs.length
  | [], _, _ => rfl
  | v :: r, o, xs => by
    show (setAt (xs.set o v) (o + 1) r).length = _
    rw [setAt_len r, List.length_set]
theorem setAt_get : ∀ (vs : List Value) (o : Nat) (xs : List Value) (j : Nat), o + vs.length ≤ xs.length → (setAt xs o vs)[j]? = if o ≤ j ∧ j < o + vs.length then vs[j - o]? else xs[j]?
  | [], o, xs, j, _ => by
    rw [if_neg (by simp only [List.length_nil]; omega)]
    rfl
  | v :: r, o, xs, j, h => by
    rw [List.length_cons] at h ⊢
    show (setAt (xs.set o v) (o + 1) r)[j]? = _
    rw [setAt_get r (o + 1) (xs.set o v) j (by rw [List.length_set]; omega), List.getElem?_set]
    by_cases h1 : j = o
    · subst h1
      rw [if_neg (by omega), if_pos rfl, if_pos (by omega), if_pos (by omega), Nat.sub_self]
      rfl
    · by_cases h2 : o + 1 ≤ j ∧ j < o + 1 + r.length
      · rw [if_pos h2, if_pos (by omega), show j - o = (j - (o + 1)) + 1 by omega]
        rfl
      · rw [if_neg h2, if_neg (by omega), if_neg (by omega)]
theorem own_setCells {base size n cap g : Nat} {e : TypeId} : ∀ (vs : List Value) (o : Nat) (w : World) (xs : List Value), w.ownsRow base e size (.slice (some ⟨g, 0, none⟩) n cap) n xs → (w.setCells g o vs).ownsRow base e size (.slice (some ⟨g, 0, none⟩) n cap) n (setAt xs o vs) ∧ w.grownBy (w.setCells g o vs) (some g)
  | [], _, w, xs, h => ⟨h, grown_refl _ _⟩
  | v :: r, o, w, xs, h => by
    obtain ⟨s1, s2⟩ := h.stored o v
    obtain ⟨i1, i2⟩ := own_setCells r (o + 1) _ _ s1
    exact ⟨i1, grown_trans s2 i2⟩
/-- A row, looked at shorter or longer. -/
theorem own_len {w : World} {base size n cap g : Nat} {e : TypeId} {xs : List Value} (h : w.ownsRow base e size (.slice (some ⟨g, 0, none⟩) n cap) n xs) (m : Nat) (hm : m ≤ cap) : ∃ ys, ys.take (min n m * size) = xs.take (min n m * size) ∧ w.ownsRow base e size (.slice (some ⟨g, 0, none⟩) m cap) m ys := by
  rcases h.2 with ⟨e1, _⟩ | ⟨g', cap', cur, e1, hb, hg, hn, hcm, hcs, ht⟩
  · cases e1
  · injection e1 with e2 e3 e4
    injection e2 with e2
    injection e2 with e5 e6
    subst e5
    subst e4
    refine ⟨cur.toList.take (m * size), ?_, ?_, .inr ⟨g, cap, cur, rfl, hb, hg, hm, hcm, hcs, rfl⟩⟩
    · rw [← ht, List.take_take, List.take_take]
      have h1 : min n m * size ≤ m * size := Nat.mul_le_mul_right _ (Nat.min_le_right _ _)
      have h2 : min n m * size ≤ n * size := Nat.mul_le_mul_right _ (Nat.min_le_left _ _)
      rw [Nat.min_eq_left h1, Nat.min_eq_left h2]
    · rw [List.length_take, Array.length_toList, hcs]
      have := Nat.mul_le_mul_right size hm
      omega
theorem own_cellOk {w : World} {base size n cap g : Nat} {e : TypeId} {xs : List Value} (h : w.ownsRow base e size (.slice (some ⟨g, 0, none⟩) n cap) n xs) (j : Nat) (hj : j < cap * size) : (w.cell? ⟨g, j, none⟩).isSome = true ∧ w.frozen? ⟨g, j, none⟩ = false := by
  obtain ⟨ys, -, hy⟩ := own_len h cap (Nat.le_refl _)
  refine ⟨?_, hy.frozenAt j⟩
  rw [hy.cellAt j hj, List.getElem?_eq_getElem (by rw [hy.1]; exact hj)]
  rfl
section
variable {e t : TypeId} {i : TypeInfo} (ht : Try.prog.underlying t = some (.slice e)) (hi : Try.prog.info? e = some i)
include ht hi
/-- copy. -/
theorem run_copy_k (w : World) (ty : TypeId) (b o dLen dCap : Nat) (a : Addr) (sLen sCap : Nat) (cs : List Value) (m : Nat) (hm : Nat.min sLen dLen = m) (hl : cs.length = m * i.size) (hsrc : ∀ j v, cs[j]? = some v → w.cell? (a.add j) = some v)
    (hc : ∀ j, j < cs.length → (w.cell? ⟨b, o + j, none⟩).isSome = true) (hf : ∀ j, j < cs.length → w.frozen? ⟨b, o + j, none⟩ = false) (h1 : ∀ v ∈ cs, v.oneCell' = true) :
    (Builtin.copy_ #[t, t] ty #[.slice (some ⟨b, o, none⟩) dLen dCap, .slice (some a) sLen sCap]).run Try.prog w = .ok (goInt m) (w.setCells b o cs) := by
  have hfc := run_firstCells_some (P := Try.prog) w i.size m a sLen sCap cs hl hsrc
  have hst := run_storeCells_cells (P := Try.prog) b o cs 0 w (by simpa using hc) (by simpa using hf) h1
  simp only [Nat.add_zero] at hst
  simp [Builtin.copy_, run_underlying ht, Builtin.lenOf, sizeOf, typeInfo, hi, hm, hfc, hst]
/-- clear of one element. -/
theorem run_clear_k (w : World) (ty : TypeId) (z : Value) (hz : i.zero = some z) (h1 : ∀ v ∈ (Builtin.zeroCells z.cells 1).toList, v.oneCell' = true) (b o c : Nat)
    (hc : ∀ j, j < (Builtin.zeroCells z.cells 1).toList.length → (w.cell? ⟨b, o + j, none⟩).isSome = true) (hf : ∀ j, j < (Builtin.zeroCells z.cells 1).toList.length → w.frozen? ⟨b, o + j, none⟩ = false) :
    (Builtin.clear_ #[t] ty #[.slice (some ⟨b, o, none⟩) 1 c]).run Try.prog w = .ok (.tuple #[]) (w.setCells b o (Builtin.zeroCells z.cells 1).toList) := by
  have hst := run_storeCells_cells (P := Try.prog) b o (Builtin.zeroCells z.cells 1).toList 0 w (by simpa using hc) (by simpa using hf) h1
  simp only [Nat.add_zero] at hst
  simp [Builtin.clear_, run_underlying ht, typeInfo, zeroValue, hi, hz, hst]
/-- append(s[:n], make([]T, k)...) where there is no room: a new row. -/
theorem run_append_zeros_k (w : World) (tn ty : TypeId) (htn : Try.prog.underlying tn = some (.int .i64)) (z : Value) (hz : i.zero = some z) (hs : 0 < i.size) (b : Addr) (n cap : Nat) (olds : List Value) (hlo : olds.length = n * i.size) (holds : ∀ j v, olds[j]? = some v → w.cell? (b.add j) = some v)
    (k : Nat) (hk : 0 < k) (hg : cap < n + k) (h63 : n + k ≤ 100000) (hb : i.bytes ≤ 1000) :
    (Builtin.append_ #[t, tn] ty #[.slice (some b) n cap, .int .i64 (k : Int)]).run Try.prog w =
      .ok (.slice (some ⟨w.heap.size, 0, none⟩) (n + k) (grownCap w (n + k) cap e))
        (w.drew.alloc (.cells (olds.toArray ++ Builtin.zeroCells z.cells k ++ Builtin.zeroCells z.cells (grownCap w (n + k) cap e - (n + k))) e)) := by
  have hn : ¬ (n + k ≤ cap) := by omega
  have hw : IntKind.i64.wrap (k : Int) = k := by rw [IntKind.wrap_i64]; omega
  have hkb : k * i.bytes ≤ 100000 * 1000 := Nat.mul_le_mul (by omega) hb
  have hnb : Builtin.nextslicecap (n + k) cap * i.bytes ≤ 200000 * 1000 := Nat.mul_le_mul (Nat.le_trans (nextslicecap_le hg) (by omega)) hb
  have h63' : ¬ (9223372036854775807 < ((n : Int) + (k : Int))) := by omega
  have h48' : ¬ (281474976710656 < Builtin.nextslicecap (n + k) cap * i.bytes) := by omega
  have h48i : ¬ (281474976710656 < (k : Int) * (i.bytes : Int)) := by
    rw [← Int.natCast_mul]
    omega
  have hneg : ¬ ((k : Int) < 0) := by omega
  have hk0 : k ≠ 0 := by omega
  have hns : ¬ (k * i.size = 0) := Nat.mul_ne_zero hk0 (by omega)
  have hfo := run_firstCells_some (P := Try.prog) w.drew i.size n b n cap olds hlo (by simpa using holds)
  simp [Builtin.append_, run_underlying ht, run_underlying htn, sizeOf, typeInfo, zeroValue, hi, hz, asInt, asIntOf, hw, hn, hneg, hns, h63', h48', h48i, Question.forced, hfo, newRow, grownCap]
end
section
variable {ops : Array Oper} {rest : List Oper} {o : Oper} {a : Act} {w : World} {K : Act → World → Prop} {Q : Exit → Act → World → Prop} {E : Prop}
/-- append, copy, clear whose run is known, in a walk and at a step of a drawn region. -/
theorem wpList_append_run (hgd : o.guard = none) (s x : Operand) (t tn : TypeId) (ho : o.op = .call { callee := .builtin .append, args := #[s, x], argTypes := #[t, tn] }) (vs vx : Value) (hs : a.eval s = vs) (hx : a.eval x = vx)
    {v' : Value} {w' : World} (hr : (Builtin.append_ #[t, tn] o.type #[vs, vx]).run Try.prog w = .ok v' w') (h : wpList Try.prog ops Q rest (a.put o.dst v') w') : wpList Try.prog ops Q (o :: rest) a w := by
  refine wpList_plain hgd fun K' hK => ?_
  unfold Oper.wp execOp
  simp only [ho, resolve, invoke, builtin, Sem.run_bind, Sem.run_pure, Result.andThen_ok, List.map_toArray, List.map_cons, List.map_nil, hs, hx, hr]
  exact hK _ _ h
theorem wpList_copy_run (hgd : o.guard = none) (s x : Operand) (t tn : TypeId) (ho : o.op = .call { callee := .builtin .copy, args := #[s, x], argTypes := #[t, tn] }) (vs vx : Value) (hs : a.eval s = vs) (hx : a.eval x = vx)
    {v' : Value} {w' : World} (hr : (Builtin.copy_ #[t, tn] o.type #[vs, vx]).run Try.prog w = .ok v' w') (h : wpList Try.prog ops Q rest (a.put o.dst v') w') : wpList Try.prog ops Q (o :: rest) a w := by
  refine wpList_plain hgd fun K' hK => ?_
  unfold Oper.wp execOp
  simp only [ho, resolve, invoke, builtin, Sem.run_bind, Sem.run_pure, Result.andThen_ok, List.map_toArray, List.map_cons, List.map_nil, hs, hx, hr]
  exact hK _ _ h
theorem wpList_clear_run (hgd : o.guard = none) (x : Operand) (t : TypeId) (ho : o.op = .call { callee := .builtin .clear, args := #[x], argTypes := #[t] }) (vx : Value) (hx : a.eval x = vx)
    {v' : Value} {w' : World} (hr : (Builtin.clear_ #[t] o.type #[vx]).run Try.prog w = .ok v' w') (h : wpList Try.prog ops Q rest (a.put o.dst v') w') : wpList Try.prog ops Q (o :: rest) a w := by
  refine wpList_plain hgd fun K' hK => ?_
  unfold Oper.wp execOp
  simp only [ho, resolve, invoke, builtin, Sem.run_bind, Sem.run_pure, Result.andThen_ok, List.map_toArray, List.map_cons, List.map_nil, hx, hr]
  exact hK _ _ h
theorem step_append_run (hgd : o.guard = none) (s x : Operand) (t tn : TypeId) (ho : o.op = .call { callee := .builtin .append, args := #[s, x], argTypes := #[t, tn] }) (vs vx : Value) (hs : a.eval s = vs) (hx : a.eval x = vx)
    {v' : Value} {w' : World} (hr : (Builtin.append_ #[t, tn] o.type #[vs, vx]).run Try.prog w = .ok v' w') (h : K (a.put o.dst v') w') : if Region.wanted o (yielded ops a.tmps) = true then Oper.wp Try.prog o a w K Q else E := by
  have hw : Region.wanted o (yielded ops a.tmps) = true := by simp [Region.wanted, hgd]
  rw [if_pos hw]
  unfold Oper.wp execOp
  simp only [ho, resolve, invoke, builtin, Sem.run_bind, Sem.run_pure, Result.andThen_ok, List.map_toArray, List.map_cons, List.map_nil, hs, hx, hr]
  exact h
theorem step_copy_run (hgd : o.guard = none) (s x : Operand) (t tn : TypeId) (ho : o.op = .call { callee := .builtin .copy, args := #[s, x], argTypes := #[t, tn] }) (vs vx : Value) (hs : a.eval s = vs) (hx : a.eval x = vx)
    {v' : Value} {w' : World} (hr : (Builtin.copy_ #[t, tn] o.type #[vs, vx]).run Try.prog w = .ok v' w') (h : K (a.put o.dst v') w') : if Region.wanted o (yielded ops a.tmps) = true then Oper.wp Try.prog o a w K Q else E := by
  have hw : Region.wanted o (yielded ops a.tmps) = true := by simp [Region.wanted, hgd]
  rw [if_pos hw]
  unfold Oper.wp execOp
  simp only [ho, resolve, invoke, builtin, Sem.run_bind, Sem.run_pure, Result.andThen_ok, List.map_toArray, List.map_cons, List.map_nil, hs, hx, hr]
  exact h
end
end Go.Proofs.Ytiencdgmnkphjaa

/- slices.Delete of one link. -/
namespace Go.Proofs.Ytiencdgmnkphjaa
open Go.RowKit Bs
theorem lk_flat (L : List Lk) : (L.flatMap lkC).length = L.length * 5 := flat_len lkC 5 (fun _ => rfl) L
set_option maxRecDepth 100000 in
theorem zero_lk : (Builtin.zeroCells (Value.agg #[.int .i64 0, .int .i64 0, .int .i64 0, .int .i64 0, .int .i64 0]).cells 1).toList = [.int .i64 0, .int .i64 0, .int .i64 0, .int .i64 0, .int .i64 0] := by kernel_rfl
theorem list_eq {xs ys : List Value} (hl : xs.length = ys.length) (h : ∀ j, j < xs.length → xs[j]? = ys[j]?) : xs = ys := by
  apply List.ext_getElem?
  intro j
  by_cases hj : j < xs.length
  · exact h j hj
  · rw [List.getElem?_eq_none (by omega), List.getElem?_eq_none (by omega)]
/-- The cells of a list without one element. -/
theorem flat_erase (L : List Lk) (i : Nat) (_ : i < L.length) : (L.eraseIdx i).flatMap lkC = (L.flatMap lkC).take (i * 5) ++ (L.flatMap lkC).drop ((i + 1) * 5) := by
  rw [List.eraseIdx_eq_take_drop_succ, List.flatMap_append, flat_take lkC 5 (fun _ => rfl), flat_drop lkC 5 (fun _ => rfl)]
theorem del_cells (xs zs : List Value) (N i : Nat) (hx : xs.length = N * 5) (hz : zs.length = 5) (hi : i < N) : (setAt (setAt xs (i * 5) (xs.drop ((i + 1) * 5))) ((N - 1) * 5) zs).take ((N - 1) * 5) = xs.take (i * 5) ++ xs.drop ((i + 1) * 5) := by
  have hd : (xs.drop ((i + 1) * 5)).length = N * 5 - (i + 1) * 5 := by rw [List.length_drop, hx]
  have hl1 : (setAt xs (i * 5) (xs.drop ((i + 1) * 5))).length = N * 5 := by rw [setAt_len, hx]
  refine list_eq ?_ (fun j hj => ?_)
  · rw [List.length_take, setAt_len, hl1, List.length_append, List.length_take, hd, hx]
    omega
  · rw [List.length_take, setAt_len, hl1] at hj
    rw [List.getElem?_take_of_lt (by omega), setAt_get _ _ _ _ (by rw [hl1, hz]; omega), if_neg (by omega), setAt_get _ _ _ _ (by rw [hd, hx]; omega)]
    by_cases h1 : j < i * 5
    · rw [if_neg (by omega), List.getElem?_append_left (by rw [List.length_take, hx]; omega), List.getElem?_take_of_lt h1]
    · rw [if_pos (by rw [hd]; omega), List.getElem?_append_right (by rw [List.length_take, hx]; omega), List.length_take, hx, Nat.min_eq_left (by omega)]
set_option maxRecDepth 100000 in
set_option maxHeartbeats 3200000 in
theorem tdelete_any (L : List Lk) (g cap base i : Nat) (w : World) (h : w.ownsRow base 68 5 (.slice (some ⟨g, 0, none⟩) L.length cap) L.length (L.flatMap lkC)) (hi : i < L.length) (hm : L.length ≤ 1000) :
    Calls Try.prog 80 #[.slice (some ⟨g, 0, none⟩) L.length cap, .int .i64 (i : Int), .int .i64 ((i : Int) + 1)] w fun e w' => ∃ N, N = (L.eraseIdx i).length ∧ e = .returned (.slice (some ⟨g, 0, none⟩) N cap) ∧ w'.ownsRow base 68 5 (.slice (some ⟨g, 0, none⟩) N cap) N ((L.eraseIdx i).flatMap lkC) ∧ w.grownBy w' (some g) := by
  obtain ⟨ii, hii, hi0, hi1, hi2⟩ := info_parts info_lk2
  have hcap : L.length ≤ cap ∧ cap ≤ 9223372036854775807 := by
    obtain ⟨p', c', e, k1, k2⟩ := own_shape h
    injection e with e1 e2 e3
    subst e3
    exact ⟨k1, k2⟩
  obtain ⟨N, hN⟩ : ∃ N, L.length = N := ⟨_, rfl⟩
  obtain ⟨K, hK⟩ : ∃ K, i + (N - (i + 1)) = K := ⟨_, rfl⟩
  have hlf := lk_flat L
  rw [hN] at h hi hm hcap hlf ⊢
  have HN := Lib.hid (And.intro hN hK)
  have hKN : Hid (K = N - 1 ∧ N - K = 1) := Lib.hid (by omega)
  obtain ⟨xs, hxs⟩ : ∃ xs, L.flatMap lkC = xs := ⟨_, rfl⟩
  have HXS := Lib.hid (And.intro hxs (show xs.length = N * 5 by rw [← hxs]; exact hlf))
  rw [hxs] at h
  have hdl : (xs.drop ((i + 1) * 5)).length = (N - (i + 1)) * 5 := by rw [List.length_drop, HXS.out.2]; omega
  have H := Lib.hid h
  obtain ⟨o, HQ, HO⟩ : ∃ o, Hid ((if cap = i + 1 then some (⟨g, 0, none⟩ : Addr) else some ⟨g, (i + 1) * 5, none⟩) = some ⟨g, o, none⟩) ∧ (N - (i + 1) = 0 ∨ o = (i + 1) * 5) := by
    by_cases hc : cap = i + 1
    · exact ⟨0, Lib.hid (by rw [if_pos hc]), Or.inl (by omega)⟩
    · exact ⟨_, Lib.hid (by rw [if_neg hc]), Or.inr rfl⟩
  -- the append
  have hone : ∀ u ∈ xs, u.oneCell' = true := fun u hu => by
    rw [← hxs] at hu
    obtain ⟨y, -, hy⟩ := List.mem_flatMap.1 hu
    exact lk_one y u hy
  have hrun : ∀ ty, (Builtin.append_ #[24, 24] ty #[.slice (some ⟨g, 0, none⟩) i cap, .slice (some ⟨g, o, none⟩) (N - (i + 1)) (cap - (i + 1))]).run Try.prog w.drew = .ok (.slice (some ⟨g, 0, none⟩) (i + (N - (i + 1))) cap) (w.drew.setCells g (0 + i * 5) (xs.drop ((i + 1) * 5))) := fun ty => by
    have hr := run_append_room_cells (P := Try.prog) w.drew 24 ty 68 ii Try.underlying24 hii g 0 i cap ⟨g, o, none⟩ (N - (i + 1)) (cap - (i + 1)) (xs.drop ((i + 1) * 5)) (by rw [hi1]; exact hdl) (fun j u hj => by
      have hjl : j < (N - (i + 1)) * 5 := by rw [← hdl]; exact (List.getElem?_eq_some_iff.1 hj).1
      rw [add_plain, show o = (i + 1) * 5 by omega]
      rw [List.getElem?_drop] at hj
      have := h.drew.cells (g := g) rfl _ u hj
      rw [add_plain, Nat.zero_add] at this
      exact this) (fun u hu => hone u (List.mem_of_mem_drop hu)) (by omega) (fun j hj => (own_cellOk h.drew _ (by rw [hi1, hdl] at *; omega)).1) (fun j hj => (own_cellOk h.drew _ (by rw [hi1, hdl] at *; omega)).2)
    rw [hi1] at hr
    exact hr
  obtain ⟨s1, s2⟩ := own_setCells (xs.drop ((i + 1) * 5)) (i * 5) w.drew xs h.drew
  have HS1 := Lib.hid (And.intro s1 (grown_trans (grown_drew (grown_refl w (some g))) s2))
  obtain ⟨w1, hw1⟩ : ∃ w1, w1 = w.drew.setCells g (i * 5) (xs.drop ((i + 1) * 5)) := ⟨_, rfl⟩
  rw [← hw1] at HS1
  rw [Nat.zero_add, ← hw1, hK] at hrun
  have HRUN := Lib.hid hrun
  have hclr : ∀ ty c, (Builtin.clear_ #[24] ty #[.slice (some ⟨g, K * 5, none⟩) (N - K) c]).run Try.prog w1 = .ok (.tuple #[]) (w1.setCells g (K * 5) (Builtin.zeroCells (Value.agg #[.int .i64 0, .int .i64 0, .int .i64 0, .int .i64 0, .int .i64 0]).cells 1).toList) := fun ty c => by
    rw [hKN.out.2]
    exact run_clear_k Try.underlying24 hii w1 ty _ hi0 (by rw [zero_lk]; intro v hv; simp at hv; subst hv; rfl) g (K * 5) c (fun j hj => (own_cellOk HS1.out.1 _ (by rw [zero_lk] at hj; simp at hj; have := hKN.out; omega)).1) (fun j hj => (own_cellOk HS1.out.1 _ (by rw [zero_lk] at hj; simp at hj; have := hKN.out; omega)).2)
  have HCLR := Lib.hid hclr
  obtain ⟨t1, t2⟩ := own_setCells (Builtin.zeroCells (Value.agg #[.int .i64 0, .int .i64 0, .int .i64 0, .int .i64 0, .int .i64 0]).cells 1).toList (K * 5) w1 _ HS1.out.1
  have HT : Hid ((w1.setCells g (K * 5) (Builtin.zeroCells (Value.agg #[.int .i64 0, .int .i64 0, .int .i64 0, .int .i64 0, .int .i64 0]).cells 1).toList).ownsRow base 68 5 (.slice (some ⟨g, 0, none⟩) K cap) K ((L.eraseIdx i).flatMap lkC) ∧ w.grownBy (w1.setCells g (K * 5) (Builtin.zeroCells (Value.agg #[.int .i64 0, .int .i64 0, .int .i64 0, .int .i64 0, .int .i64 0]).cells 1).toList) (some g)) := Lib.hid (by
    obtain ⟨ys, hy1, hy2⟩ := own_len t1 K (by have := hKN.out; omega)
    refine ⟨?_, grown_trans HS1.out.2 t2⟩
    have e1 : min N K = K := by have := hKN.out; omega
    have hyl : ys.length = K * 5 := hy2.1
    rw [e1, List.take_of_length_le (by omega), hKN.out.1, del_cells xs _ N i HXS.out.2 (by rw [zero_lk]; rfl) hi, ← HXS.out.1, ← flat_erase L i (by rw [HN.out.1]; exact hi)] at hy1
    rw [← hy1]
    exact hy2)
  have HL : Hid (K = (L.eraseIdx i).length) := Lib.hid (by rw [List.length_eraseIdx, if_pos (by rw [HN.out.1]; exact hi), HN.out.1]; exact hKN.out.1)
  have n1 : K ≤ cap := by have := hKN.out; omega
  have n2 : (K : Int) ≤ (N : Int) := by have := hKN.out; omega
  have n3 : (N : Int) ≤ (cap : Int) := by omega
  have n4 : ¬ cap - K = 0 := by have := hKN.out; omega
  have n5 : ¬ (i : Int) = (i : Int) + 1 := by omega
  have n6 : i ≤ cap := by omega
  have n7 : (0 : Int) ≤ (i : Int) + 1 := by omega
  have n8 : (i : Int) + 1 ≤ (N : Int) := by omega
  have n9 : (i : Int) ≤ (cap : Int) := by omega
  clear HO hrun hclr s1 s2 t1 t2 hw1 h hone hdl hlf hxs hN hK
  go_enter Try.func80, Try.ntmps80
  go_upto_region 5 with fail
  refine wp_region_held_drew (S := fun _ => True) (by kernel_rfl) (trivial) (fun hHeld => ?_)
  refine wpAnyH_take (i := 0) (oi := { dst := some 20, op := Op.move (Operand.tmp 0), type := 24, pos := "slices.go:232", after := #[], guard := none }) (v := ?_) rfl (by kernel_rfl) (by kernel_rfl) (by kernel_rfl) (fun _ _ _ h => h) (Or.inl ⟨by rfl, ?_⟩) hHeld ?_
  rotate_left 1
  · intro u hSu
    go_simp
    first | done | with_reducible rfl
  (try simp only [Act.put, List.setIfInBounds_toArray, List.set_cons_zero, List.set_cons_succ])
  refine wpAnyH_take (i := 1) (oi := { dst := some 21, op := Op.move (Operand.tmp 1), type := 3, pos := "slices.go:232", after := #[], guard := none }) (v := ?_) rfl (by kernel_rfl) (by kernel_rfl) (by kernel_rfl) (fun _ _ _ h => h) (Or.inl ⟨by rfl, ?_⟩) hHeld ?_
  rotate_left 1
  · intro u hSu
    go_simp
    first | done | with_reducible rfl
  (try simp only [Act.put, List.setIfInBounds_toArray, List.set_cons_zero, List.set_cons_succ])
  refine wpAnyH_take (i := 2) (oi := { dst := some 22, op := Op.slice 24 (Operand.tmp 20) none (some (Operand.tmp 21)) none, type := 24, pos := "slices.go:232", after := #[{ on := 0, ground := Ground.data }, { on := 1, ground := Ground.data }], guard := none }) (v := ?_) rfl (by kernel_rfl) (by kernel_rfl) (by kernel_rfl) (fun _ _ _ h => h) (Or.inl ⟨by rfl, ?_⟩) hHeld ?_
  rotate_left 1
  · intro u hSu
    go_simp
    first | done | with_reducible rfl
  (try simp only [Act.put, List.setIfInBounds_toArray, List.set_cons_zero, List.set_cons_succ])
  refine wpAnyH_take (i := 3) (oi := { dst := some 23, op := Op.move (Operand.tmp 0), type := 24, pos := "slices.go:232", after := #[], guard := none }) (v := ?_) rfl (by kernel_rfl) (by kernel_rfl) (by kernel_rfl) (fun _ _ _ h => h) (Or.inl ⟨by rfl, ?_⟩) hHeld ?_
  rotate_left 1
  · intro u hSu
    go_simp
    first | done | with_reducible rfl
  (try simp only [Act.put, List.setIfInBounds_toArray, List.set_cons_zero, List.set_cons_succ])
  refine wpAnyH_take (i := 4) (oi := { dst := some 24, op := Op.move (Operand.tmp 2), type := 3, pos := "slices.go:232", after := #[], guard := none }) (v := ?_) rfl (by kernel_rfl) (by kernel_rfl) (by kernel_rfl) (fun _ _ _ h => h) (Or.inl ⟨by rfl, ?_⟩) hHeld ?_
  rotate_left 1
  · intro u hSu
    go_simp
    first | done | with_reducible rfl
  (try simp only [Act.put, List.setIfInBounds_toArray, List.set_cons_zero, List.set_cons_succ])
  refine wpAnyH_take (i := 5) (oi := { dst := some 25, op := Op.slice 24 (Operand.tmp 23) (some (Operand.tmp 24)) none none, type := 24, pos := "slices.go:232", after := #[{ on := 3, ground := Ground.data }, { on := 4, ground := Ground.data }], guard := none }) (v := (Value.slice (some ⟨g, o, none⟩) (N - (i + 1)) (cap - (i + 1)))) rfl (by kernel_rfl) (by kernel_rfl) (by kernel_rfl) (fun _ _ _ h => h) (Or.inl ⟨by rfl, ?_⟩) hHeld ?_
  · intro u hSu
    go_simp
    rw [HQ.out]
  (try simp only [Act.put, List.setIfInBounds_toArray, List.set_cons_zero, List.set_cons_succ])
  refine wpAnyH_ready (rs := [6]) (by kernel_rfl) (by simp) ?_
  refine AllReadyH.cons (o := { dst := some 26, op := Op.call { callee := Callee.builtin Builtin.append, args := #[Operand.tmp 22, Operand.tmp 25], argTypes := #[24, 24] }, type := 24, pos := "slices.go:232", after := #[{ on := 2, ground := Ground.data }, { on := 5, ground := Ground.data }], guard := none }) rfl (fun Kz hK => ?_) AllReadyH.nil
  refine step_append_run rfl _ _ _ _ rfl _ _ rfl rfl (HRUN.out _) ?_
  refine hK.out _ _ (trivial) (fun hH2 => ?_)
  clear hK Kz hHeld
  have hHeld := hH2
  clear hH2
  (try simp only [Act.put, List.setIfInBounds_toArray, List.set_cons_zero, List.set_cons_succ])
  refine wpAnyH_take (i := 7) (oi := { dst := some 0, op := Op.assign (Operand.tmp 26), type := 24, pos := "slices.go:232", after := #[{ on := 6, ground := Ground.data }, { on := 6, ground := Ground.chain }, { on := 0, ground := Ground.phase }, { on := 1, ground := Ground.phase }, { on := 2, ground := Ground.phase }, { on := 3, ground := Ground.phase }, { on := 4, ground := Ground.phase }, { on := 5, ground := Ground.phase }, { on := 6, ground := Ground.phase }], guard := none }) (v := ?_) rfl (by kernel_rfl) (by kernel_rfl) (by kernel_rfl) (fun _ _ _ h => h) (Or.inl ⟨by rfl, ?_⟩) hHeld ?_
  rotate_left 1
  · intro u hSu
    go_simp
    first | done | with_reducible rfl
  (try simp only [Act.put, List.setIfInBounds_toArray, List.set_cons_zero, List.set_cons_succ])
  refine wpAnyH_done (by kernel_rfl) ?_ _
  clear hHeld
  go_wp2_with (refine wpList_clear_run rfl _ 24 rfl _ rfl (HCLR.out _ _) ?_)
  go_wp2_with fail
  go_ret
  exact ⟨K, HL.out, rfl, HT.out⟩
end Go.Proofs.Ytiencdgmnkphjaa

/- slices.Insert of one link. -/
namespace Go.Proofs.Ytiencdgmnkphjaa
open Go.RowKit Bs
/-- The cells of a list with one element more. -/
theorem flat_insert (L : List Lk) (x : Lk) (i : Nat) : (L.take i ++ x :: L.drop i).flatMap lkC = (L.flatMap lkC).take (i * 5) ++ lkC x ++ (L.flatMap lkC).drop (i * 5) := by
  rw [List.flatMap_append, List.flatMap_cons, flat_take lkC 5 (fun _ => rfl), flat_drop lkC 5 (fun _ => rfl), List.append_assoc]
theorem ins_get {xs x5 : List Value} {N i : Nat} (hx : xs.length = N * 5) (h5 : x5.length = 5) (hi : i ≤ N) (A : List Value) (hl : A.length = (N + 1) * 5) (ha : ∀ j, j < (N + 1) * 5 → A[j]? = if j < i * 5 then xs[j]? else if j < (i + 1) * 5 then x5[j - i * 5]? else xs[j - 5]?) : A = xs.take (i * 5) ++ x5 ++ xs.drop (i * 5) := by
  refine list_eq ?_ (fun j hj => ?_)
  · rw [List.length_append, List.length_append, List.length_take, List.length_drop, hl, hx, h5]; omega
  · rw [hl] at hj
    have ht : (xs.take (i * 5)).length = i * 5 := by rw [List.length_take, hx]; omega
    rw [ha j hj]
    by_cases h1 : j < i * 5
    · rw [if_pos h1, List.append_assoc, List.getElem?_append_left (by omega), List.getElem?_take_of_lt h1]
    · rw [if_neg h1]
      by_cases h2 : j < (i + 1) * 5
      · rw [if_pos h2, List.append_assoc, List.getElem?_append_right (by omega), ht, List.getElem?_append_left (by omega)]
      · rw [if_neg h2, List.getElem?_append_right (by rw [List.length_append, ht, h5]; omega), List.length_append, ht, h5, List.getElem?_drop]
        congr 1
        omega
section
variable {Z xs x5 : List Value} {N i : Nat} (hx : xs.length = N * 5) (h5 : x5.length = 5) (hz : Z.length = (N + 1) * 5) (hi : i ≤ N) (hpre : ∀ j, j < i * 5 → Z[j]? = xs[j]?)
include hx h5 hz hi hpre
theorem ins_cells1 : setAt (setAt Z (i * 5) x5) ((i + 1) * 5) (xs.drop (i * 5)) = xs.take (i * 5) ++ x5 ++ xs.drop (i * 5) := by
  have hd : (xs.drop (i * 5)).length = N * 5 - i * 5 := by rw [List.length_drop, hx]
  refine ins_get hx h5 hi _ (by rw [setAt_len, setAt_len, hz]) (fun j hj => ?_)
  rw [setAt_get _ _ _ _ (by rw [setAt_len, hd, hz]; omega), setAt_get _ _ _ _ (by rw [h5, hz]; omega), hd, h5, List.getElem?_drop]
  by_cases h1 : j < i * 5
  · rw [if_neg (by omega), if_neg (by omega), if_pos h1, hpre j h1]
  · by_cases h2 : j < (i + 1) * 5
    · rw [if_neg (by omega), if_pos (by omega), if_neg h1, if_pos h2]
    · rw [if_pos (by omega), if_neg h1, if_neg h2]
      congr 1
      omega
theorem ins_cells2 : setAt (setAt Z ((i + 1) * 5) (xs.drop (i * 5))) (i * 5) x5 = xs.take (i * 5) ++ x5 ++ xs.drop (i * 5) := by
  have hd : (xs.drop (i * 5)).length = N * 5 - i * 5 := by rw [List.length_drop, hx]
  refine ins_get hx h5 hi _ (by rw [setAt_len, setAt_len, hz]) (fun j hj => ?_)
  rw [setAt_get _ _ _ _ (by rw [setAt_len, h5, hz]; omega), setAt_get _ _ _ _ (by rw [hd, hz]; omega), hd, h5, List.getElem?_drop]
  by_cases h1 : j < i * 5
  · rw [if_neg (by omega), if_neg (by omega), if_pos h1, hpre j h1]
  · by_cases h2 : j < (i + 1) * 5
    · rw [if_pos (by omega), if_neg h1, if_pos h2]
    · rw [if_neg (by omega), if_pos (by omega), if_neg h1, if_neg h2]
      congr 1
      omega
end
/-- What Insert leaves. -/
def InsPost (L' : List Lk) (base : Nat) (w : World) (e : Ending) (w' : World) : Prop :=
  ∃ g cap N og, N = L'.length ∧ e = .returned (.slice (some ⟨g, 0, none⟩) N cap) ∧ w'.ownsRow base 68 5 (.slice (some ⟨g, 0, none⟩) N cap) N (L'.flatMap lkC) ∧ w.grownBy w' og ∧ ∀ b, og = some b → base ≤ b
/-- The one link that is put in. -/
theorem ins_src {w : World} {gx : Nat} {x : Lk} (h : w.heap[gx]? = some (.cells #[.int .i64 x.a, .int .i64 x.b, .int .i64 x.ca, .int .i64 x.cb, .int .i64 x.cp] 68 (0, 0))) : ∀ j u, (lkC x)[j]? = some u → w.cell? ((⟨gx, 0, none⟩ : Addr).add j) = some u := by
  intro j u hj
  rw [add_plain, Nat.zero_add, cell_of_row _ _ _ _ _ _ h]
  simpa [lkC] using hj
theorem blk_lt' {w : World} {b : Nat} {o : Obj} (h : w.heap[b]? = some o) : b < w.heap.size := by
  rcases Nat.lt_or_ge b w.heap.size with h1 | h1
  · exact h1
  · rw [Array.getElem?_eq_none h1] at h
    cases h
set_option maxRecDepth 100000 in
set_option maxHeartbeats 3200000 in
/-- .. at the end. -/
theorem tinsA_any (L : List Lk) (x : Lk) (base gx cx : Nat) (p : Option Addr) (cap : Nat) (w : World) (h : w.ownsRow base 68 5 (.slice p L.length cap) L.length (L.flatMap lkC)) (hx : w.heap[gx]? = some (.cells #[.int .i64 x.a, .int .i64 x.b, .int .i64 x.ca, .int .i64 x.cb, .int .i64 x.cp] 68 (0, 0))) (hm : L.length ≤ 1000) (hb : base ≤ w.heap.size) :
    Calls Try.prog 81 #[.slice p L.length cap, .int .i64 (L.length : Int), .slice (some ⟨gx, 0, none⟩) 1 cx] w fun e w' => InsPost (L ++ [x]) base w e w' := by
  obtain ⟨il, hil, hl0, hl1, hl2⟩ := info_parts info_lk2
  have hcap : L.length ≤ cap ∧ cap ≤ 9223372036854775807 := by
    obtain ⟨p', c', e, k1, k2⟩ := own_shape h
    injection e with e1 e2 e3
    subst e3
    exact ⟨k1, k2⟩
  have H := Lib.hid h
  have HX := Lib.hid hx
  obtain ⟨N, hN⟩ : ∃ N, L.length = N := ⟨_, rfl⟩
  rw [hN] at hm hcap H ⊢
  have HN := Lib.hid hN
  clear h hx hN
  by_cases hcn : cap = N
  · subst hcn
    go_enter Try.func81, Try.ntmps81
    go_upto_region 7 with fail
    go_wp2_with (at_builtin; refine wpList_append_lies _ rfl _ _ 24 rfl base 68 il (.agg #[.int .i64 0, .int .i64 0, .int .i64 0, .int .i64 0, .int .i64 0]) 5 40 Try.underlying24 hil hl0 hl1 hl2 rfl (by decide) (.slice p cap cap) cap (L.flatMap lkC) rfl H.out ⟨gx, 0, none⟩ 1 cx (lkC x) rfl rfl (ins_src HX.out) (lk_one x) (by decide) (by unfold maxLen; omega) (by omega) hb _ rfl ?_)
    intro g cap' w9 hown hgrow hat hlt9
    have HG : Hid (InsPost (L ++ [x]) base w (.returned (.slice (some ⟨g, 0, none⟩) (cap + 1) cap')) w9) := Lib.hid ⟨g, cap', cap + 1, _, by rw [List.length_append, HN.out]; rfl, rfl, by rw [List.flatMap_append, List.flatMap_singleton]; exact hown, hgrow, fun b hbe => (H.out.lt b hbe).1⟩
    clear hown hgrow hat hlt9
    go_wp2_with fail
    go_ret
    exact HG.out
  · go_enter Try.func81, Try.ntmps81
    go_upto_region 7 with fail
    go_wp2_with (at_builtin; refine wpList_append_lies _ rfl _ _ 24 rfl base 68 il (.agg #[.int .i64 0, .int .i64 0, .int .i64 0, .int .i64 0, .int .i64 0]) 5 40 Try.underlying24 hil hl0 hl1 hl2 rfl (by decide) (.slice p N cap) N (L.flatMap lkC) rfl H.out ⟨gx, 0, none⟩ 1 cx (lkC x) rfl rfl (ins_src HX.out) (lk_one x) (by decide) (by unfold maxLen; omega) (by omega) hb _ rfl ?_)
    intro g cap' w9 hown hgrow hat hlt9
    have HG : Hid (InsPost (L ++ [x]) base w (.returned (.slice (some ⟨g, 0, none⟩) (N + 1) cap')) w9) := Lib.hid ⟨g, cap', N + 1, _, by rw [List.length_append, HN.out]; rfl, rfl, by rw [List.flatMap_append, List.flatMap_singleton]; exact hown, hgrow, fun b hbe => (H.out.lt b hbe).1⟩
    clear hown hgrow hat hlt9
    go_wp2_with fail
    go_ret
    exact HG.out
set_option maxRecDepth 100000 in
set_option maxHeartbeats 3200000 in
/-- .. where there is no room. -/
theorem tinsB_any (L : List Lk) (x : Lk) (base gx cx g cap i : Nat) (w : World) (h : w.ownsRow base 68 5 (.slice (some ⟨g, 0, none⟩) L.length cap) L.length (L.flatMap lkC)) (hx : w.heap[gx]? = some (.cells #[.int .i64 x.a, .int .i64 x.b, .int .i64 x.ca, .int .i64 x.cb, .int .i64 x.cp] 68 (0, 0))) (hm : L.length ≤ 1000) (hb : base ≤ w.heap.size) (hi : i < L.length) (hfull : cap < L.length + 1) :
    Calls Try.prog 81 #[.slice (some ⟨g, 0, none⟩) L.length cap, .int .i64 (i : Int), .slice (some ⟨gx, 0, none⟩) 1 cx] w fun e w' => InsPost (L.take i ++ x :: L.drop i) base w e w' := by
  obtain ⟨ii, hii, hi0, hi1, hi2⟩ := info_parts info_lk2
  have hcap : L.length ≤ cap ∧ cap ≤ 9223372036854775807 := by
    obtain ⟨p', c', e, k1, k2⟩ := own_shape h
    injection e with e1 e2 e3
    subst e3
    exact ⟨k1, k2⟩
  have hglt : g < w.heap.size := (h.lt g rfl).2
  have hgxlt := blk_lt' hx
  obtain ⟨N, hN⟩ : ∃ N, L.length = N := ⟨_, rfl⟩
  have hlf := lk_flat L
  rw [hN] at h hm hcap hi hfull hlf ⊢
  have HN := Lib.hid hN
  obtain ⟨xs, hxs⟩ : ∃ xs, L.flatMap lkC = xs := ⟨_, rfl⟩
  have HXS := Lib.hid (And.intro hxs (show xs.length = N * 5 by rw [← hxs]; exact hlf))
  rw [hxs] at h
  have htl : (xs.take (i * 5)).length = i * 5 := by rw [List.length_take, HXS.out.2]; omega
  have hdl : (xs.drop (i * 5)).length = (N - i) * 5 := by rw [List.length_drop, HXS.out.2]; omega
  have hone : ∀ u ∈ xs, u.oneCell' = true := fun u hu => by
    rw [← hxs] at hu
    obtain ⟨y, -, hy⟩ := List.mem_flatMap.1 hu
    exact lk_one y u hy
  -- the new row
  obtain ⟨gc, hgc⟩ : ∃ gc, grownCap w (N + 1) cap 68 = gc := ⟨_, rfl⟩
  have hgc1 : N + 1 ≤ gc := by rw [← hgc]; exact grownCap_ge _ _ _ _
  have hgc2 : gc ≤ 9223372036854775807 := by rw [← hgc]; exact grownCap_le_maxLen _ _ _ _ (by unfold maxLen; omega)
  obtain ⟨zz, hzz⟩ : ∃ zz : Value, zz = .agg #[.int .i64 0, .int .i64 0, .int .i64 0, .int .i64 0, .int .i64 0] := ⟨_, rfl⟩
  rw [← hzz] at hi0
  have hzs : zz.cells.size = 5 := by rw [hzz]; rfl
  obtain ⟨cur, hcur⟩ : ∃ cur, (xs.take (i * 5)).toArray ++ Builtin.zeroCells zz.cells (N + 1 - i) ++ Builtin.zeroCells zz.cells (gc - (N + 1)) = cur := ⟨_, rfl⟩
  have hcs : cur.size = gc * 5 := by
    rw [← hcur, Array.size_append, Array.size_append, size_zeroCells, size_zeroCells, hzs, List.size_toArray, htl]
    omega
  obtain ⟨w1, hw1⟩ : ∃ w1, w.drew.alloc (.cells cur 68) = w1 := ⟨_, rfl⟩
  obtain ⟨B, hB⟩ : ∃ B, w.heap.size = B := ⟨_, rfl⟩
  have hg1 : w.grownBy w1 none := by rw [← hw1]; exact grown_trans (grown_drew (grown_refl _ _)) (World.grownBy_alloc _ _ _)
  have hrun : ∀ ty, (Builtin.append_ #[24, 3] ty #[.slice (some ⟨g, 0, none⟩) i cap, .int .i64 ((N : Int) + 1 - (i : Int))]).run Try.prog w = .ok (.slice (some ⟨B, 0, none⟩) (N + 1) gc) w1 := fun ty => by
    have hr := run_append_zeros_k Try.underlying24 hii w 3 ty Try.underlying3 zz hi0 (by omega) ⟨g, 0, none⟩ i cap (xs.take (i * 5)) (by rw [hi1]; exact htl) (fun j v hj => by
      have hjl : j < i * 5 := by rw [← htl]; exact (List.getElem?_eq_some_iff.1 hj).1
      rw [List.getElem?_take_of_lt hjl] at hj
      exact h.cells (g := g) rfl _ v hj) (N + 1 - i) (by omega) (by omega) (by omega) (by omega)
    rw [show i + (N + 1 - i) = N + 1 by omega, hgc, hcur, hw1, hB, show ((N + 1 - i : Nat) : Int) = (N : Int) + 1 - (i : Int) by omega] at hr
    exact hr
  have hnew : w1.heap[B]? = some (.cells cur 68 (0, 0)) := by
    rw [← hw1, ← hB]
    exact heap_alloc_new w.drew _
  obtain ⟨Z, hZ⟩ : ∃ Z, cur.toList.take ((N + 1) * 5) = Z := ⟨_, rfl⟩
  have hZl : Z.length = (N + 1) * 5 := by
    rw [← hZ, List.length_take, Array.length_toList, hcs]
    omega
  have hZp : ∀ j, j < i * 5 → Z[j]? = xs[j]? := fun j hj => by
    rw [← hZ, ← hcur, List.getElem?_take_of_lt (by omega)]
    simp only [Array.toList_append, List.append_assoc]
    rw [List.getElem?_append_left (by omega), List.getElem?_take_of_lt hj]
  have hown1 : w1.ownsRow base 68 5 (.slice (some ⟨B, 0, none⟩) (N + 1) gc) (N + 1) Z := ⟨hZl, .inr ⟨B, gc, cur, rfl, by omega, hnew, hgc1, hgc2, hcs, hZ⟩⟩
  -- the copies
  have hx1 : w1.heap[gx]? = some (.cells #[.int .i64 x.a, .int .i64 x.b, .int .i64 x.ca, .int .i64 x.cb, .int .i64 x.cp] 68 (0, 0)) := kept_row hx hg1 (by simp)
  have hcp1 : ∀ ty, (Builtin.copy_ #[24, 24] ty #[.slice (some ⟨B, i * 5, none⟩) (N + 1 - i) (gc - i), .slice (some ⟨gx, 0, none⟩) 1 cx]).run Try.prog w1 = .ok (goInt 1) (w1.setCells B (i * 5) (lkC x)) := fun ty =>
    run_copy_k Try.underlying24 hii w1 ty B (i * 5) _ _ ⟨gx, 0, none⟩ 1 cx (lkC x) 1 (by simp only [Nat.min_def]; split <;> omega) (by rw [hi1]; rfl) (ins_src hx1)
      (fun j hj => (own_cellOk hown1 _ (by have : (lkC x).length = 5 := rfl; omega)).1) (fun j hj => (own_cellOk hown1 _ (by have : (lkC x).length = 5 := rfl; omega)).2) (lk_one x)
  obtain ⟨s1, s2⟩ := own_setCells (lkC x) (i * 5) w1 _ hown1
  obtain ⟨w2, hw2⟩ : ∃ w2, w1.setCells B (i * 5) (lkC x) = w2 := ⟨_, rfl⟩
  rw [hw2] at hcp1 s1 s2
  have hr2 : w2.drew.ownsRow base 68 5 (.slice (some ⟨g, 0, none⟩) N cap) N xs := (((h.kept hg1 (.inr (by simp [Value.ownBlock]))).kept s2 (.inr (fun e => by have h9 : g = B := Option.some.inj e; omega)))).drew
  have hcp2 : ∀ ty dc sc, (Builtin.copy_ #[24, 24] ty #[.slice (some ⟨B, (i + 1) * 5, none⟩) (N - i) dc, .slice (some ⟨g, i * 5, none⟩) (N - i) sc]).run Try.prog w2.drew = .ok (goInt (N - i : Nat)) (w2.drew.setCells B ((i + 1) * 5) (xs.drop (i * 5))) := fun ty dc sc =>
    run_copy_k Try.underlying24 hii w2.drew ty B ((i + 1) * 5) _ _ ⟨g, i * 5, none⟩ (N - i) sc (xs.drop (i * 5)) (N - i) (by simp only [Nat.min_def]; split <;> omega) (by rw [hi1]; exact hdl) (fun j v hj => by
      rw [add_plain]
      rw [List.getElem?_drop] at hj
      have := hr2.cells (g := g) rfl _ v hj
      rw [add_plain, Nat.zero_add] at this
      exact this)
      (fun j hj => (own_cellOk s1.drew _ (by omega)).1) (fun j hj => (own_cellOk s1.drew _ (by omega)).2) (fun u hu => hone u (List.mem_of_mem_drop hu))
  obtain ⟨t1, t2⟩ := own_setCells (xs.drop (i * 5)) ((i + 1) * 5) w2.drew _ s1.drew
  obtain ⟨w3, hw3⟩ : ∃ w3, w2.drew.setCells B ((i + 1) * 5) (xs.drop (i * 5)) = w3 := ⟨_, rfl⟩
  rw [hw3] at hcp2 t1 t2
  rw [ins_cells1 HXS.out.2 rfl hZl (by omega) hZp, ← HXS.out.1, ← flat_insert] at t1
  have H9 := Lib.hid hrun
  have H10 := Lib.hid hcp1
  have H11 := Lib.hid hcp2
  have HG : Hid (InsPost (L.take i ++ x :: L.drop i) base w (.returned (.slice (some ⟨B, 0, none⟩) (N + 1) gc)) w3) := Lib.hid ⟨B, gc, N + 1, some B, by rw [List.length_append, List.length_cons, List.length_take, List.length_drop, HN.out]; omega, rfl, t1, grown_trans (grown_none hg1 _) (grown_trans s2 (grown_trans (grown_drew (grown_refl _ _)) t2)), fun b hbe => by have := Option.some.inj hbe; omega⟩
  have n1 : ((i : Int) == (N : Int)) = false := by rw [beq_eq_false_iff_ne]; omega
  have n2 : (cap : Int) < (N : Int) + 1 := by omega
  have n3 : i ≤ cap := by omega
  have n4 : (i : Int) ≤ (N : Int) := by omega
  have n5 : ¬ cap = i := by omega
  have n6 : ¬ gc = i := by omega
  have n7 : ¬ gc = i + 1 := by omega
  have n8 : (i : Int) + 1 ≤ (N : Int) + 1 := by omega
  have n9 : (i : Int) ≤ (N : Int) + 1 := by omega
  have n10 : (i : Int) ≤ (cap : Int) := by omega
  have n11 : (0 : Int) ≤ (i : Int) + 1 := by omega
  have u1 : IntKind.i64.wrap ((i : Int) + 1) = (i : Int) + 1 := by rw [IntKind.wrap_i64]; omega
  have u2 : ((i : Int) + 1).toNat = i + 1 := by omega
  clear hrun hcp1 hcp2 t1 t2 s1 s2 hw1 hw2 hw3 h hone hdl htl hlf hxs hN hZp hZl hZ hown1 hnew hcur hcs hzs hi0 hzz hr2 hx hx1 hgc hgc1 hfull
  go_enter Try.func81, Try.ntmps81
  go_upto_region 9 with fail
  go_wp2_with (first | (refine wpList_append_run rfl _ _ 24 3 rfl _ _ rfl rfl (H9.out _) ?_) | (refine wpList_copy_run rfl _ _ 24 24 rfl _ _ rfl rfl (H10.out _) ?_))
  go_upto_region 11 with fail
  refine wp_region_held_drew (S := fun _ => True) (by kernel_rfl) (trivial) (fun hHeld => ?_)
  refine wpAnyH_take (i := 0) (oi := { dst := some 46, op := Op.move (Operand.tmp 9), type := 24, pos := "slices.go:154", after := #[], guard := none }) (v := ?_) rfl (by kernel_rfl) (by kernel_rfl) (by kernel_rfl) (fun _ _ _ h => h) (Or.inl ⟨by rfl, ?_⟩) hHeld ?_
  rotate_left 1
  · intro u hSu
    go_simp
    first | done | with_reducible rfl
  (try simp only [Act.put, List.setIfInBounds_toArray, List.set_cons_zero, List.set_cons_succ])
  refine wpAnyH_take (i := 1) (oi := { dst := some 47, op := Op.move (Operand.tmp 1), type := 3, pos := "slices.go:154", after := #[], guard := none }) (v := ?_) rfl (by kernel_rfl) (by kernel_rfl) (by kernel_rfl) (fun _ _ _ h => h) (Or.inl ⟨by rfl, ?_⟩) hHeld ?_
  rotate_left 1
  · intro u hSu
    go_simp
    first | done | with_reducible rfl
  (try simp only [Act.put, List.setIfInBounds_toArray, List.set_cons_zero, List.set_cons_succ])
  refine wpAnyH_take (i := 2) (oi := { dst := some 48, op := Op.move (Operand.tmp 7), type := 3, pos := "slices.go:154", after := #[], guard := none }) (v := ?_) rfl (by kernel_rfl) (by kernel_rfl) (by kernel_rfl) (fun _ _ _ h => h) (Or.inl ⟨by rfl, ?_⟩) hHeld ?_
  rotate_left 1
  · intro u hSu
    go_simp
    first | done | with_reducible rfl
  (try simp only [Act.put, List.setIfInBounds_toArray, List.set_cons_zero, List.set_cons_succ])
  refine wpAnyH_take (i := 3) (oi := { dst := some 49, op := Op.binOp BinOp.add 3 (Operand.tmp 47) (Operand.tmp 48) 3, type := 3, pos := "slices.go:154", after := #[{ on := 1, ground := Ground.data }, { on := 2, ground := Ground.data }], guard := none }) (v := ?_) rfl (by kernel_rfl) (by kernel_rfl) (by kernel_rfl) (fun _ _ _ h => h) (Or.inl ⟨by rfl, ?_⟩) hHeld ?_
  rotate_left 1
  · intro u hSu
    go_simp
    first | done | with_reducible rfl
  (try simp only [Act.put, List.setIfInBounds_toArray, List.set_cons_zero, List.set_cons_succ])
  refine wpAnyH_take (i := 4) (oi := { dst := some 50, op := Op.slice 24 (Operand.tmp 46) (some (Operand.tmp 49)) none none, type := 24, pos := "slices.go:154", after := #[{ on := 0, ground := Ground.data }, { on := 3, ground := Ground.data }], guard := none }) (v := ?_) rfl (by kernel_rfl) (by kernel_rfl) (by kernel_rfl) (fun _ _ _ h => h) (Or.inl ⟨by rfl, ?_⟩) hHeld ?_
  rotate_left 1
  · intro u hSu
    go_simp
    first | done | with_reducible rfl
  (try simp only [Act.put, List.setIfInBounds_toArray, List.set_cons_zero, List.set_cons_succ])
  refine wpAnyH_take (i := 5) (oi := { dst := some 51, op := Op.move (Operand.tmp 0), type := 24, pos := "slices.go:154", after := #[], guard := none }) (v := ?_) rfl (by kernel_rfl) (by kernel_rfl) (by kernel_rfl) (fun _ _ _ h => h) (Or.inl ⟨by rfl, ?_⟩) hHeld ?_
  rotate_left 1
  · intro u hSu
    go_simp
    first | done | with_reducible rfl
  (try simp only [Act.put, List.setIfInBounds_toArray, List.set_cons_zero, List.set_cons_succ])
  refine wpAnyH_take (i := 6) (oi := { dst := some 52, op := Op.move (Operand.tmp 1), type := 3, pos := "slices.go:154", after := #[], guard := none }) (v := ?_) rfl (by kernel_rfl) (by kernel_rfl) (by kernel_rfl) (fun _ _ _ h => h) (Or.inl ⟨by rfl, ?_⟩) hHeld ?_
  rotate_left 1
  · intro u hSu
    go_simp
    first | done | with_reducible rfl
  (try simp only [Act.put, List.setIfInBounds_toArray, List.set_cons_zero, List.set_cons_succ])
  refine wpAnyH_take (i := 7) (oi := { dst := some 53, op := Op.slice 24 (Operand.tmp 51) (some (Operand.tmp 52)) none none, type := 24, pos := "slices.go:154", after := #[{ on := 5, ground := Ground.data }, { on := 6, ground := Ground.data }], guard := none }) (v := ?_) rfl (by kernel_rfl) (by kernel_rfl) (by kernel_rfl) (fun _ _ _ h => h) (Or.inl ⟨by rfl, ?_⟩) hHeld ?_
  rotate_left 1
  · intro u hSu
    go_simp
    first | done | with_reducible rfl
  (try simp only [Act.put, List.setIfInBounds_toArray, List.set_cons_zero, List.set_cons_succ])
  refine wpAnyH_ready (rs := [8]) (by kernel_rfl) (by simp) ?_
  refine AllReadyH.cons (o := { dst := some 54, op := Op.call { callee := Callee.builtin Builtin.copy, args := #[Operand.tmp 50, Operand.tmp 53], argTypes := #[24, 24] }, type := 3, pos := "slices.go:154", after := #[{ on := 4, ground := Ground.data }, { on := 7, ground := Ground.data }], guard := none }) rfl (fun Kz hK => ?_) AllReadyH.nil
  refine step_copy_run rfl _ _ _ _ rfl _ _ rfl rfl (H11.out _ _ _) ?_
  refine hK.out _ _ (trivial) (fun hH2 => ?_)
  clear hK Kz hHeld
  have hHeld := hH2
  clear hH2
  (try simp only [Act.put, List.setIfInBounds_toArray, List.set_cons_zero, List.set_cons_succ])
  refine wpAnyH_done (by kernel_rfl) ?_ _
  clear hHeld
  go_wp2_with fail
  go_ret
  exact HG.out

set_option maxRecDepth 100000 in
set_option maxHeartbeats 3200000 in
/-- .. in place. -/
theorem tinsC_any (L : List Lk) (x : Lk) (base gx cx g cap i : Nat) (w : World) (h : w.ownsRow base 68 5 (.slice (some ⟨g, 0, none⟩) L.length cap) L.length (L.flatMap lkC)) (hx : w.heap[gx]? = some (.cells #[.int .i64 x.a, .int .i64 x.b, .int .i64 x.ca, .int .i64 x.cb, .int .i64 x.cp] 68 (0, 0))) (hm : L.length ≤ 1000) (hne : gx ≠ g) (hi : i < L.length) (hroom : L.length + 1 ≤ cap) :
    Calls Try.prog 81 #[.slice (some ⟨g, 0, none⟩) L.length cap, .int .i64 (i : Int), .slice (some ⟨gx, 0, none⟩) 1 cx] w fun e w' => InsPost (L.take i ++ x :: L.drop i) base w e w' := by
  obtain ⟨ii, hii, hi0, hi1, hi2⟩ := info_parts info_lk2
  have hcap : L.length ≤ cap ∧ cap ≤ 9223372036854775807 := by
    obtain ⟨p', c', e, k1, k2⟩ := own_shape h
    injection e with e1 e2 e3
    subst e3
    exact ⟨k1, k2⟩
  have hglt := h.lt g rfl
  obtain ⟨N, hN⟩ : ∃ N, L.length = N := ⟨_, rfl⟩
  have hlf := lk_flat L
  rw [hN] at h hm hcap hi hroom hlf ⊢
  have HN := Lib.hid hN
  obtain ⟨xs, hxs⟩ : ∃ xs, L.flatMap lkC = xs := ⟨_, rfl⟩
  have HXS := Lib.hid (And.intro hxs (show xs.length = N * 5 by rw [← hxs]; exact hlf))
  rw [hxs] at h
  have hdl : (xs.drop (i * 5)).length = (N - i) * 5 := by rw [List.length_drop, HXS.out.2]; omega
  have hone : ∀ u ∈ xs, u.oneCell' = true := fun u hu => by
    rw [← hxs] at hu
    obtain ⟨y, -, hy⟩ := List.mem_flatMap.1 hu
    exact lk_one y u hy
  obtain ⟨Z, hZ, hown1⟩ := own_len h (N + 1) hroom
  rw [Nat.min_eq_left (by omega)] at hZ
  have hZl : Z.length = (N + 1) * 5 := hown1.1
  have hZp : ∀ j, j < i * 5 → Z[j]? = xs[j]? := fun j hj => by
    rw [← List.getElem?_take_of_lt (l := Z) (show j < N * 5 by omega), hZ, List.getElem?_take_of_lt (by omega)]
  have hov : ∀ lb cb, (callFunc 97 #[.slice (some ⟨gx, 0, none⟩) 1 cx, .slice (some ⟨g, (i + 1) * 5, none⟩) lb cb]).run Try.prog w = .ok (.value (.bool false)) w := fun lb cb => by
    obtain ⟨cur, hg⟩ : ∃ cur, w.heap[g]? = some (.cells cur 68 (0, 0)) ∧ cur.size ≠ 0 := by
      rcases h.2 with ⟨e1, _⟩ | ⟨g', cap', cur, e1, hb, hg, hn, hcm, hcs, ht⟩
      · cases e1
      · injection e1 with e2 e3 e4
        injection e2 with e2
        injection e2 with e5 e6
        subst e5
        exact ⟨cur, hg, by omega⟩
    rw [run_callFunc_extern Try.func97 (by kernel_rfl) (by kernel_rfl) (by kernel_rfl) (e := Extern.SlicesOverlaps.overlaps #[24, 24] #[4]) (by kernel_rfl),
      Lib.run_overlaps_apart w 24 4 68 Try.underlying24 5 (fun w => by simp [sizeOf, typeInfo, hii, hi1]) ⟨gx, 0, none⟩ ⟨g, (i + 1) * 5, none⟩ 1 cx lb cb hne 68 68 5 cur.size (by simp [World.shape?, hx]) (by simp [World.shape?, hg.1]) hg.2 (frozen_of_row _ _ 0 _ _ hx) (frozen_of_row _ _ 5 _ _ hx)]
    rfl
  have hcp1 : ∀ ty dc sc, (Builtin.copy_ #[24, 24] ty #[.slice (some ⟨g, (i + 1) * 5, none⟩) (N - i) dc, .slice (some ⟨g, i * 5, none⟩) (N + 1 - i) sc]).run Try.prog w.drew = .ok (goInt (N - i : Nat)) (w.drew.setCells g ((i + 1) * 5) (xs.drop (i * 5))) := fun ty dc sc =>
    run_copy_k Try.underlying24 hii w.drew ty g ((i + 1) * 5) _ _ ⟨g, i * 5, none⟩ (N + 1 - i) sc (xs.drop (i * 5)) (N - i) (by simp only [Nat.min_def]; split <;> omega) (by rw [hi1]; exact hdl) (fun j v hj => by
      rw [add_plain]
      rw [List.getElem?_drop] at hj
      have := h.drew.cells (g := g) rfl _ v hj
      rw [add_plain, Nat.zero_add] at this
      exact this)
      (fun j hj => (own_cellOk h.drew _ (by omega)).1) (fun j hj => (own_cellOk h.drew _ (by omega)).2) (fun u hu => hone u (List.mem_of_mem_drop hu))
  obtain ⟨s1, s2⟩ := own_setCells (xs.drop (i * 5)) ((i + 1) * 5) w.drew _ hown1.drew
  obtain ⟨w2, hw2⟩ : ∃ w2, w.drew.setCells g ((i + 1) * 5) (xs.drop (i * 5)) = w2 := ⟨_, rfl⟩
  rw [hw2] at hcp1 s1 s2
  have hg2 : w.grownBy w2 (some g) := grown_trans (grown_drew (grown_refl _ _)) s2
  have hx2 : w2.heap[gx]? = some (.cells #[.int .i64 x.a, .int .i64 x.b, .int .i64 x.ca, .int .i64 x.cb, .int .i64 x.cp] 68 (0, 0)) := kept_row hx hg2 (fun e => hne (Option.some.inj e))
  have hcp2 : ∀ ty dc, (Builtin.copy_ #[24, 24] ty #[.slice (some ⟨g, i * 5, none⟩) (N + 1 - i) dc, .slice (some ⟨gx, 0, none⟩) 1 cx]).run Try.prog w2 = .ok (goInt 1) (w2.setCells g (i * 5) (lkC x)) := fun ty dc =>
    run_copy_k Try.underlying24 hii w2 ty g (i * 5) _ _ ⟨gx, 0, none⟩ 1 cx (lkC x) 1 (by simp only [Nat.min_def]; split <;> omega) (by rw [hi1]; rfl) (ins_src hx2)
      (fun j hj => (own_cellOk s1 _ (by have : (lkC x).length = 5 := rfl; omega)).1) (fun j hj => (own_cellOk s1 _ (by have : (lkC x).length = 5 := rfl; omega)).2) (lk_one x)
  obtain ⟨t1, t2⟩ := own_setCells (lkC x) (i * 5) w2 _ s1
  obtain ⟨w3, hw3⟩ : ∃ w3, w2.setCells g (i * 5) (lkC x) = w3 := ⟨_, rfl⟩
  rw [hw3] at hcp2 t1 t2
  rw [ins_cells2 HXS.out.2 rfl hZl (by omega) hZp, ← HXS.out.1, ← flat_insert] at t1
  have H14 := Lib.hid hov
  have H15 := Lib.hid hcp1
  have H16 := Lib.hid hcp2
  have HG : Hid (InsPost (L.take i ++ x :: L.drop i) base w (.returned (.slice (some ⟨g, 0, none⟩) (N + 1) cap)) w3) := Lib.hid ⟨g, cap, N + 1, some g, by rw [List.length_append, List.length_cons, List.length_take, List.length_drop, HN.out]; omega, rfl, t1, grown_trans hg2 t2, fun b hbe => by have := Option.some.inj hbe; omega⟩
  have n1 : ((i : Int) == (N : Int)) = false := by rw [beq_eq_false_iff_ne]; omega
  have n2 : ¬ (cap : Int) < (N : Int) + 1 := by omega
  have n3 : N + 1 ≤ cap := hroom
  have n4 : (i : Int) ≤ (N : Int) := by omega
  have n5 : ¬ cap = i := by omega
  have n7 : ¬ cap = i + 1 := by omega
  have n8 : (i : Int) + 1 ≤ (N : Int) + 1 := by omega
  have n9 : (i : Int) ≤ (N : Int) + 1 := by omega
  have n10 : (N : Int) + 1 ≤ (cap : Int) := by omega
  have n11 : (0 : Int) ≤ (i : Int) + 1 := by omega
  have u1 : IntKind.i64.wrap ((i : Int) + 1) = (i : Int) + 1 := by rw [IntKind.wrap_i64]; omega
  have u2 : ((i : Int) + 1).toNat = i + 1 := by omega
  have n12 : (0 : Int) ≤ (N : Int) + 1 := by omega
  have n13 : ((N : Int) + 1).toNat = N + 1 := by omega
  clear hov hcp1 hcp2 t1 t2 s1 s2 hw2 hw3 h hone hdl hlf hxs hN hZp hZl hZ hown1 hx hx2 hg2 hroom hglt hi0
  go_enter Try.func81, Try.ntmps81
  go_upto_region 14 with fail
  go_wp2_with fail
  rw [H14.out]
  go_upto_region 15 with fail
  refine wp_region_held_drew (S := fun _ => True) (by kernel_rfl) (trivial) (fun hHeld => ?_)
  refine wpAnyH_take (i := 0) (oi := { dst := some 69, op := Op.move (Operand.tmp 0), type := 24, pos := "slices.go:178", after := #[], guard := none }) (v := ?_) rfl (by kernel_rfl) (by kernel_rfl) (by kernel_rfl) (fun _ _ _ h => h) (Or.inl ⟨by rfl, ?_⟩) hHeld ?_
  rotate_left 1
  · intro u hSu
    go_simp
    first | done | with_reducible rfl
  (try simp only [Act.put, List.setIfInBounds_toArray, List.set_cons_zero, List.set_cons_succ])
  refine wpAnyH_take (i := 1) (oi := { dst := some 70, op := Op.move (Operand.tmp 1), type := 3, pos := "slices.go:178", after := #[], guard := none }) (v := ?_) rfl (by kernel_rfl) (by kernel_rfl) (by kernel_rfl) (fun _ _ _ h => h) (Or.inl ⟨by rfl, ?_⟩) hHeld ?_
  rotate_left 1
  · intro u hSu
    go_simp
    first | done | with_reducible rfl
  (try simp only [Act.put, List.setIfInBounds_toArray, List.set_cons_zero, List.set_cons_succ])
  refine wpAnyH_take (i := 2) (oi := { dst := some 71, op := Op.move (Operand.tmp 7), type := 3, pos := "slices.go:178", after := #[], guard := none }) (v := ?_) rfl (by kernel_rfl) (by kernel_rfl) (by kernel_rfl) (fun _ _ _ h => h) (Or.inl ⟨by rfl, ?_⟩) hHeld ?_
  rotate_left 1
  · intro u hSu
    go_simp
    first | done | with_reducible rfl
  (try simp only [Act.put, List.setIfInBounds_toArray, List.set_cons_zero, List.set_cons_succ])
  refine wpAnyH_take (i := 3) (oi := { dst := some 72, op := Op.binOp BinOp.add 3 (Operand.tmp 70) (Operand.tmp 71) 3, type := 3, pos := "slices.go:178", after := #[{ on := 1, ground := Ground.data }, { on := 2, ground := Ground.data }], guard := none }) (v := ?_) rfl (by kernel_rfl) (by kernel_rfl) (by kernel_rfl) (fun _ _ _ h => h) (Or.inl ⟨by rfl, ?_⟩) hHeld ?_
  rotate_left 1
  · intro u hSu
    go_simp
    first | done | with_reducible rfl
  (try simp only [Act.put, List.setIfInBounds_toArray, List.set_cons_zero, List.set_cons_succ])
  refine wpAnyH_take (i := 4) (oi := { dst := some 73, op := Op.slice 24 (Operand.tmp 69) (some (Operand.tmp 72)) none none, type := 24, pos := "slices.go:178", after := #[{ on := 0, ground := Ground.data }, { on := 3, ground := Ground.data }], guard := none }) (v := ?_) rfl (by kernel_rfl) (by kernel_rfl) (by kernel_rfl) (fun _ _ _ h => h) (Or.inl ⟨by rfl, ?_⟩) hHeld ?_
  rotate_left 1
  · intro u hSu
    go_simp
    first | done | with_reducible rfl
  (try simp only [Act.put, List.setIfInBounds_toArray, List.set_cons_zero, List.set_cons_succ])
  refine wpAnyH_take (i := 5) (oi := { dst := some 74, op := Op.move (Operand.tmp 0), type := 24, pos := "slices.go:178", after := #[], guard := none }) (v := ?_) rfl (by kernel_rfl) (by kernel_rfl) (by kernel_rfl) (fun _ _ _ h => h) (Or.inl ⟨by rfl, ?_⟩) hHeld ?_
  rotate_left 1
  · intro u hSu
    go_simp
    first | done | with_reducible rfl
  (try simp only [Act.put, List.setIfInBounds_toArray, List.set_cons_zero, List.set_cons_succ])
  refine wpAnyH_take (i := 6) (oi := { dst := some 75, op := Op.move (Operand.tmp 1), type := 3, pos := "slices.go:178", after := #[], guard := none }) (v := ?_) rfl (by kernel_rfl) (by kernel_rfl) (by kernel_rfl) (fun _ _ _ h => h) (Or.inl ⟨by rfl, ?_⟩) hHeld ?_
  rotate_left 1
  · intro u hSu
    go_simp
    first | done | with_reducible rfl
  (try simp only [Act.put, List.setIfInBounds_toArray, List.set_cons_zero, List.set_cons_succ])
  refine wpAnyH_take (i := 7) (oi := { dst := some 76, op := Op.slice 24 (Operand.tmp 74) (some (Operand.tmp 75)) none none, type := 24, pos := "slices.go:178", after := #[{ on := 5, ground := Ground.data }, { on := 6, ground := Ground.data }], guard := none }) (v := ?_) rfl (by kernel_rfl) (by kernel_rfl) (by kernel_rfl) (fun _ _ _ h => h) (Or.inl ⟨by rfl, ?_⟩) hHeld ?_
  rotate_left 1
  · intro u hSu
    go_simp
    first | done | with_reducible rfl
  (try simp only [Act.put, List.setIfInBounds_toArray, List.set_cons_zero, List.set_cons_succ])
  refine wpAnyH_ready (rs := [8]) (by kernel_rfl) (by simp) ?_
  refine AllReadyH.cons (o := { dst := some 77, op := Op.call { callee := Callee.builtin Builtin.copy, args := #[Operand.tmp 73, Operand.tmp 76], argTypes := #[24, 24] }, type := 3, pos := "slices.go:178", after := #[{ on := 4, ground := Ground.data }, { on := 7, ground := Ground.data }], guard := none }) rfl (fun Kz hK => ?_) AllReadyH.nil
  refine step_copy_run rfl _ _ _ _ rfl _ _ rfl rfl (H15.out _ _ _) ?_
  refine hK.out _ _ (trivial) (fun hH2 => ?_)
  clear hK Kz hHeld
  have hHeld := hH2
  clear hH2
  (try simp only [Act.put, List.setIfInBounds_toArray, List.set_cons_zero, List.set_cons_succ])
  refine wpAnyH_done (by kernel_rfl) ?_ _
  clear hHeld
  go_wp2_with (refine wpList_copy_run rfl _ _ 24 24 rfl _ _ rfl rfl (H16.out _ _) ?_)
  go_wp2_with fail
  go_ret
  exact HG.out
end Go.Proofs.Ytiencdgmnkphjaa

/- Apply: a link that goes, a link that comes. -/
namespace Go.Proofs.Ytiencdgmnkphjaa
open Go.RowKit Bs
theorem filter_erase {α : Type} {p : α → Bool} : ∀ (L : List α) (i : Nat), i < L.length → (∀ j m, L[j]? = some m → (p m = true ↔ j ≠ i)) → L.filter p = L.eraseIdx i
  | a :: t, 0, _, h => by
    have h0 : ¬ p a = true := fun e => (h 0 a rfl).1 e rfl
    rw [List.filter_cons_of_neg h0, List.eraseIdx_cons_zero, List.filter_eq_self]
    intro m hm
    obtain ⟨k, hk, hke⟩ := List.mem_iff_getElem.1 hm
    exact (h (k + 1) m (by rw [List.getElem?_cons_succ, List.getElem?_eq_getElem hk, hke])).2 (by omega)
  | a :: t, i + 1, hi, h => by
    have h0 : p a = true := (h 0 a rfl).2 (by omega)
    rw [List.filter_cons_of_pos h0, List.eraseIdx_cons_succ, filter_erase t i (by simpa using hi) (fun j m hj => by
      rw [h (j + 1) m (by rw [List.getElem?_cons_succ]; exact hj)]
      omega)]
theorem del_links {R : List Rt} {L : List Lk} (ho : OkAll R L) {x l : Lk} {i : Nat} (hl : L[i]? = some l) (e1 : l.a = x.a) (e2 : l.b = x.b) : L.filter (fun m => !sameE x m) = L.eraseIdx i := by
  refine filter_erase L i (List.getElem?_eq_some_iff.1 hl).1 (fun j m hj => ?_)
  rw [Bool.not_eq_true', ← Bool.not_eq_true, sameE_iff]
  constructor
  · intro h e
    subst e
    rw [hl] at hj
    obtain rfl := Option.some.inj hj
    exact h ⟨e1, e2⟩
  · intro h e
    exact h (ends_inj ho hj hl (by omega) (by omega))
theorem ins_links {R : List Rt} {L : List Lk} (ho : OkAll R L) {x : Lk} {i : Nat} {b : Bool} (h : BsP cvL L ⟨x.a, x.b, 0, 0, 0⟩ i b) : insL L x = L.take i ++ x :: L.drop i := by
  have hp := pair_of_asc ltL (fun _ _ _ => ltL_trans) L ho.ls
  have hlt : ∀ y : Lk, cvL y ⟨x.a, x.b, 0, 0, 0⟩ < 0 → ltL y x = true := fun y hy => by
    have h1 : ltL y ⟨x.a, x.b, 0, 0, 0⟩ = true := ltL_of_lt (show ¬ 0 ≤ cmpL y ⟨x.a, x.b, 0, 0, 0⟩ by have : cmpL y ⟨x.a, x.b, 0, 0, 0⟩ < 0 := hy; omega)
    exact h1
  refine insL_at x L i h.le (fun k z hk hz => ?_) (fun z hz => ?_)
  · obtain ⟨y, hy⟩ : ∃ y, L[i - 1]? = some y := ⟨_, List.getElem?_eq_getElem (by have := h.le; omega)⟩
    have h1 := hlt y (h.lo y (by omega) hy)
    rcases Nat.lt_or_ge k (i - 1) with h2 | h2
    · exact ltL_trans (pair_get hp h2 hz hy) h1
    · obtain rfl : k = i - 1 := by omega
      rw [hy] at hz
      obtain rfl := Option.some.inj hz
      exact h1
  · have h1 : ltL z ⟨x.a, x.b, 0, 0, 0⟩ = false := cmpL_ge.1 (show 0 ≤ cmpL z ⟨x.a, x.b, 0, 0, 0⟩ from h.hi z hz)
    exact h1
/-- Insert, wherever. -/
theorem tinsert_any (L : List Lk) (x : Lk) (base gx cx i : Nat) (v : Value) (w : World) (h : w.ownsRow base 68 5 v L.length (L.flatMap lkC)) (hx : w.heap[gx]? = some (.cells #[.int .i64 x.a, .int .i64 x.b, .int .i64 x.ca, .int .i64 x.cb, .int .i64 x.cp] 68 (0, 0))) (hm : L.length ≤ 1000) (hb : base ≤ w.heap.size) (hne : v.ownBlock ≠ some gx) (hi : i ≤ L.length) :
    Calls Try.prog 81 #[v, .int .i64 (i : Int), .slice (some ⟨gx, 0, none⟩) 1 cx] w fun e w' => InsPost (L.take i ++ x :: L.drop i) base w e w' := by
  rcases Nat.lt_or_ge i L.length with h1 | h1
  · obtain ⟨g, cap, rfl, -, -⟩ := h.form (by omega)
    rcases Nat.lt_or_ge cap (L.length + 1) with h2 | h2
    · exact tinsB_any L x base gx cx g cap i w h hx hm hb h1 h2
    · exact tinsC_any L x base gx cx g cap i w h hx hm (fun e => hne (by rw [e]; rfl)) h1 h2
  · obtain rfl : i = L.length := by omega
    obtain ⟨p, c, rfl, -, -⟩ := own_shape h
    rw [List.take_length, List.drop_length]
    exact tinsA_any L x base gx cx p c w h hx hm hb
end Go.Proofs.Ytiencdgmnkphjaa
