/- BitioBack: fields that were appended are found again. -/
import Derived.Test.YtokolidakcfopaaIoAwake
import Derived.Test.YtokolidakcfopaaIoTake
import Derived.Test.YtokolidakcfopaaIoRows
import Derived.Test.YtokolidakcfopaaIoKit
import Derived.Deep.AppendLies
namespace Go.Proofs.Ytokolidakcfopaa
open Go.RowKit Bs
theorem pz_vs' {f : Nat → Bool} {N : Nat} (h : N ≤ 8192) : vs (pz f N ((N + 7) / 8)) (N : Int) = true := by
  refine vs_iff.2 ⟨h, pz_len _ _ _, fun i hi hn => ?_⟩
  rw [pz_len] at hi
  rw [bt_pz _ _ _ _ hi]
  simp; omega
/-- The stream l of N bits has the fields of these widths with these values. -/
def Fld (l : List Nat) (N : Nat) (L V : List Nat) : Prop := N = L.sum ∧ (∀ x ∈ L, x ≤ 64) ∧ V.length = L.length ∧ ∀ k, k < L.length → num (bt l) (L.take k).sum (L.getD k 0) = V.getD k 0
theorem fld_nil : Fld [] 0 [] [] := ⟨rfl, fun _ h => (by cases h), rfl, fun k hk => absurd hk (Nat.not_lt_zero k)⟩
theorem sum_take_le (L : List Nat) (k : Nat) (hk : k < L.length) : (L.take k).sum + L.getD k 0 ≤ L.sum := by
  have e : L = L.take k ++ L.getD k 0 :: L.drop (k + 1) := by
    rw [List.getD_eq_getElem?_getD, List.getElem?_eq_getElem hk, Option.getD_some, ← List.drop_eq_getElem_cons hk, List.take_append_drop]
  have h := congrArg List.sum e
  rw [List.sum_append, List.sum_cons] at h
  omega
theorem getD_left (L : List Nat) (x k : Nat) (h : k < L.length) : (L ++ [x]).getD k 0 = L.getD k 0 := by
  rw [List.getD_eq_getElem?_getD, List.getD_eq_getElem?_getD, List.getElem?_append_left h]
theorem getD_last (L : List Nat) (x k : Nat) (h : k = L.length) : (L ++ [x]).getD k 0 = x := by
  subst h
  rw [List.getD_eq_getElem?_getD, List.getElem?_append_right (Nat.le_refl _), Nat.sub_self]; rfl
theorem fld_snoc {l : List Nat} {N K v : Nat} {L V : List Nat} (h : Fld l N L V) (hK : K ≤ 64) (hv : v < 2 ^ K) :
    Fld (pz (apf l N v K) (N + K) ((N + K + 7) / 8)) (N + K) (L ++ [K]) (V ++ [v]) := by
  obtain ⟨h1, h2, h3, h4⟩ := h
  have hb : ∀ i, i < N + K → bt (pz (apf l N v K) (N + K) ((N + K + 7) / 8)) i = apf l N v K i := fun i hi => by
    rw [bt_pz _ _ _ _ (by omega)]; simp [hi]
  refine ⟨by rw [List.sum_append, ← h1]; simp, ?_, by simp [h3], ?_⟩
  · intro x hx
    rcases List.mem_append.1 hx with hx | hx
    · exact h2 x hx
    · rw [List.mem_singleton.1 hx]; exact hK
  · intro k hk
    rw [List.length_append, List.length_singleton] at hk
    by_cases hl : k < L.length
    · have hs := sum_take_le L k hl
      rw [List.take_append_of_le_length (by omega), getD_left _ _ _ hl, getD_left _ _ _ (by omega), ← h4 k hl]
      refine num_congr _ fun t ht => ?_
      rw [hb _ (by omega)]
      unfold apf
      rw [if_pos (by omega)]
    · obtain rfl : k = L.length := by omega
      rw [List.take_append_of_le_length (Nat.le_refl _), List.take_length, ← h1, getD_last _ _ _ rfl, getD_last _ _ _ h3.symm]
      refine (num_eq hv fun t ht => ?_).symm
      rw [hb _ (by omega)]
      unfold apf
      rw [if_neg (by omega), show K - 1 - (N + t - N) = K - 1 - t by omega]
theorem fld_sum {L : List Nat} (h : ∀ x ∈ L, x ≤ 64) : L.sum ≤ 64 * L.length := by
  induction L with
  | nil => simp
  | cons x r ih =>
    have := ih fun y hy => h y (List.mem_cons_of_mem _ hy)
    have := h x List.mem_cons_self
    rw [List.sum_cons, List.length_cons]; omega
def uv (x : Nat) : Value := .int .u64 (x : Int)
theorem info_u64' : (Try.prog.info? 22).map (fun i => (i.zero, i.size, i.bytes)) = some (some (.int .u64 0), 1, 8) := by kernel_rfl
/-- Everything that the loop keeps in memory. -/
structure BK (a0 : Nat) (W : World) (ws vv : Value) (n m : Nat) (xs ys : List Value) (p : Option Addr) (c : Nat) (l : List Nat) (N : Int) (w : World) : Prop where
  ow : w.ownsRow (W.heap.size + 1) 3 1 ws n xs
  ov : w.ownsRow (W.heap.size + 1) 22 1 vv m ys
  rd : Rd w (fun b => W.heap.size + 1 ≤ b ∧ some b ≠ ws.ownBlock ∧ some b ≠ vv.ownBlock) (.slice p l.length c) (l.map nv)
  row : w.heap[W.heap.size]? = some (.cells #[.slice p l.length c, .int .i64 N] 25 (0, 0))
  st : St a0 W w
section
variable {a0 : Nat} {W w w1 : World} {ws vv : Value} {n m : Nat} {xs ys : List Value} {p : Option Addr} {c : Nat} {l : List Nat} {N : Int}
theorem own_types {base base2 : Nat} {e e2 : TypeId} (h : w.ownsRow base e 1 ws n xs) (h2 : w.ownsRow base2 e2 1 vv m ys) (he : e ≠ e2) : vv.ownBlock = none ∨ vv.ownBlock ≠ ws.ownBlock := by
  rcases h2.2 with ⟨rfl, _⟩ | ⟨g, cap, cur, rfl, _, hg, _⟩
  · exact .inl rfl
  · right
    rcases h.2 with ⟨rfl, _⟩ | ⟨g2, cap2, cur2, rfl, _, hg2, _⟩
    · intro e3; cases e3
    · intro e3
      obtain rfl : g = g2 := Option.some.inj e3
      rw [hg] at hg2
      injection hg2 with e4
      injection e4 with e5 e6
      exact he e6.symm
theorem Rd.weaken {q q' : Nat → Prop} {v : Value} {vs : List Value} (h : Rd w q v vs) (hq : ∀ b, q b → b < w.heap.size → q' b) : Rd w q' v vs := by
  obtain ⟨p, c, hv, hc⟩ := h
  refine ⟨p, c, hv, fun hne => ?_⟩
  obtain ⟨b, off, hp, hb, hx⟩ := hc hne
  refine ⟨b, off, hp, hq b hb ?_, hx⟩
  cases vs with
  | nil => exact absurd rfl hne
  | cons y r => exact World.block_lt_of_cell? w ⟨b, off + 0, none⟩ (hx 0 y rfl)
theorem World.lt_of_row {w : World} {b : Nat} {o : Obj} (h : w.heap[b]? = some o) : b < w.heap.size := (Array.getElem?_eq_some_iff.1 h).1
theorem own_above {base b k : Nat} {e : TypeId} {v : Value} {zs : List Value} (h : w.ownsRow base e 1 v k zs) (hb : w.heap.size ≤ b) : some b ≠ v.ownBlock := by
  intro e2
  have := (h.lt b e2.symm).2
  omega
theorem BK.keep (h : BK a0 W ws vv n m xs ys p c l N w) (g : w.grownBy w1 none) : BK a0 W ws vv n m xs ys p c l N w1 :=
  ⟨h.ow.kept g (by cases ws.ownBlock <;> simp), h.ov.kept g (by cases vv.ownBlock <;> simp), h.rd.keep g, kept_row h.row g (by simp), h.st.none_ g⟩
/-- The tape is read. -/
theorem BK.tape (h : BK a0 W ws vv n m xs ys p c l N w) (ha : a0 < W.heap.size) (g : St a0 w w1) : BK a0 W ws vv n m xs ys p c l N w1 :=
  ⟨h.ow.kept g.1 (.inr fun e => own_ne h.ow (by omega) e.symm), h.ov.kept g.1 (.inr fun e => own_ne h.ov (by omega) e.symm), h.rd.grown g.1 (fun b hb e => by have := Option.some.inj e; omega), kept_row h.row g.1 (fun e => by have := Option.some.inj e; omega), h.st.trans g⟩
theorem lies_ne {w : World} {b g : Nat} {v : Value} (hl : v.ownBlock = some g ∨ g = w.heap.size) (hb : b < w.heap.size) (h : some b ≠ v.ownBlock) (cap k : Nat) : some b ≠ (Value.slice (some ⟨g, 0, none⟩) k cap).ownBlock := by
  intro e
  have e2 : b = g := Option.some.inj e
  rcases hl with hl | hl
  · rw [hl, e2] at h; exact h rfl
  · omega
theorem BK.app_ws {g cap : Nat} {z : Value} (h : BK a0 W ws vv n m xs ys p c l N w) (ha : a0 < W.heap.size) (o : w1.ownsRow (W.heap.size + 1) 3 1 (.slice (some ⟨g, 0, none⟩) (n + 1) cap) (n + 1) (xs ++ [z])) (k : w.grownBy w1 ws.ownBlock) (hl : ws.ownBlock = some g ∨ g = w.heap.size) :
    BK a0 W (.slice (some ⟨g, 0, none⟩) (n + 1) cap) vv (n + 1) m (xs ++ [z]) ys p c l N w1 :=
  ⟨o, h.ov.kept k (own_types h.ow h.ov (by decide)), (h.rd.weaken (q' := fun b => some b ≠ ws.ownBlock ∧ (W.heap.size + 1 ≤ b ∧ some b ≠ (Value.slice (some ⟨g, 0, none⟩) (n + 1) cap).ownBlock ∧ some b ≠ vv.ownBlock)) fun b hb hlt => ⟨hb.2.1, hb.1, lies_ne hl hlt hb.2.1 _ _, hb.2.2⟩).grown k (fun b hb => hb.1) |>.weaken fun b hb _ => hb.2,
    kept_row h.row k (own_ne h.ow (by omega)), h.st.own_grow h.ow (by omega) ha k⟩
theorem BK.app_vv {g cap : Nat} {z : Value} (h : BK a0 W ws vv n m xs ys p c l N w) (ha : a0 < W.heap.size) (o : w1.ownsRow (W.heap.size + 1) 22 1 (.slice (some ⟨g, 0, none⟩) (m + 1) cap) (m + 1) (ys ++ [z])) (k : w.grownBy w1 vv.ownBlock) (hl : vv.ownBlock = some g ∨ g = w.heap.size) :
    BK a0 W ws (.slice (some ⟨g, 0, none⟩) (m + 1) cap) n (m + 1) xs (ys ++ [z]) p c l N w1 :=
  ⟨h.ow.kept k (own_types h.ov h.ow (by decide)), o, (h.rd.weaken (q' := fun b => some b ≠ vv.ownBlock ∧ (W.heap.size + 1 ≤ b ∧ some b ≠ ws.ownBlock ∧ some b ≠ (Value.slice (some ⟨g, 0, none⟩) (m + 1) cap).ownBlock)) fun b hb hlt => ⟨hb.2.2, hb.1, hb.2.1, lies_ne hl hlt hb.2.2 _ _⟩).grown k (fun b hb => hb.1) |>.weaken fun b hb _ => hb.2,
    kept_row h.row k (own_ne h.ov (by omega)), h.st.own_grow h.ov (by omega) ha k⟩
/-- The new stream is laid into the old one's block. -/
theorem BK.turn {p' : Option Addr} {c' : Nat} {l' : List Nat} {N' : Int} (h : BK a0 W ws vv n m xs ys p c l N w) (ha : a0 < W.heap.size) (hR : Rd w (fun b => W.heap.size + 1 ≤ b ∧ some b ≠ ws.ownBlock ∧ some b ≠ vv.ownBlock) (.slice p' l'.length c') (l'.map nv)) :
    BK a0 W ws vv n m xs ys p' c' l' N' ((w.setCell ⟨W.heap.size, 0, none⟩ (.slice p' l'.length c')).setCell ⟨W.heap.size, 1, none⟩ (.int .i64 N')) := by
  have g := grown_store2 w W.heap.size (.slice p' l'.length c') (.int .i64 N')
  refine ⟨h.ow.kept g (.inr fun e => own_ne h.ow (by omega) e.symm), h.ov.kept g (.inr fun e => own_ne h.ov (by omega) e.symm), hR.grown g (fun b hb e => by have := Option.some.inj e; omega), store2 h.row, ?_⟩
  refine ⟨⟨g.os.trans h.st.1.os, g.tape.trans h.st.1.tape, g.output.trans h.st.1.output, Nat.le_trans h.st.1.size g.size, fun i hi hia => (g.block i (Nat.lt_of_lt_of_le hi h.st.1.size) (fun e => by have := Option.some.inj e; omega)).trans (h.st.1.block i hi hia)⟩, tp_new2 h.st.2 g ha⟩
end
theorem cell_at {w : World} {k : Nat} (h : w.heap.size = k) (z : Value) (t : TypeId) : (w.alloc (.cells #[z] t)).cell? ⟨k, 0, none⟩ = some z := by
  subst h; exact cell_of_row _ _ _ _ _ _ (heap_alloc_new w (.cells #[z] t))
theorem own_cell {w : World} {base g n cap k : Nat} {e : TypeId} {xs : List Value} {x : Value} (h : w.ownsRow base e 1 (.slice (some ⟨g, 0, none⟩) n cap) n xs) (hk : xs[k]? = some x) : w.cell? ⟨g, k, none⟩ = some x := by
  obtain ⟨p, c, hv, hc⟩ := rd_of_own h
  injection hv with h1 _ _
  obtain ⟨b, off, hp, _, hx⟩ := hc (by intro e2; rw [e2] at hk; cases hk)
  rw [hp] at h1
  have h2 := Option.some.inj h1
  injection h2 with h3 h4 _
  have := hx k x hk
  rw [← h3, ← h4, Nat.zero_add] at this
  exact this
theorem map_at {f : Nat → Value} {L : List Nat} {k : Nat} (hk : k < L.length) : (L.map f)[k]? = some (f (L.getD k 0)) := by
  rw [List.getElem?_map, List.getElem?_eq_getElem hk, List.getD_eq_getElem?_getD, List.getElem?_eq_getElem hk]; rfl
theorem sum_take_succ (L : List Nat) (k : Nat) (hk : k < L.length) : (L.take (k + 1)).sum = (L.take k).sum + L.getD k 0 := by
  rw [List.take_add_one, List.sum_append, List.getElem?_eq_getElem hk, List.getD_eq_getElem?_getD, List.getElem?_eq_getElem hk]; simp
/-- append of one number. -/
theorem wpList_app_int {ops : Array Oper} {rest : List Oper} {o : Oper} {a : Act} {Q : Exit → Act → World → Prop} {w : World} (hgd : o.guard = none) (s x : Operand)
    (ho : o.op = .call { callee := .builtin .append, args := #[s, x], argTypes := #[32, 32] }) (base : Nat) (v : Value) (n : Nat) (xs : List Value) (hs : a.eval s = v) (hown : w.ownsRow base 3 1 v n xs)
    (b : Nat) (z : Int) (hx : a.eval x = .slice (some ⟨b, 0, none⟩) 1 1) (hb : w.cell? ⟨b, 0, none⟩ = some (.int .i64 z)) (hn : n ≤ 1000) (hbase : base ≤ w.heap.size)
    (h : ∀ g cap w', w'.ownsRow base 3 1 (.slice (some ⟨g, 0, none⟩) (n + 1) cap) (n + 1) (xs ++ [.int .i64 z]) → w.grownBy w' v.ownBlock → (v.ownBlock = some g ∨ g = w.heap.size) → wpList Try.prog ops Q rest (a.put o.dst (.slice (some ⟨g, 0, none⟩) (n + 1) cap)) w') : wpList Try.prog ops Q (o :: rest) a w := by
  obtain ⟨i0, hi, hz0, hz1, hz2⟩ := info_parts info_int
  refine wpList_append_lies w hgd s x 32 ho base 3 i0 (.int .i64 0) 1 8 Try.underlying32 hi hz0 hz1 hz2 rfl (by decide) v n xs hs hown ⟨b, 0, none⟩ 1 1 [.int .i64 z] hx rfl ?_ (by intro u hu; rw [List.mem_singleton.1 hu]; rfl) (by decide) (by unfold maxLen; omega) (by omega) hbase _ rfl fun g cap w' h1 h2 h3 _ => h g cap w' h1 h2 h3
  intro j u hj
  match j, hj with
  | 0, hj => obtain rfl : Value.int .i64 z = u := by simpa using hj
             rw [add_plain]; exact hb
/-- append of one number. -/
theorem wpList_app_u64 {ops : Array Oper} {rest : List Oper} {o : Oper} {a : Act} {Q : Exit → Act → World → Prop} {w : World} (hgd : o.guard = none) (s x : Operand)
    (ho : o.op = .call { callee := .builtin .append, args := #[s, x], argTypes := #[35, 35] }) (base : Nat) (v : Value) (n : Nat) (xs : List Value) (hs : a.eval s = v) (hown : w.ownsRow base 22 1 v n xs)
    (b : Nat) (z : Int) (hx : a.eval x = .slice (some ⟨b, 0, none⟩) 1 1) (hb : w.cell? ⟨b, 0, none⟩ = some (.int .u64 z)) (hn : n ≤ 1000) (hbase : base ≤ w.heap.size)
    (h : ∀ g cap w', w'.ownsRow base 22 1 (.slice (some ⟨g, 0, none⟩) (n + 1) cap) (n + 1) (xs ++ [.int .u64 z]) → w.grownBy w' v.ownBlock → (v.ownBlock = some g ∨ g = w.heap.size) → wpList Try.prog ops Q rest (a.put o.dst (.slice (some ⟨g, 0, none⟩) (n + 1) cap)) w') : wpList Try.prog ops Q (o :: rest) a w := by
  obtain ⟨i0, hi, hz0, hz1, hz2⟩ := info_parts info_u64'
  refine wpList_append_lies w hgd s x 35 ho base 22 i0 (.int .u64 0) 1 8 Try.underlying35 hi hz0 hz1 hz2 rfl (by decide) v n xs hs hown ⟨b, 0, none⟩ 1 1 [.int .u64 z] hx rfl ?_ (by intro u hu; rw [List.mem_singleton.1 hu]; rfl) (by decide) (by unfold maxLen; omega) (by omega) hbase _ rfl fun g cap w' h1 h2 h3 _ => h g cap w' h1 h2 h3
  intro j u hj
  match j, hj with
  | 0, hj => obtain rfl : Value.int .u64 z = u := by simpa using hj
             rw [add_plain]; exact hb
end Go.Proofs.Ytokolidakcfopaa
