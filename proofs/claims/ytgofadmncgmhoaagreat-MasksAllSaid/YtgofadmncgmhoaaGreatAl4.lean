/- Parts of the proof, packed: ToFail, ToWith, ToRws, ToCpy, ToBs, ToOrdM, ToWoM, ToLkM, ToLook, ToCln, ToDel, ShMath, ShDij, ShNear, ShMap, ToHasF, ToWiW, ToSort, ToSrt2, ShNst, ShDel, ShStp, ToDfs, ToDfsK, ToDfsW, ToComp, ToComp2, ShCfM, ShCf, ShDst, ShCst, ShNxt, ToApM, ShCto, ShPass, ShUse, ShRt, ShLay, ShSrt, ShCnt, ShPts, ShSrn, ShPtw, ShExm, ToCompW, ToConn, ToBri, ToCuts, ToAwake, ShAwk. -/
import Derived.Test.YtgofadmncgmhoaaGreatAl2
import Derived.Test.YtgofadmncgmhoaaGreatAl3
import Derived.Test.YtgofadmncgmhoaaGreatAl1
import Derived.ArgAppend
import Derived.Laws.IdiomCopy
import Derived.Laws.BitsLemmas
import Derived.Deep.AppendLies
import Derived.Deep.CutBlock
import Derived.Lib.SliceRun
import Derived.Maps.OwnSet
import Derived.Maps.OwnOps
import Derived.Lib.SlKeysI
import Derived.BigQuiet
import Derived.WalkMore
import Derived.Deep.LoopGhost
/- topology: the closures of Without; what memory holds while it runs. -/
namespace Go.Proofs.YtgofadmncgmhoaaGreat
open Go.RowKit Bs
set_option maxRecDepth 100000 in
/-- What is read lies below. -/
theorem RdF.old {w : World} {q : Nat → Prop} {v : Value} {n : Nat} {xs : List Value} (h : RdF w q v n xs) : RdF w (· < w.heap.size) v n xs := by
  obtain ⟨p, c, hv, hc⟩ := h
  refine ⟨p, c, hv, fun hne => ?_⟩
  obtain ⟨b, off, hp, hb, hx⟩ := hc hne
  obtain ⟨x, hx0⟩ : ∃ x, xs[0]? = some x := by
    cases xs with
    | nil => exact absurd rfl hne
    | cons a t => exact ⟨a, rfl⟩
  exact ⟨b, off, hp, World.block_lt_of_cell? w ⟨b, off + 0, none⟩ (hx 0 x hx0), hx⟩
set_option maxRecDepth 100000 in
theorem Rd.old {w : World} {q : Nat → Prop} {v : Value} {xs : List Value} (h : Rd w q v xs) : Rd w (· < w.heap.size) v xs := by
  obtain ⟨p, c, hv, hc⟩ := h
  refine ⟨p, c, hv, fun hne => ?_⟩
  obtain ⟨b, off, hp, hb, hx⟩ := hc hne
  obtain ⟨x, hx0⟩ : ∃ x, xs[0]? = some x := by
    cases xs with
    | nil => exact absurd rfl hne
    | cons a t => exact ⟨a, rfl⟩
  exact ⟨b, off, hp, World.block_lt_of_cell? w ⟨b, off + 0, none⟩ (hx 0 x hx0), hx⟩
set_option maxRecDepth 100000 in
theorem TgOk.old {w : World} {q : Nat → Prop} {T : Tg} (h : TgOk w q T) : TgOk w (· < w.heap.size) T := ⟨h.r.old, h.l.old, h.cr, h.cl⟩
set_option maxRecDepth 100000 in
theorem okT_len {R : List Rt} {L : List Lk} (h : okT R L = true) : R.length ≤ 24 ∧ L.length ≤ 60 := by
  unfold okT chk at h
  by_cases h1 : 24 < R.length ∨ 60 < L.length
  · rw [if_pos h1] at h; cases h
  · omega
set_option maxRecDepth 100000 in
theorem filter_snoc {α : Type} {f : α → Bool} {l : List α} {k : Nat} {x : α} (h : l[k]? = some x) : (l.take (k + 1)).filter f = (l.take k).filter f ++ (if f x then [x] else []) := by
  rw [List.take_add_one, h, List.filter_append]
  cases hf : f x <;> simp [hf]
set_option maxRecDepth 100000 in
theorem info_rt : (Tryz.prog.info? 105).map (fun i => (i.zero, i.size, i.bytes)) = some (some (.agg #[.int .i64 0, .bool false]), 2, 16) := by kernel_rfl
set_option maxRecDepth 100000 in
theorem info_lk : (Tryz.prog.info? 107).map (fun i => (i.zero, i.size, i.bytes)) = some (some (.agg #[.int .i64 0, .int .i64 0, .int .i64 0, .int .i64 0, .int .i64 0]), 5, 40) := by kernel_rfl
end Go.Proofs.YtgofadmncgmhoaaGreat

/- topology: Without. -/
namespace Go.Proofs.YtgofadmncgmhoaaGreat
open Go.RowKit Bs
set_option maxRecDepth 100000 in
theorem grown_any {w w1 w2 : World} {r : Option Nat} (h : w.grownBy w1 none) (k : w1.grownBy w2 r) (hr : ∀ b, b < w.heap.size → some b ≠ r) : w.grownBy w2 none :=
  ⟨k.os.trans h.os, k.tape.trans h.tape, k.output.trans h.output, Nat.le_trans h.size k.size, fun b hb _ => (k.block b (Nat.lt_of_lt_of_le hb h.size) (hr b hb)).trans (h.block b hb (by simp))⟩
set_option maxRecDepth 100000 in
theorem rdf_of_own2 {w : World} {base size : Nat} {e : TypeId} {v : Value} {n : Nat} {xs : List Value} (h : w.ownsRow base e size v n xs) : RdF w (fun b => base ≤ b ∧ b < w.heap.size) v n xs := by
  obtain ⟨p, c, hv, hc⟩ := rdf_of_own h
  refine ⟨p, c, hv, fun hne => ?_⟩
  obtain ⟨b, off, hp, hb, hx⟩ := hc hne
  obtain ⟨x, hx0⟩ : ∃ x, xs[0]? = some x := by
    cases xs with
    | nil => exact absurd rfl hne
    | cons a t => exact ⟨a, rfl⟩
  exact ⟨b, off, hp, ⟨hb, World.block_lt_of_cell? w ⟨b, off + 0, none⟩ (hx 0 x hx0)⟩, hx⟩
set_option maxRecDepth 100000 in
theorem topo_size : (Tryz.prog.info? 45).map (·.size) = some 2 := by kernel_rfl
set_option maxRecDepth 100000 in
theorem res_topo {fn : Func} {p : Tmp} (h : fn.results = #[.cell p 45]) (tmps : Array Value) (w : World) (g : Nat) (x y : Value) (hp : tmps.getD p undef = .pointer (some ⟨g, 0, none⟩)) (hg : w.heap[g]? = some (.cells #[x, y] 45 (0, 0))) :
    (results fn tmps).run Tryz.prog w = .ok (.agg #[x, y]) w :=
  results_cell_row h tmps w g _ _ _ _ hp hg Tryz.underlying45 rfl topo_size
set_option maxRecDepth 100000 in
theorem own_shape {w : World} {base size n : Nat} {e : TypeId} {v : Value} {xs : List Value} (h : w.ownsRow base e size v n xs) : ∃ p c, v = .slice p n c ∧ n ≤ c ∧ c ≤ 9223372036854775807 := by
  rcases h.2 with ⟨rfl, h0⟩ | ⟨g, cap, cur, rfl, _, _, hn, hm, _⟩
  · subst h0
    exact ⟨none, 0, rfl, Nat.le_refl _, by omega⟩
  · unfold maxLen at hm
    exact ⟨_, cap, rfl, hn, by omega⟩
set_option maxRecDepth 100000 in
theorem cells2 (w : World) (x y : Value) (t : TypeId) : ∀ j u, [x, y][j]? = some u → (w.alloc (.cells #[x, y] t)).cell? ((⟨w.heap.size, 0, none⟩ : Addr).add j) = some u := by
  intro j u hj
  have hb : (w.alloc (.cells #[x, y] t)).heap[w.heap.size]? = some (.cells #[x, y] t (0, 0)) := heap_alloc_new w _
  have hadd : (⟨w.heap.size, 0, none⟩ : Addr).add j = ⟨w.heap.size, j, none⟩ := by rw [add_plain, Nat.zero_add]
  rw [hadd, cell_of_row _ _ _ _ _ _ hb]
  simpa using hj
set_option maxRecDepth 100000 in
theorem cells5 (w : World) (a b c d e : Value) (t : TypeId) : ∀ j u, [a, b, c, d, e][j]? = some u → (w.alloc (.cells #[a, b, c, d, e] t)).cell? ((⟨w.heap.size, 0, none⟩ : Addr).add j) = some u := by
  intro j u hj
  have hb : (w.alloc (.cells #[a, b, c, d, e] t)).heap[w.heap.size]? = some (.cells #[a, b, c, d, e] t (0, 0)) := heap_alloc_new w _
  have hadd : (⟨w.heap.size, 0, none⟩ : Addr).add j = ⟨w.heap.size, j, none⟩ := by rw [add_plain, Nat.zero_add]
  rw [hadd, cell_of_row _ _ _ _ _ _ hb]
  simpa using hj
end Go.Proofs.YtgofadmncgmhoaaGreat

/- Rows of structs: parts of them, and append. -/
namespace Go.Proofs.YtgofadmncgmhoaaGreat
open Go.RowKit Bs
set_option maxRecDepth 100000 in
/-- A walk stops here. -/
theorem hold_on {p : Prop} (h : Hid p) : p := h.out
set_option maxRecDepth 100000 in
theorem flat_drop {α : Type} (f : α → List Value) (k : Nat) (hf : ∀ x, (f x).length = k) : ∀ (l : List α) (j : Nat), (l.drop j).flatMap f = (l.flatMap f).drop (j * k)
  | [], j => by simp
  | a :: t, 0 => by simp
  | a :: t, j + 1 => by
    rw [List.drop_succ_cons, flat_drop f k hf t j, List.flatMap_cons, Nat.add_mul, Nat.one_mul, Nat.add_comm, ← List.drop_drop, List.drop_append_of_le_length (by rw [hf]; exact Nat.le_refl _), ← hf a, List.drop_length, List.nil_append]
set_option maxRecDepth 100000 in
theorem flat_take {α : Type} (f : α → List Value) (k : Nat) (hf : ∀ x, (f x).length = k) : ∀ (l : List α) (j : Nat), (l.take j).flatMap f = (l.flatMap f).take (j * k)
  | [], j => by simp
  | a :: t, 0 => by simp
  | a :: t, j + 1 => by
    rw [List.take_succ_cons, List.flatMap_cons, flat_take f k hf t j, List.flatMap_cons, List.take_append, hf, List.take_of_length_le (l := f a) (by rw [hf, Nat.add_mul]; omega), Nat.add_mul, Nat.one_mul, Nat.add_sub_cancel]
set_option maxRecDepth 100000 in
theorem RdF.part {α : Type} {f : α → List Value} {k : Nat} (hf : ∀ x, (f x).length = k) {w : World} {q : Nat → Prop} {p : Option Addr} {c : Nat} {l : List α} (h : RdF w q (.slice p l.length c) l.length (l.flatMap f)) (j : Nat) (hj : j ≤ l.length) (c' : Nat) :
    RdF w q (.slice p j c') (l.take j).length ((l.take j).flatMap f) := by
  obtain ⟨p1, c1, e1, hx⟩ := h
  injection e1 with a1 a2 a3
  subst a1
  have hlen : (l.take j).length = j := by rw [List.length_take]; omega
  rw [hlen]
  refine ⟨p, c', rfl, fun hne => ?_⟩
  rw [flat_take f k hf] at hne ⊢
  obtain ⟨b, off, hp, hq, hc⟩ := hx (by intro e; rw [e] at hne; simp at hne)
  refine ⟨b, off, hp, hq, fun i x hi => hc i x ?_⟩
  rw [List.getElem?_take] at hi
  split at hi
  · exact hi
  · cases hi
set_option maxRecDepth 100000 in
theorem RdF.rest {α : Type} {f : α → List Value} {k : Nat} (hf : ∀ x, (f x).length = k) {w : World} {q : Nat → Prop} {b off c : Nat} {l : List α} (h : RdF w q (.slice (some ⟨b, off, none⟩) l.length c) l.length (l.flatMap f)) (j : Nat) (c' : Nat) :
    RdF w q (.slice (some ⟨b, off + j * k, none⟩) (l.length - j) c') (l.drop j).length ((l.drop j).flatMap f) := by
  obtain ⟨p1, c1, e1, hx⟩ := h
  injection e1 with a1 a2 a3
  subst a1
  have hlen : (l.drop j).length = l.length - j := by rw [List.length_drop]
  rw [hlen]
  refine ⟨_, c', rfl, fun hne => ?_⟩
  rw [flat_drop f k hf] at hne ⊢
  obtain ⟨b1, off1, hp, hq, hc⟩ := hx (by intro e; rw [e] at hne; simp at hne)
  injection hp with hp
  injection hp with hb ho
  subst hb
  subst ho
  refine ⟨b, off + j * k, rfl, hq, fun i x hi => ?_⟩
  rw [List.getElem?_drop] at hi
  rw [Nat.add_assoc]
  exact hc _ x hi
set_option maxRecDepth 100000 in
theorem rdf_news {w : World} {q : Nat → Prop} {ad : Addr} {n c m : Nat} {xs : List Value} (hR : RdF w q (.slice (some ad) n c) m xs) : ∀ j u, xs[j]? = some u → w.cell? (ad.add j) = some u := by
  intro j u hj
  obtain ⟨p1, c1, e1, hx⟩ := hR
  injection e1 with a1 a2 a3
  subst a1
  obtain ⟨b, off, hp, hq, hc⟩ := hx (by intro e; rw [e] at hj; simp at hj)
  injection hp with hp
  subst hp
  rw [add_plain]
  exact hc j u hj
set_option maxRecDepth 100000 in
theorem rdf_one {w : World} {b off n : Nat} {xs : List Value} (q : Nat → Prop) (hq : q b) (h : ∀ j u, xs[j]? = some u → w.cell? ((⟨b, off, none⟩ : Addr).add j) = some u) (c : Nat) : RdF w q (.slice (some ⟨b, off, none⟩) n c) n xs :=
  ⟨_, c, rfl, fun _ => ⟨b, off, rfl, hq, fun i x hi => by have := h i x hi; rw [add_plain] at this; exact this⟩⟩
set_option maxRecDepth 100000 in
theorem wpList_append_f {α : Type} (f : α → List Value) (size bytes : Nat) (hsz : 0 < size) (hf : ∀ x, (f x).length = size) (hone : ∀ x, ∀ u ∈ f x, u.oneCell' = true) (e t : TypeId) (i : TypeInfo) (z : Value)
    (ht : Tryz.prog.underlying t = some (.slice e)) (hi : Tryz.prog.info? e = some i) (hz : i.zero = some z) (hsize : i.size = size) (hby : i.bytes = bytes) (hzs : z.cells.size = size) (hb40 : bytes ≤ 1000)
    {w : World} {ops : Array Oper} {rest : List Oper} {o : Oper} {a : Act} {Q : Exit → Act → World → Prop} (hgd : o.guard = none) (s x : Operand)
    (ho : o.op = .call { callee := .builtin .append, args := #[s, x], argTypes := #[t, t] }) (base : Nat) (v : Value) (l : List α) (n : Nat) (hn : n = l.length) (hs : a.eval s = v) (hown : w.ownsRow base e size v n (l.flatMap f))
    (p : Option Addr) (k c : Nat) (r : List α) (hx : a.eval x = .slice p k c) (hk : k = r.length) (hn0 : p = none → c = 0) (q : Nat → Prop) (hR : RdF w q (.slice p k c) r.length (r.flatMap f)) (hkc : k ≤ c) (h63 : n + r.length ≤ 100000) (hbase : base ≤ w.heap.size)
    (h : ∀ v' w', w'.ownsRow base e size v' (l ++ r).length ((l ++ r).flatMap f) → w.grownBy w' v.ownBlock → wpList Tryz.prog ops Q rest (a.put o.dst v') w') : wpList Tryz.prog ops Q (o :: rest) a w := by
  subst hn
  cases p with
  | none =>
    obtain rfl := hn0 rfl
    have hr : r.length = 0 := by omega
    obtain rfl := List.eq_nil_of_length_eq_zero hr
    obtain rfl : k = 0 := hk
    refine wpList_append_own_none hgd s x t ho base e i size ht hi v l.length (l.flatMap f) hs hown hx ?_
    refine h v w ?_ (grown_refl _ _)
    rw [List.append_nil]; exact hown
  | some ad =>
    have hb2 : (l.length + k) * bytes ≤ 140737488355328 := Nat.le_trans (Nat.mul_le_mul (show l.length + k ≤ 100000 by omega) hb40) (by decide)
    refine wpList_append_own w hgd s x t ho base e i z size bytes ht hi hz hsize hby hzs hsz v l.length (l.flatMap f) hs hown ad k c (r.flatMap f) hx (by rw [flat_len f size hf, hk]) (rdf_news hR) ?_ (by unfold maxLen; omega) hb2 hbase ?_
    · intro u hu
      obtain ⟨y, _, hy⟩ := List.mem_flatMap.1 hu
      exact hone y u hy
    · intro v' w' h1 h2 _
      refine h v' w' ?_ h2
      rw [List.length_append, List.flatMap_append, ← hk]; exact h1
set_option maxRecDepth 100000 in
theorem own_apartF {w w1 : World} {base base2 size size2 : Nat} {e e2 : TypeId} {v v2 : Value} {n m : Nat} {xs ys : List Value} (h : w.ownsRow base e size v n xs) (hv : w.ownsRow base2 e2 size2 v2 m ys) (hg : ∀ g, v.ownBlock = some g → g < base2) (k : w.grownBy w1 v2.ownBlock) : w1.ownsRow base e size v n xs := by
  refine h.kept k ?_
  cases hb : v.ownBlock with
  | none => exact .inl rfl
  | some g =>
    refine .inr fun e => ?_
    have := (hv.lt g e.symm).1
    have := hg g hb
    omega
set_option maxRecDepth 100000 in
theorem old_grow {w w1 : World} {base2 size2 : Nat} {e2 : TypeId} {v2 : Value} {m : Nat} {ys : List Value} {W : World} (g : W.grownBy w none) (hv : w.ownsRow base2 e2 size2 v2 m ys) (hb : W.heap.size ≤ base2) (k : w.grownBy w1 v2.ownBlock) : W.grownBy w1 none :=
  grown_any g k (fun b hlt e => by have := (hv.lt b e.symm).1; omega)
set_option maxRecDepth 100000 in
theorem lk_one (x : Lk) : ∀ u ∈ lkC x, u.oneCell' = true := by
  intro u hu
  simp [lkC] at hu
  rcases hu with rfl | rfl | rfl | rfl | rfl <;> rfl
end Go.Proofs.YtgofadmncgmhoaaGreat

/- empty -/
namespace Go.Proofs.YtgofadmncgmhoaaGreat
end Go.Proofs.YtgofadmncgmhoaaGreat

/- slices.BinarySearchFunc, for routers and for links. -/
namespace Go.Proofs.YtgofadmncgmhoaaGreat
open Go.RowKit Bs
end Go.Proofs.YtgofadmncgmhoaaGreat

/- Links in order, and the tape's topologies: the mathematics. -/
namespace Go.Proofs.YtgofadmncgmhoaaGreat
open Go.RowKit Bs
/-- A link laid where the lesser ones end. -/
def insL (O : List Lk) (y : Lk) : List Lk := O.takeWhile (fun x => ltL x y) ++ y :: O.dropWhile (fun x => ltL x y)
def ordL (L : List Lk) : List Lk := L.foldl insL []
set_option maxRecDepth 100000 in
theorem insL_cons (a : Lk) (t : List Lk) (y : Lk) : insL (a :: t) y = if ltL a y then a :: insL t y else y :: a :: t := by
  unfold insL
  rw [List.takeWhile_cons, List.dropWhile_cons]
  split <;> rfl
set_option maxRecDepth 100000 in
theorem insL_len (O : List Lk) (y : Lk) : (insL O y).length = O.length + 1 := by
  unfold insL
  rw [List.length_append, List.length_cons]
  have := congrArg List.length (List.takeWhile_append_dropWhile (p := fun x => ltL x y) (l := O))
  rw [List.length_append] at this
  omega
set_option maxRecDepth 100000 in
theorem ordL_take (L : List Lk) (k : Nat) (y : Lk) (h : L[k]? = some y) : ordL (L.take (k + 1)) = insL (ordL (L.take k)) y := by
  unfold ordL
  rw [List.take_add_one, h, List.foldl_append]
  rfl
set_option maxRecDepth 100000 in
theorem foldl_insL_len : ∀ (L O : List Lk), (L.foldl insL O).length = O.length + L.length
  | [], O => by simp
  | a :: t, O => by rw [List.foldl_cons, foldl_insL_len t, insL_len, List.length_cons]; omega
set_option maxRecDepth 100000 in
theorem ordL_len (L : List Lk) : (ordL L).length = L.length := by
  unfold ordL
  rw [foldl_insL_len]; simp
set_option maxRecDepth 100000 in
theorem insL_at (y : Lk) : ∀ (O : List Lk) (j : Nat), j ≤ O.length → (∀ i x, i < j → O[i]? = some x → ltL x y = true) → (∀ x, O[j]? = some x → ltL x y = false) → insL O y = O.take j ++ y :: O.drop j
  | [], j, hj, _, _ => by
    obtain rfl : j = 0 := by simpa using hj
    rfl
  | a :: t, 0, _, _, h2 => by
    rw [insL_cons, h2 a rfl]
    rfl
  | a :: t, j + 1, hj, h1, h2 => by
    rw [insL_cons, if_pos (h1 0 a (by omega) rfl), insL_at y t j (by simpa using hj) (fun i x hi hx => h1 (i + 1) x (by omega) (by simpa using hx)) (fun x hx => h2 x (by simpa using hx))]
    rfl
set_option maxRecDepth 100000 in
theorem mem_insL (y z : Lk) : ∀ O : List Lk, z ∈ insL O y ↔ z = y ∨ z ∈ O
  | [] => by simp [insL]
  | a :: t => by
    rw [insL_cons]
    split
    · rw [List.mem_cons, List.mem_cons, mem_insL y z t]
      constructor
      · rintro (h | h | h)
        · exact .inr (.inl h)
        · exact .inl h
        · exact .inr (.inr h)
      · rintro (h | h | h)
        · exact .inr (.inl h)
        · exact .inl h
        · exact .inr (.inr h)
    · simp
set_option maxRecDepth 100000 in
theorem ltL_trans {x y z : Lk} (h1 : ltL x y = true) (h2 : ltL y z = true) : ltL x z = true := by
  unfold ltL at *
  have h1 := of_decide_eq_true h1
  have h2 := of_decide_eq_true h2
  exact decide_eq_true (by omega)
/-- The ends differ. -/
def EndsNe (x y : Lk) : Prop := x.a ≠ y.a ∨ x.b ≠ y.b
set_option maxRecDepth 100000 in
theorem ltL_flip {x y : Lk} (h : ltL x y = false) (hn : EndsNe x y) : ltL y x = true := by
  unfold ltL at *
  have h := of_decide_eq_false h
  unfold EndsNe at hn
  exact decide_eq_true (by omega)
set_option maxRecDepth 100000 in
theorem insL_pair (y : Lk) : ∀ O : List Lk, O.Pairwise (fun x z => ltL x z = true) → (∀ x ∈ O, EndsNe x y) → (insL O y).Pairwise (fun x z => ltL x z = true)
  | [], _, _ => by simp [insL]
  | a :: t, hp, hn => by
    rw [insL_cons]
    obtain ⟨h1, h2⟩ := List.pairwise_cons.1 hp
    split
    · next hlt =>
      refine List.pairwise_cons.2 ⟨fun z hz => ?_, insL_pair y t h2 (fun x hx => hn x (List.mem_cons_of_mem _ hx))⟩
      rcases (mem_insL y z t).1 hz with rfl | hz
      · exact hlt
      · exact h1 z hz
    · next hlt =>
      have hya := ltL_flip (by simpa using hlt) (hn a (by simp))
      refine List.pairwise_cons.2 ⟨fun z hz => ?_, hp⟩
      rcases List.mem_cons.1 hz with rfl | hz
      · exact hya
      · exact ltL_trans hya (h1 z hz)
set_option maxRecDepth 100000 in
theorem foldl_insL_pair : ∀ (L O : List Lk), O.Pairwise (fun x z => ltL x z = true) → L.Pairwise EndsNe → (∀ x ∈ O, ∀ y ∈ L, EndsNe x y) → (L.foldl insL O).Pairwise (fun x z => ltL x z = true)
  | [], O, h, _, _ => h
  | a :: t, O, h, hL, hx => by
    obtain ⟨h1, h2⟩ := List.pairwise_cons.1 hL
    rw [List.foldl_cons]
    refine foldl_insL_pair t _ (insL_pair a O h (fun x hx1 => hx x hx1 a (by simp))) h2 (fun x hx1 y hy => ?_)
    rcases (mem_insL a x O).1 hx1 with rfl | h3
    · exact h1 y hy
    · exact hx x h3 y (List.mem_cons_of_mem _ hy)
set_option maxRecDepth 100000 in
theorem foldl_insL_mem (z : Lk) : ∀ (L O : List Lk), z ∈ L.foldl insL O ↔ z ∈ O ∨ z ∈ L
  | [], O => by simp
  | a :: t, O => by
    rw [List.foldl_cons, foldl_insL_mem z t, mem_insL, List.mem_cons]
    constructor
    · rintro ((h | h) | h)
      · exact .inr (.inl h)
      · exact .inl h
      · exact .inr (.inr h)
    · rintro (h | h | h)
      · exact .inl (.inr h)
      · exact .inl (.inl h)
      · exact .inr h
set_option maxRecDepth 100000 in
theorem ordL_mem (L : List Lk) (z : Lk) : z ∈ ordL L ↔ z ∈ L := by
  unfold ordL
  rw [foldl_insL_mem]
  simp
set_option maxRecDepth 100000 in
theorem ordL_pair (L : List Lk) (h : L.Pairwise EndsNe) : (ordL L).Pairwise (fun x z => ltL x z = true) :=
  foldl_insL_pair L [] List.Pairwise.nil h (fun x hx => by simp at hx)
set_option maxRecDepth 100000 in
theorem asc_of_pair {α : Type} (f : α → α → Bool) : ∀ l : List α, l.Pairwise (fun x z => f x z = true) → ascB f l = true
  | [], _ => rfl
  | [a], _ => rfl
  | a :: b :: t, h => by
    obtain ⟨h1, h2⟩ := List.pairwise_cons.1 h
    rw [ascB, h1 b (by simp), asc_of_pair f (b :: t) h2]
    rfl
/-- The routers 1 to k. -/
def rts (k : Nat) : List Rt := (List.range k).map fun (i : Nat) => (⟨(i : Int) + 1, true⟩ : Rt)
set_option maxRecDepth 100000 in
theorem rts_succ (k : Nat) : rts (k + 1) = rts k ++ [⟨(k : Int) + 1, true⟩] := by
  unfold rts
  rw [List.range_succ, List.map_append]
  rfl
set_option maxRecDepth 100000 in
theorem rts_len (k : Nat) : (rts k).length = k := by unfold rts; simp
set_option maxRecDepth 100000 in
theorem rts_mem (k : Nat) (r : Rt) : r ∈ rts k ↔ ∃ i : Nat, i < k ∧ r = ⟨(i : Int) + 1, true⟩ := by
  unfold rts
  rw [List.mem_map]
  constructor
  · rintro ⟨i, hi, rfl⟩; exact ⟨i, List.mem_range.1 hi, rfl⟩
  · rintro ⟨i, hi, rfl⟩; exact ⟨i, List.mem_range.2 hi, rfl⟩
/-- Links of the routers 1 to k, each before (b, a) in the order that the tape makes them, no two with the same ends. -/
structure GoodL (k b a : Int) (L : List Lk) : Prop where
  ok : ∀ l ∈ L, (1 ≤ l.a ∧ l.a < l.b ∧ l.b ≤ k) ∧ wrNum l = false
  lt : ∀ l ∈ L, l.b < b ∨ (l.b = b ∧ l.a < a)
  ne : L.Pairwise EndsNe
set_option maxRecDepth 100000 in
theorem GoodL.nil (k b a : Int) : GoodL k b a [] := ⟨by simp, by simp, List.Pairwise.nil⟩
set_option maxRecDepth 100000 in
theorem GoodL.next {k b a : Int} {L : List Lk} (h : GoodL k b a L) : GoodL k b (a + 1) L := ⟨h.ok, fun l hl => by rcases h.lt l hl with h1 | h1 <;> omega, h.ne⟩
set_option maxRecDepth 100000 in
theorem GoodL.row {k b a : Int} {L : List Lk} (h : GoodL k b a L) : GoodL k (b + 1) 1 L := ⟨h.ok, fun l hl => by rcases h.lt l hl with h1 | h1 <;> omega, h.ne⟩
set_option maxRecDepth 100000 in
theorem GoodL.add {k b a : Int} {L : List Lk} (h : GoodL k b a L) (y : Lk) (ha : y.a = a) (hb : y.b = b) (h1 : 1 ≤ a) (h2 : a < b) (h3 : b ≤ k) (hw : wrNum y = false) : GoodL k b (a + 1) (L ++ [y]) := by
  refine ⟨fun l hl => ?_, fun l hl => ?_, ?_⟩
  · rcases List.mem_append.1 hl with hl | hl
    · exact h.ok l hl
    · obtain rfl : l = y := by simpa using hl
      exact ⟨by omega, hw⟩
  · rcases List.mem_append.1 hl with hl | hl
    · rcases h.lt l hl with h4 | h4 <;> omega
    · obtain rfl : l = y := by simpa using hl
      omega
  · refine List.pairwise_append.2 ⟨h.ne, by simp, fun x hx z hz => ?_⟩
    obtain rfl : z = y := by simpa using hz
    unfold EndsNe
    rcases h.lt x hx with h4 | h4 <;> omega
set_option maxRecDepth 100000 in
theorem chk_good {k : Nat} {b a : Int} {L : List Lk} (h : GoodL k b a L) (hk : k ≤ 24) (hl : L.length ≤ 60) : chk (rts k) (ordL L) = 0 := by
  unfold chk
  rw [if_neg (by rw [rts_len, ordL_len]; omega), if_neg, if_neg, if_neg, if_neg, if_neg, if_neg]
  · rw [asc_of_pair ltL _ (ordL_pair L h.ne)]
    simp
  · rw [List.any_eq_true]
    rintro ⟨l, hl1, hw⟩
    have := (h.ok l ((ordL_mem L l).1 hl1)).1
    unfold wrEnd at hw
    have := of_decide_eq_true hw
    omega
  · rw [List.any_eq_true]
    rintro ⟨l, hl1, hw⟩
    have := (h.ok l ((ordL_mem L l).1 hl1)).1
    have hh : ∀ x : Int, 1 ≤ x → x ≤ k → hasR (rts k) x = true := fun x h1 h2 => by
      unfold hasR
      refine List.any_eq_true.2 ⟨⟨x, true⟩, (rts_mem k _).2 ⟨(x - 1).toNat, by omega, ?_⟩, by simp⟩
      congr 1
      omega
    unfold unk at hw
    rw [hh _ this.1 (by omega), hh _ (by omega) this.2.2] at hw
    simp at hw
  · rw [List.any_eq_true]
    rintro ⟨l, hl1, hw⟩
    rw [(h.ok l ((ordL_mem L l).1 hl1)).2] at hw
    cases hw
  · rw [asc_of_pair ltR (rts k)]
    · simp
    · unfold rts
      rw [List.pairwise_map]
      exact List.pairwise_lt_range.imp (fun {a b} hab => decide_eq_true (by show (a : Int) + 1 < (b : Int) + 1; omega))
  · rw [List.any_eq_true]
    rintro ⟨r, hr, hw⟩
    obtain ⟨i, hi, rfl⟩ := (rts_mem k r).1 hr
    have : wrId ⟨(i : Int) + 1, true⟩ = false := by
      unfold wrId
      rw [decide_eq_true (by constructor <;> (dsimp; omega))]
      rfl
    rw [this] at hw
    cases hw
/-- What the tape says of a topology of at most 'most' routers. -/
def TopOf (most : Nat) (n : Int) (R : List Rt) (L : List Lk) : Prop :=
  1 ≤ R.length ∧ (R.length ≤ most + 1 ∨ 25 ≤ R.length) ∧ R.length ≤ most + 25 ∧ L.length ≤ 60 ∧ (n ≤ 0 → chk R L = 0 ∧ R.length ≤ most)
end Go.Proofs.YtgofadmncgmhoaaGreat

/- What is left of a valid topology is valid. -/
namespace Go.Proofs.YtgofadmncgmhoaaGreat
open Go.RowKit Bs
set_option maxRecDepth 100000 in
theorem pair_of_asc {α : Type} (f : α → α → Bool) (ht : ∀ x y z, f x y = true → f y z = true → f x z = true) : ∀ l : List α, ascB f l = true → l.Pairwise (fun x z => f x z = true)
  | [], _ => List.Pairwise.nil
  | [a], _ => by simp
  | a :: b :: t, h => by
    rw [ascB, Bool.and_eq_true] at h
    have hp := pair_of_asc f ht (b :: t) h.2
    refine List.pairwise_cons.2 ⟨fun z hz => ?_, hp⟩
    rcases List.mem_cons.1 hz with rfl | hz
    · exact h.1
    · exact ht a b z h.1 ((List.pairwise_cons.1 hp).1 z hz)
/-- What a valid topology meets. -/
structure OkAll (R : List Rt) (L : List Lk) : Prop where
  l1 : R.length ≤ 24
  l2 : L.length ≤ 60
  id : R.any wrId = false
  rs : ascB ltR R = true
  nm : L.any wrNum = false
  un : L.any (unk R) = false
  en : L.any wrEnd = false
  ls : ascB ltL L = true
set_option maxRecDepth 100000 in
theorem chk_okAll {R : List Rt} {L : List Lk} (h : chk R L = 0) : OkAll R L := by
  unfold chk at h
  by_cases h1 : 24 < R.length ∨ 60 < L.length
  · rw [if_pos h1] at h; cases h
  rw [if_neg h1] at h
  cases h2 : R.any wrId
  case true => rw [h2] at h; cases h
  cases h3 : ascB ltR R
  case false => rw [h2, h3] at h; cases h
  cases h4 : L.any wrNum
  case true => rw [h2, h3, h4] at h; cases h
  cases h5 : L.any (unk R)
  case true => rw [h2, h3, h4, h5] at h; cases h
  cases h6 : L.any wrEnd
  case true => rw [h2, h3, h4, h5, h6] at h; cases h
  cases h7 : ascB ltL L
  case false => rw [h2, h3, h4, h5, h6, h7] at h; cases h
  exact ⟨by omega, by omega, h2, h3, h4, h5, h6, h7⟩
set_option maxRecDepth 100000 in
theorem ltR_trans (x y z : Rt) (h1 : ltR x y = true) (h2 : ltR y z = true) : ltR x z = true := by
  unfold ltR at *
  have h1 := of_decide_eq_true h1
  have h2 := of_decide_eq_true h2
  exact decide_eq_true (by omega)
end Go.Proofs.YtgofadmncgmhoaaGreat

/- What is looked up in a valid topology: the mathematics. -/
namespace Go.Proofs.YtgofadmncgmhoaaGreat
open Go.RowKit Bs
/-- The router with a number, the first. -/
def capR (R : List Rt) (x : Int) : Bool := match R.find? (fun r => decide (r.id = x)) with
  | some r => r.cap
  | none => false
/-- The cost from one router to another, of the first link that joins them. -/
def priceB (a b : Int) (l : Lk) : Option Int := if l.a = a ∧ l.b = b then some l.ca else if l.b = a ∧ l.a = b then some l.cb else none
def priceV (L : List Lk) (a b : Int) : Int × Bool := match L.findSome? (priceB a b) with
  | some c => (c, true)
  | none => (0, false)
/-- The neighbours of a router, in the order of the routers. -/
def nearR (R : List Rt) (L : List Lk) (x : Int) : List Int := (R.filter fun r => (priceV L x r.id).2).map (·.id)
end Go.Proofs.YtgofadmncgmhoaaGreat

/- topology: routerAt, linkAt, Has, Capable, Cost, Neighbours. -/
namespace Go.Proofs.YtgofadmncgmhoaaGreat
open Go.RowKit Bs
/-- The results of Has, Capable, Cost, Neighbours. -/
def hasV (R : List Rt) (L : List Lk) (x : Int) : Bool := okT R L && hasR R x
def capV (R : List Rt) (L : List Lk) (x : Int) : Bool := okT R L && capR R x
set_option maxRecDepth 100000 in
theorem capR_has {R : List Rt} {x : Int} (h : hasR R x = false) : capR R x = false := by
  unfold capR
  cases hf : R.find? (fun r => decide (r.id = x)) with
  | none => rfl
  | some r =>
    have h2 := List.find?_some hf
    have : hasR R x = true := List.any_eq_true.2 ⟨r, List.mem_of_find?_eq_some hf, h2⟩
    rw [h] at this; cases this
set_option maxRecDepth 100000 in
theorem okT_all {R : List Rt} {L : List Lk} (h : okT R L = true) : OkAll R L := chk_okAll (by unfold okT at h; simpa using h)
end Go.Proofs.YtgofadmncgmhoaaGreat

/- slices.Clone of links and of routers; linkOf; what Apply makes (the values). -/
namespace Go.Proofs.YtgofadmncgmhoaaGreat
open Go.RowKit Bs
end Go.Proofs.YtgofadmncgmhoaaGreat

/- empty -/
namespace Go.Proofs.YtgofadmncgmhoaaGreat
end Go.Proofs.YtgofadmncgmhoaaGreat

/- Least costs: walks, what a closed table of costs says, what rounds of relaxing give. -/
namespace Go.Proofs.YtgofadmncgmhoaaGreat
/-- A link from u to v costs c. -/
def edg (L : List Lk) (u v c : Int) : Prop := ∃ l ∈ L, (l.a = u ∧ l.b = v ∧ l.ca = c) ∨ (l.b = u ∧ l.a = v ∧ l.cb = c)
/-- Some walk from s to v costs n. -/
def Wk (L : List Lk) (s v n : Int) : Prop := ∀ P : Int → Int → Prop, P s 0 → (∀ u m v c, P u m → edg L u v c → P v (m + c)) → P v n
set_option maxRecDepth 100000 in
theorem Wk.nil (L : List Lk) (s : Int) : Wk L s s 0 := fun _ h _ => h
set_option maxRecDepth 100000 in
theorem Wk.step {L : List Lk} {s u m v c : Int} (h : Wk L s u m) (e : edg L u v c) : Wk L s v (m + c) := fun P h0 hs => hs u m v c (h P h0 hs) e
set_option maxRecDepth 100000 in
theorem Wk.ind {L : List Lk} {s : Int} {Q : Int → Int → Prop} (h0 : Q s 0) (hs : ∀ u m v c, Wk L s u m → Q u m → edg L u v c → Q v (m + c)) {v n : Int} (h : Wk L s v n) : Q v n :=
  (h (fun v n => Wk L s v n ∧ Q v n) ⟨Wk.nil L s, h0⟩ (fun u m v c hu e => ⟨hu.1.step e, hs u m v c hu.1 hu.2 e⟩)).2
set_option maxRecDepth 100000 in
theorem Wk.last {L : List Lk} {s v n : Int} (h : Wk L s v n) : (v = s ∧ n = 0) ∨ ∃ u m c, Wk L s u m ∧ edg L u v c ∧ n = m + c :=
  Wk.ind (Q := fun v n => (v = s ∧ n = 0) ∨ ∃ u m c, Wk L s u m ∧ edg L u v c ∧ n = m + c) (.inl ⟨rfl, rfl⟩) (fun u m _ c hu _ e => .inr ⟨u, m, c, hu, e, rfl⟩) h
/-- Every link costs something. -/
def Pos (L : List Lk) : Prop := ∀ l ∈ L, 1 ≤ l.ca ∧ 1 ≤ l.cb
set_option maxRecDepth 100000 in
theorem Pos.edg {L : List Lk} (hp : Pos L) {u v c : Int} (e : edg L u v c) : 1 ≤ c := by
  obtain ⟨l, hl, h | h⟩ := e
  · have := (hp l hl).1; omega
  · have := (hp l hl).2; omega
set_option maxRecDepth 100000 in
theorem Wk.ge {L : List Lk} (hp : Pos L) {s v n : Int} (h : Wk L s v n) : 0 ≤ n :=
  Wk.ind (Q := fun _ n => 0 ≤ n) (Int.le_refl _) (fun u m v c _ h e => by have := hp.edg e; omega) h
/-- d is the least cost from s to v. -/
def IsD (L : List Lk) (s v d : Int) : Prop := Wk L s v d ∧ ∀ n, Wk L s v n → d ≤ n
set_option maxRecDepth 100000 in
theorem IsD.uniq {L : List Lk} {s v d e : Int} (h : IsD L s v d) (k : IsD L s v e) : d = e := by
  have := h.2 e k.1
  have := k.2 d h.1
  omega
/-- far: no walk is known. -/
def farN : Int := 1073741824
def updF (d : Int → Int) (v x : Int) : Int → Int := fun u => if u = v then x else d u
def rlx1 (d : Int → Int) (u v c : Int) : Int → Int := if d u < farN then updF d v (min (d v) (c + d u)) else d
/-- One link, both ways: first from its b to its a. -/
def rlx (d : Int → Int) (l : Lk) : Int → Int := rlx1 (rlx1 d l.b l.a l.cb) l.a l.b l.ca
def pass (L : List Lk) (d : Int → Int) : Int → Int := L.foldl rlx d
def passes (L : List Lk) : Nat → (Int → Int) → Int → Int
  | 0, d => d
  | k + 1, d => pass L (passes L k d)
def startF (s : Int) : Int → Int := fun u => if u = s then 0 else farN
/-- Whatever is known is some walk's cost. -/
def Snd (L : List Lk) (s : Int) (d : Int → Int) : Prop := ∀ v, d v = farN ∨ (d v < farN ∧ Wk L s v (d v))
set_option maxRecDepth 100000 in
theorem snd_rlx1 {L : List Lk} {s u v c : Int} {d : Int → Int} (h : Snd L s d) (e : edg L u v c) : Snd L s (rlx1 d u v c) := by
  unfold rlx1
  by_cases hu : d u < farN
  · rw [if_pos hu]
    intro x
    unfold updF
    by_cases hx : x = v
    · subst hx
      rw [if_pos rfl]
      have hwu : Wk L s u (d u) := by
        rcases h u with h1 | h1
        · omega
        · exact h1.2
      have hst := hwu.step e
      rcases h x with h1 | h1
      · rcases Int.lt_or_le (c + d u) farN with h2 | h2
        · refine .inr ⟨by omega, ?_⟩
          rw [show min (d x) (c + d u) = d u + c by omega]
          exact hst
        · exact .inl (by omega)
      · refine .inr ⟨by omega, ?_⟩
        rcases Int.lt_or_le (c + d u) (d x) with h2 | h2
        · rw [show min (d x) (c + d u) = d u + c by omega]
          exact hst
        · rw [show min (d x) (c + d u) = d x by omega]
          exact h1.2
    · rw [if_neg hx]
      exact h x
  · rw [if_neg hu]
    exact h
set_option maxRecDepth 100000 in
theorem le_rlx1 (d : Int → Int) (u v c x : Int) : rlx1 d u v c x ≤ d x := by
  unfold rlx1
  by_cases hu : d u < farN
  · rw [if_pos hu]
    unfold updF
    by_cases hx : x = v
    · subst hx
      rw [if_pos rfl]
      omega
    · rw [if_neg hx]
      omega
  · rw [if_neg hu]
    omega
set_option maxRecDepth 100000 in
theorem le_rlx (d : Int → Int) (l : Lk) (x : Int) : rlx d l x ≤ d x := Int.le_trans (le_rlx1 _ _ _ _ _) (le_rlx1 _ _ _ _ _)
set_option maxRecDepth 100000 in
theorem snd_rlx {L : List Lk} {s : Int} {d : Int → Int} (h : Snd L s d) {l : Lk} (hl : l ∈ L) : Snd L s (rlx d l) :=
  snd_rlx1 (snd_rlx1 h ⟨l, hl, .inr ⟨rfl, rfl, rfl⟩⟩) ⟨l, hl, .inl ⟨rfl, rfl, rfl⟩⟩
set_option maxRecDepth 100000 in
theorem fold_rlx {L : List Lk} {s : Int} : ∀ (M : List Lk) (d : Int → Int), (∀ l ∈ M, l ∈ L) → Snd L s d → Snd L s (M.foldl rlx d) ∧ ∀ x, M.foldl rlx d x ≤ d x
  | [], d, _, h => ⟨h, fun _ => Int.le_refl _⟩
  | l :: t, d, hm, h => by
    obtain ⟨i1, i2⟩ := fold_rlx t (rlx d l) (fun m hm2 => hm m (by simp [hm2])) (snd_rlx h (hm l (by simp)))
    exact ⟨i1, fun x => Int.le_trans (i2 x) (le_rlx d l x)⟩
set_option maxRecDepth 100000 in
theorem snd_pass {L : List Lk} {s : Int} {d : Int → Int} (h : Snd L s d) : Snd L s (pass L d) ∧ ∀ x, pass L d x ≤ d x := fold_rlx L d (fun _ h => h) h
set_option maxRecDepth 100000 in
theorem snd_start (L : List Lk) (s : Int) : Snd L s (startF s) := by
  intro v
  unfold startF
  by_cases h : v = s
  · subst h
    rw [if_pos rfl]
    exact .inr ⟨by decide, Wk.nil L v⟩
  · rw [if_neg h]
    exact .inl rfl
set_option maxRecDepth 100000 in
theorem snd_passes (L : List Lk) (s : Int) : ∀ k, Snd L s (passes L k (startF s))
  | 0 => snd_start L s
  | k + 1 => (snd_pass (snd_passes L s k)).1
set_option maxRecDepth 100000 in
/-- What is known is never below the least cost. -/
theorem Snd.low {L : List Lk} {s v e : Int} {d : Int → Int} (h : Snd L s d) (hD : IsD L s v e) (he : e < farN) : e ≤ d v := by
  rcases h v with h1 | h1
  · omega
  · exact hD.2 _ h1.2
set_option maxRecDepth 100000 in
theorem Snd.none {L : List Lk} {s v : Int} {d : Int → Int} (h : Snd L s d) (hn : ∀ n, ¬ Wk L s v n) : d v = farN := by
  rcases h v with h1 | h1
  · exact h1
  · exact absurd h1.2 (hn _)
open Classical in
open Classical in
/-- Every end of a link is one of V. -/
def Ends (L : List Lk) (V : List Int) : Prop := ∀ l ∈ L, l.a ∈ V ∧ l.b ∈ V
set_option maxRecDepth 100000 in
theorem Ends.edg {L : List Lk} {V : List Int} (h : Ends L V) {u v c : Int} (e : edg L u v c) : u ∈ V ∧ v ∈ V := by
  obtain ⟨l, hl, ⟨rfl, rfl, -⟩ | ⟨rfl, rfl, -⟩⟩ := e
  · exact h l hl
  · exact ⟨(h l hl).2, (h l hl).1⟩
end Go.Proofs.YtgofadmncgmhoaaGreat

/- The program's way to the least costs: the nearest open router first. -/
namespace Go.Proofs.YtgofadmncgmhoaaGreat
end Go.Proofs.YtgofadmncgmhoaaGreat

/- shortest.nearby. -/
namespace Go.Proofs.YtgofadmncgmhoaaGreat
open Go.RowKit Bs
end Go.Proofs.YtgofadmncgmhoaaGreat

/- Maps of costs. -/
namespace Go.Proofs.YtgofadmncgmhoaaGreat
open Go.RowKit Go.Maps Bs
end Go.Proofs.YtgofadmncgmhoaaGreat

/- The reference's Has and Named; Same of equal topologies. -/
namespace Go.Proofs.YtgofadmncgmhoaaGreat
open Go.RowKit Bs
set_option maxRecDepth 100000 in
set_option maxHeartbeats 1600000 in
theorem rhas4_any (X : List Int) (x : Int) (p : Option Addr) (c : Nat) (q : Nat → Prop) (w : World) (hR : Rd w q (.slice p X.length c) (X.map tv)) (hm : X.length ≤ 9223372036854775807) :
    Calls Tryz.prog 71 #[.slice p X.length c, .int .i64 x] w fun e w' => e = .returned (.bool (hasI X x)) ∧ w = w' := by
  have HR := Lib.hid hR
  have HN0 : Hid ((X.take 0).any (fun y => decide (y = x)) = false) := Lib.hid rfl
  clear hR
  go_enter Tryz.func71, Tryz.ntmps71
  go_wp2_with fail
  go_loopw [5] (fun a wr => ∃ k : Nat, k ≤ X.length ∧ a = .int .i64 (k : Int) ∧ Hid ((X.take k).any (fun y => decide (y = x)) = false) ∧ wr = w) (fun a _ => X.length - (RowKit.intOf a).toNat)
  case atStart => exact ⟨0, Nat.zero_le _, rfl, HN0, rfl⟩
  case round =>
    obtain ⟨k, hk, rfl, HN, rfl⟩ := hrel
    by_cases hlt : k < X.length
    · obtain ⟨-, b, off, rfl, -, hc⟩ := rdi_at HR.out (by omega)
      obtain ⟨y, hy⟩ : ∃ y, X[k]? = some y := ⟨_, List.getElem?_eq_getElem hlt⟩
      have d0 := hc k y hy
      have HY := Lib.hid hy
      clear hc hy HN0
      by_cases hyx : y = x
      · have HT : Hid (hasI X x = true) := Lib.hid (any_at HY.out (decide_eq_true hyx))
        subst hyx
        go_wp2_with fail
        go_ret
        rw [HT.out]
        exact ⟨rfl, rfl⟩
      · have HN2 := Lib.hid (any_take HN.out HY.out (decide_eq_false hyx))
        have h' : (y == x) = false := by simpa using hyx
        go_wp2_with fail
        exact ⟨⟨k + 1, by omega, congrArg _ (by omega), HN2, (by first | rfl | trivial)⟩, by simp only [RowKit.intOf]; omega⟩
    · have HT : Hid (hasI X x = false) := Lib.hid (any_end HN.out (by omega))
      obtain rfl : k = X.length := by omega
      go_wp2_with fail
      go_ret
      rw [HT.out]
      exact ⟨rfl, rfl⟩
end Go.Proofs.YtgofadmncgmhoaaGreat

/- empty -/
namespace Go.Proofs.YtgofadmncgmhoaaGreat
end Go.Proofs.YtgofadmncgmhoaaGreat

/- slices.Sort of at most twelve numbers of the call's own. -/
namespace Go.Proofs.YtgofadmncgmhoaaGreat
open Go.RowKit Bs
end Go.Proofs.YtgofadmncgmhoaaGreat

/- slices.Sort of at most twelve numbers. -/
namespace Go.Proofs.YtgofadmncgmhoaaGreat
open Go.RowKit Bs
end Go.Proofs.YtgofadmncgmhoaaGreat

/- empty -/
namespace Go.Proofs.YtgofadmncgmhoaaGreat
end Go.Proofs.YtgofadmncgmhoaaGreat

/- empty -/
namespace Go.Proofs.YtgofadmncgmhoaaGreat
end Go.Proofs.YtgofadmncgmhoaaGreat

/- The neighbours with which least walks go on; flipped links. -/
namespace Go.Proofs.YtgofadmncgmhoaaGreat
/-- Each link costs what it costs in the other direction. -/
def flipL (L : List Lk) : List Lk := L.map fun l => ⟨l.a, l.b, l.cb, l.ca, l.cp⟩
set_option maxRecDepth 100000 in
theorem edg_flip {L : List Lk} {u v c : Int} : edg (flipL L) u v c ↔ edg L v u c := by
  unfold edg flipL
  constructor
  · rintro ⟨m, hm, h⟩
    obtain ⟨l, hl, rfl⟩ := List.mem_map.1 hm
    rcases h with ⟨e1, e2, e3⟩ | ⟨e1, e2, e3⟩
    · exact ⟨l, hl, .inr ⟨e2, e1, e3⟩⟩
    · exact ⟨l, hl, .inl ⟨e2, e1, e3⟩⟩
  · rintro ⟨l, hl, h⟩
    refine ⟨_, List.mem_map.2 ⟨l, hl, rfl⟩, ?_⟩
    rcases h with ⟨e1, e2, e3⟩ | ⟨e1, e2, e3⟩
    · exact .inr ⟨e2, e1, e3⟩
    · exact .inl ⟨e2, e1, e3⟩
set_option maxRecDepth 100000 in
theorem Pos.flip {L : List Lk} (h : Pos L) : Pos (flipL L) := fun m hm => by
  obtain ⟨l, hl, rfl⟩ := List.mem_map.1 hm
  exact ⟨(h l hl).2, (h l hl).1⟩
set_option maxRecDepth 100000 in
theorem Ends.flip {L : List Lk} {V : List Int} (h : Ends L V) : Ends (flipL L) V := fun m hm => by
  obtain ⟨l, hl, rfl⟩ := List.mem_map.1 hm
  exact h l hl
end Go.Proofs.YtgofadmncgmhoaaGreat

/- topology: what Components' join visits; what memory holds while it runs. -/
namespace Go.Proofs.YtgofadmncgmhoaaGreat
open Go.RowKit Bs
end Go.Proofs.YtgofadmncgmhoaaGreat

/- empty -/
namespace Go.Proofs.YtgofadmncgmhoaaGreat
end Go.Proofs.YtgofadmncgmhoaaGreat

/- empty -/
namespace Go.Proofs.YtgofadmncgmhoaaGreat
end Go.Proofs.YtgofadmncgmhoaaGreat

/- topology: Components: the mathematics; what memory holds while it runs. -/
namespace Go.Proofs.YtgofadmncgmhoaaGreat
open Go.RowKit Bs
set_option maxRecDepth 100000 in
theorem Rd.lt {w : World} {q : Nat → Prop} {v : Value} {vs : List Value} (h : Rd w q v vs) : Rd w (fun b => q b ∧ b < w.heap.size) v vs := by
  obtain ⟨p, c, hv, hc⟩ := h
  refine ⟨p, c, hv, fun hne => ?_⟩
  obtain ⟨b, off, hp, hb, hx⟩ := hc hne
  refine ⟨b, off, hp, ⟨hb, ?_⟩, hx⟩
  cases vs with
  | nil => exact absurd rfl hne
  | cons x vs =>
    have hcell := hx 0 x rfl
    rcases Nat.lt_or_ge b w.heap.size with h1 | h1
    · exact h1
    · unfold World.cell? at hcell
      rw [Array.getElem?_eq_none h1] at hcell
      cases hcell
end Go.Proofs.YtgofadmncgmhoaaGreat

/- topology: Components: a component is appended; the beginning; a valid topology. -/
namespace Go.Proofs.YtgofadmncgmhoaaGreat
open Go.RowKit Bs
set_option maxRecDepth 100000 in
theorem unk_not {R : List Rt} {L : List Lk} (h : L.any (unk R) = false) : ∀ l ∈ L, hasR R l.a = true ∧ hasR R l.b = true := by
  intro l hl
  have := List.any_eq_false.1 h l hl
  unfold unk at this
  simpa using this
end Go.Proofs.YtgofadmncgmhoaaGreat

/- shortest.costsFrom: what its loops keep. -/
namespace Go.Proofs.YtgofadmncgmhoaaGreat
open Go.RowKit Go.Maps Bs
def ids (R : List Rt) : List Int := R.map (·.id)
set_option maxRecDepth 100000 in
theorem ids_has {R : List Rt} {x : Int} : x ∈ ids R ↔ hasR R x = true := by
  unfold ids hasR
  rw [List.any_eq_true, List.mem_map]
  constructor
  · rintro ⟨r, hr, e⟩; exact ⟨r, hr, decide_eq_true e⟩
  · rintro ⟨r, hr, e⟩; exact ⟨r, hr, of_decide_eq_true e⟩
/-- What is known of a valid topology. -/
structure GOk (R : List Rt) (L : List Lk) : Prop where
  pos : Pos L
  ends : Ends L (ids R)
  le : ∀ l ∈ L, l.ca ≤ 1000 ∧ l.cb ≤ 1000
  len : (ids R).length ≤ 24 ∧ L.length ≤ 60
  rng : ∀ x ∈ ids R, 1 ≤ x ∧ x ≤ 99
set_option maxRecDepth 100000 in
theorem okT_g {R : List Rt} {L : List Lk} (h : okT R L = true) : GOk R L := by
  have ho := okT_all h
  have hn : ∀ l ∈ L, (1 ≤ l.ca ∧ l.ca ≤ 1000) ∧ (1 ≤ l.cb ∧ l.cb ≤ 1000) := fun l hl => by
    have := List.any_eq_false.1 ho.nm l hl
    unfold wrNum at this
    simp only [Bool.not_eq_true, Bool.not_eq_false', decide_eq_true_eq] at this
    exact ⟨this.1, this.2.1⟩
  have hu := unk_not ho.un
  refine ⟨fun l hl => ⟨(hn l hl).1.1, (hn l hl).2.1⟩, fun l hl => ⟨ids_has.2 (hu l hl).1, ids_has.2 (hu l hl).2⟩, fun l hl => ⟨(hn l hl).1.2, (hn l hl).2.2⟩, ⟨by unfold ids; rw [List.length_map]; exact ho.l1, ho.l2⟩, fun x hx => hasR_range ho.id (ids_has.1 hx)⟩
set_option maxRecDepth 100000 in
theorem GOk.edg {R : List Rt} {L : List Lk} (h : GOk R L) {u v c : Int} (e : edg L u v c) : (1 ≤ c ∧ c ≤ 1000) ∧ (1 ≤ u ∧ u ≤ 99) ∧ 1 ≤ v ∧ v ≤ 99 := by
  refine ⟨⟨h.pos.edg e, ?_⟩, h.rng u (h.ends.edg e).1, h.rng v (h.ends.edg e).2⟩
  obtain ⟨l, hl, ⟨-, -, rfl⟩ | ⟨-, -, rfl⟩⟩ := e
  · exact (h.le l hl).1
  · exact (h.le l hl).2
end Go.Proofs.YtgofadmncgmhoaaGreat

/- empty -/
namespace Go.Proofs.YtgofadmncgmhoaaGreat
end Go.Proofs.YtgofadmncgmhoaaGreat

/- The least costs as a function; both directions. -/
namespace Go.Proofs.YtgofadmncgmhoaaGreat
open Go.RowKit Go.Maps Bs
set_option maxRecDepth 100000 in
theorem Wk.front {L : List Lk} {v u s c m : Int} (e : edg L v u c) (h : Wk L u s m) : Wk L v s (c + m) :=
  Wk.ind (Q := fun x n => Wk L v x (c + n)) (by have := (Wk.nil L v).step e; rw [Int.zero_add] at this; rw [Int.add_zero]; exact this) (fun a n b d _ hq he => by rw [← Int.add_assoc]; exact hq.step he) h
set_option maxRecDepth 100000 in
theorem Wk.flip {L : List Lk} {s v n : Int} (h : Wk L s v n) : Wk (flipL L) v s n :=
  Wk.ind (Q := fun x n => Wk (flipL L) x s n) (Wk.nil _ _) (fun a n b d _ hq he => by rw [Int.add_comm]; exact Wk.front (edg_flip.2 he) hq) h
set_option maxRecDepth 100000 in
theorem flipL_flipL (L : List Lk) : flipL (flipL L) = L := by
  unfold flipL
  rw [List.map_map]
  conv => rhs; rw [← List.map_id L]
  rfl
set_option maxRecDepth 100000 in
theorem IsD.flip {L : List Lk} {s v d : Int} : IsD (flipL L) s v d ↔ IsD L v s d := by
  constructor
  · rintro ⟨h1, h2⟩
    have h3 := h1.flip
    rw [flipL_flipL] at h3
    exact ⟨h3, fun n hn => h2 n hn.flip⟩
  · rintro ⟨h1, h2⟩
    refine ⟨h1.flip, fun n hn => h2 n ?_⟩
    have h3 := hn.flip
    rwa [flipL_flipL] at h3
set_option maxRecDepth 100000 in
theorem Wk.ids {L : List Lk} {V : List Int} (hV : Ends L V) {s v n : Int} (h : Wk L s v n) : v = s ∨ (s ∈ V ∧ v ∈ V) := by
  rcases h.last with ⟨e, -⟩ | ⟨u, m, c, hu, e, -⟩
  · exact .inl e
  · refine .inr ⟨?_, (hV.edg e).2⟩
    have key : u = s ∨ s ∈ V := Wk.ind (Q := fun x _ => x = s ∨ s ∈ V) (.inl rfl) (fun a n b d _ hq he => by
      rcases hq with rfl | hq
      · exact .inr (hV.edg he).1
      · exact .inr hq) hu
    rcases key with rfl | h1
    · exact (hV.edg e).1
    · exact h1
set_option maxRecDepth 100000 in
theorem hasV_iff {R : List Rt} {L : List Lk} {x : Int} : hasV R L x = true ↔ okT R L = true ∧ x ∈ ids R := by
  unfold hasV
  rw [Bool.and_eq_true, ids_has]
open Classical in
/-- The least cost from a to b. -/
noncomputable def dst (R : List Rt) (L : List Lk) (a b : Int) : Option Int := if h : hasV R L a = true ∧ ∃ d, IsD L a b d then some h.2.choose else none
end Go.Proofs.YtgofadmncgmhoaaGreat

/- empty -/
namespace Go.Proofs.YtgofadmncgmhoaaGreat
end Go.Proofs.YtgofadmncgmhoaaGreat

/- shortest.nextTo. -/
namespace Go.Proofs.YtgofadmncgmhoaaGreat
open Go.RowKit Go.Maps Bs
set_option maxRecDepth 100000 in
theorem NK.base {w w1 wr : World} {v : Value} {l : List Int} (h : NK w1 v l wr) (g : w.grownBy w1 none) : NK w v l wr := ⟨h.own.mono g.size, grown_trans g h.gr⟩
end Go.Proofs.YtgofadmncgmhoaaGreat

/- empty -/
namespace Go.Proofs.YtgofadmncgmhoaaGreat
end Go.Proofs.YtgofadmncgmhoaaGreat

/- empty -/
namespace Go.Proofs.YtgofadmncgmhoaaGreat
end Go.Proofs.YtgofadmncgmhoaaGreat

/- shortest.passes and Avoids. -/
namespace Go.Proofs.YtgofadmncgmhoaaGreat
open Go.RowKit Go.Maps Bs
end Go.Proofs.YtgofadmncgmhoaaGreat

/- shortest.Next and Uses. -/
namespace Go.Proofs.YtgofadmncgmhoaaGreat
open Go.RowKit Go.Maps Bs
end Go.Proofs.YtgofadmncgmhoaaGreat

/- shortest.Route. -/
namespace Go.Proofs.YtgofadmncgmhoaaGreat
open Go.RowKit Go.Maps Bs
end Go.Proofs.YtgofadmncgmhoaaGreat

/- empty -/
namespace Go.Proofs.YtgofadmncgmhoaaGreat
end Go.Proofs.YtgofadmncgmhoaaGreat

/- empty -/
namespace Go.Proofs.YtgofadmncgmhoaaGreat
end Go.Proofs.YtgofadmncgmhoaaGreat

/- Counting least walks: one table for both sides. -/
namespace Go.Proofs.YtgofadmncgmhoaaGreat
end Go.Proofs.YtgofadmncgmhoaaGreat

/- shortest.pathsTo and Paths. -/
namespace Go.Proofs.YtgofadmncgmhoaaGreat
open Go.RowKit Go.Maps Bs
end Go.Proofs.YtgofadmncgmhoaaGreat

/- empty -/
namespace Go.Proofs.YtgofadmncgmhoaaGreat
end Go.Proofs.YtgofadmncgmhoaaGreat

/- shortest.pathsTo and Paths: the walks. -/
namespace Go.Proofs.YtgofadmncgmhoaaGreat
open Go.RowKit Go.Maps Bs
end Go.Proofs.YtgofadmncgmhoaaGreat

/- empty -/
namespace Go.Proofs.YtgofadmncgmhoaaGreat
end Go.Proofs.YtgofadmncgmhoaaGreat

/- empty -/
namespace Go.Proofs.YtgofadmncgmhoaaGreat
end Go.Proofs.YtgofadmncgmhoaaGreat

/- topology: Connected. -/
namespace Go.Proofs.YtgofadmncgmhoaaGreat
open Go.RowKit Bs
def both (a b : Int) (C : List Int) : Bool := hasI C a && hasI C b
end Go.Proofs.YtgofadmncgmhoaaGreat

/- empty -/
namespace Go.Proofs.YtgofadmncgmhoaaGreat
end Go.Proofs.YtgofadmncgmhoaaGreat

/- empty -/
namespace Go.Proofs.YtgofadmncgmhoaaGreat
end Go.Proofs.YtgofadmncgmhoaaGreat

/- empty -/
namespace Go.Proofs.YtgofadmncgmhoaaGreat
end Go.Proofs.YtgofadmncgmhoaaGreat

/- empty -/
namespace Go.Proofs.YtgofadmncgmhoaaGreat
end Go.Proofs.YtgofadmncgmhoaaGreat
