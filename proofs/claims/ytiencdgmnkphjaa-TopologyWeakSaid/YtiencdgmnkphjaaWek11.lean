/- Parts of the proof, packed: ToRws, ToTopK, ToUntil. -/
import Derived.Test.YtiencdgmnkphjaaWek6
import Derived.Test.YtiencdgmnkphjaaWek2
import Derived.Test.YtiencdgmnkphjaaWek10
import Derived.Test.YtiencdgmnkphjaaWek1
import Derived.Deep.AppendLies
import Derived.Deep.Onto
import Derived.Laws.OwnMore
import Derived.Deep.RegionHeld
/- Rows of structs: parts of them, and append. -/
namespace Go.Proofs.Ytiencdgmnkphjaa
open Go.RowKit Bs
/-- A walk stops here. -/
theorem hold_on {p : Prop} (h : Hid p) : p := h.out
theorem flat_drop {α : Type} (f : α → List Value) (k : Nat) (hf : ∀ x, (f x).length = k) : ∀ (l : List α) (j : Nat), (l.drop j).flatMap f = (l.flatMap f).drop (j * k)
  | [], j => by simp
  | a :: t, 0 => by simp
  | a :: t, j + 1 => by
    rw [List.drop_succ_cons, flat_drop f k hf t j, List.flatMap_cons, Nat.add_mul, Nat.one_mul, Nat.add_comm, ← List.drop_drop, List.drop_append_of_le_length (by rw [hf]; exact Nat.le_refl _), ← hf a, List.drop_length, List.nil_append]
theorem flat_take {α : Type} (f : α → List Value) (k : Nat) (hf : ∀ x, (f x).length = k) : ∀ (l : List α) (j : Nat), (l.take j).flatMap f = (l.flatMap f).take (j * k)
  | [], j => by simp
  | a :: t, 0 => by simp
  | a :: t, j + 1 => by
    rw [List.take_succ_cons, List.flatMap_cons, flat_take f k hf t j, List.flatMap_cons, List.take_append, hf, List.take_of_length_le (l := f a) (by rw [hf, Nat.add_mul]; omega), Nat.add_mul, Nat.one_mul, Nat.add_sub_cancel]
theorem RdF.part {α : Type} {f : α → List Value} {k : Nat} (hf : ∀ x, (f x).length = k) {w : World} {q : Nat → Prop} {p : Option Addr} {c : Nat} {l : List α} (h : RdF w q (.slice p l.length c) l.length (l.flatMap f)) (j : Nat) (hj : j ≤ l.length) (c' : Nat) :
    RdF w q (.slice p j c') (l.take j).length ((l.take j).flatMap f) := by
  obtain ⟨p1, c1, e1, hx⟩ := h
  injection e1 with a1 a2 a3
  subst a1
  have hlen : (l.take j).length = j := by rw [List.length_take]; omega
  rw [hlen]
  refine ⟨p, c', rfl, fun hne => ?_⟩
  rw [flat_take f k hf] at hne ⊢
  obtain ⟨b, off, hp, hq, hc⟩ := hx (by intro e; rw [e] at hne; simp at hne)
  refine ⟨b, off, hp, hq, fun i x hi => hc i x ?_⟩
  rw [List.getElem?_take] at hi
  split at hi
  · exact hi
  · cases hi
theorem RdF.rest {α : Type} {f : α → List Value} {k : Nat} (hf : ∀ x, (f x).length = k) {w : World} {q : Nat → Prop} {b off c : Nat} {l : List α} (h : RdF w q (.slice (some ⟨b, off, none⟩) l.length c) l.length (l.flatMap f)) (j : Nat) (c' : Nat) :
    RdF w q (.slice (some ⟨b, off + j * k, none⟩) (l.length - j) c') (l.drop j).length ((l.drop j).flatMap f) := by
  obtain ⟨p1, c1, e1, hx⟩ := h
  injection e1 with a1 a2 a3
  subst a1
  have hlen : (l.drop j).length = l.length - j := by rw [List.length_drop]
  rw [hlen]
  refine ⟨_, c', rfl, fun hne => ?_⟩
  rw [flat_drop f k hf] at hne ⊢
  obtain ⟨b1, off1, hp, hq, hc⟩ := hx (by intro e; rw [e] at hne; simp at hne)
  injection hp with hp
  injection hp with hb ho
  subst hb
  subst ho
  refine ⟨b, off + j * k, rfl, hq, fun i x hi => ?_⟩
  rw [List.getElem?_drop] at hi
  rw [Nat.add_assoc]
  exact hc _ x hi
theorem rdf_news {w : World} {q : Nat → Prop} {ad : Addr} {n c m : Nat} {xs : List Value} (hR : RdF w q (.slice (some ad) n c) m xs) : ∀ j u, xs[j]? = some u → w.cell? (ad.add j) = some u := by
  intro j u hj
  obtain ⟨p1, c1, e1, hx⟩ := hR
  injection e1 with a1 a2 a3
  subst a1
  obtain ⟨b, off, hp, hq, hc⟩ := hx (by intro e; rw [e] at hj; simp at hj)
  injection hp with hp
  subst hp
  rw [add_plain]
  exact hc j u hj
theorem rdf_one {w : World} {b off n : Nat} {xs : List Value} (q : Nat → Prop) (hq : q b) (h : ∀ j u, xs[j]? = some u → w.cell? ((⟨b, off, none⟩ : Addr).add j) = some u) (c : Nat) : RdF w q (.slice (some ⟨b, off, none⟩) n c) n xs :=
  ⟨_, c, rfl, fun _ => ⟨b, off, rfl, hq, fun i x hi => by have := h i x hi; rw [add_plain] at this; exact this⟩⟩
theorem wpList_append_f {α : Type} (f : α → List Value) (size bytes : Nat) (hsz : 0 < size) (hf : ∀ x, (f x).length = size) (hone : ∀ x, ∀ u ∈ f x, u.oneCell' = true) (e t : TypeId) (i : TypeInfo) (z : Value)
    (ht : Try.prog.underlying t = some (.slice e)) (hi : Try.prog.info? e = some i) (hz : i.zero = some z) (hsize : i.size = size) (hby : i.bytes = bytes) (hzs : z.cells.size = size) (hb40 : bytes ≤ 1000)
    {w : World} {ops : Array Oper} {rest : List Oper} {o : Oper} {a : Act} {Q : Exit → Act → World → Prop} (hgd : o.guard = none) (s x : Operand)
    (ho : o.op = .call { callee := .builtin .append, args := #[s, x], argTypes := #[t, t] }) (base : Nat) (v : Value) (l : List α) (n : Nat) (hn : n = l.length) (hs : a.eval s = v) (hown : w.ownsRow base e size v n (l.flatMap f))
    (p : Option Addr) (k c : Nat) (r : List α) (hx : a.eval x = .slice p k c) (hk : k = r.length) (hn0 : p = none → c = 0) (q : Nat → Prop) (hR : RdF w q (.slice p k c) r.length (r.flatMap f)) (hkc : k ≤ c) (h63 : n + r.length ≤ 100000) (hbase : base ≤ w.heap.size)
    (h : ∀ v' w', w'.ownsRow base e size v' (l ++ r).length ((l ++ r).flatMap f) → w.grownBy w' v.ownBlock → wpList Try.prog ops Q rest (a.put o.dst v') w') : wpList Try.prog ops Q (o :: rest) a w := by
  subst hn
  cases p with
  | none =>
    obtain rfl := hn0 rfl
    have hr : r.length = 0 := by omega
    obtain rfl := List.eq_nil_of_length_eq_zero hr
    obtain rfl : k = 0 := hk
    refine wpList_append_own_none hgd s x t ho base e i size ht hi v l.length (l.flatMap f) hs hown hx ?_
    refine h v w ?_ (grown_refl _ _)
    rw [List.append_nil]; exact hown
  | some ad =>
    have hb2 : (l.length + k) * bytes ≤ 140737488355328 := Nat.le_trans (Nat.mul_le_mul (show l.length + k ≤ 100000 by omega) hb40) (by decide)
    refine wpList_append_own w hgd s x t ho base e i z size bytes ht hi hz hsize hby hzs hsz v l.length (l.flatMap f) hs hown ad k c (r.flatMap f) hx (by rw [flat_len f size hf, hk]) (rdf_news hR) ?_ (by unfold maxLen; omega) hb2 hbase ?_
    · intro u hu
      obtain ⟨y, _, hy⟩ := List.mem_flatMap.1 hu
      exact hone y u hy
    · intro v' w' h1 h2 _
      refine h v' w' ?_ h2
      rw [List.length_append, List.flatMap_append, ← hk]; exact h1
theorem own_apartF {w w1 : World} {base base2 size size2 : Nat} {e e2 : TypeId} {v v2 : Value} {n m : Nat} {xs ys : List Value} (h : w.ownsRow base e size v n xs) (hv : w.ownsRow base2 e2 size2 v2 m ys) (hg : ∀ g, v.ownBlock = some g → g < base2) (k : w.grownBy w1 v2.ownBlock) : w1.ownsRow base e size v n xs := by
  refine h.kept k ?_
  cases hb : v.ownBlock with
  | none => exact .inl rfl
  | some g =>
    refine .inr fun e => ?_
    have := (hv.lt g e.symm).1
    have := hg g hb
    omega
theorem old_grow {w w1 : World} {base2 size2 : Nat} {e2 : TypeId} {v2 : Value} {m : Nat} {ys : List Value} {W : World} (g : W.grownBy w none) (hv : w.ownsRow base2 e2 size2 v2 m ys) (hb : W.heap.size ≤ base2) (k : w.grownBy w1 v2.ownBlock) : W.grownBy w1 none :=
  grown_any g k (fun b hlt e => by have := (hv.lt b e.symm).1; omega)
theorem lk_one (x : Lk) : ∀ u ∈ lkC x, u.oneCell' = true := by
  intro u hu
  simp [lkC] at hu
  rcases hu with rfl | rfl | rfl | rfl | rfl <;> rfl
theorem rt_one (x : Rt) : ∀ u ∈ rtC x, u.oneCell' = true := by
  intro u hu
  simp [rtC] at hu
  rcases hu with rfl | rfl <;> rfl
end Go.Proofs.Ytiencdgmnkphjaa

/- While the tape makes a topology. -/
namespace Go.Proofs.Ytiencdgmnkphjaa
open Go.RowKit Bs
/-- While a topology is made: its block holds uR, uL; the routers and the links lie in rows of the call's own, vR and vL. -/
structure TK (a : Nat) (W : World) (uR uL vR vL : Value) (R : List Rt) (L : List Lk) (w : World) : Prop where
  gb : w.heap[W.heap.size + 1]? = some (.cells #[uR, uL] 26 (0, 0))
  rb : w.heap[W.heap.size]? = some (.cells #[.slice none 0 0, .slice none 0 0] 26 (0, 0))
  oR : w.ownsRow (W.heap.size + 2) 73 2 vR R.length (R.flatMap rtC)
  oL : w.ownsRow (W.heap.size + 2) 68 5 vL L.length (L.flatMap lkC)
  ap : ∀ g, vR.ownBlock = some g → vL.ownBlock ≠ some g
  st : St a W w
  sz : W.heap.size + 2 ≤ w.heap.size
theorem own_other {w w' : World} {base size n b : Nat} {e : TypeId} {v : Value} {xs : List Value} (h : w.ownsRow base e size v n xs) (g : w.grownBy w' (some b)) (hb : b < base) : w'.ownsRow base e size v n xs :=
  h.kept g (by
    cases hv : v.ownBlock with
    | none => exact .inl rfl
    | some k => exact .inr (fun e => by have e2 := Option.some.inj e; have := (h.lt k hv).1; omega))
theorem St.storeT {a b : Nat} {W w w1 : World} (h : St a W w) (g : w.grownBy w1 (some b)) (hb : W.heap.size ≤ b) (ha : a < W.heap.size) : St a W w1 := by
  refine ⟨⟨g.os.trans h.1.os, g.tape.trans h.1.tape, g.output.trans h.1.output, Nat.le_trans h.1.size g.size, fun i hi hia => (g.block i (Nat.lt_of_lt_of_le hi h.1.size) (fun e => by have := Option.some.inj e; omega)).trans (h.1.block i hi hia)⟩, ?_⟩
  obtain ⟨v, n, i, T⟩ := h.2
  have hlt : a < w.heap.size := Nat.lt_of_lt_of_le ha h.1.size
  have hk : w1.heap[a]? = w.heap[a]? := g.block a hlt (fun e => by have := Option.some.inj e; omega)
  refine ⟨v, n, i, (World.cell?_of_block (a := ⟨a, 0, none⟩) hk).trans T.l, (World.cell?_of_block (a := ⟨a, 1, none⟩) hk).trans T.p, (World.frozen?_of_block (a := ⟨a, 1, none⟩) hk).trans T.fr, ?_, T.le, T.len⟩
  obtain ⟨p, c, hv, hc⟩ := T.ints
  refine ⟨p, c, hv, fun hn => ?_⟩
  obtain ⟨b1, off, hp, hb1, hx⟩ := hc hn
  refine ⟨b1, off, hp, hb1, fun i hi => ?_⟩
  obtain ⟨x, hx1, hcell⟩ := hx i hi
  exact ⟨x, hx1, g.cell hcell (fun e => by have : b1 = b := Option.some.inj e; omega)⟩
section
variable {a : Nat} {W w w1 : World} {uR uL vR vL v' : Value} {R : List Rt} {L : List Lk}
theorem TK.keep (h : TK a W uR uL vR vL R L w) (g : w.grownBy w1 none) : TK a W uR uL vR vL R L w1 :=
  ⟨kept_row h.gb g (by simp), kept_row h.rb g (by simp), h.oR.kept g (by cases hv : vR.ownBlock <;> simp), h.oL.kept g (by cases hv : vL.ownBlock <;> simp), h.ap, h.st.trans ⟨grown_none g _, h.st.2.keep g⟩, Nat.le_trans h.sz g.size⟩
theorem TK.tape (h : TK a W uR uL vR vL R L w) (ha : a < W.heap.size) (k : St a w w1) : TK a W uR uL vR vL R L w1 :=
  ⟨kept_row h.gb k.1 (fun e => by have := Option.some.inj e; omega), kept_row h.rb k.1 (fun e => by have := Option.some.inj e; omega), own_other h.oR k.1 (by omega), own_other h.oL k.1 (by omega), h.ap, h.st.trans k, Nat.le_trans h.sz k.1.size⟩
theorem TK.start (hT : Tp w a) : TK a w (.slice none 0 0) (.slice none 0 0) (.slice none 0 0) (.slice none 0 0) [] [] ((w.alloc (.cells #[.slice none 0 0, .slice none 0 0] 26)).alloc (.cells #[.slice none 0 0, .slice none 0 0] 26)) := by
  obtain ⟨k1, k2, k3, _⟩ := two_boxes w #[.slice none 0 0, .slice none 0 0] #[.slice none 0 0, .slice none 0 0] 26 26
  exact ⟨k2, k1, World.ownsRow_nil _ _ _ _, World.ownsRow_nil _ _ _ _, fun g hg => (by cases hg), ⟨grown_none k3 _, hT.keep k3⟩, by simp⟩
theorem St.rowT {a base size n : Nat} {W w w1 : World} {e : TypeId} {v : Value} {xs : List Value} (h : St a W w) (ho : w.ownsRow base e size v n xs) (hb : W.heap.size ≤ base) (ha : a < W.heap.size) (k : w.grownBy w1 v.ownBlock) : St a W w1 := by
  cases hv : v.ownBlock with
  | none => rw [hv] at k; exact ⟨grown_trans h.1 (grown_none k _), h.2.keep k⟩
  | some g => rw [hv] at k; exact h.storeT k (Nat.le_trans hb (ho.lt g hv).1) ha
theorem TK.addR {g n cap : Nat} {y : Rt} (h : TK a W uR uL vR vL R L w) (ha : a < W.heap.size) (hown : w1.ownsRow (W.heap.size + 2) 73 2 (.slice (some ⟨g, 0, none⟩) n cap) (R.length + 1) (R.flatMap rtC ++ [.int .i64 y.id, .bool y.cap])) (hg : w.grownBy w1 vR.ownBlock) (hat : vR.ownBlock = some g ∨ g = w.heap.size) :
    TK a W uR uL (.slice (some ⟨g, 0, none⟩) n cap) vL (R ++ [y]) L w1 := by
  have hne : ∀ k, k < W.heap.size + 2 → some k ≠ vR.ownBlock := fun k hk e => by
    have := (h.oR.lt k e.symm).1
    omega
  refine ⟨kept_row h.gb hg (hne _ (by omega)), kept_row h.rb hg (hne _ (by omega)), ?_, h.oL.kept hg ?_, ?_, h.st.rowT h.oR (by omega) ha hg, Nat.le_trans h.sz hg.size⟩
  · rw [List.length_append, List.flatMap_append]; exact hown
  · cases hv : vL.ownBlock with
    | none => exact .inl rfl
    | some k => exact .inr (fun e => h.ap k e.symm hv)
  · intro g2 hg2 e
    obtain rfl : g = g2 := by simpa [Value.ownBlock] using hg2
    rcases hat with hat | hat
    · exact h.ap g hat e
    · have := (h.oL.lt g e).2
      omega
theorem TK.addL {g n cap : Nat} {y : Lk} (h : TK a W uR uL vR vL R L w) (ha : a < W.heap.size) (hown : w1.ownsRow (W.heap.size + 2) 68 5 (.slice (some ⟨g, 0, none⟩) n cap) (L.length + 1) (L.flatMap lkC ++ [.int .i64 y.a, .int .i64 y.b, .int .i64 y.ca, .int .i64 y.cb, .int .i64 y.cp])) (hg : w.grownBy w1 vL.ownBlock) (hat : vL.ownBlock = some g ∨ g = w.heap.size) :
    TK a W uR uL vR (.slice (some ⟨g, 0, none⟩) n cap) R (L ++ [y]) w1 := by
  have hne : ∀ k, k < W.heap.size + 2 → some k ≠ vL.ownBlock := fun k hk e => by
    have := (h.oL.lt k e.symm).1
    omega
  refine ⟨kept_row h.gb hg (hne _ (by omega)), kept_row h.rb hg (hne _ (by omega)), h.oR.kept hg ?_, ?_, ?_, h.st.rowT h.oL (by omega) ha hg, Nat.le_trans h.sz hg.size⟩
  · cases hv : vR.ownBlock with
    | none => exact .inl rfl
    | some k => exact .inr (fun e => h.ap k hv e.symm)
  · rw [List.length_append, List.flatMap_append]; exact hown
  · intro g2 hg2 e
    obtain rfl : g = g2 := by simpa [Value.ownBlock] using e
    rcases hat with hat | hat
    · exact h.ap g hg2 hat
    · have := (h.oR.lt g hg2).2
      omega
theorem TK.put0 (h : TK a W uR uL vR vL R L w) (ha : a < W.heap.size) : TK a W vR uL vR vL R L (w.setCell ⟨W.heap.size + 1, 0, none⟩ vR) := by
  have k : w.grownBy (w.setCell ⟨W.heap.size + 1, 0, none⟩ vR) (some (W.heap.size + 1)) := grown_setCell w ⟨W.heap.size + 1, 0, none⟩ vR
  exact ⟨heap_setCell_same w _ 0 _ _ vR h.gb, kept_row h.rb k (fun e => by have : W.heap.size = W.heap.size + 1 := Option.some.inj e; omega), own_other h.oR k (by omega), own_other h.oL k (by omega), h.ap, h.st.storeT k (by omega) ha, Nat.le_trans h.sz k.size⟩
theorem TK.put1 (h : TK a W uR uL vR vL R L w) (ha : a < W.heap.size) : TK a W uR vL vR vL R L (w.setCell ⟨W.heap.size + 1, 1, none⟩ vL) := by
  have k : w.grownBy (w.setCell ⟨W.heap.size + 1, 1, none⟩ vL) (some (W.heap.size + 1)) := grown_setCell w ⟨W.heap.size + 1, 1, none⟩ vL
  exact ⟨heap_setCell_same w _ 1 _ _ vL h.gb, kept_row h.rb k (fun e => by have : W.heap.size = W.heap.size + 1 := Option.some.inj e; omega), own_other h.oR k (by omega), own_other h.oL k (by omega), h.ap, h.st.storeT k (by omega) ha, Nat.le_trans h.sz k.size⟩
theorem TK.newL {O : List Lk} (h : TK a W uR uL vR vL R L w) (hown : w1.ownsRow w.heap.size 68 5 v' O.length (O.flatMap lkC)) (g : w.grownBy w1 none) : TK a W uR uL vR v' R O w1 := by
  have h1 := h.keep g
  refine ⟨h1.gb, h1.rb, h1.oR, hown.mono h.sz, fun k hk e => ?_, h1.st, h1.sz⟩
  have := (hown.lt k e).1
  have := (h.oR.lt k hk).2
  omega
theorem flat_set : ∀ (L : List Lk) (k j : Nat) (x : Int), k < L.length → j < 5 → ∃ L' : List Lk, L'.length = L.length ∧ L'.flatMap lkC = (L.flatMap lkC).set (k * 5 + j) (.int .i64 x)
  | [], k, _, _, hk, _ => absurd hk (Nat.not_lt_zero k)
  | m :: t, 0, j, x, _, hj => by
    rcases (show j = 0 ∨ j = 1 ∨ j = 2 ∨ j = 3 ∨ j = 4 by omega) with rfl | rfl | rfl | rfl | rfl
    · exact ⟨⟨x, m.b, m.ca, m.cb, m.cp⟩ :: t, rfl, rfl⟩
    · exact ⟨⟨m.a, x, m.ca, m.cb, m.cp⟩ :: t, rfl, rfl⟩
    · exact ⟨⟨m.a, m.b, x, m.cb, m.cp⟩ :: t, rfl, rfl⟩
    · exact ⟨⟨m.a, m.b, m.ca, x, m.cp⟩ :: t, rfl, rfl⟩
    · exact ⟨⟨m.a, m.b, m.ca, m.cb, x⟩ :: t, rfl, rfl⟩
  | m :: t, k + 1, j, x, hk, hj => by
    obtain ⟨L', h1, h2⟩ := flat_set t k j x (by simpa using hk) hj
    refine ⟨m :: L', by simp [h1], ?_⟩
    rw [List.flatMap_cons, h2, List.flatMap_cons]
    have e : (k + 1) * 5 + j = (lkC m).length + (k * 5 + j) := by
      show (k + 1) * 5 + j = 5 + (k * 5 + j)
      omega
    rw [e, List.set_append_right _ _ (Nat.le_add_right _ _), Nat.add_sub_cancel_left]
theorem TK.setL {g n cap k j : Nat} {x : Int} (h : TK a W uR uL vR (.slice (some ⟨g, 0, none⟩) n cap) R L w) (ha : a < W.heap.size) (hk : k < L.length) (hj : j < 5) :
    ∃ L', L'.length = L.length ∧ TK a W uR uL vR (.slice (some ⟨g, 0, none⟩) n cap) R L' (w.setCell ⟨g, k * 5 + j, none⟩ (.int .i64 x)) := by
  obtain ⟨L', hl, hf⟩ := flat_set L k j x hk hj
  obtain ⟨-, -, -⟩ : True ∧ True ∧ True := ⟨trivial, trivial, trivial⟩
  have hg0 := (h.oL.lt g rfl).1
  have hn : n = L.length := by
    obtain ⟨p, c, e, _⟩ := own_shape h.oL
    injection e
  subst hn
  obtain ⟨s1, s2⟩ := h.oL.stored (k * 5 + j) (.int .i64 x)
  refine ⟨L', hl, kept_row h.gb s2 (fun e => by have : W.heap.size + 1 = g := Option.some.inj e; omega), kept_row h.rb s2 (fun e => by have : W.heap.size = g := Option.some.inj e; omega), h.oR.kept s2 ?_, ?_, h.ap, h.st.storeT s2 (by omega) ha, Nat.le_trans h.sz s2.size⟩
  · cases hv : vR.ownBlock with
    | none => exact .inl rfl
    | some k => exact .inr (fun e => h.ap k hv (by rw [e]; rfl))
  · rw [hl, hf]; exact s1
end
/-- What returns a topology of the tape's. -/
def TopoPost (a : Nat) (most : Nat) (n : Int) (w : World) (e : Ending) (w' : World) : Prop :=
  ∃ (R : List Rt) (L : List Lk) (vR vL : Value), e = .returned (.agg #[vR, vL]) ∧ w'.ownsRow w.heap.size 73 2 vR R.length (R.flatMap rtC) ∧ w'.ownsRow w.heap.size 68 5 vL L.length (L.flatMap lkC) ∧ (∀ g, vR.ownBlock = some g → vL.ownBlock ≠ some g) ∧ TopOf most n R L ∧ St a w w'
theorem tg_of_own {w : World} {base : Nat} {vR vL : Value} {R : List Rt} {L : List Lk} (hR : w.ownsRow base 73 2 vR R.length (R.flatMap rtC)) (hL : w.ownsRow base 68 5 vL L.length (L.flatMap lkC)) :
    ∃ pR cR pL cL, vR = .slice pR R.length cR ∧ vL = .slice pL L.length cL ∧ TgOk w (fun b => base ≤ b ∧ b < w.heap.size) ⟨R, L, pR, cR, pL, cL⟩ := by
  obtain ⟨pR, cR, rfl, h1, h2⟩ := own_shape hR
  obtain ⟨pL, cL, rfl, h3, h4⟩ := own_shape hL
  exact ⟨pR, cR, pL, cL, rfl, rfl, rdf_of_own2 hR, rdf_of_own2 hL, ⟨h1, h2⟩, ⟨h3, h4⟩⟩
end Go.Proofs.Ytiencdgmnkphjaa

/- A region that draws its order: loads are taken first although a late operation writes their cells; what they want of the world holds until then. -/
namespace Go.Proofs.Ytiencdgmnkphjaa
open Go
section
variable {P : Program} {ops : Array Oper} {Q : Exit → Act → World → Prop} {md : Region.Mode} {S : World → Prop} {late : Nat → Bool}
/-- Any order from here on; S holds behind whatever is not late. -/
def anyU (P : Program) (md : Region.Mode) (ops : Array Oper) (Q : Exit → Act → World → Prop) (S : World → Prop) (late : Nat → Bool) : Nat → Array Bool → Act → World → Prop
  | 0, seen, a, w => Region.ready md ops seen = [] ∧ Q .normal a w
  | n + 1, seen, a, w => (Region.ready md ops seen = [] → Q .normal a w) ∧
      ∀ k, k ∈ Region.ready md ops seen → wpOp P ops Q k (fun b v => (late k = false → S v) ∧ anyU P md ops Q S late n (seen.setIfInBounds k true) b v) a w
theorem anyU_any (n : Nat) : ∀ (seen : Array Bool) (a : Act) (w : World), anyU P md ops Q S late n seen a w → wpAny P md ops Q n seen a w := by
  induction n with
  | zero => intro seen a w h; exact h
  | succ n ih => intro seen a w h; exact ⟨h.1, fun k hk => wpOp_mono (fun b v hb => ih _ b v hb.2) (h.2 k hk)⟩
/-- Number j waits for number i, perhaps by way of others. -/
def reach (md : Region.Mode) (ops : Array Oper) : Nat → Nat → Nat → Bool
  | 0, _, _ => false
  | n + 1, j, i => match ops[j]? with
    | some o => o.after.any fun e => Region.binds md e && (e.on == i || reach md ops n e.on i)
    | none => false
/-- Whatever is late waits for number i. -/
def waits (md : Region.Mode) (ops : Array Oper) (late : Nat → Bool) (i : Nat) : Bool :=
  (List.range ops.size).all fun j => !late j || reach md ops ops.size j i
/-- What has come up has come up behind all that it waits for. -/
def Shut1 (md : Region.Mode) (ops : Array Oper) (seen : Array Bool) : Prop :=
  ∀ (j : Nat) (o : Oper), ops[j]? = some o → seen.getD j false = true → ∀ e ∈ o.after, Region.binds md e = true → seen.getD e.on false = true
def shut1 (md : Region.Mode) (ops : Array Oper) (seen : Array Bool) : Bool :=
  (List.range ops.size).all fun j => !seen.getD j false || (match ops[j]? with
    | some o => o.after.all fun e => !Region.binds md e || seen.getD e.on false
    | none => true)
theorem shut1_spec {seen : Array Bool} (h : shut1 md ops seen = true) : Shut1 md ops seen := by
  intro j o ho hj e he hb
  unfold shut1 at h
  rw [List.all_eq_true] at h
  have h1 := h j (List.mem_range.2 (Array.getElem?_eq_some_iff.1 ho).1)
  rw [hj, ho] at h1
  simp only [Bool.not_true, Bool.false_or] at h1
  rw [Array.all_eq_true_iff_forall_mem] at h1
  have h2 := h1 e he
  rw [hb] at h2
  simpa using h2
theorem Shut1.step {seen : Array Bool} {j : Nat} (h : Shut1 md ops seen) (hj : j ∈ Region.ready md ops seen) : Shut1 md ops (seen.setIfInBounds j true) := by
  intro k o ho hk e he hb
  by_cases hjk : j = k
  · subst hjk
    obtain ⟨_, o2, ho2, hall⟩ := mem_ready.1 hj
    rw [ho] at ho2
    obtain rfl := Option.some.inj ho2
    exact getD_set_true (hall e he hb)
  · rw [getD_set_ne false hjk] at hk
    exact getD_set_true (h k o ho hk e he hb)
theorem reach_seen {seen : Array Bool} (hc : Shut1 md ops seen) (i : Nat) : ∀ (n j : Nat) (o : Oper), ops[j]? = some o → (∀ e ∈ o.after, Region.binds md e = true → seen.getD e.on false = true) → reach md ops n j i = true → seen.getD i false = true := by
  intro n
  induction n with
  | zero => intro j o _ _ h; cases h
  | succ n ih =>
    intro j o ho hall h
    unfold reach at h
    rw [ho] at h
    simp only at h
    rw [Array.any_eq_true'] at h
    obtain ⟨e, he, hb⟩ := h
    rw [Bool.and_eq_true, Bool.or_eq_true] at hb
    have h1 := hall e he hb.1
    rcases hb.2 with h2 | h2
    · have : e.on = i := by simpa using h2
      rwa [this] at h1
    · cases ho2 : ops[e.on]? with
      | none =>
        cases n with
        | zero => cases h2
        | succ n =>
          unfold reach at h2
          rw [ho2] at h2
          cases h2
      | some o2 => exact ih e.on o2 ho2 (hc e.on o2 ho2 h1) h2
theorem waits_seen {seen : Array Bool} {i j : Nat} (hw : waits md ops late i = true) (hc : Shut1 md ops seen) (hj : j ∈ Region.ready md ops seen) (hl : late j = true) : seen.getD i false = true := by
  obtain ⟨_, o, ho, hall⟩ := mem_ready.1 hj
  unfold waits at hw
  rw [List.all_eq_true] at hw
  have h1 := hw j (List.mem_range.2 (Array.getElem?_eq_some_iff.1 ho).1)
  rw [hl] at h1
  exact reach_seen hc i _ j o ho hall (by simpa using h1)
theorem anyU_first {i : Nat} {oi : Oper} {v : Value} (hi : ops[i]? = some oi) (hsel : ∀ (j : Nat) (o : Oper) cs b, ops[j]? = some o → o.op ≠ .select cs b)
    (hQ : ∀ c a w, Q (.panic c) (a.put oi.dst v) w → Q (.panic c) a w) (hw : waits md ops late i = true) (n : Nat) :
    ∀ (seen : Array Bool) (a : Act) (w : World),
      (∀ j oj, ops[j]? = some oj → j ≠ i → seen.getD j true = false → (∀ e ∈ oj.after, Region.binds md e = true → e.on ≠ i) → oi.apart ops oj = true) →
      Shut1 md ops seen → i ∈ Region.ready md ops seen → YieldsIf P ops S oi v a → S w → anyU P md ops Q S late n (seen.setIfInBounds i true) (a.put oi.dst v) w → anyU P md ops Q S late (n + 1) seen a w := by
  have now : ∀ (m : Nat) (seen : Array Bool) (a : Act) (w : World), YieldsIf P ops S oi v a → S w → anyU P md ops Q S late m (seen.setIfInBounds i true) (a.put oi.dst v) w →
      wpOp P ops Q i (fun b u => (late i = false → S u) ∧ anyU P md ops Q S late m (seen.setIfInBounds i true) b u) a w := fun m seen a w hy hS h => hy.wpOp hi hS ⟨fun _ => hS, h⟩
  induction n with
  | zero =>
    intro seen a w _ _ hr hy hS h
    refine ⟨fun e => (by rw [e] at hr; cases hr), fun j hj => ?_⟩
    by_cases e : j = i
    · exact e ▸ now 0 seen a w hy hS h
    · have := ready_mono hj e
      rw [h.1] at this
      cases this
  | succ n ih =>
    intro seen a w hf hc hr hy hS h
    refine ⟨fun e => (by rw [e] at hr; cases hr), fun j hj => ?_⟩
    by_cases e : j = i
    · exact e ▸ now (n + 1) seen a w hy hS h
    obtain ⟨hun, oj, hoj, hall⟩ := mem_ready.1 hj
    have hno : ∀ e ∈ oj.after, Region.binds md e = true → e.on ≠ i := fun e he hb hei => by
      have h1 := hall e he hb
      have h0 := (mem_ready.1 hr).1
      rw [hei] at h1
      by_cases hlt : i < seen.size
      · simp [hlt] at h0 h1
        rw [h0] at h1
        cases h1
      · simp [Array.getElem?_eq_none (Nat.le_of_not_lt hlt)] at h1
    have hl : late j = false := by
      cases hl : late j with
      | false => rfl
      | true =>
        have h1 := waits_seen hw hc hj hl
        have h0 := (mem_ready.1 hr).1
        by_cases hlt : i < seen.size
        · simp [hlt] at h0 h1
          rw [h0] at h1
          cases h1
        · simp [Array.getElem?_eq_none (Nat.le_of_not_lt hlt)] at h1
    refine wpOp_mono (fun b u hb => ⟨hb.2.1, ih _ b u (fun k ok hk hki hsk hnk => hf k ok hk hki ?_ hnk) (hc.step hj) (ready_mono hr (Ne.symm e)) hb.1 (hb.2.1 hl) (by rw [Array.setIfInBounds_comm _ _ e]; exact hb.2.2)⟩)
      (wpOp_putIf hoj (hf j oj hoj e hun hno) (fun cs b => hsel i oi cs b hi) (fun cs b => hsel j oj cs b hoj) hQ hy (h.2 j (ready_mono hj e)))
    by_cases hjk : j = k
    · exact hjk ▸ hun
    · rwa [getD_set_ne true hjk] at hsk
theorem anyU_take {i : Nat} {oi : Oper} {v : Value} {n : Nat} {seen : Array Bool} {a : Act} {w : World} (hi : ops[i]? = some oi) (hw : waits md ops late i = true)
    (hc : shut1 md ops seen = true) (hs : Region.noSelect ops = true) (hf : Region.free md ops seen i = true) (hr : (Region.ready md ops seen).contains i = true)
    (hQ : ∀ c a w, Q (.panic c) (a.put oi.dst v) w → Q (.panic c) a w) (hy : YieldsIf P ops S oi v a) (hS : S w)
    (h : anyU P md ops Q S late n (seen.setIfInBounds i true) (a.put oi.dst v) w) : anyU P md ops Q S late (n + 1) seen a w :=
  anyU_first hi (Region.noSelect_spec hs) hQ hw n seen a w (Region.free_spec hi hf) (shut1_spec hc) (by simpa using hr) hy hS h
/-- Each of some operations comes up next. -/
def EachU (P : Program) (md : Region.Mode) (ops : Array Oper) (Q : Exit → Act → World → Prop) (S : World → Prop) (late : Nat → Bool) (n : Nat) (seen : Array Bool) (a : Act) (w : World) (rs : List Nat) : Prop :=
  ∀ k ∈ rs, wpOp P ops Q k (fun b v => (late k = false → S v) ∧ anyU P md ops Q S late n (seen.setIfInBounds k true) b v) a w
theorem EachU.nil {n : Nat} {seen : Array Bool} {a : Act} {w : World} : EachU P md ops Q S late n seen a w [] := fun _ h => by cases h
theorem EachU.cons {n : Nat} {seen : Array Bool} {a : Act} {w : World} {i : Nat} {o : Oper} {rs : List Nat} (ho : ops[i]? = some o)
    (h : ∀ K : Act → World → Prop, Shut (∀ b v, (late i = false → S v) → ((late i = false → S v) → anyU P md ops Q S late n (seen.setIfInBounds i true) b v) → K b v) → if Region.wanted o (yielded ops a.tmps) = true then Oper.wp P o a w K Q else K (a.put o.dst undef) w)
    (hs : EachU P md ops Q S late n seen a w rs) : EachU P md ops Q S late n seen a w (i :: rs) := fun j hj => by
  rcases List.mem_cons.1 hj with rfl | hj
  · exact wpOp_step ho (fun K hK => h K (fun b v hS hW => hK b v ⟨hS, hW hS⟩))
  · exact hs j hj
theorem anyU_ready {rs : List Nat} {n : Nat} {seen : Array Bool} {a : Act} {w : World} (hr : Region.ready md ops seen = rs) (hne : rs ≠ []) (h : EachU P md ops Q S late n seen a w rs) : anyU P md ops Q S late (n + 1) seen a w :=
  ⟨fun e => absurd (hr ▸ e) hne, hr ▸ h⟩
theorem anyU_done {seen : Array Bool} {a : Act} {w : World} (hr : Region.ready md ops seen = []) (h : Q .normal a w) (n : Nat) : anyU P md ops Q S late n seen a w := by
  cases n with
  | zero => exact ⟨hr, h⟩
  | succ n => exact ⟨fun _ => h, by rw [hr]; intro k hk; cases hk⟩
theorem region_until {id : Nat} {a : Act} {w : World} (late : Nat → Bool) (hm : P.follows .mixedOrders = true) (hS : S w.drew) (h : S w.drew → anyU P .any ops Q S late ops.size (Array.replicate ops.size false) a w.drew) :
    (Code.region id ops true).wp P Q a w := wp_region_any hm (anyU_any _ _ _ _ (h hS))
end
end Go.Proofs.Ytiencdgmnkphjaa
