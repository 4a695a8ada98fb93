/- Parts of the proof, packed: FwD, IoRows, ToMath, ToMem, ToLeaf, ToFuns, IdM, ToSeek, ToRow, ToJoin, ToCheck, ToNear, ToHop. -/
import Derived.Test.YtpogblengagpaaaGreatDoorLo2
import Derived.Test.YtpogblengagpaaaGreatDoorLo1
import Derived.Shelf.Abstract
import Derived.Deep.CutRange
import Derived.Deep.RegionHeld3
import Derived.Deep.QuietTactic
import Derived.BigQuiet
import Derived.IntWalk
import Derived.Lib.SmallJoins
/- forward, the mathematics: what an outcome divides. -/
namespace Go.Proofs.YtpogblengagpaaaGreatDoor
set_option maxRecDepth 100000
open Go.RowKit Bs
structure FwD (M : Int → Nat) (h : Nat → Int) (r : Int) (t : Bool) (P loc lost : Nat) (cs : List (Int × Nat)) : Prop where
 hloc : ∀ j, loc.testBit j = (P.testBit j && decide (h j = r))
 hlost : ∀ j, lost.testBit j = (P.testBit j && lzB h r t j)
 hcs : cs = cpB M h (fltB (czB h r t) P)
theorem FwI.fin {M : Int → Nat} {h : Nat → Int} {r : Int} {t : Bool} {P loc lost : Nat} {cs : List (Int × Nat)} (I : FwI M h r t P 0 loc lost cs) : FwD M h r t P loc lost cs := ⟨I.done.1, I.done.2.1, I.done.2.2⟩
def orC (l : List (Int × Nat)) (a : Nat) : Nat := l.foldl (fun acc y => acc ||| y.2) a
theorem orC_bit : ∀ (l : List (Int × Nat)) (a j : Nat), (orC l a).testBit j = (a.testBit j || l.any (fun y => y.2.testBit j))
 | [], a, j => by simp [orC]
 | y :: l, a, j => by
  have := orC_bit l (a ||| y.2) j
  unfold orC at this ⊢
  rw [List.foldl_cons, this, Nat.testBit_or, List.any_cons, Bool.or_assoc]
variable {M : Int → Nat} {h : Nat → Int} {r : Int} {t : Bool} {P loc lost : Nat} {cs : List (Int × Nat)}
theorem cz_ne {j : Nat} (hc : czB h r t j = true) : t = false ∧ h j ≠ 0 ∧ h j ≠ r := by
 unfold czB at hc
 simp at hc
 exact ⟨hc.1.1, hc.1.2, hc.2⟩
theorem cz_of {j : Nat} (h1 : t = false) (h2 : h j ≠ 0) (h3 : h j ≠ r) : czB h r t j = true := by
 unfold czB
 simp [h1, h2, h3]
theorem FwD.zs (hP : U64 P) : ∀ j, (fltB (czB h r t) P).testBit j = true → h j ≠ 0 := fun j hj => by
 rw [fltB_bit hP] at hj
 simp only [Bool.and_eq_true] at hj
 exact (cz_ne hj.2).2.1
theorem FwD.mem (D : FwD M h r t P loc lost cs) (hM : Ms M h) (hP : U64 P) {y : Int × Nat} (hy : y ∈ cs) : t = false ∧ y.1 ≠ 0 ∧ y.1 ≠ r ∧ y.2 = P &&& M y.1 ∧ y.2 ≠ 0 ∧ U64 y.2 ∧ (∃ j, j < 64 ∧ P.testBit j = true ∧ h j = y.1) ∧ (∀ j, y.2.testBit j = true → P.testBit j = true ∧ h j = y.1) := by
 rw [D.hcs] at hy
 obtain ⟨h1, j, h2, h3⟩ := cpB_mem hM _ (fltB_u _ hP) (FwD.zs hP) y hy
 rw [fltB_bit hP] at h2
 simp only [Bool.and_eq_true] at h2
 obtain ⟨c1, c2, c3⟩ := cz_ne h2.2
 rw [h3] at c2 c3
 have e : y.2 = P &&& M y.1 := h1.trans (Nat.eq_of_testBit_eq (fun k => by
  rw [Nat.testBit_and, Nat.testBit_and, fltB_bit hP]
  cases hk : (M y.1).testBit k with
  | false => simp
  | true =>
   have e1 := (((hM _ c2).2 k).1 hk).1
   rw [cz_of c1 (e1 ▸ c2) (e1 ▸ c3)]
   simp))
 have hj64 := u64_bit hP h2.1
 have hb : y.2.testBit j = true := by
  rw [e, Nat.testBit_and, h2.1, Bool.true_and]
  exact ((hM _ c2).2 j).2 ⟨h3, hj64⟩
 refine ⟨c1, c2, c3, e, fun e0 => ?_, by rw [e]; exact u64_andl _ _ hP, ⟨j, hj64, h2.1, h3⟩, fun k hk => ?_⟩
 ·rw [e0, Nat.zero_testBit] at hb
  cases hb
 ·rw [e, Nat.testBit_and] at hk
  simp only [Bool.and_eq_true] at hk
  exact ⟨hk.1, (((hM _ c2).2 k).1 hk.2).1⟩
theorem FwD.once (D : FwD M h r t P loc lost cs) (hM : Ms M h) (hP : U64 P) {i : Nat} {y : Int × Nat} (hy : cs[i]? = some y) : ∀ z ∈ cs.take i, z.1 ≠ y.1 := by
 have hp := cpB_once hM _ (fltB_u (czB h r t) hP) (FwD.zs hP)
 rw [← D.hcs] at hp
 intro z hz e
 obtain ⟨k, hk⟩ := List.mem_iff_getElem?.1 hz
 rw [List.getElem?_take] at hk
 split at hk
 ·rename_i hki
  obtain ⟨hil, hyi⟩ := List.getElem?_eq_some_iff.1 hy
  obtain ⟨hkl, hzk⟩ := List.getElem?_eq_some_iff.1 hk
  have := List.pairwise_iff_getElem.1 hp k i hkl hil hki
  rw [hzk, hyi] at this
  exact this e
 ·cases hk
theorem FwD.apart (D : FwD M h r t P loc lost cs) (hr : r ≠ 0) : loc &&& lost = 0 := Nat.eq_of_testBit_eq (fun j => by
 rw [Nat.testBit_and, Nat.zero_testBit, D.hloc, D.hlost]
 by_cases e : h j = r
 ·have : lzB h r t j = false := by unfold lzB; simp [e, hr]
  simp [this]
 ·simp [e])
theorem FwD.new (D : FwD M h r t P loc lost cs) (hM : Ms M h) (hP : U64 P) {i : Nat} {y : Int × Nat} (hy : cs[i]? = some y) : orC (cs.take i) (loc ||| lost) &&& y.2 = 0 := Nat.eq_of_testBit_eq (fun j => by
 rw [Nat.testBit_and, Nat.zero_testBit]
 cases hb : y.2.testBit j with
 | false => simp
 | true =>
  obtain ⟨c1, c2, c3, -, -, -, -, c4⟩ := D.mem hM hP (List.mem_of_getElem? hy)
  obtain ⟨-, hu⟩ := c4 j hb
  rw [orC_bit, Nat.testBit_or, D.hloc, D.hlost]
  have h1 : decide (h j = r) = false := decide_eq_false (by rw [hu]; exact c3)
  have h2 : lzB h r t j = false := by
   unfold lzB
   rw [c1, decide_eq_false (by rw [hu]; exact c2)]
   rfl
  have h3 : (cs.take i).any (fun z => z.2.testBit j) = false := by
   rw [List.any_eq_false]
   intro z hz hzb
   have := (D.mem hM hP (List.mem_of_mem_take hz)).2.2.2.2.2.2.2 j (by simpa using hzb)
   exact D.once hM hP hy z hz (this.2.symm.trans hu)
  rw [h1, h2, h3]
  simp)
theorem FwD.full (D : FwD M h r t P loc lost cs) (hM : Ms M h) (hP : U64 P) : orC cs (loc ||| lost) = P := Nat.eq_of_testBit_eq (fun j => by
 rw [orC_bit, Nat.testBit_or, D.hloc, D.hlost]
 cases hp : P.testBit j with
 | false =>
  have h3 : cs.any (fun z => z.2.testBit j) = false := by
   rw [List.any_eq_false]
   intro z hz hzb
   have := ((D.mem hM hP hz).2.2.2.2.2.2.2 j (by simpa using hzb)).1
   rw [hp] at this
   cases this
  rw [h3]
  rfl
 | true =>
  by_cases e : czB h r t j = true
  ·have hx : (fltB (czB h r t) P).testBit j = true := by rw [fltB_bit hP, hp, e]; rfl
   have hin := cpB_full hM _ (fltB_u (czB h r t) hP) (FwD.zs hP) j hx
   rw [← D.hcs] at hin
   have hb : (fltB (czB h r t) P &&& M (h j)).testBit j = true := by
    rw [Nat.testBit_and, hx, Bool.true_and]
    exact ((hM _ (cz_ne e).2.1).2 j).2 ⟨rfl, u64_bit hP hp⟩
   have h3 : cs.any (fun z => z.2.testBit j) = true := List.any_eq_true.2 ⟨_, hin, hb⟩
   rw [h3]
   simp
  ·have h4 : (decide (h j = r) || lzB h r t j) = true := by
    unfold czB at e
    unfold lzB
    revert e
    cases t <;> cases decide (h j = 0) <;> cases decide (h j = r) <;> simp
   revert h4
   cases decide (h j = r) <;> cases lzB h r t j <;> simp)
/-! A packet with a single bit of the packet. -/
theorem FwD.has (D : FwD M h r t P loc lost cs) (hM : Ms M h) (hP : U64 P) {j : Nat} (hj : P.testBit j = true) {y : Int × Nat} (hy : y ∈ cs) : y.2.testBit j = true ↔ y.1 = h j := by
 obtain ⟨c1, c2, c3, c4, -, -, -, c5⟩ := D.mem hM hP hy
 constructor
 ·intro hb
  exact (c5 j hb).2.symm
 ·intro e
  rw [c4, Nat.testBit_and, hj, Bool.true_and]
  exact ((hM _ c2).2 j).2 ⟨e.symm, u64_bit hP hj⟩
end Go.Proofs.YtpogblengagpaaaGreatDoor

/- Rows of the call's own that grow apart. -/
namespace Go.Proofs.YtpogblengagpaaaGreatDoor
set_option maxRecDepth 100000
open Go.RowKit Bs
def zv (x : Nat) : Value := .int .i64 (x : Int)
theorem zv_one {l : List Nat} : ∀ u ∈ l.map zv, u.oneCell' = true := by
 intro u hu
 obtain ⟨x, _, rfl⟩ := List.mem_map.1 hu
 rfl
theorem wpList_append_ints {w : World} {ops : Array Oper} {rest : List Oper} {o : Oper} {a : Act} {Q : Exit → Act → World → Prop} (hgd : o.guard = none) (s x : Operand)
  (ho : o.op = .call { callee := .builtin .append, args := #[s, x], argTypes := #[22, 22] }) (base : Nat) (v : Value) (n : Nat) (l : List Nat) (hs : a.eval s = v) (hown : w.ownsRow base 3 1 v n (l.map zv))
  (p : Option Addr) (k c : Nat) (r : List Nat) (hx : a.eval x = .slice p k c) (hk : k = r.length) (hn0 : p = none → c = 0 ∧ k = 0) (hnews : ∀ ad, p = some ad → ∀ j u, (r.map zv)[j]? = some u → w.cell? (ad.add j) = some u) (h63 : n + r.length ≤ 100000) (hbase : base ≤ w.heap.size)
  (h : ∀ v' w', w'.ownsRow base 3 1 v' (n + r.length) ((l ++ r).map zv) → w.grownBy w' v.ownBlock → wpList Tryz.prog ops Q rest (a.put o.dst v') w') : wpList Tryz.prog ops Q (o :: rest) a w := by
 obtain ⟨i0, hi, hz0, hz1, hz2⟩ := info_parts info_int
 subst hk
 cases p with
 | none =>
  obtain ⟨rfl, hr⟩ := hn0 rfl
  obtain rfl := List.eq_nil_of_length_eq_zero hr
  refine wpList_append_own_none hgd s x 22 ho base 3 i0 1 Tryz.underlying22 hi v n (l.map zv) hs hown hx ?_
  refine h v w ?_ (grown_refl _ _)
  rw [List.append_nil]; exact hown
 | some ad =>
  refine wpList_append_own w hgd s x 22 ho base 3 i0 (.int .i64 0) 1 8 Tryz.underlying22 hi hz0 hz1 hz2 rfl (by decide) v n (l.map zv) hs hown ad r.length c (r.map zv) hx (by simp) (hnews ad rfl) zv_one (by unfold maxLen; omega) (by omega) hbase ?_
  intro v' w' h1 h2 _
  refine h v' w' ?_ h2
  rw [List.map_append]; exact h1
theorem tp_new2 {w1 w2 : World} {a b : Nat} (h : Tp w1 a) (k : w1.grownBy w2 (some b)) (hb : a < b) : Tp w2 a := by
 have hlt := h.lt
 obtain ⟨v, n, i, T⟩ := h
 have hb' : w2.heap[a]? = w1.heap[a]? := k.block a hlt (by intro e; have := Option.some.inj e; omega)
 refine ⟨v, n, i, (World.cell?_of_block (a := ⟨a, 0, none⟩) hb').trans T.l, (World.cell?_of_block (a := ⟨a, 1, none⟩) hb').trans T.p, (World.frozen?_of_block (a := ⟨a, 1, none⟩) hb').trans T.fr, ?_, T.le, T.len⟩
 obtain ⟨p, c, hv, hc⟩ := T.ints
 refine ⟨p, c, hv, fun hn => ?_⟩
 obtain ⟨g, off, hp, hg, hx⟩ := hc hn
 exact ⟨g, off, hp, hg, fun i hi => by obtain ⟨x, hx, hcell⟩ := hx i hi; exact ⟨x, hx, k.cell hcell (by intro e; have e2 : g = b := Option.some.inj e; omega)⟩⟩
theorem own_cap {w : World} {base n g cap : Nat} {e : TypeId} {xs : List Value} (h : w.ownsRow base e 1 (.slice (some ⟨g, 0, none⟩) n cap) n xs) : n ≤ cap ∧ cap ≤ maxLen := by
 rcases h.2 with ⟨h0, _⟩ | ⟨g', cap', cur, hv, _, _, hn, hc, _⟩
 ·cases h0
 ·injection hv with _ _ h3
  subst h3
  exact ⟨hn, hc⟩
theorem own_apart {w w1 : World} {base base2 g n cap : Nat} {e : TypeId} {v : Value} {m : Nat} {e2 : TypeId} {xs ys : List Value} (h : w.ownsRow base e 1 (.slice (some ⟨g, 0, none⟩) n cap) n xs) (hv : w.ownsRow base2 e2 1 v m ys) (hg : g < base2) (k : w.grownBy w1 v.ownBlock) : w1.ownsRow base e 1 (.slice (some ⟨g, 0, none⟩) n cap) n xs :=
 h.kept k (.inr (own_ne hv hg))
theorem St.own_grow {a base n : Nat} {W w w1 : World} {e : TypeId} {v : Value} {xs : List Value} (h : St a W w) (ho : w.ownsRow base e 1 v n xs) (hb : W.heap.size ≤ base) (ha : a < W.heap.size) (k : w.grownBy w1 v.ownBlock) : St a W w1 := by
 have g : W.grownBy w1 (some a) := ⟨k.os.trans h.1.os, k.tape.trans h.1.tape, k.output.trans h.1.output, Nat.le_trans h.1.size k.size, fun i hi hia => (k.block i (Nat.lt_of_lt_of_le hi h.1.size) (own_ne ho (by omega))).trans (h.1.block i hi hia)⟩
 refine ⟨g, ?_⟩
 cases hv : v.ownBlock with
 | none => rw [hv] at k; exact h.2.keep k
 | some b =>
  rw [hv] at k
  exact tp_new2 h.2 k (by have := (ho.lt b hv).1; omega)
theorem St.none_ {a : Nat} {W w w1 : World} (h : St a W w) (g : w.grownBy w1 none) : St a W w1 := ⟨grown_trans h.1 (grown_none g _), h.2.keep g⟩
end Go.Proofs.YtpogblengagpaaaGreatDoor

/- Topologies: the mathematics. -/
namespace Go.Proofs.YtpogblengagpaaaGreatDoor
set_option maxRecDepth 100000
open Go.RowKit Bs
structure Rt where
 id : Int
 cap : Bool
structure Lk where
 a : Int
 b : Int
 ca : Int
 cb : Int
 cp : Int
def rtC (r : Rt) : List Value := [.int .i64 r.id, .bool r.cap]
def lkC (l : Lk) : List Value := [.int .i64 l.a, .int .i64 l.b, .int .i64 l.ca, .int .i64 l.cb, .int .i64 l.cp]
def wrId (r : Rt) : Bool := !decide (1 ≤ r.id ∧ r.id ≤ 99)
def wrNum (l : Lk) : Bool := !decide ((1 ≤ l.ca ∧ l.ca ≤ 1000) ∧ (1 ≤ l.cb ∧ l.cb ≤ 1000) ∧ (0 ≤ l.cp ∧ l.cp ≤ 1000))
def hasR (R : List Rt) (x : Int) : Bool := R.any fun r => decide (r.id = x)
def unk (R : List Rt) (l : Lk) : Bool := !hasR R l.a || !hasR R l.b
def wrEnd (l : Lk) : Bool := decide (l.b ≤ l.a)
def ltR (r s : Rt) : Bool := decide (r.id < s.id)
def ltL (l m : Lk) : Bool := decide (l.a < m.a ∨ (l.a = m.a ∧ l.b < m.b))
def ascB {α : Type} (f : α → α → Bool) : List α → Bool
 | a :: b :: t => f a b && ascB f (b :: t)
 | _ => true
theorem ascB_iff {α : Type} (f : α → α → Bool) : ∀ l : List α, ascB f l = true ↔ ∀ i x y, l[i]? = some x → l[i + 1]? = some y → f x y = true
 | [] => by simp [ascB]
 | [a] => by simp [ascB]
 | a :: b :: t => by
  rw [ascB, Bool.and_eq_true, ascB_iff f (b :: t)]
  constructor
  ·rintro ⟨h1, h2⟩ i x y hx hy
   cases i with
   | zero => simp at hx hy; subst hx; subst hy; exact h1
   | succ i => exact h2 i x y (by simpa using hx) (by simpa using hy)
  ·intro h
   exact ⟨h 0 a b rfl rfl, fun i x y hx hy => h (i + 1) x y (by simpa using hx) (by simpa using hy)⟩
def chk (R : List Rt) (L : List Lk) : Int :=
 if 24 < R.length ∨ 60 < L.length then 3
 else if R.any wrId then 2
 else if !ascB ltR R then 25
 else if L.any wrNum then 2
 else if L.any (unk R) then 4
 else if L.any wrEnd then 8
 else if !ascB ltL L then 25 else 0
theorem any_take {α : Type} {p : α → Bool} {l : List α} {k : Nat} {x : α} (h : (l.take k).any p = false) (hx : l[k]? = some x) (hp : p x = false) : (l.take (k + 1)).any p = false := by
 rw [List.take_add_one, List.any_append, h, hx]
 simpa using hp
theorem any_at {α : Type} {p : α → Bool} {l : List α} {k : Nat} {x : α} (hx : l[k]? = some x) (hp : p x = true) : l.any p = true :=
 List.any_eq_true.2 ⟨x, List.mem_of_getElem? hx, hp⟩
theorem any_end {α : Type} {p : α → Bool} {l : List α} {k : Nat} (h : (l.take k).any p = false) (hk : l.length ≤ k) : l.any p = false := by
 rwa [List.take_of_length_le hk] at h
theorem flat_at {α : Type} (f : α → List Value) (n : Nat) (hf : ∀ x, (f x).length = n) : ∀ (l : List α) (i j : Nat) (x : α), l[i]? = some x → j < n → (l.flatMap f)[i * n + j]? = (f x)[j]?
 | [], i, j, x, h, _ => by simp at h
 | m :: l, 0, j, x, h, hj => by
  obtain rfl : m = x := by simpa using h
  rw [List.flatMap_cons, Nat.zero_mul, Nat.zero_add, List.getElem?_append_left (by rw [hf]; exact hj)]
 | m :: l, i + 1, j, x, h, hj => by
  rw [List.flatMap_cons, List.getElem?_append_right (by rw [hf, Nat.add_mul]; omega), show (i + 1) * n + j - (f m).length = i * n + j by rw [hf, Nat.add_mul]; omega]
  exact flat_at f n hf l i j x (by simpa using h) hj
theorem flat_len {α : Type} (f : α → List Value) (n : Nat) (hf : ∀ x, (f x).length = n) : ∀ (l : List α), (l.flatMap f).length = l.length * n
 | [] => by simp
 | m :: l => by rw [List.flatMap_cons, List.length_append, hf, flat_len f n hf l, List.length_cons, Nat.add_mul]; omega
end Go.Proofs.YtpogblengagpaaaGreatDoor

/- Topologies in memory. -/
namespace Go.Proofs.YtpogblengagpaaaGreatDoor
set_option maxRecDepth 100000
open Go.RowKit Bs
theorem tone_box (w : World) (A : Array Value) (t : TypeId) : (w.alloc (.cells A t)).heap[w.heap.size]? = some (.cells A t (0, 0)) ∧ w.grownBy (w.alloc (.cells A t)) none :=
 ⟨heap_alloc_new w _, World.grownBy_alloc w _ _⟩
def RdF (w : World) (q : Nat → Prop) (v : Value) (n : Nat) (xs : List Value) : Prop :=
 ∃ p c, v = .slice p n c ∧ (xs ≠ [] → ∃ b off, p = some ⟨b, off, none⟩ ∧ q b ∧ ∀ i x, xs[i]? = some x → w.cell? ⟨b, off + i, none⟩ = some x)
theorem RdF.grown {w w' : World} {q : Nat → Prop} {v : Value} {n : Nat} {xs : List Value} {r : Option Nat} (h : RdF w q v n xs) (g : w.grownBy w' r) (hq : ∀ b, q b → some b ≠ r) : RdF w' q v n xs := by
 obtain ⟨p, c, hv, hc⟩ := h
 refine ⟨p, c, hv, fun hne => ?_⟩
 obtain ⟨b, off, hp, hb, hx⟩ := hc hne
 exact ⟨b, off, hp, hb, fun i x hi => g.cell (hx i x hi) (hq b hb)⟩
theorem RdF.keep {w w' : World} {q : Nat → Prop} {v : Value} {n : Nat} {xs : List Value} (h : RdF w q v n xs) (g : w.grownBy w' none) : RdF w' q v n xs := h.grown g (fun _ _ => by simp)
theorem RdF.mono {w : World} {q q' : Nat → Prop} {v : Value} {n : Nat} {xs : List Value} (h : RdF w q v n xs) (hq : ∀ b, q b → q' b) : RdF w q' v n xs := by
 obtain ⟨p, c, hv, hc⟩ := h
 refine ⟨p, c, hv, fun hne => ?_⟩
 obtain ⟨b, off, hp, hb, hx⟩ := hc hne
 exact ⟨b, off, hp, hq b hb, hx⟩
theorem rdf_nil (w : World) (q : Nat → Prop) (p : Option Addr) (c : Nat) : RdF w q (.slice p 0 c) 0 [] := ⟨p, c, rfl, fun h => absurd rfl h⟩
theorem rdf_of_own {w : World} {base size : Nat} {e : TypeId} {v : Value} {n : Nat} {xs : List Value} (h : w.ownsRow base e size v n xs) : RdF w (base ≤ ·) v n xs := by
 rcases h.2 with ⟨rfl, h0⟩ | ⟨g, cap, cur, rfl, hb, hg, _⟩
 ·subst h0
  have hl : xs = [] := List.eq_nil_of_length_eq_zero (by have := h.1; omega)
  exact ⟨none, 0, rfl, fun hne => absurd hl hne⟩
 ·refine ⟨some ⟨g, 0, none⟩, cap, rfl, fun _ => ⟨g, 0, rfl, hb, fun i x hi => ?_⟩⟩
  have := h.cells (g := g) rfl i x hi
  have hadd : (⟨g, 0, none⟩ : Addr).add i = ⟨g, 0 + i, none⟩ := by unfold Addr.add; split <;> simp_all
  rw [hadd] at this
  exact this
theorem RdF.cells {α : Type} {f : α → List Value} {k : Nat} (hf : ∀ x, (f x).length = k) (hk : 0 < k) {w : World} {q : Nat → Prop} {p : Option Addr} {n c : Nat} {l : List α} (h : RdF w q (.slice p n c) l.length (l.flatMap f)) (hn : 0 < l.length) :
  n = l.length ∧ ∃ b off, p = some ⟨b, off, none⟩ ∧ q b ∧ ∀ i x, l[i]? = some x → ∀ j y, (f x)[j]? = some y → w.cell? ⟨b, off + i * k + j, none⟩ = some y := by
 obtain ⟨p1, c1, e1, hx⟩ := h
 injection e1 with a1 a2 a3
 subst a1
 have hne : l.flatMap f ≠ [] := by
  intro e
  have h2 := flat_len f k hf l
  rw [e, List.length_nil] at h2
  have := Nat.mul_pos hn hk
  omega
 obtain ⟨b, off, hp, hq, hc⟩ := hx hne
 refine ⟨a2, b, off, hp, hq, fun i x hi j y hj => ?_⟩
 have hjk : j < k := by
  have := (List.getElem?_eq_some_iff.1 hj).1
  rw [hf] at this
  exact this
 rw [Nat.add_assoc]
 exact hc _ _ ((flat_at f k hf l i j x hi hjk).trans hj)
abbrev RdR (w : World) (q : Nat → Prop) (v : Value) (R : List Rt) : Prop := RdF w q v R.length (R.flatMap rtC)
abbrev RdL5 (w : World) (q : Nat → Prop) (v : Value) (L : List Lk) : Prop := RdF w q v L.length (L.flatMap lkC)
theorem rdr_cells {w : World} {q : Nat → Prop} {p : Option Addr} {n c : Nat} {R : List Rt} (h : RdR w q (.slice p n c) R) (hn : 0 < R.length) :
  n = R.length ∧ ∃ b off, p = some ⟨b, off, none⟩ ∧ q b ∧ ∀ i x, R[i]? = some x → w.cell? ⟨b, off + i * 2, none⟩ = some (.int .i64 x.id) ∧ w.cell? ⟨b, off + i * 2 + 1, none⟩ = some (.bool x.cap) := by
 obtain ⟨h0, b, off, hp, hq, hc⟩ := RdF.cells (f := rtC) (k := 2) (fun _ => rfl) (by decide) h hn
 exact ⟨h0, b, off, hp, hq, fun i x hi => ⟨hc i x hi 0 _ rfl, hc i x hi 1 _ rfl⟩⟩
theorem rdl_cells {w : World} {q : Nat → Prop} {p : Option Addr} {n c : Nat} {L : List Lk} (h : RdL5 w q (.slice p n c) L) (hn : 0 < L.length) :
  n = L.length ∧ ∃ b off, p = some ⟨b, off, none⟩ ∧ q b ∧ ∀ i x, L[i]? = some x → w.cell? ⟨b, off + i * 5, none⟩ = some (.int .i64 x.a) ∧ w.cell? ⟨b, off + i * 5 + 1, none⟩ = some (.int .i64 x.b) ∧ w.cell? ⟨b, off + i * 5 + 2, none⟩ = some (.int .i64 x.ca) ∧ w.cell? ⟨b, off + i * 5 + 3, none⟩ = some (.int .i64 x.cb) ∧ w.cell? ⟨b, off + i * 5 + 4, none⟩ = some (.int .i64 x.cp) := by
 obtain ⟨h0, b, off, hp, hq, hc⟩ := RdF.cells (f := lkC) (k := 5) (fun _ => rfl) (by decide) h hn
 exact ⟨h0, b, off, hp, hq, fun i x hi => ⟨hc i x hi 0 _ rfl, hc i x hi 1 _ rfl, hc i x hi 2 _ rfl, hc i x hi 3 _ rfl, hc i x hi 4 _ rfl⟩⟩
structure Tg where
 R : List Rt
 L : List Lk
 pR : Option Addr
 cR : Nat
 pL : Option Addr
 cL : Nat
def Tg.vR (T : Tg) : Value := .slice T.pR T.R.length T.cR
def Tg.vL (T : Tg) : Value := .slice T.pL T.L.length T.cL
structure TgOk (w : World) (q : Nat → Prop) (T : Tg) : Prop where
 r : RdR w q (.slice T.pR T.R.length T.cR) T.R
 l : RdL5 w q (.slice T.pL T.L.length T.cL) T.L
 cr : T.R.length ≤ T.cR ∧ T.cR ≤ 9223372036854775807
 cl : T.L.length ≤ T.cL ∧ T.cL ≤ 9223372036854775807
theorem TgOk.keep {w w' : World} {q : Nat → Prop} {T : Tg} (h : TgOk w q T) (g : w.grownBy w' none) : TgOk w' q T := ⟨h.r.keep g, h.l.keep g, h.cr, h.cl⟩
theorem TgOk.grown {w w' : World} {q : Nat → Prop} {T : Tg} {r : Option Nat} (h : TgOk w q T) (g : w.grownBy w' r) (hq : ∀ b, q b → some b ≠ r) : TgOk w' q T := ⟨h.r.grown g hq, h.l.grown g hq, h.cr, h.cl⟩
theorem TgOk.mono {w : World} {q q' : Nat → Prop} {T : Tg} (h : TgOk w q T) (hq : ∀ b, q b → q' b) : TgOk w q' T := ⟨h.r.mono hq, h.l.mono hq, h.cr, h.cl⟩
end Go.Proofs.YtpogblengagpaaaGreatDoor

/- topology: within, wrongID, wrongNumbers, the comparisons. -/
namespace Go.Proofs.YtpogblengagpaaaGreatDoor
set_option maxRecDepth 100000
open Go.RowKit Bs
theorem lk_facts {w : World} {b : Nat} {l : Lk} (h : w.heap[b]? = some (.cells #[.int .i64 l.a, .int .i64 l.b, .int .i64 l.ca, .int .i64 l.cb, .int .i64 l.cp] 135 (0, 0))) :
  w.cell? ⟨b, 0, none⟩ = some (.int .i64 l.a) ∧ w.cell? ⟨b, 1, none⟩ = some (.int .i64 l.b) ∧ w.cell? ⟨b, 2, none⟩ = some (.int .i64 l.ca) ∧ w.cell? ⟨b, 3, none⟩ = some (.int .i64 l.cb) ∧ w.cell? ⟨b, 4, none⟩ = some (.int .i64 l.cp) :=
 ⟨cell_of_row _ _ _ _ _ _ h, cell_of_row _ _ _ _ _ _ h, cell_of_row _ _ _ _ _ _ h, cell_of_row _ _ _ _ _ _ h, cell_of_row _ _ _ _ _ _ h⟩
end Go.Proofs.YtpogblengagpaaaGreatDoor

/- topology: lists that are searched by functions; what is ascending. -/
namespace Go.Proofs.YtpogblengagpaaaGreatDoor
set_option maxRecDepth 100000
open Go.RowKit Bs
theorem rdi_at {w : World} {q : Nat → Prop} {p : Option Addr} {n c : Nat} {r : List Int} (h : Rd w q (.slice p n c) (r.map (fun z => Value.int .i64 z))) (hn : 0 < r.length) :
  n = r.length ∧ ∃ b off, p = some ⟨b, off, none⟩ ∧ q b ∧ ∀ i x, r[i]? = some x → w.cell? ⟨b, off + i, none⟩ = some (.int .i64 x) := by
 obtain ⟨p1, c1, e1, hx⟩ := h
 injection e1 with a1 a2 a3
 subst a1
 obtain ⟨b, off, hp, hq, hc⟩ := hx (by intro e; have := congrArg List.length e; simp only [List.length_map, List.length_nil] at this; omega)
 refine ⟨by rw [a2, List.length_map], b, off, hp, hq, fun i x hi => hc i _ ?_⟩
 rw [List.getElem?_map, hi]; rfl
end Go.Proofs.YtpogblengagpaaaGreatDoor

/- identify: claims and plans, the mathematics. -/
namespace Go.Proofs.YtpogblengagpaaaGreatDoor
set_option maxRecDepth 100000
open Go.RowKit Bs
def inV (n a b : Int) : Bool := decide (a ≤ n ∧ n ≤ b)
theorem any_mem {α : Type} {p : α → Bool} {l : List α} (h : l.any p = false) {x : α} (hx : x ∈ l) : p x = false := by
 cases hp : p x
 ·rfl
 ·rw [List.any_eq_true.2 ⟨x, hx, hp⟩] at h; cases h
structure Ed where
 r : Int
 i : Int
def edC (e : Ed) : List Value := [.int .i64 e.r, .int .i64 e.i]
theorem ed_one (x : Ed) : ∀ u ∈ edC x, u.oneCell' = true := by
 intro u hu
 simp [edC] at hu
 rcases hu with rfl | rfl <;> rfl
def wrE (e : Ed) : Bool := !(inV e.r 1 99 && inV e.i 1 256)
def ltE (x y : Ed) : Bool := decide (x.i < y.i)
def repI (r : List Int) : Bool := (List.range r.length).any fun i => (r.take i).contains (r.getD i 0)
def vPl (sub len : Int) (E : List Ed) : Bool :=
 inV sub 0 7 && (vl len || (decide (len = 0) && decide (E.length = 0))) && decide (E.length ≤ 24) && !E.any wrE && ascB ltE E && !repI (E.map Ed.r)
theorem pair_ascE : ∀ E : List Ed, E.Pairwise (fun x y => x.i < y.i) → ascB ltE E = true
 | [], _ => rfl
 | [a], _ => rfl
 | a :: b :: t, h => by
  have h1 := List.pairwise_cons.1 h
  rw [ascB, pair_ascE (b :: t) h1.2, Bool.and_true]
  exact decide_eq_true (h1.1 b (List.mem_cons_self ..))
end Go.Proofs.YtpogblengagpaaaGreatDoor

/- topology: IndexFunc, ContainsFunc and ascending at routers and at links. -/
namespace Go.Proofs.YtpogblengagpaaaGreatDoor
set_option maxRecDepth 100000
open Go.RowKit Bs
abbrev EnterF (g : Nat) : Prop := ∀ (args : Array Value) (w : World), (callFunc g args).run Tryz.prog w = .ok (.enter g args) w

theorem ascR_end {R : List Rt} (h : ∀ i x y, i + 1 < R.length → R[i]? = some x → R[i + 1]? = some y → ltR x y = true) : ascB ltR R = true :=
 (ascB_iff _ _).2 fun i x y hx hy => h i x y ((List.getElem?_eq_some_iff.1 hy).1) hx hy
theorem ascR_hit {R : List Rt} {i : Nat} {x y : Rt} (hx : R[i]? = some x) (hy : R[i + 1]? = some y) (h : ltR x y = false) : ascB ltR R = false := by
 rw [Bool.eq_false_iff]
 intro h2
 have := (ascB_iff _ _).1 h2 i x y hx hy
 rw [h] at this; cases this
theorem ascL_end {R : List Lk} (h : ∀ i x y, i + 1 < R.length → R[i]? = some x → R[i + 1]? = some y → ltL x y = true) : ascB ltL R = true :=
 (ascB_iff _ _).2 fun i x y hx hy => h i x y ((List.getElem?_eq_some_iff.1 hy).1) hx hy
theorem ascL_hit {R : List Lk} {i : Nat} {x y : Lk} (hx : R[i]? = some x) (hy : R[i + 1]? = some y) (h : ltL x y = false) : ascB ltL R = false := by
 rw [Bool.eq_false_iff]
 intro h2
 have := (ascB_iff _ _).1 h2 i x y hx hy
 rw [h] at this; cases this
end Go.Proofs.YtpogblengagpaaaGreatDoor

/- Blocks that a call fills; the array of the routers that are known. -/
namespace Go.Proofs.YtpogblengagpaaaGreatDoor
set_option maxRecDepth 100000
open Go.RowKit Bs
def TRow (w : World) (g : Nat) (t : TypeId) (xs : List Value) : Prop := w.heap[g]? = some (.cells xs.toArray t (0, 0))
theorem TRow.set {w : World} {g : Nat} {t : TypeId} {xs : List Value} (h : TRow w g t xs) (j : Nat) (v : Value) : TRow (w.setCell ⟨g, j, none⟩ v) g t (xs.set j v) := by
 have := heap_setCell_same w g j _ _ v h
 rw [List.setIfInBounds_toArray] at this
 exact this
theorem TRow.cell {w : World} {g : Nat} {t : TypeId} {xs : List Value} (h : TRow w g t xs) {j : Nat} {x : Value} (hj : xs[j]? = some x) : w.cell? ⟨g, j, none⟩ = some x := by
 rw [cell_of_row _ _ _ _ _ _ h]
 simpa using hj
theorem TRow.frozen {w : World} {g : Nat} {t : TypeId} {xs : List Value} (h : TRow w g t xs) (j : Nat) : w.frozen? ⟨g, j, none⟩ = false := frozen_of_row _ _ _ _ _ h
theorem TRow.kept {w w' : World} {g : Nat} {t : TypeId} {xs : List Value} {r : Option Nat} (h : TRow w g t xs) (k : w.grownBy w' r) (hr : some g ≠ r) : TRow w' g t xs := kept_row h k hr
theorem TRow.lt {w : World} {g : Nat} {t : TypeId} {xs : List Value} (h : TRow w g t xs) : g < w.heap.size := by
 unfold TRow at h
 rcases Nat.lt_or_ge g w.heap.size with h1 | h1
 ·exact h1
 ·rw [Array.getElem?_eq_none h1] at h; cases h
theorem hasR_range {R : List Rt} {x : Int} (hid : R.any wrId = false) (h : hasR R x = true) : 1 ≤ x ∧ x ≤ 99 := by
 obtain ⟨r, hr, e⟩ := List.any_eq_true.1 h
 rw [decide_eq_true_eq] at e
 subst e
 have := List.any_eq_false.1 hid r hr
 unfold wrId at this
 simpa using this
end Go.Proofs.YtpogblengagpaaaGreatDoor

/- empty -/
namespace Go.Proofs.YtpogblengagpaaaGreatDoor
set_option maxRecDepth 100000
end Go.Proofs.YtpogblengagpaaaGreatDoor

/- topology: Check, valid. -/
namespace Go.Proofs.YtpogblengagpaaaGreatDoor
set_option maxRecDepth 100000
open Go.RowKit Bs
structure CK (w : World) (T : Tg) (wr : World) : Prop where
 box : wr.heap[w.heap.size]? = some (.cells #[.slice T.pR T.R.length T.cR, .slice T.pL T.L.length T.cL] 68 (0, 0))
 gr : w.grownBy wr none
 ok : TgOk wr (fun _ => True) T
theorem CK.keep {w wr w' : World} {T : Tg} (h : CK w T wr) (g : wr.grownBy w' none) : CK w T w' := ⟨kept_row h.box g (by simp), grown_trans h.gr g, h.ok.keep g⟩
theorem CK.start {w : World} {q : Nat → Prop} {T : Tg} (h : TgOk w q T) : CK w T (w.alloc (.cells #[.slice T.pR T.R.length T.cR, .slice T.pL T.L.length T.cL] 68)) :=
 have k := World.grownBy_alloc w (.cells #[.slice T.pR T.R.length T.cR, .slice T.pL T.L.length T.cL] 68) none
 ⟨heap_alloc_new w _, k, (h.mono fun _ _ => trivial).keep k⟩
def okT (R : List Rt) (L : List Lk) : Bool := chk R L == 0
end Go.Proofs.YtpogblengagpaaaGreatDoor

/- topology: neighbours. -/
namespace Go.Proofs.YtpogblengagpaaaGreatDoor
set_option maxRecDepth 100000
open Go.RowKit Bs
def tv (z : Int) : Value := .int .i64 z
def nb1 (x : Int) (l : Lk) : List Int := (if l.b = x then [l.a] else []) ++ (if l.a = x then [l.b] else [])
def nbL (L : List Lk) (x : Int) : List Int := L.flatMap (nb1 x)
structure NK (w : World) (v : Value) (l : List Int) (wr : World) : Prop where
 own : wr.ownsRow w.heap.size 3 1 v l.length (l.map tv)
 gr : w.grownBy wr none
theorem NK.keep {w wr w' : World} {v : Value} {l : List Int} (h : NK w v l wr) (g : wr.grownBy w' none) : NK w v l w' :=
 ⟨h.own.kept g (by cases hv : v.ownBlock <;> simp), grown_trans h.gr g⟩
theorem NK.more {w wr wy w1 : World} {v v' : Value} {l : List Int} {x : Int} {o : Obj} (h : NK w v l wr) (g : wr.grownBy wy none) (hown' : w1.ownsRow w.heap.size 3 1 v' (l.length + 1) (l.map tv ++ [.int .i64 x])) (hg : (wy.alloc o).grownBy w1 v.ownBlock) :
  NK w v' (l ++ [x]) w1 ∧ (∀ b ob, wr.heap.size ≤ b → wy.heap[b]? = some ob → w1.heap[b]? = some ob) := by
 have hy := h.keep g
 refine ⟨⟨?_, own_step hy.gr hy.own hg⟩, fun b ob hb he => ?_⟩
 ·rw [List.length_append, List.map_append]; exact hown'
 ·have k0 := World.grownBy_alloc wy o none
  refine kept_row (kept_row he k0 (by simp)) hg (fun e => ?_)
  have := (h.own.lt b e.symm).2
  omega
def TRet (l : List Int) (w : World) (e : Ending) (w' : World) : Prop := ∃ p c, e = .returned (.slice p l.length c) ∧ Rd w' (w.heap.size ≤ ·) (.slice p l.length c) (l.map tv) ∧ (l.length ≤ c ∧ c ≤ 9223372036854775807) ∧ (p = none → c = 0) ∧ w.grownBy w' none
theorem NK.ret {w wr : World} {v : Value} {l : List Int} (h : NK w v l wr) : ∃ p c, v = .slice p l.length c ∧ Rd wr (w.heap.size ≤ ·) (.slice p l.length c) (l.map tv) ∧ (l.length ≤ c ∧ c ≤ 9223372036854775807) ∧ (p = none → c = 0) ∧ w.grownBy wr none := by
 have hr := rd_of_own h.own
 rcases Joins.ownsRow_forms h.own with ⟨e, e0⟩ | ⟨g, cap, e⟩
 ·subst e
  obtain rfl := List.eq_nil_of_length_eq_zero e0
  exact ⟨none, 0, rfl, hr, ⟨Nat.le_refl _, by omega⟩, fun _ => rfl, h.gr⟩
 ·subst e
  have := own_cap h.own
  unfold maxLen at this
  exact ⟨_, cap, rfl, hr, ⟨this.1, by omega⟩, (fun e => by cases e), h.gr⟩
end Go.Proofs.YtpogblengagpaaaGreatDoor

/- topology: Contains of numbers and of hops; the closures of Without. -/
namespace Go.Proofs.YtpogblengagpaaaGreatDoor
set_option maxRecDepth 100000
open Go.RowKit Bs
structure Hp where
 f : Int
 t : Int
def hasI (X : List Int) (x : Int) : Bool := X.any fun y => decide (y = x)
end Go.Proofs.YtpogblengagpaaaGreatDoor
