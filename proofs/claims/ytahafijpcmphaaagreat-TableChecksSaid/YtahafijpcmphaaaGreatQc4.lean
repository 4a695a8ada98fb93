/- Parts of the proof, packed: ToRws, ToCpy, ToBs, ToOrdM, ToWoM, ToLkM. -/
import Derived.Test.YtahafijpcmphaaaGreatQc3
import Derived.Test.YtahafijpcmphaaaGreatQc1
import Derived.ArgAppend
import Derived.Laws.IdiomCopy
import Derived.Laws.BitsLemmas
import Derived.Deep.AppendLies
import Derived.Deep.CutBlock
/- Rows of structs: parts of them, and append. -/
namespace Go.Proofs.YtahafijpcmphaaaGreat
set_option maxRecDepth 100000
open Go.RowKit Bs
theorem hold_on {p : Prop} (h : Hid p) : p := h.out
theorem flat_drop {α : Type} (f : α → List Value) (k : Nat) (hf : ∀ x, (f x).length = k) : ∀ (l : List α) (j : Nat), (l.drop j).flatMap f = (l.flatMap f).drop (j * k)
 | [], j => by simp
 | a :: t, 0 => by simp
 | a :: t, j + 1 => by
  rw [List.drop_succ_cons, flat_drop f k hf t j, List.flatMap_cons, Nat.add_mul, Nat.one_mul, Nat.add_comm, ← List.drop_drop, List.drop_append_of_le_length (by rw [hf]; exact Nat.le_refl _), ← hf a, List.drop_length, List.nil_append]
theorem flat_take {α : Type} (f : α → List Value) (k : Nat) (hf : ∀ x, (f x).length = k) : ∀ (l : List α) (j : Nat), (l.take j).flatMap f = (l.flatMap f).take (j * k)
 | [], j => by simp
 | a :: t, 0 => by simp
 | a :: t, j + 1 => by
  rw [List.take_succ_cons, List.flatMap_cons, flat_take f k hf t j, List.flatMap_cons, List.take_append, hf, List.take_of_length_le (l := f a) (by rw [hf, Nat.add_mul]; omega), Nat.add_mul, Nat.one_mul, Nat.add_sub_cancel]
theorem RdF.part {α : Type} {f : α → List Value} {k : Nat} (hf : ∀ x, (f x).length = k) {w : World} {q : Nat → Prop} {p : Option Addr} {c : Nat} {l : List α} (h : RdF w q (.slice p l.length c) l.length (l.flatMap f)) (j : Nat) (hj : j ≤ l.length) (c' : Nat) :
  RdF w q (.slice p j c') (l.take j).length ((l.take j).flatMap f) := by
 obtain ⟨p1, c1, e1, hx⟩ := h
 injection e1 with a1 a2 a3
 subst a1
 have hlen : (l.take j).length = j := by rw [List.length_take]; omega
 rw [hlen]
 refine ⟨p, c', rfl, fun hne => ?_⟩
 rw [flat_take f k hf] at hne ⊢
 obtain ⟨b, off, hp, hq, hc⟩ := hx (by intro e; rw [e] at hne; simp at hne)
 refine ⟨b, off, hp, hq, fun i x hi => hc i x ?_⟩
 rw [List.getElem?_take] at hi
 split at hi
 ·exact hi
 ·cases hi
theorem RdF.rest {α : Type} {f : α → List Value} {k : Nat} (hf : ∀ x, (f x).length = k) {w : World} {q : Nat → Prop} {b off c : Nat} {l : List α} (h : RdF w q (.slice (some ⟨b, off, none⟩) l.length c) l.length (l.flatMap f)) (j : Nat) (c' : Nat) :
  RdF w q (.slice (some ⟨b, off + j * k, none⟩) (l.length - j) c') (l.drop j).length ((l.drop j).flatMap f) := by
 obtain ⟨p1, c1, e1, hx⟩ := h
 injection e1 with a1 a2 a3
 subst a1
 have hlen : (l.drop j).length = l.length - j := by rw [List.length_drop]
 rw [hlen]
 refine ⟨_, c', rfl, fun hne => ?_⟩
 rw [flat_drop f k hf] at hne ⊢
 obtain ⟨b1, off1, hp, hq, hc⟩ := hx (by intro e; rw [e] at hne; simp at hne)
 injection hp with hp
 injection hp with hb ho
 subst hb
 subst ho
 refine ⟨b, off + j * k, rfl, hq, fun i x hi => ?_⟩
 rw [List.getElem?_drop] at hi
 rw [Nat.add_assoc]
 exact hc _ x hi
theorem rdf_news {w : World} {q : Nat → Prop} {ad : Addr} {n c m : Nat} {xs : List Value} (hR : RdF w q (.slice (some ad) n c) m xs) : ∀ j u, xs[j]? = some u → w.cell? (ad.add j) = some u := by
 intro j u hj
 obtain ⟨p1, c1, e1, hx⟩ := hR
 injection e1 with a1 a2 a3
 subst a1
 obtain ⟨b, off, hp, hq, hc⟩ := hx (by intro e; rw [e] at hj; simp at hj)
 injection hp with hp
 subst hp
 rw [add_plain]
 exact hc j u hj
theorem rdf_one {w : World} {b off n : Nat} {xs : List Value} (q : Nat → Prop) (hq : q b) (h : ∀ j u, xs[j]? = some u → w.cell? ((⟨b, off, none⟩ : Addr).add j) = some u) (c : Nat) : RdF w q (.slice (some ⟨b, off, none⟩) n c) n xs :=
 ⟨_, c, rfl, fun _ => ⟨b, off, rfl, hq, fun i x hi => by have := h i x hi; rw [add_plain] at this; exact this⟩⟩
theorem wpList_append_f {α : Type} (f : α → List Value) (size bytes : Nat) (hsz : 0 < size) (hf : ∀ x, (f x).length = size) (hone : ∀ x, ∀ u ∈ f x, u.oneCell' = true) (e t : TypeId) (i : TypeInfo) (z : Value)
  (ht : Tryz.prog.underlying t = some (.slice e)) (hi : Tryz.prog.info? e = some i) (hz : i.zero = some z) (hsize : i.size = size) (hby : i.bytes = bytes) (hzs : z.cells.size = size) (hb40 : bytes ≤ 1000)
  {w : World} {ops : Array Oper} {rest : List Oper} {o : Oper} {a : Act} {Q : Exit → Act → World → Prop} (hgd : o.guard = none) (s x : Operand)
  (ho : o.op = .call { callee := .builtin .append, args := #[s, x], argTypes := #[t, t] }) (base : Nat) (v : Value) (l : List α) (n : Nat) (hn : n = l.length) (hs : a.eval s = v) (hown : w.ownsRow base e size v n (l.flatMap f))
  (p : Option Addr) (k c : Nat) (r : List α) (hx : a.eval x = .slice p k c) (hk : k = r.length) (hn0 : p = none → c = 0) (q : Nat → Prop) (hR : RdF w q (.slice p k c) r.length (r.flatMap f)) (hkc : k ≤ c) (h63 : n + r.length ≤ 100000) (hbase : base ≤ w.heap.size)
  (h : ∀ v' w', w'.ownsRow base e size v' (l ++ r).length ((l ++ r).flatMap f) → w.grownBy w' v.ownBlock → wpList Tryz.prog ops Q rest (a.put o.dst v') w') : wpList Tryz.prog ops Q (o :: rest) a w := by
 subst hn
 cases p with
 | none =>
  obtain rfl := hn0 rfl
  have hr : r.length = 0 := by omega
  obtain rfl := List.eq_nil_of_length_eq_zero hr
  obtain rfl : k = 0 := hk
  refine wpList_append_own_none hgd s x t ho base e i size ht hi v l.length (l.flatMap f) hs hown hx ?_
  refine h v w ?_ (grown_refl _ _)
  rw [List.append_nil]; exact hown
 | some ad =>
  have hb2 : (l.length + k) * bytes ≤ 140737488355328 := Nat.le_trans (Nat.mul_le_mul (show l.length + k ≤ 100000 by omega) hb40) (by decide)
  refine wpList_append_own w hgd s x t ho base e i z size bytes ht hi hz hsize hby hzs hsz v l.length (l.flatMap f) hs hown ad k c (r.flatMap f) hx (by rw [flat_len f size hf, hk]) (rdf_news hR) ?_ (by unfold maxLen; omega) hb2 hbase ?_
  ·intro u hu
   obtain ⟨y, _, hy⟩ := List.mem_flatMap.1 hu
   exact hone y u hy
  ·intro v' w' h1 h2 _
   refine h v' w' ?_ h2
   rw [List.length_append, List.flatMap_append, ← hk]; exact h1
theorem own_apartF {w w1 : World} {base base2 size size2 : Nat} {e e2 : TypeId} {v v2 : Value} {n m : Nat} {xs ys : List Value} (h : w.ownsRow base e size v n xs) (hv : w.ownsRow base2 e2 size2 v2 m ys) (hg : ∀ g, v.ownBlock = some g → g < base2) (k : w.grownBy w1 v2.ownBlock) : w1.ownsRow base e size v n xs := by
 refine h.kept k ?_
 cases hb : v.ownBlock with
 | none => exact .inl rfl
 | some g =>
  refine .inr fun e => ?_
  have := (hv.lt g e.symm).1
  have := hg g hb
  omega
theorem old_grow {w w1 : World} {base2 size2 : Nat} {e2 : TypeId} {v2 : Value} {m : Nat} {ys : List Value} {W : World} (g : W.grownBy w none) (hv : w.ownsRow base2 e2 size2 v2 m ys) (hb : W.heap.size ≤ base2) (k : w.grownBy w1 v2.ownBlock) : W.grownBy w1 none :=
 grown_any g k (fun b hlt e => by have := (hv.lt b e.symm).1; omega)
theorem lk_one (x : Lk) : ∀ u ∈ lkC x, u.oneCell' = true := by
 intro u hu
 simp [lkC] at hu
 rcases hu with rfl | rfl | rfl | rfl | rfl <;> rfl
end Go.Proofs.YtahafijpcmphaaaGreat

/- copy, clear, append within a row of structs of the call's own; append of zeros. -/
namespace Go.Proofs.YtahafijpcmphaaaGreat
set_option maxRecDepth 100000
open Go.RowKit Bs
def setAt (xs : List Value) (o : Nat) : List Value → List Value
 | [] => xs
 | v :: r => setAt (xs.set o v) (o + 1) r
theorem setAt_len : ∀ (vs : List Value) (o : Nat) (xs : List Value), (setAt xs o vs).length = xs.length
 | [], _, _ => rfl
 | v :: r, o, xs => by
  show (setAt (xs.set o v) (o + 1) r).length = _
  rw [setAt_len r, List.length_set]
theorem setAt_get : ∀ (vs : List Value) (o : Nat) (xs : List Value) (j : Nat), o + vs.length ≤ xs.length → (setAt xs o vs)[j]? = if o ≤ j ∧ j < o + vs.length then vs[j - o]? else xs[j]?
 | [], o, xs, j, _ => by
  rw [if_neg (by simp only [List.length_nil]; omega)]
  rfl
 | v :: r, o, xs, j, h => by
  rw [List.length_cons] at h ⊢
  show (setAt (xs.set o v) (o + 1) r)[j]? = _
  rw [setAt_get r (o + 1) (xs.set o v) j (by rw [List.length_set]; omega), List.getElem?_set]
  by_cases h1 : j = o
  ·subst h1
   rw [if_neg (by omega), if_pos rfl, if_pos (by omega), if_pos (by omega), Nat.sub_self]
   rfl
  ·by_cases h2 : o + 1 ≤ j ∧ j < o + 1 + r.length
   ·rw [if_pos h2, if_pos (by omega), show j - o = (j - (o + 1)) + 1 by omega]
    rfl
   ·rw [if_neg h2, if_neg (by omega), if_neg (by omega)]
theorem own_setCells {base size n cap g : Nat} {e : TypeId} : ∀ (vs : List Value) (o : Nat) (w : World) (xs : List Value), w.ownsRow base e size (.slice (some ⟨g, 0, none⟩) n cap) n xs → (w.setCells g o vs).ownsRow base e size (.slice (some ⟨g, 0, none⟩) n cap) n (setAt xs o vs) ∧ w.grownBy (w.setCells g o vs) (some g)
 | [], _, w, xs, h => ⟨h, grown_refl _ _⟩
 | v :: r, o, w, xs, h => by
  obtain ⟨s1, s2⟩ := h.stored o v
  obtain ⟨i1, i2⟩ := own_setCells r (o + 1) _ _ s1
  exact ⟨i1, grown_trans s2 i2⟩
theorem own_len {w : World} {base size n cap g : Nat} {e : TypeId} {xs : List Value} (h : w.ownsRow base e size (.slice (some ⟨g, 0, none⟩) n cap) n xs) (m : Nat) (hm : m ≤ cap) : ∃ ys, ys.take (min n m * size) = xs.take (min n m * size) ∧ w.ownsRow base e size (.slice (some ⟨g, 0, none⟩) m cap) m ys := by
 rcases h.2 with ⟨e1, _⟩ | ⟨g', cap', cur, e1, hb, hg, hn, hcm, hcs, ht⟩
 ·cases e1
 ·injection e1 with e2 e3 e4
  injection e2 with e2
  injection e2 with e5 e6
  subst e5
  subst e4
  refine ⟨cur.toList.take (m * size), ?_, ?_, .inr ⟨g, cap, cur, rfl, hb, hg, hm, hcm, hcs, rfl⟩⟩
  ·rw [← ht, List.take_take, List.take_take]
   have h1 : min n m * size ≤ m * size := Nat.mul_le_mul_right _ (Nat.min_le_right _ _)
   have h2 : min n m * size ≤ n * size := Nat.mul_le_mul_right _ (Nat.min_le_left _ _)
   rw [Nat.min_eq_left h1, Nat.min_eq_left h2]
  ·rw [List.length_take, Array.length_toList, hcs]
   have := Nat.mul_le_mul_right size hm
   omega
theorem own_cellOk {w : World} {base size n cap g : Nat} {e : TypeId} {xs : List Value} (h : w.ownsRow base e size (.slice (some ⟨g, 0, none⟩) n cap) n xs) (j : Nat) (hj : j < cap * size) : (w.cell? ⟨g, j, none⟩).isSome = true ∧ w.frozen? ⟨g, j, none⟩ = false := by
 obtain ⟨ys, -, hy⟩ := own_len h cap (Nat.le_refl _)
 refine ⟨?_, hy.frozenAt j⟩
 rw [hy.cellAt j hj, List.getElem?_eq_getElem (by rw [hy.1]; exact hj)]
 rfl
section
variable {e t : TypeId} {i : TypeInfo} (ht : Tryz.prog.underlying t = some (.slice e)) (hi : Tryz.prog.info? e = some i)
include ht hi
theorem run_clear_k (w : World) (ty : TypeId) (z : Value) (hz : i.zero = some z) (h1 : ∀ v ∈ (Builtin.zeroCells z.cells 1).toList, v.oneCell' = true) (b o c : Nat)
  (hc : ∀ j, j < (Builtin.zeroCells z.cells 1).toList.length → (w.cell? ⟨b, o + j, none⟩).isSome = true) (hf : ∀ j, j < (Builtin.zeroCells z.cells 1).toList.length → w.frozen? ⟨b, o + j, none⟩ = false) :
  (Builtin.clear_ #[t] ty #[.slice (some ⟨b, o, none⟩) 1 c]).run Tryz.prog w = .ok (.tuple #[]) (w.setCells b o (Builtin.zeroCells z.cells 1).toList) := by
 have hst := run_storeCells_cells (P := Tryz.prog) b o (Builtin.zeroCells z.cells 1).toList 0 w (by simpa using hc) (by simpa using hf) h1
 simp only [Nat.add_zero] at hst
 simp [Builtin.clear_, run_underlying ht, typeInfo, zeroValue, hi, hz, hst]
end
section
variable {ops : Array Oper} {rest : List Oper} {o : Oper} {a : Act} {w : World} {K : Act → World → Prop} {Q : Exit → Act → World → Prop} {E : Prop}
theorem wpList_clear_run (hgd : o.guard = none) (x : Operand) (t : TypeId) (ho : o.op = .call { callee := .builtin .clear, args := #[x], argTypes := #[t] }) (vx : Value) (hx : a.eval x = vx)
  {v' : Value} {w' : World} (hr : (Builtin.clear_ #[t] o.type #[vx]).run Tryz.prog w = .ok v' w') (h : wpList Tryz.prog ops Q rest (a.put o.dst v') w') : wpList Tryz.prog ops Q (o :: rest) a w := by
 refine wpList_plain hgd fun K' hK => ?_
 unfold Oper.wp execOp
 simp only [ho, resolve, invoke, builtin, Sem.run_bind, Sem.run_pure, Result.andThen_ok, List.map_toArray, List.map_cons, List.map_nil, hx, hr]
 exact hK _ _ h
theorem step_append_run (hgd : o.guard = none) (s x : Operand) (t tn : TypeId) (ho : o.op = .call { callee := .builtin .append, args := #[s, x], argTypes := #[t, tn] }) (vs vx : Value) (hs : a.eval s = vs) (hx : a.eval x = vx)
  {v' : Value} {w' : World} (hr : (Builtin.append_ #[t, tn] o.type #[vs, vx]).run Tryz.prog w = .ok v' w') (h : K (a.put o.dst v') w') : if Region.wanted o (yielded ops a.tmps) = true then Oper.wp Tryz.prog o a w K Q else E := by
 have hw : Region.wanted o (yielded ops a.tmps) = true := by simp [Region.wanted, hgd]
 rw [if_pos hw]
 unfold Oper.wp execOp
 simp only [ho, resolve, invoke, builtin, Sem.run_bind, Sem.run_pure, Result.andThen_ok, List.map_toArray, List.map_cons, List.map_nil, hs, hx, hr]
 exact h
end
end Go.Proofs.YtahafijpcmphaaaGreat

/- slices.BinarySearchFunc, for routers and for links. -/
namespace Go.Proofs.YtahafijpcmphaaaGreat
set_option maxRecDepth 100000
open Go.RowKit Bs
structure BsP {α : Type} (s : α → α → Int) (R : List α) (t : α) (i : Nat) (b : Bool) : Prop where
 le : i ≤ R.length
 lo : ∀ x, 0 < i → R[i - 1]? = some x → s x t < 0
 hi : ∀ x, R[i]? = some x → 0 ≤ s x t
 eq : b = (match R[i]? with | some x => s x t == 0 | none => false)
def BsPost {α : Type} (s : α → α → Int) (R : List α) (t : α) (w : World) (e : Ending) (w' : World) : Prop := ∃ (i : Nat) (b : Bool), e = .returned (.tuple #[.int .i64 (i : Int), .bool b]) ∧ Hid (BsP s R t i b) ∧ w.grownBy w' none
def cvR (x t : Rt) : Int := cmpV x.id t.id
set_option maxHeartbeats 3200000 in
theorem bsR_any (R : List Rt) (t : Rt) (p : Option Addr) (c : Nat) (q : Nat → Prop) (w : World) (hR : RdR w q (.slice p R.length c) R) (hm : R.length ≤ 1000000) :
  Calls Tryz.prog 123 #[.slice p R.length c, .agg #[.int .i64 t.id, .bool t.cap], .func (.func 124) #[] #[]] w fun e w' => BsPost cvR R t w e w' := by
 have eg : EnterF 124 := enters_of Tryz.func124 (by kernel_rfl) rfl
 obtain ⟨k1, k2⟩ := tone_box w #[.int .i64 t.id, .bool t.cap] 92
 have HB := Lib.hid (And.intro k1 (And.intro k2 (hR.keep k2)))
 clear k1 k2 hR
 go_enter Tryz.func123, Tryz.ntmps123
 go_upto_region 1 with fail
 generalize w.alloc _ = wa at *
 have GZ : Hid (wa.grownBy wa none) := Lib.hid (grown_refl _ _)
 go_wp2_with fail
 go_loopw [9, 10] (fun vi vj wr => ∃ I J : Nat, I ≤ J ∧ J ≤ R.length ∧ vi = .int .i64 (I : Int) ∧ vj = .int .i64 (J : Int) ∧ Hid ((∀ x, 0 < I → R[I - 1]? = some x → cvR x t < 0) ∧ ∀ x, R[J]? = some x → 0 ≤ cvR x t) ∧ Hid (wa.grownBy wr none)) (fun vi vj _ => ((RowKit.intOf vj) - (RowKit.intOf vi)).toNat)
 case atStart => exact ⟨0, R.length, Nat.zero_le _, Nat.le_refl _, rfl, rfl, Lib.hid ⟨fun x h => by omega, fun x h => by rw [List.getElem?_eq_none (Nat.le_refl _)] at h; cases h⟩, GZ⟩
 case round =>
 obtain ⟨I, J, hIJ, hJ, rfl, rfl, HI, G⟩ := hrel
 clear GZ
 by_cases hlt : I < J
 ·have hlt' : (I : Int) < (J : Int) := by omega
  obtain ⟨h, hh⟩ : ∃ h, (I + J) / 2 = h := ⟨_, rfl⟩
  have h1 : I ≤ h := by omega
  have h2 : h < J := by omega
  have hsum : (I : Int) + (J : Int) ≤ 2000000 := by omega
  go_upto_region 4 with fail
  go_cut [11] from 18 to 23 (fun v wx => v = .int .i64 (h : Int) ∧ wr = wx)
  case first =>
   go_wp2_with fail
   go_meet
   exact ⟨congrArg _ (by omega), rfl⟩
  case rest =>
  obtain ⟨rfl, rfl⟩ := hcut
  clear hh hsum
  obtain ⟨-, b, off, rfl, -, -⟩ := rdr_cells (R := R) (HB.out.2.2.keep G.out) (by omega)
  obtain ⟨y, hy⟩ : ∃ y, R[h]? = some y := ⟨_, List.getElem?_eq_getElem (by omega)⟩
  have HC : ∀ u, Hid (wa.grownBy u none) → u.cell? ⟨b, off + h * 2, none⟩ = some (.int .i64 y.id) ∧ u.cell? ⟨b, off + h * 2 + 1, none⟩ = some (.bool y.cap) := fun u hu => by
   obtain ⟨-, b', off', e, -, hc⟩ := rdr_cells (R := R) (HB.out.2.2.keep hu.out) (by omega)
   injection e with e
   injection e with e4 e5
   subst e4
   subst e5
   exact hc h y hy
  have HCH := Lib.hid HC
  have HY := Lib.hid hy
  have i0 : (0 : Int) ≤ (h : Int) := by omega
  have i1 : (h : Int) < (R.length : Int) := by omega
  obtain ⟨z, hz⟩ : ∃ z, cvR y t = z := ⟨_, rfl⟩
  have HZ := Lib.hid hz
  clear HC hy hz
  go_upto_region 5 with fail
  by_cases hzn : z < 0
  ·have hzd : decide (z < 0) = true := decide_eq_true hzn
   refine wp_region_held_drew (S := fun w' => Hid (wa.grownBy w' none)) (by kernel_rfl) (Lib.hid (grown_drew G.out)) (fun hHeld => ?_)
   refine wpAnyH_take (i := 0) (oi := { dst := some 24, op := Op.move (Operand.tmp 2), type := 136, pos := _, after := _, guard := none }) (v := ?_) rfl (by kernel_rfl) (by kernel_rfl) (by kernel_rfl) (fun _ _ _ h => h) (Or.inl ⟨by rfl, ?_⟩) hHeld ?_
   rotate_left 1
   ·intro u hSu
    go_simp
    first | done | with_reducible rfl
   (try simp only [Act.put, zA, zB, zC])
   refine wpAnyH_take (i := 1) (oi := { dst := some 25, op := Op.move (Operand.tmp 0), type := 42, pos := _, after := _, guard := none }) (v := ?_) rfl (by kernel_rfl) (by kernel_rfl) (by kernel_rfl) (fun _ _ _ h => h) (Or.inl ⟨by rfl, ?_⟩) hHeld ?_
   rotate_left 1
   ·intro u hSu
    go_simp
    first | done | with_reducible rfl
   (try simp only [Act.put, zA, zB, zC])
   refine wpAnyH_take (i := 2) (oi := { dst := some 26, op := Op.move (Operand.tmp 11), type := 3, pos := _, after := _, guard := none }) (v := ?_) rfl (by kernel_rfl) (by kernel_rfl) (by kernel_rfl) (fun _ _ _ h => h) (Or.inl ⟨by rfl, ?_⟩) hHeld ?_
   rotate_left 1
   ·intro u hSu
    go_simp
    first | done | with_reducible rfl
   (try simp only [Act.put, zA, zB, zC])
   refine wpAnyH_take (i := 3) (oi := { dst := some 27, op := Op.indexAddr 42 (Operand.tmp 25) (Operand.tmp 26), type := 0, pos := _, after := _, guard := none }) (v := ?_) rfl (by kernel_rfl) (by kernel_rfl) (by kernel_rfl) (fun _ _ _ h => h) (Or.inl ⟨by rfl, ?_⟩) hHeld ?_
   rotate_left 1
   ·intro u hSu
    go_simp
    first | done | with_reducible rfl
   (try simp only [Act.put, zA, zB, zC])
   refine wpAnyH_take (i := 4) (oi := { dst := some 28, op := Op.load 92 (Operand.tmp 27), type := 92, pos := _, after := _, guard := none }) (v := ?_) rfl (by kernel_rfl) (by kernel_rfl) (by kernel_rfl) (fun _ _ _ h => h) (Or.inl ⟨by rfl, ?_⟩) hHeld ?_
   rotate_left 1
   ·intro u hSu
    obtain ⟨q0, q1⟩ := HCH.out _ hSu
    obtain ⟨q5, q6⟩ := rt_facts (kept_row HB.out.1 hSu.out (by simp))
    go_simp
    first | done | with_reducible rfl
   (try simp only [Act.put, zA, zB, zC])
   refine wpAnyH_take (i := 5) (oi := { dst := some 29, op := Op.load 92 (Operand.tmp 4), type := 92, pos := _, after := _, guard := none }) (v := ?_) rfl (by kernel_rfl) (by kernel_rfl) (by kernel_rfl) (fun _ _ _ h => h) (Or.inl ⟨by rfl, ?_⟩) hHeld ?_
   rotate_left 1
   ·intro u hSu
    obtain ⟨q0, q1⟩ := HCH.out _ hSu
    obtain ⟨q5, q6⟩ := rt_facts (kept_row HB.out.1 hSu.out (by simp))
    go_simp
    first | done | with_reducible rfl
   (try simp only [Act.put, zA, zB, zC])
   refine wpAnyH_ready (rs := [6]) (by kernel_rfl) (by simp) ?_
   refine AllReadyH.cons (o := { dst := some 30, op := Op.call { callee := Callee.value (Operand.tmp 24), args := #[Operand.tmp 28, Operand.tmp 29], argTypes := #[92, 92] }, type := 3, pos := _, after := _, guard := none }) rfl (fun Kz hK => ?_) AllReadyH.nil
   go_simp
   go_at_call 124
   refine (tcmpid_any y t _).mono ?_
   rintro e w5 ⟨rfl, hg⟩
   have hz2 := HZ.out
   unfold cvR at hz2
   rw [hz2]
   clear hz2
   refine hK.out _ _ (Lib.hid (grown_trans hHeld.out hg)) (fun hH2 => ?_)
   clear hK Kz hHeld
   have hHeld := hH2
   clear hH2
   (try simp only [Act.put, zA, zB, zC])
   refine wpAnyH_take (i := 7) (oi := { dst := some 31, op := Op.binOp BinOp.lss 3 (Operand.tmp 30) (Operand.const (Value.int IntKind.i64 0)) 3, type := 4, pos := _, after := _, guard := none }) (v := (.bool true)) rfl (by kernel_rfl) (by kernel_rfl) (by kernel_rfl) (fun _ _ _ h => h) (Or.inl ⟨by rfl, ?_⟩) hHeld ?_
   ·intro u hSu
    go_simp
    first | done | with_reducible rfl | (simp [hzd]; done) | exact hzd
   (try simp only [Act.put, zA, zB, zC])
   refine wpAnyH_done (by kernel_rfl) ?_ _
   have H9 := hHeld
   clear hHeld
   go_wp2_with fail
   exact ⟨⟨h + 1, J, by omega, hJ, congrArg _ (by omega), rfl, Lib.hid ⟨fun x _ hx => by rw [Nat.add_sub_cancel, HY.out] at hx; obtain rfl := Option.some.inj hx; rw [HZ.out]; exact hzn, HI.out.2⟩, H9⟩, by simp only [RowKit.intOf]; omega⟩
  ·have hzd : decide (z < 0) = false := decide_eq_false hzn
   refine wp_region_held_drew (S := fun w' => Hid (wa.grownBy w' none)) (by kernel_rfl) (Lib.hid (grown_drew G.out)) (fun hHeld => ?_)
   refine wpAnyH_take (i := 0) (oi := { dst := some 24, op := Op.move (Operand.tmp 2), type := 136, pos := _, after := _, guard := none }) (v := ?_) rfl (by kernel_rfl) (by kernel_rfl) (by kernel_rfl) (fun _ _ _ h => h) (Or.inl ⟨by rfl, ?_⟩) hHeld ?_
   rotate_left 1
   ·intro u hSu
    go_simp
    first | done | with_reducible rfl
   (try simp only [Act.put, zA, zB, zC])
   refine wpAnyH_take (i := 1) (oi := { dst := some 25, op := Op.move (Operand.tmp 0), type := 42, pos := _, after := _, guard := none }) (v := ?_) rfl (by kernel_rfl) (by kernel_rfl) (by kernel_rfl) (fun _ _ _ h => h) (Or.inl ⟨by rfl, ?_⟩) hHeld ?_
   rotate_left 1
   ·intro u hSu
    go_simp
    first | done | with_reducible rfl
   (try simp only [Act.put, zA, zB, zC])
   refine wpAnyH_take (i := 2) (oi := { dst := some 26, op := Op.move (Operand.tmp 11), type := 3, pos := _, after := _, guard := none }) (v := ?_) rfl (by kernel_rfl) (by kernel_rfl) (by kernel_rfl) (fun _ _ _ h => h) (Or.inl ⟨by rfl, ?_⟩) hHeld ?_
   rotate_left 1
   ·intro u hSu
    go_simp
    first | done | with_reducible rfl
   (try simp only [Act.put, zA, zB, zC])
   refine wpAnyH_take (i := 3) (oi := { dst := some 27, op := Op.indexAddr 42 (Operand.tmp 25) (Operand.tmp 26), type := 0, pos := _, after := _, guard := none }) (v := ?_) rfl (by kernel_rfl) (by kernel_rfl) (by kernel_rfl) (fun _ _ _ h => h) (Or.inl ⟨by rfl, ?_⟩) hHeld ?_
   rotate_left 1
   ·intro u hSu
    go_simp
    first | done | with_reducible rfl
   (try simp only [Act.put, zA, zB, zC])
   refine wpAnyH_take (i := 4) (oi := { dst := some 28, op := Op.load 92 (Operand.tmp 27), type := 92, pos := _, after := _, guard := none }) (v := ?_) rfl (by kernel_rfl) (by kernel_rfl) (by kernel_rfl) (fun _ _ _ h => h) (Or.inl ⟨by rfl, ?_⟩) hHeld ?_
   rotate_left 1
   ·intro u hSu
    obtain ⟨q0, q1⟩ := HCH.out _ hSu
    obtain ⟨q5, q6⟩ := rt_facts (kept_row HB.out.1 hSu.out (by simp))
    go_simp
    first | done | with_reducible rfl
   (try simp only [Act.put, zA, zB, zC])
   refine wpAnyH_take (i := 5) (oi := { dst := some 29, op := Op.load 92 (Operand.tmp 4), type := 92, pos := _, after := _, guard := none }) (v := ?_) rfl (by kernel_rfl) (by kernel_rfl) (by kernel_rfl) (fun _ _ _ h => h) (Or.inl ⟨by rfl, ?_⟩) hHeld ?_
   rotate_left 1
   ·intro u hSu
    obtain ⟨q0, q1⟩ := HCH.out _ hSu
    obtain ⟨q5, q6⟩ := rt_facts (kept_row HB.out.1 hSu.out (by simp))
    go_simp
    first | done | with_reducible rfl
   (try simp only [Act.put, zA, zB, zC])
   refine wpAnyH_ready (rs := [6]) (by kernel_rfl) (by simp) ?_
   refine AllReadyH.cons (o := { dst := some 30, op := Op.call { callee := Callee.value (Operand.tmp 24), args := #[Operand.tmp 28, Operand.tmp 29], argTypes := #[92, 92] }, type := 3, pos := _, after := _, guard := none }) rfl (fun Kz hK => ?_) AllReadyH.nil
   go_simp
   go_at_call 124
   refine (tcmpid_any y t _).mono ?_
   rintro e w5 ⟨rfl, hg⟩
   have hz2 := HZ.out
   unfold cvR at hz2
   rw [hz2]
   clear hz2
   refine hK.out _ _ (Lib.hid (grown_trans hHeld.out hg)) (fun hH2 => ?_)
   clear hK Kz hHeld
   have hHeld := hH2
   clear hH2
   (try simp only [Act.put, zA, zB, zC])
   refine wpAnyH_take (i := 7) (oi := { dst := some 31, op := Op.binOp BinOp.lss 3 (Operand.tmp 30) (Operand.const (Value.int IntKind.i64 0)) 3, type := 4, pos := _, after := _, guard := none }) (v := (.bool false)) rfl (by kernel_rfl) (by kernel_rfl) (by kernel_rfl) (fun _ _ _ h => h) (Or.inl ⟨by rfl, ?_⟩) hHeld ?_
   ·intro u hSu
    go_simp
    first | done | with_reducible rfl | (simp [hzd]; done) | exact hzd
   (try simp only [Act.put, zA, zB, zC])
   refine wpAnyH_done (by kernel_rfl) ?_ _
   have H9 := hHeld
   clear hHeld
   go_wp2_with fail
   exact ⟨⟨I, h, h1, by omega, rfl, rfl, Lib.hid ⟨HI.out.1, fun x hx => by rw [HY.out] at hx; obtain rfl := Option.some.inj hx; rw [HZ.out]; omega⟩, H9⟩, by simp only [RowKit.intOf]; omega⟩
 ·obtain rfl : I = J := by omega
  have hnl : ¬ ((I : Int) < (I : Int)) := by omega
  by_cases hn : I < R.length
  ·obtain ⟨-, b, off, rfl, -, -⟩ := rdr_cells (R := R) (HB.out.2.2.keep G.out) (by omega)
   obtain ⟨y, hy⟩ : ∃ y, R[I]? = some y := ⟨_, List.getElem?_eq_getElem hn⟩
   have HC : ∀ u, Hid (wa.grownBy u none) → u.cell? ⟨b, off + I * 2, none⟩ = some (.int .i64 y.id) ∧ u.cell? ⟨b, off + I * 2 + 1, none⟩ = some (.bool y.cap) := fun u hu => by
    obtain ⟨-, b', off', e, -, hc⟩ := rdr_cells (R := R) (HB.out.2.2.keep hu.out) (by omega)
    injection e with e
    injection e with e4 e5
    subst e4
    subst e5
    exact hc I y hy
   have HCH := Lib.hid HC
   have HY := Lib.hid hy
   have i0 : (0 : Int) ≤ (I : Int) := by omega
   have i1 : (I : Int) < (R.length : Int) := by omega
   obtain ⟨z, hz⟩ : ∃ z, cvR y t = z := ⟨_, rfl⟩
   have HZ := Lib.hid hz
   clear HC hy hz
   go_upto_region 8 with fail
   refine wp_region_held_drew (S := fun w' => Hid (wa.grownBy w' none)) (by kernel_rfl) (Lib.hid (grown_drew G.out)) (fun hHeld => ?_)
   refine wpAnyH_take (i := 0) (oi := { dst := some 35, op := Op.move (Operand.tmp 9), type := 3, pos := _, after := _, guard := none }) (v := ?_) rfl (by kernel_rfl) (by kernel_rfl) (by kernel_rfl) (fun _ _ _ h => h) (Or.inl ⟨by rfl, ?_⟩) hHeld ?_
   rotate_left 1
   ·intro u hSu
    go_simp
    first | done | with_reducible rfl
   (try simp only [Act.put, zA, zB, zC])
   refine wpAnyH_take (i := 1) (oi := { dst := some 36, op := Op.move (Operand.tmp 9), type := 3, pos := _, after := _, guard := none }) (v := ?_) rfl (by kernel_rfl) (by kernel_rfl) (by kernel_rfl) (fun _ _ _ h => h) (Or.inl ⟨by rfl, ?_⟩) hHeld ?_
   rotate_left 1
   ·intro u hSu
    go_simp
    first | done | with_reducible rfl
   (try simp only [Act.put, zA, zB, zC])
   refine wpAnyH_take (i := 2) (oi := { dst := some 37, op := Op.move (Operand.tmp 8), type := 3, pos := _, after := _, guard := none }) (v := ?_) rfl (by kernel_rfl) (by kernel_rfl) (by kernel_rfl) (fun _ _ _ h => h) (Or.inl ⟨by rfl, ?_⟩) hHeld ?_
   rotate_left 1
   ·intro u hSu
    go_simp
    first | done | with_reducible rfl
   (try simp only [Act.put, zA, zB, zC])
   refine wpAnyH_take (i := 3) (oi := { dst := some 38, op := Op.binOp BinOp.lss 3 (Operand.tmp 36) (Operand.tmp 37) 3, type := 4, pos := _, after := _, guard := none }) (v := (.bool true)) rfl (by kernel_rfl) (by kernel_rfl) (by kernel_rfl) (fun _ _ _ h => h) (Or.inl ⟨by rfl, ?_⟩) hHeld ?_
   ·intro u hSu
    go_simp
    first | done | with_reducible rfl | (simp; done) | (simp; omega)
   (try simp only [Act.put, zA, zB, zC])
   refine wpAnyH_take (i := 4) (oi := { dst := some 39, op := Op.move (Operand.tmp 38), type := 4, pos := _, after := _, guard := none }) (v := ?_) rfl (by kernel_rfl) (by kernel_rfl) (by kernel_rfl) (fun _ _ _ h => h) (Or.inl ⟨by rfl, ?_⟩) hHeld ?_
   rotate_left 1
   ·intro u hSu
    go_simp
    first | done | with_reducible rfl
   (try simp only [Act.put, zA, zB, zC])
   refine wpAnyH_take (i := 5) (oi := { dst := some 40, op := Op.move (Operand.tmp 2), type := 136, pos := _, after := _, guard := some (4, true) }) (v := ?_) rfl (by kernel_rfl) (by kernel_rfl) (by kernel_rfl) (fun _ _ _ h => h) (Or.inl ⟨by rfl, ?_⟩) hHeld ?_
   rotate_left 1
   ·intro u hSu
    go_simp
    first | done | with_reducible rfl
   (try simp only [Act.put, zA, zB, zC])
   refine wpAnyH_take (i := 6) (oi := { dst := some 41, op := Op.move (Operand.tmp 0), type := 42, pos := _, after := _, guard := some (4, true) }) (v := ?_) rfl (by kernel_rfl) (by kernel_rfl) (by kernel_rfl) (fun _ _ _ h => h) (Or.inl ⟨by rfl, ?_⟩) hHeld ?_
   rotate_left 1
   ·intro u hSu
    go_simp
    first | done | with_reducible rfl
   (try simp only [Act.put, zA, zB, zC])
   refine wpAnyH_take (i := 7) (oi := { dst := some 42, op := Op.move (Operand.tmp 9), type := 3, pos := _, after := _, guard := some (4, true) }) (v := ?_) rfl (by kernel_rfl) (by kernel_rfl) (by kernel_rfl) (fun _ _ _ h => h) (Or.inl ⟨by rfl, ?_⟩) hHeld ?_
   rotate_left 1
   ·intro u hSu
    go_simp
    first | done | with_reducible rfl
   (try simp only [Act.put, zA, zB, zC])
   refine wpAnyH_take (i := 8) (oi := { dst := some 43, op := Op.indexAddr 42 (Operand.tmp 41) (Operand.tmp 42), type := 0, pos := _, after := _, guard := some (4, true) }) (v := ?_) rfl (by kernel_rfl) (by kernel_rfl) (by kernel_rfl) (fun _ _ _ h => h) (Or.inl ⟨by rfl, ?_⟩) hHeld ?_
   rotate_left 1
   ·intro u hSu
    go_simp
    first | done | with_reducible rfl
   (try simp only [Act.put, zA, zB, zC])
   refine wpAnyH_take (i := 9) (oi := { dst := some 44, op := Op.load 92 (Operand.tmp 43), type := 92, pos := _, after := _, guard := some (4, true) }) (v := ?_) rfl (by kernel_rfl) (by kernel_rfl) (by kernel_rfl) (fun _ _ _ h => h) (Or.inl ⟨by rfl, ?_⟩) hHeld ?_
   rotate_left 1
   ·intro u hSu
    obtain ⟨q0, q1⟩ := HCH.out _ hSu
    obtain ⟨q5, q6⟩ := rt_facts (kept_row HB.out.1 hSu.out (by simp))
    go_simp
    first | done | with_reducible rfl
   (try simp only [Act.put, zA, zB, zC])
   refine wpAnyH_take (i := 10) (oi := { dst := some 45, op := Op.load 92 (Operand.tmp 4), type := 92, pos := _, after := _, guard := some (4, true) }) (v := ?_) rfl (by kernel_rfl) (by kernel_rfl) (by kernel_rfl) (fun _ _ _ h => h) (Or.inl ⟨by rfl, ?_⟩) hHeld ?_
   rotate_left 1
   ·intro u hSu
    obtain ⟨q0, q1⟩ := HCH.out _ hSu
    obtain ⟨q5, q6⟩ := rt_facts (kept_row HB.out.1 hSu.out (by simp))
    go_simp
    first | done | with_reducible rfl
   (try simp only [Act.put, zA, zB, zC])
   refine wpAnyH_ready (rs := [11]) (by kernel_rfl) (by simp) ?_
   refine AllReadyH.cons (o := { dst := some 46, op := Op.call { callee := Callee.value (Operand.tmp 40), args := #[Operand.tmp 44, Operand.tmp 45], argTypes := #[92, 92] }, type := 3, pos := _, after := _, guard := some (4, true) }) rfl (fun Kz hK => ?_) AllReadyH.nil
   go_simp
   go_at_call 124
   refine (tcmpid_any y t _).mono ?_
   rintro e w5 ⟨rfl, hg⟩
   have hz2 := HZ.out
   unfold cvR at hz2
   rw [hz2]
   clear hz2
   refine hK.out _ _ (Lib.hid (grown_trans hHeld.out hg)) (fun hH2 => ?_)
   clear hK Kz hHeld
   have hHeld := hH2
   clear hH2
   (try simp only [Act.put, zA, zB, zC])
   refine wpAnyH_take (i := 12) (oi := { dst := some 47, op := Op.binOp BinOp.eql 3 (Operand.tmp 46) (Operand.const (Value.int IntKind.i64 0)) 3, type := 4, pos := _, after := _, guard := some (4, true) }) (v := ?_) rfl (by kernel_rfl) (by kernel_rfl) (by kernel_rfl) (fun _ _ _ h => h) (Or.inl ⟨by rfl, ?_⟩) hHeld ?_
   rotate_left 1
   ·intro u hSu
    go_simp
    first | done | with_reducible rfl
   (try simp only [Act.put, zA, zB, zC])
   refine wpAnyH_take (i := 13) (oi := { dst := some 48, op := Op.pick (Operand.tmp 39) (Operand.tmp 47) (Operand.const (Value.bool false)), type := 4, pos := _, after := _, guard := none }) (v := ?_) rfl (by kernel_rfl) (by kernel_rfl) (by kernel_rfl) (fun _ _ _ h => h) (Or.inl ⟨by rfl, ?_⟩) hHeld ?_
   rotate_left 1
   ·intro u hSu
    go_simp
    first | done | with_reducible rfl
   (try simp only [Act.put, zA, zB, zC])
   refine wpAnyH_take (i := 14) (oi := { dst := some 6, op := Op.assign (Operand.tmp 35), type := 3, pos := _, after := _, guard := none }) (v := ?_) rfl (by kernel_rfl) (by kernel_rfl) (by kernel_rfl) (fun _ _ _ h => h) (Or.inl ⟨by rfl, ?_⟩) hHeld ?_
   rotate_left 1
   ·intro u hSu
    go_simp
    first | done | with_reducible rfl
   (try simp only [Act.put, zA, zB, zC])
   refine wpAnyH_take (i := 15) (oi := { dst := some 7, op := Op.assign (Operand.tmp 48), type := 4, pos := _, after := _, guard := none }) (v := ?_) rfl (by kernel_rfl) (by kernel_rfl) (by kernel_rfl) (fun _ _ _ h => h) (Or.inl ⟨by rfl, ?_⟩) hHeld ?_
   rotate_left 1
   ·intro u hSu
    go_simp
    first | done | with_reducible rfl
   (try simp only [Act.put, zA, zB, zC])
   refine wpAnyH_done (by kernel_rfl) ?_ _
   have H9 := hHeld
   clear hHeld
   go_wp2_with fail
   go_ret2
   refine ⟨I, _, rfl, Lib.hid ⟨hJ, HI.out.1, HI.out.2, ?_⟩, grown_trans HB.out.2.1 H9.out⟩
   rw [HY.out]
   simp only [HZ.out]
   try rfl
  ·obtain rfl : I = R.length := by omega
   have hn' : decide ((R.length : Int) < (R.length : Int)) = false := decide_eq_false (by omega)
   go_upto_region 8 with fail
   refine wp_region_held_drew (S := fun w' => Hid (wa.grownBy w' none)) (by kernel_rfl) (Lib.hid (grown_drew G.out)) (fun hHeld => ?_)
   refine wpAnyH_take (i := 0) (oi := { dst := some 35, op := Op.move (Operand.tmp 9), type := 3, pos := _, after := _, guard := none }) (v := ?_) rfl (by kernel_rfl) (by kernel_rfl) (by kernel_rfl) (fun _ _ _ h => h) (Or.inl ⟨by rfl, ?_⟩) hHeld ?_
   rotate_left 1
   ·intro u hSu
    go_simp
    first | done | with_reducible rfl
   (try simp only [Act.put, zA, zB, zC])
   refine wpAnyH_take (i := 1) (oi := { dst := some 36, op := Op.move (Operand.tmp 9), type := 3, pos := _, after := _, guard := none }) (v := ?_) rfl (by kernel_rfl) (by kernel_rfl) (by kernel_rfl) (fun _ _ _ h => h) (Or.inl ⟨by rfl, ?_⟩) hHeld ?_
   rotate_left 1
   ·intro u hSu
    go_simp
    first | done | with_reducible rfl
   (try simp only [Act.put, zA, zB, zC])
   refine wpAnyH_take (i := 2) (oi := { dst := some 37, op := Op.move (Operand.tmp 8), type := 3, pos := _, after := _, guard := none }) (v := ?_) rfl (by kernel_rfl) (by kernel_rfl) (by kernel_rfl) (fun _ _ _ h => h) (Or.inl ⟨by rfl, ?_⟩) hHeld ?_
   rotate_left 1
   ·intro u hSu
    go_simp
    first | done | with_reducible rfl
   (try simp only [Act.put, zA, zB, zC])
   refine wpAnyH_take (i := 3) (oi := { dst := some 38, op := Op.binOp BinOp.lss 3 (Operand.tmp 36) (Operand.tmp 37) 3, type := 4, pos := _, after := _, guard := none }) (v := (.bool false)) rfl (by kernel_rfl) (by kernel_rfl) (by kernel_rfl) (fun _ _ _ h => h) (Or.inl ⟨by rfl, ?_⟩) hHeld ?_
   ·intro u hSu
    go_simp
    first | done | with_reducible rfl | (simp; done) | (simp; omega)
   (try simp only [Act.put, zA, zB, zC])
   refine wpAnyH_take (i := 4) (oi := { dst := some 39, op := Op.move (Operand.tmp 38), type := 4, pos := _, after := _, guard := none }) (v := ?_) rfl (by kernel_rfl) (by kernel_rfl) (by kernel_rfl) (fun _ _ _ h => h) (Or.inl ⟨by rfl, ?_⟩) hHeld ?_
   rotate_left 1
   ·intro u hSu
    go_simp
    first | done | with_reducible rfl
   (try simp only [Act.put, zA, zB, zC])
   refine wpAnyH_take (i := 5) (oi := { dst := some 40, op := Op.move (Operand.tmp 2), type := 136, pos := _, after := _, guard := some (4, true) }) (v := undef) rfl (by kernel_rfl) (by kernel_rfl) (by kernel_rfl) (fun _ _ _ h => h) (Or.inr ⟨by rfl, rfl⟩) hHeld ?_
   (try simp only [Act.put, zA, zB, zC])
   refine wpAnyH_take (i := 6) (oi := { dst := some 41, op := Op.move (Operand.tmp 0), type := 42, pos := _, after := _, guard := some (4, true) }) (v := undef) rfl (by kernel_rfl) (by kernel_rfl) (by kernel_rfl) (fun _ _ _ h => h) (Or.inr ⟨by rfl, rfl⟩) hHeld ?_
   (try simp only [Act.put, zA, zB, zC])
   refine wpAnyH_take (i := 7) (oi := { dst := some 42, op := Op.move (Operand.tmp 9), type := 3, pos := _, after := _, guard := some (4, true) }) (v := undef) rfl (by kernel_rfl) (by kernel_rfl) (by kernel_rfl) (fun _ _ _ h => h) (Or.inr ⟨by rfl, rfl⟩) hHeld ?_
   (try simp only [Act.put, zA, zB, zC])
   refine wpAnyH_take (i := 8) (oi := { dst := some 43, op := Op.indexAddr 42 (Operand.tmp 41) (Operand.tmp 42), type := 0, pos := _, after := _, guard := some (4, true) }) (v := undef) rfl (by kernel_rfl) (by kernel_rfl) (by kernel_rfl) (fun _ _ _ h => h) (Or.inr ⟨by rfl, rfl⟩) hHeld ?_
   (try simp only [Act.put, zA, zB, zC])
   refine wpAnyH_take (i := 9) (oi := { dst := some 44, op := Op.load 92 (Operand.tmp 43), type := 92, pos := _, after := _, guard := some (4, true) }) (v := undef) rfl (by kernel_rfl) (by kernel_rfl) (by kernel_rfl) (fun _ _ _ h => h) (Or.inr ⟨by rfl, rfl⟩) hHeld ?_
   (try simp only [Act.put, zA, zB, zC])
   refine wpAnyH_take (i := 10) (oi := { dst := some 45, op := Op.load 92 (Operand.tmp 4), type := 92, pos := _, after := _, guard := some (4, true) }) (v := undef) rfl (by kernel_rfl) (by kernel_rfl) (by kernel_rfl) (fun _ _ _ h => h) (Or.inr ⟨by rfl, rfl⟩) hHeld ?_
   (try simp only [Act.put, zA, zB, zC])
   refine wpAnyH_take (i := 11) (oi := { dst := some 46, op := Op.call { callee := Callee.value (Operand.tmp 40), args := #[Operand.tmp 44, Operand.tmp 45], argTypes := #[92, 92] }, type := 3, pos := _, after := _, guard := some (4, true) }) (v := undef) rfl (by kernel_rfl) (by kernel_rfl) (by kernel_rfl) (fun _ _ _ h => h) (Or.inr ⟨by rfl, rfl⟩) hHeld ?_
   (try simp only [Act.put, zA, zB, zC])
   refine wpAnyH_take (i := 12) (oi := { dst := some 47, op := Op.binOp BinOp.eql 3 (Operand.tmp 46) (Operand.const (Value.int IntKind.i64 0)) 3, type := 4, pos := _, after := _, guard := some (4, true) }) (v := undef) rfl (by kernel_rfl) (by kernel_rfl) (by kernel_rfl) (fun _ _ _ h => h) (Or.inr ⟨by rfl, rfl⟩) hHeld ?_
   (try simp only [Act.put, zA, zB, zC])
   refine wpAnyH_take (i := 13) (oi := { dst := some 48, op := Op.pick (Operand.tmp 39) (Operand.tmp 47) (Operand.const (Value.bool false)), type := 4, pos := _, after := _, guard := none }) (v := ?_) rfl (by kernel_rfl) (by kernel_rfl) (by kernel_rfl) (fun _ _ _ h => h) (Or.inl ⟨by rfl, ?_⟩) hHeld ?_
   rotate_left 1
   ·intro u hSu
    go_simp
    first | done | with_reducible rfl
   (try simp only [Act.put, zA, zB, zC])
   refine wpAnyH_take (i := 14) (oi := { dst := some 6, op := Op.assign (Operand.tmp 35), type := 3, pos := _, after := _, guard := none }) (v := ?_) rfl (by kernel_rfl) (by kernel_rfl) (by kernel_rfl) (fun _ _ _ h => h) (Or.inl ⟨by rfl, ?_⟩) hHeld ?_
   rotate_left 1
   ·intro u hSu
    go_simp
    first | done | with_reducible rfl
   (try simp only [Act.put, zA, zB, zC])
   refine wpAnyH_take (i := 15) (oi := { dst := some 7, op := Op.assign (Operand.tmp 48), type := 4, pos := _, after := _, guard := none }) (v := ?_) rfl (by kernel_rfl) (by kernel_rfl) (by kernel_rfl) (fun _ _ _ h => h) (Or.inl ⟨by rfl, ?_⟩) hHeld ?_
   rotate_left 1
   ·intro u hSu
    go_simp
    first | done | with_reducible rfl
   (try simp only [Act.put, zA, zB, zC])
   refine wpAnyH_done (by kernel_rfl) ?_ _
   have H9 := hHeld
   clear hHeld
   go_wp2_with fail
   go_ret2
   refine ⟨R.length, _, rfl, Lib.hid ⟨hJ, HI.out.1, HI.out.2, ?_⟩, grown_trans HB.out.2.1 H9.out⟩
   rw [List.getElem?_eq_none (Nat.le_refl _)]

end Go.Proofs.YtahafijpcmphaaaGreat

/- Links in order, and the tape's topologies: the mathematics. -/
namespace Go.Proofs.YtahafijpcmphaaaGreat
set_option maxRecDepth 100000
open Go.RowKit Bs
def insL (O : List Lk) (y : Lk) : List Lk := O.takeWhile (fun x => ltL x y) ++ y :: O.dropWhile (fun x => ltL x y)
def ordL (L : List Lk) : List Lk := L.foldl insL []
theorem insL_cons (a : Lk) (t : List Lk) (y : Lk) : insL (a :: t) y = if ltL a y then a :: insL t y else y :: a :: t := by
 unfold insL
 rw [List.takeWhile_cons, List.dropWhile_cons]
 split <;> rfl
theorem insL_len (O : List Lk) (y : Lk) : (insL O y).length = O.length + 1 := by
 unfold insL
 rw [List.length_append, List.length_cons]
 have := congrArg List.length (List.takeWhile_append_dropWhile (p := fun x => ltL x y) (l := O))
 rw [List.length_append] at this
 omega
theorem ordL_take (L : List Lk) (k : Nat) (y : Lk) (h : L[k]? = some y) : ordL (L.take (k + 1)) = insL (ordL (L.take k)) y := by
 unfold ordL
 rw [List.take_add_one, h, List.foldl_append]
 rfl
theorem foldl_insL_len : ∀ (L O : List Lk), (L.foldl insL O).length = O.length + L.length
 | [], O => by simp
 | a :: t, O => by rw [List.foldl_cons, foldl_insL_len t, insL_len, List.length_cons]; omega
theorem ordL_len (L : List Lk) : (ordL L).length = L.length := by
 unfold ordL
 rw [foldl_insL_len]; simp
theorem insL_at (y : Lk) : ∀ (O : List Lk) (j : Nat), j ≤ O.length → (∀ i x, i < j → O[i]? = some x → ltL x y = true) → (∀ x, O[j]? = some x → ltL x y = false) → insL O y = O.take j ++ y :: O.drop j
 | [], j, hj, _, _ => by
  obtain rfl : j = 0 := by simpa using hj
  rfl
 | a :: t, 0, _, _, h2 => by
  rw [insL_cons, h2 a rfl]
  rfl
 | a :: t, j + 1, hj, h1, h2 => by
  rw [insL_cons, if_pos (h1 0 a (by omega) rfl), insL_at y t j (by simpa using hj) (fun i x hi hx => h1 (i + 1) x (by omega) (by simpa using hx)) (fun x hx => h2 x (by simpa using hx))]
  rfl
theorem mem_insL (y z : Lk) : ∀ O : List Lk, z ∈ insL O y ↔ z = y ∨ z ∈ O
 | [] => by simp [insL]
 | a :: t => by
  rw [insL_cons]
  split
  ·rw [List.mem_cons, List.mem_cons, mem_insL y z t]
   constructor
   ·rintro (h | h | h)
    ·exact .inr (.inl h)
    ·exact .inl h
    ·exact .inr (.inr h)
   ·rintro (h | h | h)
    ·exact .inr (.inl h)
    ·exact .inl h
    ·exact .inr (.inr h)
  ·simp
theorem ltL_trans {x y z : Lk} (h1 : ltL x y = true) (h2 : ltL y z = true) : ltL x z = true := by
 unfold ltL at *
 have h1 := of_decide_eq_true h1
 have h2 := of_decide_eq_true h2
 exact decide_eq_true (by omega)
def EndsNe (x y : Lk) : Prop := x.a ≠ y.a ∨ x.b ≠ y.b
theorem ltL_flip {x y : Lk} (h : ltL x y = false) (hn : EndsNe x y) : ltL y x = true := by
 unfold ltL at *
 have h := of_decide_eq_false h
 unfold EndsNe at hn
 exact decide_eq_true (by omega)
theorem insL_pair (y : Lk) : ∀ O : List Lk, O.Pairwise (fun x z => ltL x z = true) → (∀ x ∈ O, EndsNe x y) → (insL O y).Pairwise (fun x z => ltL x z = true)
 | [], _, _ => by simp [insL]
 | a :: t, hp, hn => by
  rw [insL_cons]
  obtain ⟨h1, h2⟩ := List.pairwise_cons.1 hp
  split
  ·next hlt =>
   refine List.pairwise_cons.2 ⟨fun z hz => ?_, insL_pair y t h2 (fun x hx => hn x (List.mem_cons_of_mem _ hx))⟩
   rcases (mem_insL y z t).1 hz with rfl | hz
   ·exact hlt
   ·exact h1 z hz
  ·next hlt =>
   have hya := ltL_flip (by simpa using hlt) (hn a (by simp))
   refine List.pairwise_cons.2 ⟨fun z hz => ?_, hp⟩
   rcases List.mem_cons.1 hz with rfl | hz
   ·exact hya
   ·exact ltL_trans hya (h1 z hz)
theorem foldl_insL_pair : ∀ (L O : List Lk), O.Pairwise (fun x z => ltL x z = true) → L.Pairwise EndsNe → (∀ x ∈ O, ∀ y ∈ L, EndsNe x y) → (L.foldl insL O).Pairwise (fun x z => ltL x z = true)
 | [], O, h, _, _ => h
 | a :: t, O, h, hL, hx => by
  obtain ⟨h1, h2⟩ := List.pairwise_cons.1 hL
  rw [List.foldl_cons]
  refine foldl_insL_pair t _ (insL_pair a O h (fun x hx1 => hx x hx1 a (by simp))) h2 (fun x hx1 y hy => ?_)
  rcases (mem_insL a x O).1 hx1 with rfl | h3
  ·exact h1 y hy
  ·exact hx x h3 y (List.mem_cons_of_mem _ hy)
theorem foldl_insL_mem (z : Lk) : ∀ (L O : List Lk), z ∈ L.foldl insL O ↔ z ∈ O ∨ z ∈ L
 | [], O => by simp
 | a :: t, O => by
  rw [List.foldl_cons, foldl_insL_mem z t, mem_insL, List.mem_cons]
  constructor
  ·rintro ((h | h) | h)
   ·exact .inr (.inl h)
   ·exact .inl h
   ·exact .inr (.inr h)
  ·rintro (h | h | h)
   ·exact .inl (.inr h)
   ·exact .inl (.inl h)
   ·exact .inr h
theorem ordL_mem (L : List Lk) (z : Lk) : z ∈ ordL L ↔ z ∈ L := by
 unfold ordL
 rw [foldl_insL_mem]
 simp
theorem ordL_pair (L : List Lk) (h : L.Pairwise EndsNe) : (ordL L).Pairwise (fun x z => ltL x z = true) :=
 foldl_insL_pair L [] List.Pairwise.nil h (fun x hx => by simp at hx)
theorem asc_of_pair {α : Type} (f : α → α → Bool) : ∀ l : List α, l.Pairwise (fun x z => f x z = true) → ascB f l = true
 | [], _ => rfl
 | [a], _ => rfl
 | a :: b :: t, h => by
  obtain ⟨h1, h2⟩ := List.pairwise_cons.1 h
  rw [ascB, h1 b (by simp), asc_of_pair f (b :: t) h2]
  rfl
def rts (k : Nat) : List Rt := (List.range k).map fun (i : Nat) => (⟨(i : Int) + 1, true⟩ : Rt)
theorem rts_succ (k : Nat) : rts (k + 1) = rts k ++ [⟨(k : Int) + 1, true⟩] := by
 unfold rts
 rw [List.range_succ, List.map_append]
 rfl
theorem rts_len (k : Nat) : (rts k).length = k := by unfold rts; simp
theorem rts_mem (k : Nat) (r : Rt) : r ∈ rts k ↔ ∃ i : Nat, i < k ∧ r = ⟨(i : Int) + 1, true⟩ := by
 unfold rts
 rw [List.mem_map]
 constructor
 ·rintro ⟨i, hi, rfl⟩; exact ⟨i, List.mem_range.1 hi, rfl⟩
 ·rintro ⟨i, hi, rfl⟩; exact ⟨i, List.mem_range.2 hi, rfl⟩
structure GoodL (k b a : Int) (L : List Lk) : Prop where
 ok : ∀ l ∈ L, (1 ≤ l.a ∧ l.a < l.b ∧ l.b ≤ k) ∧ wrNum l = false
 lt : ∀ l ∈ L, l.b < b ∨ (l.b = b ∧ l.a < a)
 ne : L.Pairwise EndsNe
theorem GoodL.nil (k b a : Int) : GoodL k b a [] := ⟨by simp, by simp, List.Pairwise.nil⟩
theorem GoodL.next {k b a : Int} {L : List Lk} (h : GoodL k b a L) : GoodL k b (a + 1) L := ⟨h.ok, fun l hl => by rcases h.lt l hl with h1 | h1 <;> omega, h.ne⟩
theorem GoodL.row {k b a : Int} {L : List Lk} (h : GoodL k b a L) : GoodL k (b + 1) 1 L := ⟨h.ok, fun l hl => by rcases h.lt l hl with h1 | h1 <;> omega, h.ne⟩
theorem GoodL.add {k b a : Int} {L : List Lk} (h : GoodL k b a L) (y : Lk) (ha : y.a = a) (hb : y.b = b) (h1 : 1 ≤ a) (h2 : a < b) (h3 : b ≤ k) (hw : wrNum y = false) : GoodL k b (a + 1) (L ++ [y]) := by
 refine ⟨fun l hl => ?_, fun l hl => ?_, ?_⟩
 ·rcases List.mem_append.1 hl with hl | hl
  ·exact h.ok l hl
  ·obtain rfl : l = y := by simpa using hl
   exact ⟨by omega, hw⟩
 ·rcases List.mem_append.1 hl with hl | hl
  ·rcases h.lt l hl with h4 | h4 <;> omega
  ·obtain rfl : l = y := by simpa using hl
   omega
 ·refine List.pairwise_append.2 ⟨h.ne, by simp, fun x hx z hz => ?_⟩
  obtain rfl : z = y := by simpa using hz
  unfold EndsNe
  rcases h.lt x hx with h4 | h4 <;> omega
theorem chk_good {k : Nat} {b a : Int} {L : List Lk} (h : GoodL k b a L) (hk : k ≤ 24) (hl : L.length ≤ 60) : chk (rts k) (ordL L) = 0 := by
 unfold chk
 rw [if_neg (by rw [rts_len, ordL_len]; omega), if_neg, if_neg, if_neg, if_neg, if_neg, if_neg]
 ·rw [asc_of_pair ltL _ (ordL_pair L h.ne)]
  simp
 ·rw [List.any_eq_true]
  rintro ⟨l, hl1, hw⟩
  have := (h.ok l ((ordL_mem L l).1 hl1)).1
  unfold wrEnd at hw
  have := of_decide_eq_true hw
  omega
 ·rw [List.any_eq_true]
  rintro ⟨l, hl1, hw⟩
  have := (h.ok l ((ordL_mem L l).1 hl1)).1
  have hh : ∀ x : Int, 1 ≤ x → x ≤ k → hasR (rts k) x = true := fun x h1 h2 => by
   unfold hasR
   refine List.any_eq_true.2 ⟨⟨x, true⟩, (rts_mem k _).2 ⟨(x - 1).toNat, by omega, ?_⟩, by simp⟩
   congr 1
   omega
  unfold unk at hw
  rw [hh _ this.1 (by omega), hh _ (by omega) this.2.2] at hw
  simp at hw
 ·rw [List.any_eq_true]
  rintro ⟨l, hl1, hw⟩
  rw [(h.ok l ((ordL_mem L l).1 hl1)).2] at hw
  cases hw
 ·rw [asc_of_pair ltR (rts k)]
  ·simp
  ·unfold rts
   rw [List.pairwise_map]
   exact List.pairwise_lt_range.imp (fun {a b} hab => decide_eq_true (by show (a : Int) + 1 < (b : Int) + 1; omega))
 ·rw [List.any_eq_true]
  rintro ⟨r, hr, hw⟩
  obtain ⟨i, hi, rfl⟩ := (rts_mem k r).1 hr
  have : wrId ⟨(i : Int) + 1, true⟩ = false := by
   unfold wrId
   rw [decide_eq_true (by constructor <;> (dsimp; omega))]
   rfl
  rw [this] at hw
  cases hw
def TopOf (most : Nat) (n : Int) (R : List Rt) (L : List Lk) : Prop :=
 1 ≤ R.length ∧ (R.length ≤ most + 1 ∨ 25 ≤ R.length) ∧ R.length ≤ most + 25 ∧ L.length ≤ 60 ∧ (n ≤ 0 → chk R L = 0 ∧ R.length ≤ most)
end Go.Proofs.YtahafijpcmphaaaGreat

/- What is left of a valid topology is valid. -/
namespace Go.Proofs.YtahafijpcmphaaaGreat
set_option maxRecDepth 100000
open Go.RowKit Bs
theorem pair_of_asc {α : Type} (f : α → α → Bool) (ht : ∀ x y z, f x y = true → f y z = true → f x z = true) : ∀ l : List α, ascB f l = true → l.Pairwise (fun x z => f x z = true)
 | [], _ => List.Pairwise.nil
 | [a], _ => by simp
 | a :: b :: t, h => by
  rw [ascB, Bool.and_eq_true] at h
  have hp := pair_of_asc f ht (b :: t) h.2
  refine List.pairwise_cons.2 ⟨fun z hz => ?_, hp⟩
  rcases List.mem_cons.1 hz with rfl | hz
  ·exact h.1
  ·exact ht a b z h.1 ((List.pairwise_cons.1 hp).1 z hz)
structure OkAll (R : List Rt) (L : List Lk) : Prop where
 l1 : R.length ≤ 24
 l2 : L.length ≤ 60
 id : R.any wrId = false
 rs : ascB ltR R = true
 nm : L.any wrNum = false
 un : L.any (unk R) = false
 en : L.any wrEnd = false
 ls : ascB ltL L = true
theorem chk_okAll {R : List Rt} {L : List Lk} (h : chk R L = 0) : OkAll R L := by
 unfold chk at h
 by_cases h1 : 24 < R.length ∨ 60 < L.length
 ·rw [if_pos h1] at h; cases h
 rw [if_neg h1] at h
 cases h2 : R.any wrId
 case true => rw [h2] at h; cases h
 cases h3 : ascB ltR R
 case false => rw [h2, h3] at h; cases h
 cases h4 : L.any wrNum
 case true => rw [h2, h3, h4] at h; cases h
 cases h5 : L.any (unk R)
 case true => rw [h2, h3, h4, h5] at h; cases h
 cases h6 : L.any wrEnd
 case true => rw [h2, h3, h4, h5, h6] at h; cases h
 cases h7 : ascB ltL L
 case false => rw [h2, h3, h4, h5, h6, h7] at h; cases h
 exact ⟨by omega, by omega, h2, h3, h4, h5, h6, h7⟩
theorem ltR_trans (x y z : Rt) (h1 : ltR x y = true) (h2 : ltR y z = true) : ltR x z = true := by
 unfold ltR at *
 have h1 := of_decide_eq_true h1
 have h2 := of_decide_eq_true h2
 exact decide_eq_true (by omega)
end Go.Proofs.YtahafijpcmphaaaGreat

/- What is looked up in a valid topology: the mathematics. -/
namespace Go.Proofs.YtahafijpcmphaaaGreat
set_option maxRecDepth 100000
open Go.RowKit Bs
theorem pair_get {α : Type} {f : α → α → Bool} {l : List α} (h : l.Pairwise (fun x z => f x z = true)) {i j : Nat} {x y : α} (hij : i < j) (hx : l[i]? = some x) (hy : l[j]? = some y) : f x y = true := by
 obtain ⟨hi, rfl⟩ := List.getElem?_eq_some_iff.1 hx
 obtain ⟨hj, rfl⟩ := List.getElem?_eq_some_iff.1 hy
 exact List.pairwise_iff_getElem.1 h i j hi hj hij
def capR (R : List Rt) (x : Int) : Bool := match R.find? (fun r => decide (r.id = x)) with
 | some r => r.cap
 | none => false
theorem bs_router {R : List Rt} {L : List Lk} (ho : OkAll R L) {x : Int} {c b : Bool} {i : Nat} (h : BsP cvR R ⟨x, c⟩ i b) :
  b = hasR R x ∧ (b = true → ∃ r, R[i]? = some r ∧ r.id = x ∧ r.cap = capR R x) := by
 have hp := pair_of_asc ltR ltR_trans R ho.rs
 have key : ∀ j y, R[j]? = some y → y.id = x → i = j := by
  intro j y hy hyx
  have hlt := (List.getElem?_eq_some_iff.1 hy).1
  by_cases h1 : i < j
  ·obtain ⟨z, hz⟩ : ∃ z, R[i]? = some z := ⟨_, List.getElem?_eq_getElem (by omega)⟩
   have h2 := h.hi z hz
   have h3 := of_decide_eq_true (show decide (z.id < y.id) = true from pair_get hp h1 hz hy)
   unfold cvR at h2
   have h4 := cmpV_ge.1 h2
   simp only at h4
   omega
  ·by_cases h1' : j < i
   ·obtain ⟨z, hz⟩ : ∃ z, R[i - 1]? = some z := ⟨_, List.getElem?_eq_getElem (by have := h.le; omega)⟩
    have h2 := h.lo z (by omega) hz
    unfold cvR at h2
    have h4 := cmpV_lt.1 h2
    simp only at h4
    by_cases hj : j = i - 1
    ·subst hj
     rw [hz] at hy
     obtain rfl := Option.some.inj hy
     omega
    ·have h3 := of_decide_eq_true (show decide (y.id < z.id) = true from pair_get hp (by omega) hy hz)
     omega
   ·omega
 have hb : b = true → ∃ r, R[i]? = some r ∧ r.id = x := by
  intro hb
  have he := h.eq
  rw [hb] at he
  cases hr : R[i]? with
  | none => rw [hr] at he; cases he
  | some r =>
   rw [hr] at he
   refine ⟨r, rfl, ?_⟩
   have he2 : cvR r ⟨x, c⟩ = 0 := by simpa using he.symm
   exact cmpV_eq.1 he2
 constructor
 ·cases hh : hasR R x
  ·cases hbb : b
   ·rfl
   ·obtain ⟨r, hr, he⟩ := hb hbb
    have : hasR R x = true := List.any_eq_true.2 ⟨r, List.mem_of_getElem? hr, decide_eq_true he⟩
    rw [hh] at this
    cases this
  ·obtain ⟨r, hr, he⟩ := List.any_eq_true.1 hh
   obtain ⟨j, hj, hje⟩ := List.mem_iff_getElem.1 hr
   have hjs : R[j]? = some r := by rw [List.getElem?_eq_getElem hj, hje]
   obtain rfl := key j r hjs (of_decide_eq_true he)
   rw [h.eq, hjs]
   have : cvR r ⟨x, c⟩ = 0 := cmpV_eq.2 (of_decide_eq_true he)
   simp [this]
 ·intro hbt
  obtain ⟨r, hr, he⟩ := hb hbt
  refine ⟨r, hr, he, ?_⟩
  unfold capR
  cases hf : R.find? (fun r => decide (r.id = x)) with
  | none =>
   have := List.find?_eq_none.1 hf r (List.mem_of_getElem? hr)
   rw [decide_eq_true he] at this
   exact absurd rfl this
  | some r2 =>
   have h2 := List.find?_some hf
   obtain ⟨j, hj, hje⟩ := List.mem_iff_getElem.1 (List.mem_of_find?_eq_some hf)
   have hjs : R[j]? = some r2 := by rw [List.getElem?_eq_getElem hj, hje]
   obtain rfl := key j r2 hjs (of_decide_eq_true h2)
   rw [hr] at hjs
   obtain rfl := Option.some.inj hjs
   rfl
def priceB (a b : Int) (l : Lk) : Option Int := if l.a = a ∧ l.b = b then some l.ca else if l.b = a ∧ l.a = b then some l.cb else none
def priceV (L : List Lk) (a b : Int) : Int × Bool := match L.findSome? (priceB a b) with
 | some c => (c, true)
 | none => (0, false)
theorem ends_lt {R : List Rt} {L : List Lk} (ho : OkAll R L) : ∀ l ∈ L, l.a < l.b := by
 intro l hl
 have h := List.any_eq_false.1 ho.en l hl
 unfold wrEnd at h
 have h2 : ¬ l.b ≤ l.a := fun hc => h (decide_eq_true hc)
 omega
def nearR (R : List Rt) (L : List Lk) (x : Int) : List Int := (R.filter fun r => (priceV L x r.id).2).map (·.id)
theorem eq_of_asc : ∀ {l m : List Int}, l.Pairwise (· < ·) → m.Pairwise (· < ·) → (∀ x, x ∈ l ↔ x ∈ m) → l = m
 | [], [], _, _, _ => rfl
 | [], b :: m, _, _, h => by have := (h b).2 (by simp); cases this
 | a :: l, [], _, _, h => by have := (h a).1 (by simp); cases this
 | a :: l, b :: m, hl, hm, h => by
  obtain ⟨h1, h2⟩ := List.pairwise_cons.1 hl
  obtain ⟨h3, h4⟩ := List.pairwise_cons.1 hm
  have e : a = b := by
   have ha := (h a).1 (by simp)
   have hb := (h b).2 (by simp)
   rcases List.mem_cons.1 ha with ha | ha
   ·exact ha
   rcases List.mem_cons.1 hb with hb | hb
   ·exact hb.symm
   have := h1 b hb
   have := h3 a ha
   omega
  subst e
  congr 1
  refine eq_of_asc h2 h4 fun x => ?_
  constructor
  ·intro hx
   rcases List.mem_cons.1 ((h x).1 (List.mem_cons_of_mem _ hx)) with rfl | hx2
   ·have := h1 x hx; omega
   ·exact hx2
  ·intro hx
   rcases List.mem_cons.1 ((h x).2 (List.mem_cons_of_mem _ hx)) with rfl | hx2
   ·have := h3 x hx; omega
   ·exact hx2
theorem nb1_mem (x y : Int) (l : Lk) : y ∈ nb1 x l ↔ (l.b = x ∧ y = l.a) ∨ (l.a = x ∧ y = l.b) := by
 unfold nb1
 rw [List.mem_append]
 by_cases h1 : l.b = x <;> by_cases h2 : l.a = x <;> simp [h1, h2]
theorem price_ok (L : List Lk) (x y : Int) : (priceV L x y).2 = true ↔ ∃ l ∈ L, (l.b = x ∧ y = l.a) ∨ (l.a = x ∧ y = l.b) := by
 unfold priceV
 cases hf : L.findSome? (priceB x y) with
 | none =>
  simp only
  constructor
  ·intro h; cases h
  ·rintro ⟨l, hl, h⟩
   have := List.findSome?_eq_none_iff.1 hf l hl
   unfold priceB at this
   by_cases k1 : l.a = x ∧ l.b = y
   ·rw [if_pos k1] at this; cases this
   ·rw [if_neg k1] at this
    by_cases k2 : l.b = x ∧ l.a = y
    ·rw [if_pos k2] at this; cases this
    ·omega
 | some c =>
  simp only
  refine ⟨fun _ => ?_, fun _ => by trivial⟩
  obtain ⟨m, hm, hmc⟩ := List.exists_of_findSome?_eq_some hf
  refine ⟨m, hm, ?_⟩
  unfold priceB at hmc
  by_cases k1 : m.a = x ∧ m.b = y
  ·exact .inr ⟨k1.1, k1.2.symm⟩
  ·rw [if_neg k1] at hmc
   by_cases k2 : m.b = x ∧ m.a = y
   ·exact .inl ⟨k2.1, k2.2.symm⟩
   ·rw [if_neg k2] at hmc; cases hmc
theorem near_eq {R : List Rt} {L : List Lk} (ho : OkAll R L) (x : Int) : nbL L x = nearR R L x := by
 have he := ends_lt ho
 have hp := pair_of_asc ltL (fun _ _ _ => ltL_trans) L ho.ls
 have hr := pair_of_asc ltR ltR_trans R ho.rs
 refine eq_of_asc ?_ ?_ fun y => ?_
 ·unfold nbL
  rw [List.pairwise_flatMap]
  refine ⟨fun l hl => ?_, ?_⟩
  ·have := he l hl
   unfold nb1
   by_cases h1 : l.b = x <;> by_cases h2 : l.a = x <;> simp [h1, h2]
   omega
  ·refine List.Pairwise.imp_of_mem ?_ hp
   intro l m hl hm hlm u hu v hv
   have h1 := he l hl
   have h2 := he m hm
   unfold ltL at hlm
   have h3 := of_decide_eq_true hlm
   rcases (nb1_mem x u l).1 hu with hu | hu <;> rcases (nb1_mem x v m).1 hv with hv | hv <;> omega
 ·unfold nearR
  rw [List.pairwise_map]
  exact (hr.sublist List.filter_sublist).imp (fun h => of_decide_eq_true h)
 ·unfold nbL nearR
  rw [List.mem_flatMap, List.mem_map]
  constructor
  ·rintro ⟨l, hl, hy⟩
   have hy := (nb1_mem x y l).1 hy
   have hk := List.any_eq_false.1 ho.un l hl
   unfold unk at hk
   have hak : hasR R l.a = true ∧ hasR R l.b = true := by
    cases e1 : hasR R l.a <;> cases e2 : hasR R l.b <;> rw [e1, e2] at hk <;> simp at hk ⊢
   have hyr : hasR R y = true := by
    rcases hy with hy | hy
    ·rw [hy.2]; exact hak.1
    ·rw [hy.2]; exact hak.2
   obtain ⟨r, hr2, hid⟩ := List.any_eq_true.1 hyr
   have hid := of_decide_eq_true hid
   refine ⟨r, List.mem_filter.2 ⟨hr2, ?_⟩, hid⟩
   rw [hid]
   exact (price_ok L x y).2 ⟨l, hl, hy⟩
  ·rintro ⟨r, hr2, rfl⟩
   obtain ⟨l, hl, h⟩ := (price_ok L x r.id).1 (List.mem_filter.1 hr2).2
   exact ⟨l, hl, (nb1_mem x r.id l).2 h⟩
end Go.Proofs.YtahafijpcmphaaaGreat
