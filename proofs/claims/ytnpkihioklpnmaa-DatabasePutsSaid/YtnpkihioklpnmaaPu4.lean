/- Parts of the proof, packed: ToCpy, AdM, ToUntil, AdStep, AdVal, IoZeros, IoTake, IoAppend. -/
import Derived.Test.YtnpkihioklpnmaaPu3
import Derived.ArgAppend
import Derived.Laws.IdiomCopy
import Derived.Laws.BitsLemmas
import Derived.Deep.AppendLies
import Derived.Test.YtnpkihioklpnmaaPu2
import Derived.Deep.RegionHeld
import Derived.Test.YtnpkihioklpnmaaPu1
import Derived.Maps.AppendAt
import Derived.Deep.CutRange
import Derived.BigQuiet
import Derived.Deep.OwnRows
/- copy, clear, append within a row of structs of the call's own; append of zeros. -/
namespace Go.Proofs.Ytnpkihioklpnmaa
open Go.RowKit Bs
/-- Cells laid over others. -/
def setAt (xs : List Value) (o : Nat) : List Value → List Value
  | [] => xs
  | v :: r => setAt (xs.set o v) (o + 1) r
set_option maxRecDepth 100000 in
theorem setAt_len : ∀ (vs : List Value) (o : Nat) (xs : List Value), (setAt xs o vs).length = xs.length
  | [], _, _ => rfl
  | v :: r, o, xs => by
    show (setAt (xs.set o v) (o + 1) r).length = _
    rw [setAt_len r, List.length_set]
set_option maxRecDepth 100000 in
theorem setAt_get : ∀ (vs : List Value) (o : Nat) (xs : List Value) (j : Nat), o + vs.length ≤ xs.length → (setAt xs o vs)[j]? = if o ≤ j ∧ j < o + vs.length then vs[j - o]? else xs[j]?
  | [], o, xs, j, _ => by
    rw [if_neg (by simp only [List.length_nil]; omega)]
    rfl
  | v :: r, o, xs, j, h => by
    rw [List.length_cons] at h ⊢
    show (setAt (xs.set o v) (o + 1) r)[j]? = _
    rw [setAt_get r (o + 1) (xs.set o v) j (by rw [List.length_set]; omega), List.getElem?_set]
    by_cases h1 : j = o
    · subst h1
      rw [if_neg (by omega), if_pos rfl, if_pos (by omega), if_pos (by omega), Nat.sub_self]
      rfl
    · by_cases h2 : o + 1 ≤ j ∧ j < o + 1 + r.length
      · rw [if_pos h2, if_pos (by omega), show j - o = (j - (o + 1)) + 1 by omega]
        rfl
      · rw [if_neg h2, if_neg (by omega), if_neg (by omega)]
set_option maxRecDepth 100000 in
theorem own_setCells {base size n cap g : Nat} {e : TypeId} : ∀ (vs : List Value) (o : Nat) (w : World) (xs : List Value), w.ownsRow base e size (.slice (some ⟨g, 0, none⟩) n cap) n xs → (w.setCells g o vs).ownsRow base e size (.slice (some ⟨g, 0, none⟩) n cap) n (setAt xs o vs) ∧ w.grownBy (w.setCells g o vs) (some g)
  | [], _, w, xs, h => ⟨h, grown_refl _ _⟩
  | v :: r, o, w, xs, h => by
    obtain ⟨s1, s2⟩ := h.stored o v
    obtain ⟨i1, i2⟩ := own_setCells r (o + 1) _ _ s1
    exact ⟨i1, grown_trans s2 i2⟩
set_option maxRecDepth 100000 in
/-- A row, looked at shorter or longer. -/
theorem own_len {w : World} {base size n cap g : Nat} {e : TypeId} {xs : List Value} (h : w.ownsRow base e size (.slice (some ⟨g, 0, none⟩) n cap) n xs) (m : Nat) (hm : m ≤ cap) : ∃ ys, ys.take (min n m * size) = xs.take (min n m * size) ∧ w.ownsRow base e size (.slice (some ⟨g, 0, none⟩) m cap) m ys := by
  rcases h.2 with ⟨e1, _⟩ | ⟨g', cap', cur, e1, hb, hg, hn, hcm, hcs, ht⟩
  · cases e1
  · injection e1 with e2 e3 e4
    injection e2 with e2
    injection e2 with e5 e6
    subst e5
    subst e4
    refine ⟨cur.toList.take (m * size), ?_, ?_, .inr ⟨g, cap, cur, rfl, hb, hg, hm, hcm, hcs, rfl⟩⟩
    · rw [← ht, List.take_take, List.take_take]
      have h1 : min n m * size ≤ m * size := Nat.mul_le_mul_right _ (Nat.min_le_right _ _)
      have h2 : min n m * size ≤ n * size := Nat.mul_le_mul_right _ (Nat.min_le_left _ _)
      rw [Nat.min_eq_left h1, Nat.min_eq_left h2]
    · rw [List.length_take, Array.length_toList, hcs]
      have := Nat.mul_le_mul_right size hm
      omega
set_option maxRecDepth 100000 in
theorem own_cellOk {w : World} {base size n cap g : Nat} {e : TypeId} {xs : List Value} (h : w.ownsRow base e size (.slice (some ⟨g, 0, none⟩) n cap) n xs) (j : Nat) (hj : j < cap * size) : (w.cell? ⟨g, j, none⟩).isSome = true ∧ w.frozen? ⟨g, j, none⟩ = false := by
  obtain ⟨ys, -, hy⟩ := own_len h cap (Nat.le_refl _)
  refine ⟨?_, hy.frozenAt j⟩
  rw [hy.cellAt j hj, List.getElem?_eq_getElem (by rw [hy.1]; exact hj)]
  rfl
section
variable {e t : TypeId} {i : TypeInfo} (ht : Try.prog.underlying t = some (.slice e)) (hi : Try.prog.info? e = some i)
include ht hi
set_option maxRecDepth 100000 in
/-- copy. -/
theorem run_copy_k (w : World) (ty : TypeId) (b o dLen dCap : Nat) (a : Addr) (sLen sCap : Nat) (cs : List Value) (m : Nat) (hm : Nat.min sLen dLen = m) (hl : cs.length = m * i.size) (hsrc : ∀ j v, cs[j]? = some v → w.cell? (a.add j) = some v)
    (hc : ∀ j, j < cs.length → (w.cell? ⟨b, o + j, none⟩).isSome = true) (hf : ∀ j, j < cs.length → w.frozen? ⟨b, o + j, none⟩ = false) (h1 : ∀ v ∈ cs, v.oneCell' = true) :
    (Builtin.copy_ #[t, t] ty #[.slice (some ⟨b, o, none⟩) dLen dCap, .slice (some a) sLen sCap]).run Try.prog w = .ok (goInt m) (w.setCells b o cs) := by
  have hfc := run_firstCells_some (P := Try.prog) w i.size m a sLen sCap cs hl hsrc
  have hst := run_storeCells_cells (P := Try.prog) b o cs 0 w (by simpa using hc) (by simpa using hf) h1
  simp only [Nat.add_zero] at hst
  simp [Builtin.copy_, run_underlying ht, Builtin.lenOf, sizeOf, typeInfo, hi, hm, hfc, hst]
set_option maxRecDepth 100000 in
/-- append(s[:n], make([]T, k)...) where there is no room: a new row. -/
theorem run_append_zeros_k (w : World) (tn ty : TypeId) (htn : Try.prog.underlying tn = some (.int .i64)) (z : Value) (hz : i.zero = some z) (hs : 0 < i.size) (b : Addr) (n cap : Nat) (olds : List Value) (hlo : olds.length = n * i.size) (holds : ∀ j v, olds[j]? = some v → w.cell? (b.add j) = some v)
    (k : Nat) (hk : 0 < k) (hg : cap < n + k) (h63 : n + k ≤ 100000) (hb : i.bytes ≤ 1000) :
    (Builtin.append_ #[t, tn] ty #[.slice (some b) n cap, .int .i64 (k : Int)]).run Try.prog w =
      .ok (.slice (some ⟨w.heap.size, 0, none⟩) (n + k) (grownCap w (n + k) cap e))
        (w.drew.alloc (.cells (olds.toArray ++ Builtin.zeroCells z.cells k ++ Builtin.zeroCells z.cells (grownCap w (n + k) cap e - (n + k))) e)) := by
  have hn : ¬ (n + k ≤ cap) := by omega
  have hw : IntKind.i64.wrap (k : Int) = k := by rw [IntKind.wrap_i64]; omega
  have hkb : k * i.bytes ≤ 100000 * 1000 := Nat.mul_le_mul (by omega) hb
  have hnb : Builtin.nextslicecap (n + k) cap * i.bytes ≤ 200000 * 1000 := Nat.mul_le_mul (Nat.le_trans (nextslicecap_le hg) (by omega)) hb
  have h63' : ¬ (9223372036854775807 < ((n : Int) + (k : Int))) := by omega
  have h48' : ¬ (281474976710656 < Builtin.nextslicecap (n + k) cap * i.bytes) := by omega
  have h48i : ¬ (281474976710656 < (k : Int) * (i.bytes : Int)) := by
    rw [← Int.natCast_mul]
    omega
  have hneg : ¬ ((k : Int) < 0) := by omega
  have hk0 : k ≠ 0 := by omega
  have hns : ¬ (k * i.size = 0) := Nat.mul_ne_zero hk0 (by omega)
  have hfo := run_firstCells_some (P := Try.prog) w.drew i.size n b n cap olds hlo (by simpa using holds)
  simp [Builtin.append_, run_underlying ht, run_underlying htn, sizeOf, typeInfo, zeroValue, hi, hz, asInt, asIntOf, hw, hn, hneg, hns, h63', h48', h48i, Question.forced, hfo, newRow, grownCap]
end
section
variable {ops : Array Oper} {rest : List Oper} {o : Oper} {a : Act} {w : World} {K : Act → World → Prop} {Q : Exit → Act → World → Prop} {E : Prop}
set_option maxRecDepth 100000 in
/-- append, copy, clear whose run is known, in a walk and at a step of a drawn region. -/
theorem wpList_append_runC (hgd : o.guard = none) (s x : Operand) (t tn : TypeId) (ho : o.op = .call { callee := .builtin .append, args := #[s, x], argTypes := #[t, tn] }) (vs vx : Value) (hs : a.eval s = vs) (hx : a.eval x = vx)
    {v' : Value} {w' : World} (hr : (Builtin.append_ #[t, tn] o.type #[vs, vx]).run Try.prog w = .ok v' w') (h : wpList Try.prog ops Q rest (a.put o.dst v') w') : wpList Try.prog ops Q (o :: rest) a w := by
  refine wpList_plain hgd fun K' hK => ?_
  unfold Oper.wp execOp
  simp only [ho, resolve, invoke, builtin, Sem.run_bind, Sem.run_pure, Result.andThen_ok, List.map_toArray, List.map_cons, List.map_nil, hs, hx, hr]
  exact hK _ _ h
set_option maxRecDepth 100000 in
theorem wpList_copy_run (hgd : o.guard = none) (s x : Operand) (t tn : TypeId) (ho : o.op = .call { callee := .builtin .copy, args := #[s, x], argTypes := #[t, tn] }) (vs vx : Value) (hs : a.eval s = vs) (hx : a.eval x = vx)
    {v' : Value} {w' : World} (hr : (Builtin.copy_ #[t, tn] o.type #[vs, vx]).run Try.prog w = .ok v' w') (h : wpList Try.prog ops Q rest (a.put o.dst v') w') : wpList Try.prog ops Q (o :: rest) a w := by
  refine wpList_plain hgd fun K' hK => ?_
  unfold Oper.wp execOp
  simp only [ho, resolve, invoke, builtin, Sem.run_bind, Sem.run_pure, Result.andThen_ok, List.map_toArray, List.map_cons, List.map_nil, hs, hx, hr]
  exact hK _ _ h
set_option maxRecDepth 100000 in
theorem step_copy_run (hgd : o.guard = none) (s x : Operand) (t tn : TypeId) (ho : o.op = .call { callee := .builtin .copy, args := #[s, x], argTypes := #[t, tn] }) (vs vx : Value) (hs : a.eval s = vs) (hx : a.eval x = vx)
    {v' : Value} {w' : World} (hr : (Builtin.copy_ #[t, tn] o.type #[vs, vx]).run Try.prog w = .ok v' w') (h : K (a.put o.dst v') w') : if Region.wanted o (yielded ops a.tmps) = true then Oper.wp Try.prog o a w K Q else E := by
  have hw : Region.wanted o (yielded ops a.tmps) = true := by simp [Region.wanted, hgd]
  rw [if_pos hw]
  unfold Oper.wp execOp
  simp only [ho, resolve, invoke, builtin, Sem.run_bind, Sem.run_pure, Result.andThen_ok, List.map_toArray, List.map_cons, List.map_nil, hs, hx, hr]
  exact h
end
end Go.Proofs.Ytnpkihioklpnmaa

/- Adverts: their values, where they lie, when they are valid. -/
namespace Go.Proofs.Ytnpkihioklpnmaa
open Go.RowKit Bs
/-- Three numbers: a link or a claim of an advert. -/
structure T3 where
  a : Int
  b : Int
  c : Int
deriving DecidableEq
def t3C (x : T3) : List Value := [.int .i64 x.a, .int .i64 x.b, .int .i64 x.c]
/-- An advert, and where its lists lie. -/
structure Ad where
  r : Int
  q : Int
  cp : Bool
  L : List T3
  C : List T3
  pL : Option Addr
  cL : Nat
  pC : Option Addr
  cC : Nat
def Ad.val (A : Ad) : Value := .agg #[.int .i64 A.r, .int .i64 A.q, .bool A.cp, .slice A.pL A.L.length A.cL, .slice A.pC A.C.length A.cC]
abbrev Rd3 (w : World) (q : Nat → Prop) (v : Value) (l : List T3) : Prop := RdF w q v l.length (l.flatMap t3C)
structure AdOk (w : World) (q : Nat → Prop) (A : Ad) : Prop where
  l : Rd3 w q (.slice A.pL A.L.length A.cL) A.L
  c : Rd3 w q (.slice A.pC A.C.length A.cC) A.C
  hl : A.L.length ≤ A.cL ∧ A.cL ≤ 9223372036854775807
  hc : A.C.length ≤ A.cC ∧ A.cC ≤ 9223372036854775807
set_option maxRecDepth 100000 in
theorem AdOk.grown {w w' : World} {q : Nat → Prop} {A : Ad} {r : Option Nat} (h : AdOk w q A) (g : w.grownBy w' r) (hq : ∀ b, q b → some b ≠ r) : AdOk w' q A := ⟨h.l.grown g hq, h.c.grown g hq, h.hl, h.hc⟩
set_option maxRecDepth 100000 in
theorem AdOk.keep {w w' : World} {q : Nat → Prop} {A : Ad} (h : AdOk w q A) (g : w.grownBy w' none) : AdOk w' q A := h.grown g (fun _ _ => by simp)
set_option maxRecDepth 100000 in
theorem AdOk.mono {w : World} {q q' : Nat → Prop} {A : Ad} (h : AdOk w q A) (hq : ∀ b, q b → q' b) : AdOk w q' A := ⟨h.l.mono hq, h.c.mono hq, h.hl, h.hc⟩
set_option maxRecDepth 100000 in
theorem rd3_cells {w : World} {q : Nat → Prop} {p : Option Addr} {n c : Nat} {l : List T3} (h : Rd3 w q (.slice p n c) l) (hn : 0 < l.length) :
    n = l.length ∧ ∃ b off, p = some ⟨b, off, none⟩ ∧ q b ∧ ∀ i x, l[i]? = some x → w.cell? ⟨b, off + i * 3, none⟩ = some (.int .i64 x.a) ∧ w.cell? ⟨b, off + i * 3 + 1, none⟩ = some (.int .i64 x.b) ∧ w.cell? ⟨b, off + i * 3 + 2, none⟩ = some (.int .i64 x.c) := by
  obtain ⟨h0, b, off, hp, hq, hc⟩ := RdF.cells (f := t3C) (k := 3) (fun _ => rfl) (by decide) h hn
  exact ⟨h0, b, off, hp, hq, fun i x hi => ⟨hc i x hi 0 _ rfl, hc i x hi 1 _ rfl, hc i x hi 2 _ rfl⟩⟩
set_option maxRecDepth 100000 in
theorem rd3_at {w : World} {q : Nat → Prop} {b off n c k : Nat} {l : List T3} {x : T3} (h : Rd3 w q (.slice (some ⟨b, off, none⟩) n c) l) (hx : l[k]? = some x) :
    w.cell? ⟨b, off + k * 3, none⟩ = some (.int .i64 x.a) ∧ w.cell? ⟨b, off + k * 3 + 1, none⟩ = some (.int .i64 x.b) ∧ w.cell? ⟨b, off + k * 3 + 2, none⟩ = some (.int .i64 x.c) := by
  obtain ⟨-, b', o', e, -, hc⟩ := rd3_cells h (by have := (List.getElem?_eq_some_iff.1 hx).1; omega)
  injection e with e
  injection e with e1 e2
  subst e1
  subst e2
  exact hc k x hx
/-! When an advert is valid. -/
def okRe (r last : Int) (x : T3) : Bool := decide (last < x.a ∧ x.a ≤ 99 ∧ x.a ≠ r ∧ (1 ≤ x.b ∧ x.b ≤ 1000) ∧ 0 ≤ x.c ∧ x.c ≤ 1000)
def vRe (r : Int) : Int → List T3 → Bool
  | _, [] => true
  | last, x :: t => okRe r last x && vRe r x.a t
def okCm (last : Int) (x : T3) : Bool := decide (last < x.a ∧ x.a ≤ 7 ∧ (1 ≤ x.b ∧ x.b ≤ 256) ∧ (x.c = 8 ∨ x.c = 16 ∨ x.c = 32 ∨ x.c = 64))
def vCm : Int → List T3 → Bool
  | _, [] => true
  | last, x :: t => okCm last x && vCm x.a t
def vHd (A : Ad) : Bool := decide ((1 ≤ A.r ∧ A.r ≤ 99) ∧ (1 ≤ A.q ∧ A.q ≤ 1000000) ∧ A.L.length ≤ 23)
def vClaims (C : List T3) : Bool := decide (C.length ≤ 8) && vCm (-1) C
def vAd (A : Ad) : Bool := vHd A && (vRe A.r 0 A.L && vClaims A.C)
/-- What came before the k-th. -/
def lastA (d : Int) (l : List T3) (k : Nat) : Int := match (l.take k).getLast? with
  | some x => x.a
  | none => d
set_option maxRecDepth 100000 in
theorem lastA_zero (d : Int) (l : List T3) : lastA d l 0 = d := by unfold lastA; rw [List.take_zero]; rfl
set_option maxRecDepth 100000 in
theorem lastA_succ {d : Int} {l : List T3} {k : Nat} {x : T3} (h : l[k]? = some x) : lastA d l (k + 1) = x.a := by
  unfold lastA
  rw [List.take_add_one, h]
  simp
set_option maxRecDepth 100000 in
theorem drop_at {l : List T3} {k : Nat} {x : T3} (h : l[k]? = some x) : l.drop k = x :: l.drop (k + 1) := by
  obtain ⟨h1, h2⟩ := List.getElem?_eq_some_iff.1 h
  rw [List.drop_eq_getElem_cons h1, h2]
set_option maxRecDepth 100000 in
theorem vRe_step {r d : Int} {l : List T3} {k : Nat} {x : T3} (h : l[k]? = some x) : vRe r (lastA d l k) (l.drop k) = (okRe r (lastA d l k) x && vRe r (lastA d l (k + 1)) (l.drop (k + 1))) := by
  rw [drop_at h, lastA_succ h]
  rfl
set_option maxRecDepth 100000 in
theorem vCm_step {d : Int} {l : List T3} {k : Nat} {x : T3} (h : l[k]? = some x) : vCm (lastA d l k) (l.drop k) = (okCm (lastA d l k) x && vCm (lastA d l (k + 1)) (l.drop (k + 1))) := by
  rw [drop_at h, lastA_succ h]
  rfl
set_option maxRecDepth 100000 in
theorem vRe_end {r d : Int} {l : List T3} : vRe r (lastA d l l.length) (l.drop l.length) = true := by rw [List.drop_length]; rfl
set_option maxRecDepth 100000 in
theorem vCm_end {d : Int} {l : List T3} : vCm (lastA d l l.length) (l.drop l.length) = true := by rw [List.drop_length]; rfl
end Go.Proofs.Ytnpkihioklpnmaa

/- A region that draws its order: loads are taken first although a late operation writes their cells; what they want of the world holds until then. -/
namespace Go.Proofs.Ytnpkihioklpnmaa
open Go
section
variable {P : Program} {ops : Array Oper} {Q : Exit → Act → World → Prop} {md : Region.Mode} {S : World → Prop} {late : Nat → Bool}
/-- Any order from here on; S holds behind whatever is not late. -/
def anyU (P : Program) (md : Region.Mode) (ops : Array Oper) (Q : Exit → Act → World → Prop) (S : World → Prop) (late : Nat → Bool) : Nat → Array Bool → Act → World → Prop
  | 0, seen, a, w => Region.ready md ops seen = [] ∧ Q .normal a w
  | n + 1, seen, a, w => (Region.ready md ops seen = [] → Q .normal a w) ∧
      ∀ k, k ∈ Region.ready md ops seen → wpOp P ops Q k (fun b v => (late k = false → S v) ∧ anyU P md ops Q S late n (seen.setIfInBounds k true) b v) a w
set_option maxRecDepth 100000 in
theorem anyU_any (n : Nat) : ∀ (seen : Array Bool) (a : Act) (w : World), anyU P md ops Q S late n seen a w → wpAny P md ops Q n seen a w := by
  induction n with
  | zero => intro seen a w h; exact h
  | succ n ih => intro seen a w h; exact ⟨h.1, fun k hk => wpOp_mono (fun b v hb => ih _ b v hb.2) (h.2 k hk)⟩
/-- Number j waits for number i, perhaps by way of others. -/
def reach (md : Region.Mode) (ops : Array Oper) : Nat → Nat → Nat → Bool
  | 0, _, _ => false
  | n + 1, j, i => match ops[j]? with
    | some o => o.after.any fun e => Region.binds md e && (e.on == i || reach md ops n e.on i)
    | none => false
/-- Whatever is late waits for number i. -/
def waits (md : Region.Mode) (ops : Array Oper) (late : Nat → Bool) (i : Nat) : Bool :=
  (List.range ops.size).all fun j => !late j || reach md ops ops.size j i
/-- What has come up has come up behind all that it waits for. -/
def Shut1 (md : Region.Mode) (ops : Array Oper) (seen : Array Bool) : Prop :=
  ∀ (j : Nat) (o : Oper), ops[j]? = some o → seen.getD j false = true → ∀ e ∈ o.after, Region.binds md e = true → seen.getD e.on false = true
def shut1 (md : Region.Mode) (ops : Array Oper) (seen : Array Bool) : Bool :=
  (List.range ops.size).all fun j => !seen.getD j false || (match ops[j]? with
    | some o => o.after.all fun e => !Region.binds md e || seen.getD e.on false
    | none => true)
set_option maxRecDepth 100000 in
theorem shut1_spec {seen : Array Bool} (h : shut1 md ops seen = true) : Shut1 md ops seen := by
  intro j o ho hj e he hb
  unfold shut1 at h
  rw [List.all_eq_true] at h
  have h1 := h j (List.mem_range.2 (Array.getElem?_eq_some_iff.1 ho).1)
  rw [hj, ho] at h1
  simp only [Bool.not_true, Bool.false_or] at h1
  rw [Array.all_eq_true_iff_forall_mem] at h1
  have h2 := h1 e he
  rw [hb] at h2
  simpa using h2
set_option maxRecDepth 100000 in
theorem Shut1.step {seen : Array Bool} {j : Nat} (h : Shut1 md ops seen) (hj : j ∈ Region.ready md ops seen) : Shut1 md ops (seen.setIfInBounds j true) := by
  intro k o ho hk e he hb
  by_cases hjk : j = k
  · subst hjk
    obtain ⟨_, o2, ho2, hall⟩ := mem_ready.1 hj
    rw [ho] at ho2
    obtain rfl := Option.some.inj ho2
    exact getD_set_true (hall e he hb)
  · rw [getD_set_ne false hjk] at hk
    exact getD_set_true (h k o ho hk e he hb)
set_option maxRecDepth 100000 in
theorem reach_seen {seen : Array Bool} (hc : Shut1 md ops seen) (i : Nat) : ∀ (n j : Nat) (o : Oper), ops[j]? = some o → (∀ e ∈ o.after, Region.binds md e = true → seen.getD e.on false = true) → reach md ops n j i = true → seen.getD i false = true := by
  intro n
  induction n with
  | zero => intro j o _ _ h; cases h
  | succ n ih =>
    intro j o ho hall h
    unfold reach at h
    rw [ho] at h
    simp only at h
    rw [Array.any_eq_true'] at h
    obtain ⟨e, he, hb⟩ := h
    rw [Bool.and_eq_true, Bool.or_eq_true] at hb
    have h1 := hall e he hb.1
    rcases hb.2 with h2 | h2
    · have : e.on = i := by simpa using h2
      rwa [this] at h1
    · cases ho2 : ops[e.on]? with
      | none =>
        cases n with
        | zero => cases h2
        | succ n =>
          unfold reach at h2
          rw [ho2] at h2
          cases h2
      | some o2 => exact ih e.on o2 ho2 (hc e.on o2 ho2 h1) h2
set_option maxRecDepth 100000 in
theorem waits_seen {seen : Array Bool} {i j : Nat} (hw : waits md ops late i = true) (hc : Shut1 md ops seen) (hj : j ∈ Region.ready md ops seen) (hl : late j = true) : seen.getD i false = true := by
  obtain ⟨_, o, ho, hall⟩ := mem_ready.1 hj
  unfold waits at hw
  rw [List.all_eq_true] at hw
  have h1 := hw j (List.mem_range.2 (Array.getElem?_eq_some_iff.1 ho).1)
  rw [hl] at h1
  exact reach_seen hc i _ j o ho hall (by simpa using h1)
set_option maxRecDepth 100000 in
theorem anyU_first {i : Nat} {oi : Oper} {v : Value} (hi : ops[i]? = some oi) (hsel : ∀ (j : Nat) (o : Oper) cs b, ops[j]? = some o → o.op ≠ .select cs b)
    (hQ : ∀ c a w, Q (.panic c) (a.put oi.dst v) w → Q (.panic c) a w) (hw : waits md ops late i = true) (n : Nat) :
    ∀ (seen : Array Bool) (a : Act) (w : World),
      (∀ j oj, ops[j]? = some oj → j ≠ i → seen.getD j true = false → (∀ e ∈ oj.after, Region.binds md e = true → e.on ≠ i) → oi.apart ops oj = true) →
      Shut1 md ops seen → i ∈ Region.ready md ops seen → YieldsIf P ops S oi v a → S w → anyU P md ops Q S late n (seen.setIfInBounds i true) (a.put oi.dst v) w → anyU P md ops Q S late (n + 1) seen a w := by
  have now : ∀ (m : Nat) (seen : Array Bool) (a : Act) (w : World), YieldsIf P ops S oi v a → S w → anyU P md ops Q S late m (seen.setIfInBounds i true) (a.put oi.dst v) w →
      wpOp P ops Q i (fun b u => (late i = false → S u) ∧ anyU P md ops Q S late m (seen.setIfInBounds i true) b u) a w := fun m seen a w hy hS h => hy.wpOp hi hS ⟨fun _ => hS, h⟩
  induction n with
  | zero =>
    intro seen a w _ _ hr hy hS h
    refine ⟨fun e => (by rw [e] at hr; cases hr), fun j hj => ?_⟩
    by_cases e : j = i
    · exact e ▸ now 0 seen a w hy hS h
    · have := ready_mono hj e
      rw [h.1] at this
      cases this
  | succ n ih =>
    intro seen a w hf hc hr hy hS h
    refine ⟨fun e => (by rw [e] at hr; cases hr), fun j hj => ?_⟩
    by_cases e : j = i
    · exact e ▸ now (n + 1) seen a w hy hS h
    obtain ⟨hun, oj, hoj, hall⟩ := mem_ready.1 hj
    have hno : ∀ e ∈ oj.after, Region.binds md e = true → e.on ≠ i := fun e he hb hei => by
      have h1 := hall e he hb
      have h0 := (mem_ready.1 hr).1
      rw [hei] at h1
      by_cases hlt : i < seen.size
      · simp [hlt] at h0 h1
        rw [h0] at h1
        cases h1
      · simp [Array.getElem?_eq_none (Nat.le_of_not_lt hlt)] at h1
    have hl : late j = false := by
      cases hl : late j with
      | false => rfl
      | true =>
        have h1 := waits_seen hw hc hj hl
        have h0 := (mem_ready.1 hr).1
        by_cases hlt : i < seen.size
        · simp [hlt] at h0 h1
          rw [h0] at h1
          cases h1
        · simp [Array.getElem?_eq_none (Nat.le_of_not_lt hlt)] at h1
    refine wpOp_mono (fun b u hb => ⟨hb.2.1, ih _ b u (fun k ok hk hki hsk hnk => hf k ok hk hki ?_ hnk) (hc.step hj) (ready_mono hr (Ne.symm e)) hb.1 (hb.2.1 hl) (by rw [Array.setIfInBounds_comm _ _ e]; exact hb.2.2)⟩)
      (wpOp_putIf hoj (hf j oj hoj e hun hno) (fun cs b => hsel i oi cs b hi) (fun cs b => hsel j oj cs b hoj) hQ hy (h.2 j (ready_mono hj e)))
    by_cases hjk : j = k
    · exact hjk ▸ hun
    · rwa [getD_set_ne true hjk] at hsk
set_option maxRecDepth 100000 in
theorem anyU_take {i : Nat} {oi : Oper} {v : Value} {n : Nat} {seen : Array Bool} {a : Act} {w : World} (hi : ops[i]? = some oi) (hw : waits md ops late i = true)
    (hc : shut1 md ops seen = true) (hs : Region.noSelect ops = true) (hf : Region.free md ops seen i = true) (hr : (Region.ready md ops seen).contains i = true)
    (hQ : ∀ c a w, Q (.panic c) (a.put oi.dst v) w → Q (.panic c) a w) (hy : YieldsIf P ops S oi v a) (hS : S w)
    (h : anyU P md ops Q S late n (seen.setIfInBounds i true) (a.put oi.dst v) w) : anyU P md ops Q S late (n + 1) seen a w :=
  anyU_first hi (Region.noSelect_spec hs) hQ hw n seen a w (Region.free_spec hi hf) (shut1_spec hc) (by simpa using hr) hy hS h
/-- Each of some operations comes up next. -/
def EachU (P : Program) (md : Region.Mode) (ops : Array Oper) (Q : Exit → Act → World → Prop) (S : World → Prop) (late : Nat → Bool) (n : Nat) (seen : Array Bool) (a : Act) (w : World) (rs : List Nat) : Prop :=
  ∀ k ∈ rs, wpOp P ops Q k (fun b v => (late k = false → S v) ∧ anyU P md ops Q S late n (seen.setIfInBounds k true) b v) a w
set_option maxRecDepth 100000 in
theorem EachU.nil {n : Nat} {seen : Array Bool} {a : Act} {w : World} : EachU P md ops Q S late n seen a w [] := fun _ h => by cases h
set_option maxRecDepth 100000 in
theorem EachU.cons {n : Nat} {seen : Array Bool} {a : Act} {w : World} {i : Nat} {o : Oper} {rs : List Nat} (ho : ops[i]? = some o)
    (h : ∀ K : Act → World → Prop, Shut (∀ b v, (late i = false → S v) → ((late i = false → S v) → anyU P md ops Q S late n (seen.setIfInBounds i true) b v) → K b v) → if Region.wanted o (yielded ops a.tmps) = true then Oper.wp P o a w K Q else K (a.put o.dst undef) w)
    (hs : EachU P md ops Q S late n seen a w rs) : EachU P md ops Q S late n seen a w (i :: rs) := fun j hj => by
  rcases List.mem_cons.1 hj with rfl | hj
  · exact wpOp_step ho (fun K hK => h K (fun b v hS hW => hK b v ⟨hS, hW hS⟩))
  · exact hs j hj
set_option maxRecDepth 100000 in
theorem anyU_ready {rs : List Nat} {n : Nat} {seen : Array Bool} {a : Act} {w : World} (hr : Region.ready md ops seen = rs) (hne : rs ≠ []) (h : EachU P md ops Q S late n seen a w rs) : anyU P md ops Q S late (n + 1) seen a w :=
  ⟨fun e => absurd (hr ▸ e) hne, hr ▸ h⟩
set_option maxRecDepth 100000 in
theorem anyU_done {seen : Array Bool} {a : Act} {w : World} (hr : Region.ready md ops seen = []) (h : Q .normal a w) (n : Nat) : anyU P md ops Q S late n seen a w := by
  cases n with
  | zero => exact ⟨hr, h⟩
  | succ n => exact ⟨fun _ => h, by rw [hr]; intro k hk; cases hk⟩
set_option maxRecDepth 100000 in
theorem region_until {id : Nat} {a : Act} {w : World} (late : Nat → Bool) (hm : P.follows .mixedOrders = true) (hS : S w.drew) (h : S w.drew → anyU P .any ops Q S late ops.size (Array.replicate ops.size false) a w.drew) :
    (Code.region id ops true).wp P Q a w := wp_region_any hm (anyU_any _ _ _ _ (h hS))
end
end Go.Proofs.Ytnpkihioklpnmaa

/- append at a step of a region that draws its order; rows of links and claims of adverts. -/
namespace Go.Proofs.Ytnpkihioklpnmaa
open Go.RowKit Bs
set_option maxRecDepth 100000 in
theorem astep_app {α : Type} (f : α → List Value) (size bytes : Nat) (hsz : 0 < size) (hf : ∀ x, (f x).length = size) (hone : ∀ x, ∀ u ∈ f x, u.oneCell' = true) (e t : TypeId) (i : TypeInfo) (z : Value)
    (ht : Try.prog.underlying t = some (.slice e)) (hi : Try.prog.info? e = some i) (hz : i.zero = some z) (hsize : i.size = size) (hby : i.bytes = bytes) (hzs : z.cells.size = size) (hb40 : bytes ≤ 1000)
    {w : World} {ops : Array Oper} {o : Oper} {a : Act} {K : Act → World → Prop} {Q : Exit → Act → World → Prop} {E : Prop} (hgd : o.guard = none) (s x : Operand)
    (ho : o.op = .call { callee := .builtin .append, args := #[s, x], argTypes := #[t, t] }) (base : Nat) (v : Value) (l : List α) (hs : a.eval s = v) (hown : w.ownsRow base e size v l.length (l.flatMap f))
    (p : Option Addr) (k c : Nat) (r : List α) (hx : a.eval x = .slice p k c) (hk : k = r.length) (hn0 : p = none → c = 0) (q : Nat → Prop) (hR : RdF w q (.slice p k c) r.length (r.flatMap f)) (hkc : k ≤ c) (h63 : l.length + r.length ≤ 100000) (hbase : base ≤ w.heap.size)
    (h : ∀ p' c' w', w'.ownsRow base e size (.slice p' (l.length + r.length) c') (l ++ r).length ((l ++ r).flatMap f) → w.grownBy w' v.ownBlock → ((Value.slice p' (l.length + r.length) c').ownBlock = v.ownBlock ∨ (Value.slice p' (l.length + r.length) c').ownBlock = some w.heap.size) → K (a.put o.dst (.slice p' (l.length + r.length) c')) w') :
    if Region.wanted o (yielded ops a.tmps) = true then Oper.wp Try.prog o a w K Q else E := by
  have hw : Region.wanted o (yielded ops a.tmps) = true := by simp [Region.wanted, hgd]
  rw [if_pos hw]
  cases p with
  | none =>
    obtain rfl := hn0 rfl
    have hr : r.length = 0 := by omega
    obtain rfl := List.eq_nil_of_length_eq_zero hr
    obtain rfl : k = 0 := hk
    have hrun := run_append_owned_none (P := Try.prog) (w := w) base t o.type e i size ht hi v l.length (l.flatMap f) hown
    obtain ⟨p', c', rfl, -, -⟩ := own_shape hown
    unfold Oper.wp
    simp [execOp, ho, resolve, invoke, builtin, hs, hx, hrun, Result.andThen]
    refine h p' c' w ?_ (grown_refl _ _) (.inl rfl)
    rw [List.append_nil]
    exact hown
  | some ad =>
    have hb2 : (l.length + k) * bytes ≤ 140737488355328 := Nat.le_trans (Nat.mul_le_mul (show l.length + k ≤ 100000 by omega) hb40) (by decide)
    obtain ⟨v', w', hr, h2, h3, _, h5⟩ := run_append_own_at (P := Try.prog) w base t o.type e i z size bytes ht hi hz hsize hby hzs hsz v l.length (l.flatMap f) hown ad k c (r.flatMap f) (by rw [flat_len f size hf, hk]) (rdf_news hR) (by
      intro u hu
      obtain ⟨y, _, hy⟩ := List.mem_flatMap.1 hu
      exact hone y u hy) (by unfold maxLen; omega) hb2 hbase
    subst hk
    obtain ⟨p', c', rfl, -, -⟩ := own_shape h2
    unfold Oper.wp execOp
    simp only [ho, resolve, invoke, builtin, Sem.run_bind, Sem.run_pure, Result.andThen_ok, List.map_toArray, List.map_cons, List.map_nil, hs, hx, hr]
    refine h p' c' w' ?_ h3 h5
    rw [List.length_append, List.flatMap_append]
    exact h2
set_option maxRecDepth 100000 in
theorem info_re : (Try.prog.info? 73).map (fun i => (i.zero, i.size, i.bytes)) = some (some (.agg #[.int .i64 0, .int .i64 0, .int .i64 0]), 3, 24) := by kernel_rfl
set_option maxRecDepth 100000 in
theorem info_cm : (Try.prog.info? 62).map (fun i => (i.zero, i.size, i.bytes)) = some (some (.agg #[.int .i64 0, .int .i64 0, .int .i64 0]), 3, 24) := by kernel_rfl
set_option maxRecDepth 100000 in
theorem t3_one (x : T3) : ∀ u ∈ t3C x, u.oneCell' = true := by
  intro u hu
  simp [t3C] at hu
  rcases hu with rfl | rfl | rfl <;> rfl
set_option maxRecDepth 100000 in
theorem cells3 (w : World) (x y z : Value) (t : TypeId) : ∀ j u, [x, y, z][j]? = some u → (w.alloc (.cells #[x, y, z] t)).cell? ((⟨w.heap.size, 0, none⟩ : Addr).add j) = some u := by
  intro j u hj
  rw [add_plain]
  have hb := heap_alloc_new w (.cells #[x, y, z] t)
  rcases j with _ | _ | _ | j
  · cases hj; exact cell_of_row _ _ _ _ _ _ hb
  · cases hj; exact cell_of_row _ _ _ _ _ _ hb
  · cases hj; exact cell_of_row _ _ _ _ _ _ hb
  · simp at hj
set_option maxRecDepth 100000 in
theorem own_otherA {w w' : World} {base size n b : Nat} {e : TypeId} {v : Value} {xs : List Value} (h : w.ownsRow base e size v n xs) (g : w.grownBy w' (some b)) (hb : b < base) : w'.ownsRow base e size v n xs := by
  refine h.kept g ?_
  cases hv : v.ownBlock with
  | none => exact .inl rfl
  | some x =>
    refine .inr fun e => ?_
    have := (h.lt x hv).1
    have := Option.some.inj e
    omega
end Go.Proofs.Ytnpkihioklpnmaa

/- advert.Valid. -/
namespace Go.Proofs.Ytnpkihioklpnmaa
open Go.RowKit Bs
set_option maxRecDepth 100000 in
theorem vl_dec (n : Int) : vl n = decide (n = 8 ∨ n = 16 ∨ n = 32 ∨ n = 64) := by
  rw [Bool.eq_iff_iff]
  unfold vl
  simp [or_assoc]
set_option maxRecDepth 100000 in
theorem awi_any (n lo hi : Int) (w : World) :
    Calls Try.prog 79 #[.int .i64 n, .int .i64 lo, .int .i64 hi] w fun e w' => e = .returned (.bool (decide (lo ≤ n ∧ n ≤ hi))) ∧ w = w' := by
  by_cases h1 : lo ≤ n
  · by_cases h2 : n ≤ hi
    · rw [decide_eq_true (show lo ≤ n ∧ n ≤ hi from ⟨h1, h2⟩)]
      go_enter Try.func79, Try.ntmps79
      go_wp2_with fail
      go_ret
      exact ⟨rfl, rfl⟩
    · rw [decide_eq_false (show ¬ (lo ≤ n ∧ n ≤ hi) from fun h => h2 h.2)]
      go_enter Try.func79, Try.ntmps79
      go_wp2_with fail
      go_ret
      exact ⟨rfl, rfl⟩
  · rw [decide_eq_false (show ¬ (lo ≤ n ∧ n ≤ hi) from fun h => h1 h.1)]
    go_enter Try.func79, Try.ntmps79
    go_wp2_with fail
    go_ret
    exact ⟨rfl, rfl⟩
set_option maxRecDepth 100000 in
theorem row3 {w : World} {b : Nat} {t : TypeId} {x y z : Value} (h : w.heap[b]? = some (.cells #[x, y, z] t (0, 0))) : w.cell? ⟨b, 0, none⟩ = some x ∧ w.cell? ⟨b, 1, none⟩ = some y ∧ w.cell? ⟨b, 2, none⟩ = some z := by
  refine ⟨?_, ?_, ?_⟩ <;> (rw [cell_of_row _ _ _ _ _ _ h]; rfl)
set_option maxRecDepth 100000 in
set_option maxHeartbeats 3200000 in
theorem avl_any (L : List T3) (r : Int) (p : Option Addr) (c : Nat) (q : Nat → Prop) (w : World) (hR : Rd3 w q (.slice p L.length c) L) (hm : L.length ≤ 9223372036854775807) :
    Calls Try.prog 80 #[.slice p L.length c, .int .i64 r] w fun e w' => e = .returned (.bool (vRe r 0 L)) ∧ w.grownBy w' none := by
  have HR := Lib.hid hR
  clear hR
  obtain ⟨X, hX⟩ : ∃ X, vRe r 0 L = X := ⟨_, rfl⟩
  rw [hX]
  have I0 : Hid (vRe r (lastA 0 L 0) (L.drop 0) = X) := Lib.hid (by rw [lastA_zero]; exact hX)
  have G0 : Hid (w.grownBy w none) := Lib.hid (grown_refl _ _)
  clear hX
  go_enter Try.func80, Try.ntmps80
  go_wp2_with fail
  go_loopw [5, 10] (fun la a wr => ∃ k : Nat, k ≤ L.length ∧ a = .int .i64 (k : Int) ∧ la = .int .i64 (lastA 0 L k) ∧ Hid (vRe r (lastA 0 L k) (L.drop k) = X) ∧ Hid (w.grownBy wr none)) (fun _ a _ => L.length - (RowKit.intOf a).toNat)
  case atStart => exact ⟨0, Nat.zero_le _, rfl, by rw [lastA_zero], I0, G0⟩
  case round =>
    obtain ⟨w2, rfl⟩ : ∃ w2, w2 = wr := ⟨_, rfl⟩
    obtain ⟨k, hk, rfl, rfl, HI, HG⟩ := hrel
    clear I0 G0
    by_cases hlt : k < L.length
    · obtain ⟨-, b, off, rfl, -, hc⟩ := rd3_cells (HR.out.keep HG.out) (by omega)
      obtain ⟨x, hx⟩ : ∃ x, L[k]? = some x := ⟨_, List.getElem?_eq_getElem hlt⟩
      obtain ⟨a0, a1, a2⟩ := hc k x hx
      have HS := Lib.hid (HI.out.symm.trans (vRe_step (r := r) (d := 0) hx))
      have HLA := Lib.hid (lastA_succ (d := 0) hx)
      have HBX := Lib.hid (heap_alloc_new w2 (.cells #[.int .i64 x.a, .int .i64 x.b, .int .i64 x.c] 73))
      have HGA := Lib.hid (World.grownBy_alloc w2 (.cells #[.int .i64 x.a, .int .i64 x.b, .int .i64 x.c] 73) none)
      clear hc hx
      go_upto_region 5 with fail
      clear a0 a1 a2
      generalize w2.alloc _ = w3 at *
      have HG3 := Lib.hid (grown_trans HG.out HGA.out)
      obtain ⟨d0, d1, d2⟩ := row3 HBX.out
      obtain ⟨t, ht⟩ : ∃ t, lastA 0 L k = t := ⟨_, rfl⟩
      rw [ht] at HS ⊢
      clear ht HI HG HGA
      by_cases h1 : x.a ≤ t
      · have hX : X = false := by rw [HS.out, show okRe r t x = false by unfold okRe; exact decide_eq_false (fun h => by omega)]; rfl
        subst hX
        go_wp2_with fail
        go_ret
        exact ⟨rfl, HG3.out⟩
      · by_cases h2 : 99 < x.a
        · have hX : X = false := by rw [HS.out, show okRe r t x = false by unfold okRe; exact decide_eq_false (fun h => by omega)]; rfl
          subst hX
          go_wp2_with fail
          go_ret
          exact ⟨rfl, HG3.out⟩
        · by_cases h3 : x.a = r
          · have hX : X = false := by rw [HS.out, show okRe r t x = false by unfold okRe; exact decide_eq_false (fun h => h.2.2.1 h3)]; rfl
            have h3' : (x.a == r) = true := by simpa using h3
            clear h3
            subst hX
            go_wp2_with fail
            go_ret
            exact ⟨rfl, HG3.out⟩
          · have h3' : (x.a == r) = false := by simpa using h3
            have H3 := Lib.hid h3
            clear h3
            obtain ⟨v1, hv1⟩ : ∃ v1, decide ((1 : Int) ≤ x.b ∧ x.b ≤ 1000) = v1 := ⟨_, rfl⟩
            obtain ⟨v2, hv2⟩ : ∃ v2, decide ((0 : Int) ≤ x.c ∧ x.c ≤ 1000) = v2 := ⟨_, rfl⟩
            have HV1 := Lib.hid hv1
            have HV2 := Lib.hid hv2
            have HO : Hid (okRe r t x = (v1 && v2)) := Lib.hid (by
              rw [← hv1, ← hv2, ← Bool.decide_and]
              unfold okRe
              exact decide_eq_decide.2 ⟨fun h => ⟨h.2.2.2.1, h.2.2.2.2⟩, fun h => ⟨by omega, by omega, H3.out, h.1, h.2⟩⟩)
            clear hv1 hv2
            go_wp2_with fail
            refine (awi_any x.b 1 1000 _).mono ?_
            rintro e w' ⟨rfl, rfl⟩
            rw [HV1.out]
            cases v1 with
            | false =>
              have hX : X = false := by rw [HS.out, HO.out]; rfl
              subst hX
              go_wp2_with fail
              go_ret
              exact ⟨rfl, HG3.out⟩
            | true =>
              go_wp2_with fail
              refine (awi_any x.c 0 1000 _).mono ?_
              rintro e w' ⟨rfl, rfl⟩
              rw [HV2.out]
              cases v2 with
              | false =>
                have hX : X = false := by rw [HS.out, HO.out]; rfl
                subst hX
                go_wp2_with fail
                go_ret
                exact ⟨rfl, HG3.out⟩
              | true =>
                have HI2 : Hid (vRe r (lastA 0 L (k + 1)) (L.drop (k + 1)) = X) := Lib.hid (by rw [HS.out, HO.out]; rfl)
                have hl2 : Value.int .i64 x.a = .int .i64 (lastA 0 L (k + 1)) := by rw [HLA.out]
                have HL2 := Lib.hid hl2
                clear hl2
                go_wp2_with fail
                exact ⟨⟨k + 1, by omega, congrArg _ (by omega), HL2.out, HI2, HG3⟩, by simp only [RowKit.intOf]; omega⟩
    · obtain rfl : k = L.length := by omega
      obtain rfl : X = true := by rw [← HI.out]; exact vRe_end
      go_wp2_with fail
      go_ret
      exact ⟨rfl, HG.out⟩
set_option maxRecDepth 100000 in
set_option maxHeartbeats 3200000 in
theorem avc_any (L : List T3) (p : Option Addr) (c : Nat) (q : Nat → Prop) (w : World) (hR : Rd3 w q (.slice p L.length c) L) (hm : L.length ≤ 9223372036854775807) :
    Calls Try.prog 81 #[.slice p L.length c] w fun e w' => e = .returned (.bool (vCm (-1) L)) ∧ w.grownBy w' none := by
  have HR := Lib.hid hR
  clear hR
  obtain ⟨X, hX⟩ : ∃ X, vCm (-1) L = X := ⟨_, rfl⟩
  rw [hX]
  have I0 : Hid (vCm (lastA (-1) L 0) (L.drop 0) = X) := Lib.hid (by rw [lastA_zero]; exact hX)
  have G0 : Hid (w.grownBy w none) := Lib.hid (grown_refl _ _)
  clear hX
  go_enter Try.func81, Try.ntmps81
  go_wp2_with fail
  go_loopw [3, 8] (fun la a wr => ∃ k : Nat, k ≤ L.length ∧ a = .int .i64 (k : Int) ∧ la = .int .i64 (lastA (-1) L k) ∧ Hid (vCm (lastA (-1) L k) (L.drop k) = X) ∧ Hid (w.grownBy wr none)) (fun _ a _ => L.length - (RowKit.intOf a).toNat)
  case atStart => exact ⟨0, Nat.zero_le _, rfl, by rw [lastA_zero], I0, G0⟩
  case round =>
    obtain ⟨w2, rfl⟩ : ∃ w2, w2 = wr := ⟨_, rfl⟩
    obtain ⟨k, hk, rfl, rfl, HI, HG⟩ := hrel
    clear I0 G0
    by_cases hlt : k < L.length
    · obtain ⟨-, b, off, rfl, -, hc⟩ := rd3_cells (HR.out.keep HG.out) (by omega)
      obtain ⟨x, hx⟩ : ∃ x, L[k]? = some x := ⟨_, List.getElem?_eq_getElem hlt⟩
      obtain ⟨a0, a1, a2⟩ := hc k x hx
      have HS := Lib.hid (HI.out.symm.trans (vCm_step (d := -1) hx))
      have HLA := Lib.hid (lastA_succ (d := -1) hx)
      have HBX := Lib.hid (heap_alloc_new w2 (.cells #[.int .i64 x.a, .int .i64 x.b, .int .i64 x.c] 62))
      have HGA := Lib.hid (World.grownBy_alloc w2 (.cells #[.int .i64 x.a, .int .i64 x.b, .int .i64 x.c] 62) none)
      clear hc hx
      go_upto_region 5 with fail
      clear a0 a1 a2
      generalize w2.alloc _ = w3 at *
      have HG3 := Lib.hid (grown_trans HG.out HGA.out)
      obtain ⟨d0, d1, d2⟩ := row3 HBX.out
      obtain ⟨t, ht⟩ : ∃ t, lastA (-1) L k = t := ⟨_, rfl⟩
      rw [ht] at HS ⊢
      clear ht HI HG HGA
      by_cases h1 : x.a ≤ t
      · have hX : X = false := by rw [HS.out, show okCm t x = false by unfold okCm; exact decide_eq_false (fun h => by omega)]; rfl
        subst hX
        go_wp2_with fail
        go_ret
        exact ⟨rfl, HG3.out⟩
      · by_cases h2 : 7 < x.a
        · have hX : X = false := by rw [HS.out, show okCm t x = false by unfold okCm; exact decide_eq_false (fun h => by omega)]; rfl
          subst hX
          go_wp2_with fail
          go_ret
          exact ⟨rfl, HG3.out⟩
        · obtain ⟨v1, hv1⟩ : ∃ v1, decide ((1 : Int) ≤ x.b ∧ x.b ≤ 256) = v1 := ⟨_, rfl⟩
          obtain ⟨v2, hv2⟩ : ∃ v2, decide (x.c = 8 ∨ x.c = 16 ∨ x.c = 32 ∨ x.c = 64) = v2 := ⟨_, rfl⟩
          have HV1 := Lib.hid hv1
          have HV2 : Hid (vl x.c = v2) := Lib.hid (by rw [← hv2]; exact vl_dec x.c)
          have HO : Hid (okCm t x = (v1 && v2)) := Lib.hid (by
            rw [← hv1, ← hv2, ← Bool.decide_and]
            unfold okCm
            exact decide_eq_decide.2 ⟨fun h => ⟨h.2.2.1, h.2.2.2⟩, fun h => ⟨by omega, by omega, h.1, h.2⟩⟩)
          clear hv1 hv2
          go_wp2_with fail
          refine (awi_any x.b 1 256 _).mono ?_
          rintro e w' ⟨rfl, rfl⟩
          rw [HV1.out]
          cases v1 with
          | false =>
            have hX : X = false := by rw [HS.out, HO.out]; rfl
            subst hX
            go_wp2_with fail
            go_ret
            exact ⟨rfl, HG3.out⟩
          | true =>
            go_wp2_with fail
            refine (vlp_any x.c _).mono ?_
            rintro e w' ⟨rfl, rfl⟩
            rw [HV2.out]
            cases v2 with
            | false =>
              have hX : X = false := by rw [HS.out, HO.out]; rfl
              subst hX
              go_wp2_with fail
              go_ret
              exact ⟨rfl, HG3.out⟩
            | true =>
              have HI2 : Hid (vCm (lastA (-1) L (k + 1)) (L.drop (k + 1)) = X) := Lib.hid (by rw [HS.out, HO.out]; rfl)
              have hl2 : Value.int .i64 x.a = .int .i64 (lastA (-1) L (k + 1)) := by rw [HLA.out]
              have HL2 := Lib.hid hl2
              clear hl2
              go_wp2_with fail
              exact ⟨⟨k + 1, by omega, congrArg _ (by omega), HL2.out, HI2, HG3⟩, by simp only [RowKit.intOf]; omega⟩
    · obtain rfl : k = L.length := by omega
      obtain rfl : X = true := by rw [← HI.out]; exact vCm_end
      go_wp2_with fail
      go_ret
      exact ⟨rfl, HG.out⟩
/-- The box of an advert. -/
def adC (A : Ad) : Array Value := #[.int .i64 A.r, .int .i64 A.q, .bool A.cp, .slice A.pL A.L.length A.cL, .slice A.pC A.C.length A.cC]
set_option maxRecDepth 100000 in
theorem ad_facts {w : World} {b : Nat} {A : Ad} (h : w.heap[b]? = some (.cells (adC A) 38 (0, 0))) :
    w.cell? ⟨b, 0, none⟩ = some (.int .i64 A.r) ∧ w.cell? ⟨b, 1, none⟩ = some (.int .i64 A.q) ∧ w.cell? ⟨b, 2, none⟩ = some (.bool A.cp) ∧ w.cell? ⟨b, 3, none⟩ = some (.slice A.pL A.L.length A.cL) ∧ w.cell? ⟨b, 4, none⟩ = some (.slice A.pC A.C.length A.cC) := by
  refine ⟨?_, ?_, ?_, ?_, ?_⟩ <;> (rw [cell_of_row _ _ _ _ _ _ h]; rfl)
set_option maxRecDepth 100000 in
set_option maxHeartbeats 3200000 in
theorem avalid_any (A : Ad) (q : Nat → Prop) (w : World) (hA : AdOk w q A) :
    Calls Try.prog 49 #[A.val] w fun e w' => e = .returned (.bool (vAd A)) ∧ w.grownBy w' none := by
  have hm1 := Nat.le_trans hA.hl.1 hA.hl.2
  have hm2 := Nat.le_trans hA.hc.1 hA.hc.2
  have hb := heap_alloc_new w (.cells (adC A) 38)
  have hg := World.grownBy_alloc w (.cells (adC A) 38) none
  have HB := Lib.hid (And.intro hb (And.intro hg (hA.keep hg)))
  clear hb hg hA
  obtain ⟨X, hX⟩ : ∃ X, vAd A = X := ⟨_, rfl⟩
  have HX := Lib.hid hX
  rw [hX]
  clear hX
  unfold Ad.val
  obtain ⟨v1, hv1⟩ : ∃ v, decide ((1 : Int) ≤ A.r ∧ A.r ≤ 99) = v := ⟨_, rfl⟩
  obtain ⟨v2, hv2⟩ : ∃ v, decide ((1 : Int) ≤ A.q ∧ A.q ≤ 1000000) = v := ⟨_, rfl⟩
  obtain ⟨v3, hv3⟩ : ∃ v, vRe A.r 0 A.L = v := ⟨_, rfl⟩
  obtain ⟨v4, hv4⟩ : ∃ v, vCm (-1) A.C = v := ⟨_, rfl⟩
  have HV := Lib.hid (And.intro hv1 (And.intro hv2 (And.intro hv3 hv4)))
  have HS : Hid (X = ((v1 && (v2 && decide (A.L.length ≤ 23))) && (v3 && (decide (A.C.length ≤ 8) && v4)))) := Lib.hid (by
    rw [← HX.out]; unfold vAd vHd vClaims; rw [hv3, hv4, ← hv1, ← hv2, Bool.decide_and, Bool.decide_and (p := (1 : Int) ≤ A.q ∧ A.q ≤ 1000000)])
  clear hv1 hv2 hv3 hv4
  go_enter Try.func49, Try.ntmps49
  go_upto_region 1 with fail
  unfold adC at HB
  generalize w.alloc _ = w0 at *
  obtain ⟨c0, c1, c2, c3, c4⟩ := ad_facts (A := A) HB.out.1
  go_wp2_with fail
  refine (awi_any A.r 1 99 _).mono ?_
  rintro e w' ⟨rfl, rfl⟩
  rw [HV.out.1]
  cases v1 with
  | false =>
    have hX : X = false := by rw [HS.out]; rfl
    subst hX
    go_wp2_with fail
    go_ret
    exact ⟨rfl, HB.out.2.1⟩
  | true =>
    go_wp2_with fail
    refine (awi_any A.q 1 1000000 _).mono ?_
    rintro e w' ⟨rfl, rfl⟩
    rw [HV.out.2.1]
    cases v2 with
    | false =>
      have hX : X = false := by rw [HS.out]; rfl
      subst hX
      go_wp2_with fail
      go_ret
      exact ⟨rfl, HB.out.2.1⟩
    | true =>
      by_cases h1 : 23 < A.L.length
      · have hX : X = false := by rw [HS.out, decide_eq_false (show ¬ A.L.length ≤ 23 by omega)]; rfl
        have h1' : (23 : Int) < (A.L.length : Int) := by omega
        subst hX
        go_wp2_with fail
        go_ret
        exact ⟨rfl, HB.out.2.1⟩
      · have h1' : ¬ (23 : Int) < (A.L.length : Int) := by omega
        by_cases h2 : 8 < A.C.length
        · have hX : X = false := by rw [HS.out, decide_eq_false (show ¬ A.C.length ≤ 8 by omega)]; simp
          have h2' : (8 : Int) < (A.C.length : Int) := by omega
          subst hX
          go_wp2_with fail
          go_ret
          exact ⟨rfl, HB.out.2.1⟩
        · have h2' : ¬ (8 : Int) < (A.C.length : Int) := by omega
          have HS2 : Hid (X = (v3 && v4)) := Lib.hid (by rw [HS.out, decide_eq_true (show A.L.length ≤ 23 by omega), decide_eq_true (show A.C.length ≤ 8 by omega)]; rfl)
          go_wp2_with fail
          refine (avl_any A.L A.r _ _ _ _ HB.out.2.2.l hm1).mono ?_
          rintro e w1 ⟨rfl, g1⟩
          rw [HV.out.2.2.1]
          have HB1 := Lib.hid (And.intro (kept_row HB.out.1 g1 (by simp)) (And.intro (grown_trans HB.out.2.1 g1) (HB.out.2.2.keep g1)))
          clear g1 c0 c1 c2 c3 c4
          obtain ⟨c0, c1, c2, c3, c4⟩ := ad_facts (A := A) HB1.out.1
          cases v3 with
          | false =>
            have hX : X = false := by rw [HS2.out]; rfl
            subst hX
            go_wp2_with fail
            go_ret
            exact ⟨rfl, HB1.out.2.1⟩
          | true =>
            have hX : X = v4 := by rw [HS2.out]; rfl
            subst hX
            go_wp2_with fail
            refine (avc_any A.C _ _ _ _ HB1.out.2.2.c hm2).mono ?_
            rintro e w2 ⟨rfl, g2⟩
            rw [HV.out.2.2.2]
            have HG := Lib.hid (grown_trans HB1.out.2.1 g2)
            clear g2 c0 c1 c2 c3 c4
            go_wp2_with fail
            go_ret
            exact ⟨rfl, HG.out⟩
end Go.Proofs.Ytnpkihioklpnmaa

/- The program's zeros; copy into a row of the call's own. -/
namespace Go.Proofs.Ytnpkihioklpnmaa
open Go.RowKit Bs
end Go.Proofs.Ytnpkihioklpnmaa

/- Take, of the program and of the reference. -/
namespace Go.Proofs.Ytnpkihioklpnmaa
open Go.RowKit Bs
set_option maxRecDepth 100000 in
theorem vw_nat {k : Int} (h : vw k = true) : ∃ K : Nat, k = (K : Int) ∧ K ≤ 64 := by
  unfold vw at h
  simp at h
  exact ⟨k.toNat, by omega, by omega⟩
set_option maxRecDepth 100000 in
theorem vs_bits {l : List Nat} {N : Nat} (h : vs l (N : Int) = true) : N ≤ 8192 ∧ l.length = (N + 7) / 8 := ⟨(vs_iff.1 h).1, (vs_iff.1 h).2.1⟩
set_option maxRecDepth 100000 in
/-- One block laid. -/
theorem one_box (w : World) (A : Array Value) (t : TypeId) : (w.alloc (.cells A t)).heap[w.heap.size]? = some (.cells A t (0, 0)) ∧ w.grownBy (w.alloc (.cells A t)) none := ⟨heap_alloc_new w _, World.grownBy_alloc w _ _⟩
end Go.Proofs.Ytnpkihioklpnmaa

/- The program's Append. -/
namespace Go.Proofs.Ytnpkihioklpnmaa
open Go.RowKit Bs
/-- The bits of a stream, then the k lowest bits of v. -/
def apf (l : List Nat) (N v K : Nat) : Nat → Bool := fun i => if i < N then bt l i else v.testBit (K - 1 - (i - N))
/-- What Append returns: the bytes, the number of bits, the error. -/
def apV (l : List Nat) (n : Int) (v : Nat) (k : Int) : List Nat × Int × Int :=
  if vs l n = false then ([], 0, 1) else if vw k = false then ([], 0, 2) else if 2 ^ k.toNat ≤ v then ([], 0, 2) else if 8192 < n + k then ([], 0, 3) else
    (pz (apf l n.toNat v k.toNat) (n.toNat + k.toNat) ((n.toNat + k.toNat + 7) / 8), n + k, 0)
set_option maxRecDepth 100000 in
theorem apV_inv {l : List Nat} {n k : Int} {v : Nat} (h : vs l n = false) : apV l n v k = ([], 0, 1) := by unfold apV; rw [if_pos h]
set_option maxRecDepth 100000 in
theorem apV_width {l : List Nat} {n k : Int} {v : Nat} (h : vs l n = true) (h2 : vw k = false) : apV l n v k = ([], 0, 2) := by unfold apV; rw [if_neg (by simp [h]), if_pos h2]
set_option maxRecDepth 100000 in
theorem apV_value {l : List Nat} {n : Int} {K v : Nat} (h : vs l n = true) (h2 : vw (K : Int) = true) (h3 : 2 ^ K ≤ v) : apV l n v (K : Int) = ([], 0, 2) := by unfold apV; rw [if_neg (by simp [h]), if_neg (by simp [h2]), Int.toNat_natCast, if_pos h3]
set_option maxRecDepth 100000 in
theorem apV_limit {l : List Nat} {N K v : Nat} (h : vs l (N : Int) = true) (h2 : vw (K : Int) = true) (h3 : ¬ 2 ^ K ≤ v) (h4 : 8192 < N + K) : apV l (N : Int) v (K : Int) = ([], 0, 3) := by
  unfold apV; rw [if_neg (by simp [h]), if_neg (by simp [h2]), Int.toNat_natCast, if_neg h3, if_pos (by omega)]
set_option maxRecDepth 100000 in
theorem apV_ok {l : List Nat} {N K v : Nat} (h : vs l (N : Int) = true) (h2 : vw (K : Int) = true) (h3 : ¬ 2 ^ K ≤ v) (h4 : ¬ 8192 < N + K) : apV l (N : Int) v (K : Int) = (pz (apf l N v K) (N + K) ((N + K + 7) / 8), ((N + K : Nat) : Int), 0) := by
  unfold apV; rw [if_neg (by simp [h]), if_neg (by simp [h2]), Int.toNat_natCast, Int.toNat_natCast, if_neg h3, if_neg (by omega)]; rfl
set_option maxRecDepth 100000 in
theorem sr_nil (w : World) (q : Nat → Prop) (n : Int) : SR w q (.agg #[.slice none 0 0, .int .i64 n]) [] n := ⟨none, 0, rfl, Rd.nil_ _ _ _ _, fun _ => rfl, fun x hx => by cases hx⟩
set_option maxRecDepth 100000 in
theorem pz_copy {l : List Nat} {N M : Nat} {f : Nat → Bool} (hl : By l) (hv : vs l (N : Int) = true) (hM : l.length ≤ M) (hf : ∀ i, i < N → f i = bt l i) : l ++ (List.replicate M 0).drop l.length = pz f N M := by
  obtain ⟨h1, h2, h3⟩ := vs_iff.1 hv
  have e := pz_bt l N hl fun i hi hi2 => h3 i hi2 hi
  apply List.ext_getElem?
  intro j
  by_cases hj : j < M
  · rw [pz_at _ _ _ _ hj]
    by_cases hjl : j < l.length
    · rw [List.getElem?_append_left hjl]
      have e2 : l[j]? = (pz (bt l) N l.length)[j]? := congrArg (fun x : List Nat => x[j]?) e
      rw [e2, pz_at _ _ _ _ hjl]
      refine congrArg some (py_congr fun i _ _ => ?_)
      by_cases hi : i < N
      · rw [hf i hi]
      · simp [hi]
    · rw [List.getElem?_append_right (by omega), List.getElem?_drop, List.getElem?_replicate, if_pos (by omega), py_zero f (by omega)]
  · rw [List.getElem?_eq_none (by simp; omega), List.getElem?_eq_none (by rw [pz_len]; omega)]
set_option maxRecDepth 100000 in
theorem apf_low {l : List Nat} {N v K : Nat} : ∀ i, i < N → apf l N v K i = bt l i := fun i hi => by unfold apf; rw [if_pos hi]
set_option maxRecDepth 100000 in
theorem apf_high {l : List Nat} {N v K : Nat} : ∀ t, t < K → apf l N v K (N + t) = v.testBit (K - 1 - t) := fun t _ => by
  unfold apf; rw [if_neg (by omega), show N + t - N = t by omega]
end Go.Proofs.Ytnpkihioklpnmaa
