/- Parts of the proof, packed: ToUntil, AdStep, AdRea, AdVal, IoZeros, IoTake, IoAppend, IoAppendR, IoSlice, IoJoin, IoAlign, IoCheck, Spread, Full, PkBits, PkFields, Funs, PkHead, PkCalls, AdPut, PkRd, AdTake, PkValid, PkRes, PkRead, PkMis, PkSize, PkRefs, PkRefs2, PkWrite, PkAlign, PkEncode, IoCheckR, IoSliceR, IoJoinR, PkText, PkBox, Ref, Draw, PkTape, PkTapeN, PkList, PkEncR, PkEncR2, AdWrA, AdWr, AdEnc, AdCmp. -/
import Derived.Deep.RegionHeld
import Derived.Test.YtnpkihioklpnmaaDo1
import Derived.Test.YtnpkihioklpnmaaDo4
import Derived.Maps.AppendAt
import Derived.Test.YtnpkihioklpnmaaDo2
import Derived.Deep.CutRange
import Derived.BigQuiet
import Derived.Deep.OwnRows
import Derived.WalkMore
import Derived.Deep.LoopGhost
import Derived.OwnWalk
import Derived.Lib.ConvBytes
import Derived.Deep.RegionHeld3
import Derived.Lib.BufferRead
/- A region that draws its order: loads are taken first although a late operation writes their cells; what they want of the world holds until then. -/
namespace Go.Proofs.Ytnpkihioklpnmaa
open Go
section
variable {P : Program} {ops : Array Oper} {Q : Exit → Act → World → Prop} {md : Region.Mode} {S : World → Prop} {late : Nat → Bool}
/-- Any order from here on; S holds behind whatever is not late. -/
def anyU (P : Program) (md : Region.Mode) (ops : Array Oper) (Q : Exit → Act → World → Prop) (S : World → Prop) (late : Nat → Bool) : Nat → Array Bool → Act → World → Prop
  | 0, seen, a, w => Region.ready md ops seen = [] ∧ Q .normal a w
  | n + 1, seen, a, w => (Region.ready md ops seen = [] → Q .normal a w) ∧
      ∀ k, k ∈ Region.ready md ops seen → wpOp P ops Q k (fun b v => (late k = false → S v) ∧ anyU P md ops Q S late n (seen.setIfInBounds k true) b v) a w
set_option maxRecDepth 100000 in
theorem anyU_any (n : Nat) : ∀ (seen : Array Bool) (a : Act) (w : World), anyU P md ops Q S late n seen a w → wpAny P md ops Q n seen a w := by
  induction n with
  | zero => intro seen a w h; exact h
  | succ n ih => intro seen a w h; exact ⟨h.1, fun k hk => wpOp_mono (fun b v hb => ih _ b v hb.2) (h.2 k hk)⟩
/-- Number j waits for number i, perhaps by way of others. -/
def reach (md : Region.Mode) (ops : Array Oper) : Nat → Nat → Nat → Bool
  | 0, _, _ => false
  | n + 1, j, i => match ops[j]? with
    | some o => o.after.any fun e => Region.binds md e && (e.on == i || reach md ops n e.on i)
    | none => false
/-- Whatever is late waits for number i. -/
def waits (md : Region.Mode) (ops : Array Oper) (late : Nat → Bool) (i : Nat) : Bool :=
  (List.range ops.size).all fun j => !late j || reach md ops ops.size j i
/-- What has come up has come up behind all that it waits for. -/
def Shut1 (md : Region.Mode) (ops : Array Oper) (seen : Array Bool) : Prop :=
  ∀ (j : Nat) (o : Oper), ops[j]? = some o → seen.getD j false = true → ∀ e ∈ o.after, Region.binds md e = true → seen.getD e.on false = true
def shut1 (md : Region.Mode) (ops : Array Oper) (seen : Array Bool) : Bool :=
  (List.range ops.size).all fun j => !seen.getD j false || (match ops[j]? with
    | some o => o.after.all fun e => !Region.binds md e || seen.getD e.on false
    | none => true)
set_option maxRecDepth 100000 in
theorem shut1_spec {seen : Array Bool} (h : shut1 md ops seen = true) : Shut1 md ops seen := by
  intro j o ho hj e he hb
  unfold shut1 at h
  rw [List.all_eq_true] at h
  have h1 := h j (List.mem_range.2 (Array.getElem?_eq_some_iff.1 ho).1)
  rw [hj, ho] at h1
  simp only [Bool.not_true, Bool.false_or] at h1
  rw [Array.all_eq_true_iff_forall_mem] at h1
  have h2 := h1 e he
  rw [hb] at h2
  simpa using h2
set_option maxRecDepth 100000 in
theorem Shut1.step {seen : Array Bool} {j : Nat} (h : Shut1 md ops seen) (hj : j ∈ Region.ready md ops seen) : Shut1 md ops (seen.setIfInBounds j true) := by
  intro k o ho hk e he hb
  by_cases hjk : j = k
  · subst hjk
    obtain ⟨_, o2, ho2, hall⟩ := mem_ready.1 hj
    rw [ho] at ho2
    obtain rfl := Option.some.inj ho2
    exact getD_set_true (hall e he hb)
  · rw [getD_set_ne false hjk] at hk
    exact getD_set_true (h k o ho hk e he hb)
set_option maxRecDepth 100000 in
theorem reach_seen {seen : Array Bool} (hc : Shut1 md ops seen) (i : Nat) : ∀ (n j : Nat) (o : Oper), ops[j]? = some o → (∀ e ∈ o.after, Region.binds md e = true → seen.getD e.on false = true) → reach md ops n j i = true → seen.getD i false = true := by
  intro n
  induction n with
  | zero => intro j o _ _ h; cases h
  | succ n ih =>
    intro j o ho hall h
    unfold reach at h
    rw [ho] at h
    simp only at h
    rw [Array.any_eq_true'] at h
    obtain ⟨e, he, hb⟩ := h
    rw [Bool.and_eq_true, Bool.or_eq_true] at hb
    have h1 := hall e he hb.1
    rcases hb.2 with h2 | h2
    · have : e.on = i := by simpa using h2
      rwa [this] at h1
    · cases ho2 : ops[e.on]? with
      | none =>
        cases n with
        | zero => cases h2
        | succ n =>
          unfold reach at h2
          rw [ho2] at h2
          cases h2
      | some o2 => exact ih e.on o2 ho2 (hc e.on o2 ho2 h1) h2
set_option maxRecDepth 100000 in
theorem waits_seen {seen : Array Bool} {i j : Nat} (hw : waits md ops late i = true) (hc : Shut1 md ops seen) (hj : j ∈ Region.ready md ops seen) (hl : late j = true) : seen.getD i false = true := by
  obtain ⟨_, o, ho, hall⟩ := mem_ready.1 hj
  unfold waits at hw
  rw [List.all_eq_true] at hw
  have h1 := hw j (List.mem_range.2 (Array.getElem?_eq_some_iff.1 ho).1)
  rw [hl] at h1
  exact reach_seen hc i _ j o ho hall (by simpa using h1)
set_option maxRecDepth 100000 in
theorem anyU_first {i : Nat} {oi : Oper} {v : Value} (hi : ops[i]? = some oi) (hsel : ∀ (j : Nat) (o : Oper) cs b, ops[j]? = some o → o.op ≠ .select cs b)
    (hQ : ∀ c a w, Q (.panic c) (a.put oi.dst v) w → Q (.panic c) a w) (hw : waits md ops late i = true) (n : Nat) :
    ∀ (seen : Array Bool) (a : Act) (w : World),
      (∀ j oj, ops[j]? = some oj → j ≠ i → seen.getD j true = false → (∀ e ∈ oj.after, Region.binds md e = true → e.on ≠ i) → oi.apart ops oj = true) →
      Shut1 md ops seen → i ∈ Region.ready md ops seen → YieldsIf P ops S oi v a → S w → anyU P md ops Q S late n (seen.setIfInBounds i true) (a.put oi.dst v) w → anyU P md ops Q S late (n + 1) seen a w := by
  have now : ∀ (m : Nat) (seen : Array Bool) (a : Act) (w : World), YieldsIf P ops S oi v a → S w → anyU P md ops Q S late m (seen.setIfInBounds i true) (a.put oi.dst v) w →
      wpOp P ops Q i (fun b u => (late i = false → S u) ∧ anyU P md ops Q S late m (seen.setIfInBounds i true) b u) a w := fun m seen a w hy hS h => hy.wpOp hi hS ⟨fun _ => hS, h⟩
  induction n with
  | zero =>
    intro seen a w _ _ hr hy hS h
    refine ⟨fun e => (by rw [e] at hr; cases hr), fun j hj => ?_⟩
    by_cases e : j = i
    · exact e ▸ now 0 seen a w hy hS h
    · have := ready_mono hj e
      rw [h.1] at this
      cases this
  | succ n ih =>
    intro seen a w hf hc hr hy hS h
    refine ⟨fun e => (by rw [e] at hr; cases hr), fun j hj => ?_⟩
    by_cases e : j = i
    · exact e ▸ now (n + 1) seen a w hy hS h
    obtain ⟨hun, oj, hoj, hall⟩ := mem_ready.1 hj
    have hno : ∀ e ∈ oj.after, Region.binds md e = true → e.on ≠ i := fun e he hb hei => by
      have h1 := hall e he hb
      have h0 := (mem_ready.1 hr).1
      rw [hei] at h1
      by_cases hlt : i < seen.size
      · simp [hlt] at h0 h1
        rw [h0] at h1
        cases h1
      · simp [Array.getElem?_eq_none (Nat.le_of_not_lt hlt)] at h1
    have hl : late j = false := by
      cases hl : late j with
      | false => rfl
      | true =>
        have h1 := waits_seen hw hc hj hl
        have h0 := (mem_ready.1 hr).1
        by_cases hlt : i < seen.size
        · simp [hlt] at h0 h1
          rw [h0] at h1
          cases h1
        · simp [Array.getElem?_eq_none (Nat.le_of_not_lt hlt)] at h1
    refine wpOp_mono (fun b u hb => ⟨hb.2.1, ih _ b u (fun k ok hk hki hsk hnk => hf k ok hk hki ?_ hnk) (hc.step hj) (ready_mono hr (Ne.symm e)) hb.1 (hb.2.1 hl) (by rw [Array.setIfInBounds_comm _ _ e]; exact hb.2.2)⟩)
      (wpOp_putIf hoj (hf j oj hoj e hun hno) (fun cs b => hsel i oi cs b hi) (fun cs b => hsel j oj cs b hoj) hQ hy (h.2 j (ready_mono hj e)))
    by_cases hjk : j = k
    · exact hjk ▸ hun
    · rwa [getD_set_ne true hjk] at hsk
set_option maxRecDepth 100000 in
theorem anyU_take {i : Nat} {oi : Oper} {v : Value} {n : Nat} {seen : Array Bool} {a : Act} {w : World} (hi : ops[i]? = some oi) (hw : waits md ops late i = true)
    (hc : shut1 md ops seen = true) (hs : Region.noSelect ops = true) (hf : Region.free md ops seen i = true) (hr : (Region.ready md ops seen).contains i = true)
    (hQ : ∀ c a w, Q (.panic c) (a.put oi.dst v) w → Q (.panic c) a w) (hy : YieldsIf P ops S oi v a) (hS : S w)
    (h : anyU P md ops Q S late n (seen.setIfInBounds i true) (a.put oi.dst v) w) : anyU P md ops Q S late (n + 1) seen a w :=
  anyU_first hi (Region.noSelect_spec hs) hQ hw n seen a w (Region.free_spec hi hf) (shut1_spec hc) (by simpa using hr) hy hS h
/-- Each of some operations comes up next. -/
def EachU (P : Program) (md : Region.Mode) (ops : Array Oper) (Q : Exit → Act → World → Prop) (S : World → Prop) (late : Nat → Bool) (n : Nat) (seen : Array Bool) (a : Act) (w : World) (rs : List Nat) : Prop :=
  ∀ k ∈ rs, wpOp P ops Q k (fun b v => (late k = false → S v) ∧ anyU P md ops Q S late n (seen.setIfInBounds k true) b v) a w
set_option maxRecDepth 100000 in
theorem EachU.nil {n : Nat} {seen : Array Bool} {a : Act} {w : World} : EachU P md ops Q S late n seen a w [] := fun _ h => by cases h
set_option maxRecDepth 100000 in
theorem EachU.cons {n : Nat} {seen : Array Bool} {a : Act} {w : World} {i : Nat} {o : Oper} {rs : List Nat} (ho : ops[i]? = some o)
    (h : ∀ K : Act → World → Prop, Shut (∀ b v, (late i = false → S v) → ((late i = false → S v) → anyU P md ops Q S late n (seen.setIfInBounds i true) b v) → K b v) → if Region.wanted o (yielded ops a.tmps) = true then Oper.wp P o a w K Q else K (a.put o.dst undef) w)
    (hs : EachU P md ops Q S late n seen a w rs) : EachU P md ops Q S late n seen a w (i :: rs) := fun j hj => by
  rcases List.mem_cons.1 hj with rfl | hj
  · exact wpOp_step ho (fun K hK => h K (fun b v hS hW => hK b v ⟨hS, hW hS⟩))
  · exact hs j hj
set_option maxRecDepth 100000 in
theorem anyU_ready {rs : List Nat} {n : Nat} {seen : Array Bool} {a : Act} {w : World} (hr : Region.ready md ops seen = rs) (hne : rs ≠ []) (h : EachU P md ops Q S late n seen a w rs) : anyU P md ops Q S late (n + 1) seen a w :=
  ⟨fun e => absurd (hr ▸ e) hne, hr ▸ h⟩
set_option maxRecDepth 100000 in
theorem anyU_done {seen : Array Bool} {a : Act} {w : World} (hr : Region.ready md ops seen = []) (h : Q .normal a w) (n : Nat) : anyU P md ops Q S late n seen a w := by
  cases n with
  | zero => exact ⟨hr, h⟩
  | succ n => exact ⟨fun _ => h, by rw [hr]; intro k hk; cases hk⟩
set_option maxRecDepth 100000 in
theorem region_until {id : Nat} {a : Act} {w : World} (late : Nat → Bool) (hm : P.follows .mixedOrders = true) (hS : S w.drew) (h : S w.drew → anyU P .any ops Q S late ops.size (Array.replicate ops.size false) a w.drew) :
    (Code.region id ops true).wp P Q a w := wp_region_any hm (anyU_any _ _ _ _ (h hS))
end
end Go.Proofs.Ytnpkihioklpnmaa

/- append at a step of a region that draws its order; rows of links and claims of adverts. -/
namespace Go.Proofs.Ytnpkihioklpnmaa
open Go.RowKit Bs
set_option maxRecDepth 100000 in
theorem astep_app {α : Type} (f : α → List Value) (size bytes : Nat) (hsz : 0 < size) (hf : ∀ x, (f x).length = size) (hone : ∀ x, ∀ u ∈ f x, u.oneCell' = true) (e t : TypeId) (i : TypeInfo) (z : Value)
    (ht : Try.prog.underlying t = some (.slice e)) (hi : Try.prog.info? e = some i) (hz : i.zero = some z) (hsize : i.size = size) (hby : i.bytes = bytes) (hzs : z.cells.size = size) (hb40 : bytes ≤ 1000)
    {w : World} {ops : Array Oper} {o : Oper} {a : Act} {K : Act → World → Prop} {Q : Exit → Act → World → Prop} {E : Prop} (hgd : o.guard = none) (s x : Operand)
    (ho : o.op = .call { callee := .builtin .append, args := #[s, x], argTypes := #[t, t] }) (base : Nat) (v : Value) (l : List α) (hs : a.eval s = v) (hown : w.ownsRow base e size v l.length (l.flatMap f))
    (p : Option Addr) (k c : Nat) (r : List α) (hx : a.eval x = .slice p k c) (hk : k = r.length) (hn0 : p = none → c = 0) (q : Nat → Prop) (hR : RdF w q (.slice p k c) r.length (r.flatMap f)) (hkc : k ≤ c) (h63 : l.length + r.length ≤ 100000) (hbase : base ≤ w.heap.size)
    (h : ∀ p' c' w', w'.ownsRow base e size (.slice p' (l.length + r.length) c') (l ++ r).length ((l ++ r).flatMap f) → w.grownBy w' v.ownBlock → ((Value.slice p' (l.length + r.length) c').ownBlock = v.ownBlock ∨ (Value.slice p' (l.length + r.length) c').ownBlock = some w.heap.size) → K (a.put o.dst (.slice p' (l.length + r.length) c')) w') :
    if Region.wanted o (yielded ops a.tmps) = true then Oper.wp Try.prog o a w K Q else E := by
  have hw : Region.wanted o (yielded ops a.tmps) = true := by simp [Region.wanted, hgd]
  rw [if_pos hw]
  cases p with
  | none =>
    obtain rfl := hn0 rfl
    have hr : r.length = 0 := by omega
    obtain rfl := List.eq_nil_of_length_eq_zero hr
    obtain rfl : k = 0 := hk
    have hrun := run_append_owned_none (P := Try.prog) (w := w) base t o.type e i size ht hi v l.length (l.flatMap f) hown
    obtain ⟨p', c', rfl, -, -⟩ := own_shape hown
    unfold Oper.wp
    simp [execOp, ho, resolve, invoke, builtin, hs, hx, hrun, Result.andThen]
    refine h p' c' w ?_ (grown_refl _ _) (.inl rfl)
    rw [List.append_nil]
    exact hown
  | some ad =>
    have hb2 : (l.length + k) * bytes ≤ 140737488355328 := Nat.le_trans (Nat.mul_le_mul (show l.length + k ≤ 100000 by omega) hb40) (by decide)
    obtain ⟨v', w', hr, h2, h3, _, h5⟩ := run_append_own_at (P := Try.prog) w base t o.type e i z size bytes ht hi hz hsize hby hzs hsz v l.length (l.flatMap f) hown ad k c (r.flatMap f) (by rw [flat_len f size hf, hk]) (rdf_news hR) (by
      intro u hu
      obtain ⟨y, _, hy⟩ := List.mem_flatMap.1 hu
      exact hone y u hy) (by unfold maxLen; omega) hb2 hbase
    subst hk
    obtain ⟨p', c', rfl, -, -⟩ := own_shape h2
    unfold Oper.wp execOp
    simp only [ho, resolve, invoke, builtin, Sem.run_bind, Sem.run_pure, Result.andThen_ok, List.map_toArray, List.map_cons, List.map_nil, hs, hx, hr]
    refine h p' c' w' ?_ h3 h5
    rw [List.length_append, List.flatMap_append]
    exact h2
set_option maxRecDepth 100000 in
theorem info_re : (Try.prog.info? 73).map (fun i => (i.zero, i.size, i.bytes)) = some (some (.agg #[.int .i64 0, .int .i64 0, .int .i64 0]), 3, 24) := by kernel_rfl
set_option maxRecDepth 100000 in
theorem info_cm : (Try.prog.info? 62).map (fun i => (i.zero, i.size, i.bytes)) = some (some (.agg #[.int .i64 0, .int .i64 0, .int .i64 0]), 3, 24) := by kernel_rfl
set_option maxRecDepth 100000 in
theorem t3_one (x : T3) : ∀ u ∈ t3C x, u.oneCell' = true := by
  intro u hu
  simp [t3C] at hu
  rcases hu with rfl | rfl | rfl <;> rfl
set_option maxRecDepth 100000 in
theorem own_otherA {w w' : World} {base size n b : Nat} {e : TypeId} {v : Value} {xs : List Value} (h : w.ownsRow base e size v n xs) (g : w.grownBy w' (some b)) (hb : b < base) : w'.ownsRow base e size v n xs := by
  refine h.kept g ?_
  cases hv : v.ownBlock with
  | none => exact .inl rfl
  | some x =>
    refine .inr fun e => ?_
    have := (h.lt x hv).1
    have := Option.some.inj e
    omega
end Go.Proofs.Ytnpkihioklpnmaa

/- advert.reaches: what a router advertises of its links. -/
namespace Go.Proofs.Ytnpkihioklpnmaa
open Go.RowKit Bs
set_option maxRecDepth 100000 in
theorem one_row (w : World) (t : TypeId) (z : T3) (j : Nat) (u : Value) (hu : ([z].flatMap t3C)[j]? = some u) : (w.alloc (.cells #[.int .i64 z.a, .int .i64 z.b, .int .i64 z.c] t)).cell? ((⟨w.heap.size, 0, none⟩ : Addr).add j) = some u := by
  have h := heap_alloc_new w (.cells #[.int .i64 z.a, .int .i64 z.b, .int .i64 z.c] t)
  rw [add_plain, Nat.zero_add, cell_of_row _ _ _ _ _ _ h]
  have : [z].flatMap t3C = [.int .i64 z.a, .int .i64 z.b, .int .i64 z.c] := rfl
  rw [this] at hu
  simpa using hu
end Go.Proofs.Ytnpkihioklpnmaa

/- advert.Valid. -/
namespace Go.Proofs.Ytnpkihioklpnmaa
open Go.RowKit Bs
set_option maxRecDepth 100000 in
theorem vl_dec (n : Int) : vl n = decide (n = 8 ∨ n = 16 ∨ n = 32 ∨ n = 64) := by
  rw [Bool.eq_iff_iff]
  unfold vl
  simp [or_assoc]
set_option maxRecDepth 100000 in
theorem awi_any (n lo hi : Int) (w : World) :
    Calls Try.prog 79 #[.int .i64 n, .int .i64 lo, .int .i64 hi] w fun e w' => e = .returned (.bool (decide (lo ≤ n ∧ n ≤ hi))) ∧ w = w' := by
  by_cases h1 : lo ≤ n
  · by_cases h2 : n ≤ hi
    · rw [decide_eq_true (show lo ≤ n ∧ n ≤ hi from ⟨h1, h2⟩)]
      go_enter Try.func79, Try.ntmps79
      go_wp2_with fail
      go_ret
      exact ⟨rfl, rfl⟩
    · rw [decide_eq_false (show ¬ (lo ≤ n ∧ n ≤ hi) from fun h => h2 h.2)]
      go_enter Try.func79, Try.ntmps79
      go_wp2_with fail
      go_ret
      exact ⟨rfl, rfl⟩
  · rw [decide_eq_false (show ¬ (lo ≤ n ∧ n ≤ hi) from fun h => h1 h.1)]
    go_enter Try.func79, Try.ntmps79
    go_wp2_with fail
    go_ret
    exact ⟨rfl, rfl⟩
set_option maxRecDepth 100000 in
theorem row3 {w : World} {b : Nat} {t : TypeId} {x y z : Value} (h : w.heap[b]? = some (.cells #[x, y, z] t (0, 0))) : w.cell? ⟨b, 0, none⟩ = some x ∧ w.cell? ⟨b, 1, none⟩ = some y ∧ w.cell? ⟨b, 2, none⟩ = some z := by
  refine ⟨?_, ?_, ?_⟩ <;> (rw [cell_of_row _ _ _ _ _ _ h]; rfl)
set_option maxRecDepth 100000 in
set_option maxHeartbeats 3200000 in
theorem avl_any (L : List T3) (r : Int) (p : Option Addr) (c : Nat) (q : Nat → Prop) (w : World) (hR : Rd3 w q (.slice p L.length c) L) (hm : L.length ≤ 9223372036854775807) :
    Calls Try.prog 80 #[.slice p L.length c, .int .i64 r] w fun e w' => e = .returned (.bool (vRe r 0 L)) ∧ w.grownBy w' none := by
  have HR := Lib.hid hR
  clear hR
  obtain ⟨X, hX⟩ : ∃ X, vRe r 0 L = X := ⟨_, rfl⟩
  rw [hX]
  have I0 : Hid (vRe r (lastA 0 L 0) (L.drop 0) = X) := Lib.hid (by rw [lastA_zero]; exact hX)
  have G0 : Hid (w.grownBy w none) := Lib.hid (grown_refl _ _)
  clear hX
  go_enter Try.func80, Try.ntmps80
  go_wp2_with fail
  go_loopw [5, 10] (fun la a wr => ∃ k : Nat, k ≤ L.length ∧ a = .int .i64 (k : Int) ∧ la = .int .i64 (lastA 0 L k) ∧ Hid (vRe r (lastA 0 L k) (L.drop k) = X) ∧ Hid (w.grownBy wr none)) (fun _ a _ => L.length - (RowKit.intOf a).toNat)
  case atStart => exact ⟨0, Nat.zero_le _, rfl, by rw [lastA_zero], I0, G0⟩
  case round =>
    obtain ⟨w2, rfl⟩ : ∃ w2, w2 = wr := ⟨_, rfl⟩
    obtain ⟨k, hk, rfl, rfl, HI, HG⟩ := hrel
    clear I0 G0
    by_cases hlt : k < L.length
    · obtain ⟨-, b, off, rfl, -, hc⟩ := rd3_cells (HR.out.keep HG.out) (by omega)
      obtain ⟨x, hx⟩ : ∃ x, L[k]? = some x := ⟨_, List.getElem?_eq_getElem hlt⟩
      obtain ⟨a0, a1, a2⟩ := hc k x hx
      have HS := Lib.hid (HI.out.symm.trans (vRe_step (r := r) (d := 0) hx))
      have HLA := Lib.hid (lastA_succ (d := 0) hx)
      have HBX := Lib.hid (heap_alloc_new w2 (.cells #[.int .i64 x.a, .int .i64 x.b, .int .i64 x.c] 73))
      have HGA := Lib.hid (World.grownBy_alloc w2 (.cells #[.int .i64 x.a, .int .i64 x.b, .int .i64 x.c] 73) none)
      clear hc hx
      go_upto_region 5 with fail
      clear a0 a1 a2
      generalize w2.alloc _ = w3 at *
      have HG3 := Lib.hid (grown_trans HG.out HGA.out)
      obtain ⟨d0, d1, d2⟩ := row3 HBX.out
      obtain ⟨t, ht⟩ : ∃ t, lastA 0 L k = t := ⟨_, rfl⟩
      rw [ht] at HS ⊢
      clear ht HI HG HGA
      by_cases h1 : x.a ≤ t
      · have hX : X = false := by rw [HS.out, show okRe r t x = false by unfold okRe; exact decide_eq_false (fun h => by omega)]; rfl
        subst hX
        go_wp2_with fail
        go_ret
        exact ⟨rfl, HG3.out⟩
      · by_cases h2 : 99 < x.a
        · have hX : X = false := by rw [HS.out, show okRe r t x = false by unfold okRe; exact decide_eq_false (fun h => by omega)]; rfl
          subst hX
          go_wp2_with fail
          go_ret
          exact ⟨rfl, HG3.out⟩
        · by_cases h3 : x.a = r
          · have hX : X = false := by rw [HS.out, show okRe r t x = false by unfold okRe; exact decide_eq_false (fun h => h.2.2.1 h3)]; rfl
            have h3' : (x.a == r) = true := by simpa using h3
            clear h3
            subst hX
            go_wp2_with fail
            go_ret
            exact ⟨rfl, HG3.out⟩
          · have h3' : (x.a == r) = false := by simpa using h3
            have H3 := Lib.hid h3
            clear h3
            obtain ⟨v1, hv1⟩ : ∃ v1, decide ((1 : Int) ≤ x.b ∧ x.b ≤ 1000) = v1 := ⟨_, rfl⟩
            obtain ⟨v2, hv2⟩ : ∃ v2, decide ((0 : Int) ≤ x.c ∧ x.c ≤ 1000) = v2 := ⟨_, rfl⟩
            have HV1 := Lib.hid hv1
            have HV2 := Lib.hid hv2
            have HO : Hid (okRe r t x = (v1 && v2)) := Lib.hid (by
              rw [← hv1, ← hv2, ← Bool.decide_and]
              unfold okRe
              exact decide_eq_decide.2 ⟨fun h => ⟨h.2.2.2.1, h.2.2.2.2⟩, fun h => ⟨by omega, by omega, H3.out, h.1, h.2⟩⟩)
            clear hv1 hv2
            go_wp2_with fail
            refine (awi_any x.b 1 1000 _).mono ?_
            rintro e w' ⟨rfl, rfl⟩
            rw [HV1.out]
            cases v1 with
            | false =>
              have hX : X = false := by rw [HS.out, HO.out]; rfl
              subst hX
              go_wp2_with fail
              go_ret
              exact ⟨rfl, HG3.out⟩
            | true =>
              go_wp2_with fail
              refine (awi_any x.c 0 1000 _).mono ?_
              rintro e w' ⟨rfl, rfl⟩
              rw [HV2.out]
              cases v2 with
              | false =>
                have hX : X = false := by rw [HS.out, HO.out]; rfl
                subst hX
                go_wp2_with fail
                go_ret
                exact ⟨rfl, HG3.out⟩
              | true =>
                have HI2 : Hid (vRe r (lastA 0 L (k + 1)) (L.drop (k + 1)) = X) := Lib.hid (by rw [HS.out, HO.out]; rfl)
                have hl2 : Value.int .i64 x.a = .int .i64 (lastA 0 L (k + 1)) := by rw [HLA.out]
                have HL2 := Lib.hid hl2
                clear hl2
                go_wp2_with fail
                exact ⟨⟨k + 1, by omega, congrArg _ (by omega), HL2.out, HI2, HG3⟩, by simp only [RowKit.intOf]; omega⟩
    · obtain rfl : k = L.length := by omega
      obtain rfl : X = true := by rw [← HI.out]; exact vRe_end
      go_wp2_with fail
      go_ret
      exact ⟨rfl, HG.out⟩
set_option maxRecDepth 100000 in
set_option maxHeartbeats 3200000 in
theorem avc_any (L : List T3) (p : Option Addr) (c : Nat) (q : Nat → Prop) (w : World) (hR : Rd3 w q (.slice p L.length c) L) (hm : L.length ≤ 9223372036854775807) :
    Calls Try.prog 81 #[.slice p L.length c] w fun e w' => e = .returned (.bool (vCm (-1) L)) ∧ w.grownBy w' none := by
  have HR := Lib.hid hR
  clear hR
  obtain ⟨X, hX⟩ : ∃ X, vCm (-1) L = X := ⟨_, rfl⟩
  rw [hX]
  have I0 : Hid (vCm (lastA (-1) L 0) (L.drop 0) = X) := Lib.hid (by rw [lastA_zero]; exact hX)
  have G0 : Hid (w.grownBy w none) := Lib.hid (grown_refl _ _)
  clear hX
  go_enter Try.func81, Try.ntmps81
  go_wp2_with fail
  go_loopw [3, 8] (fun la a wr => ∃ k : Nat, k ≤ L.length ∧ a = .int .i64 (k : Int) ∧ la = .int .i64 (lastA (-1) L k) ∧ Hid (vCm (lastA (-1) L k) (L.drop k) = X) ∧ Hid (w.grownBy wr none)) (fun _ a _ => L.length - (RowKit.intOf a).toNat)
  case atStart => exact ⟨0, Nat.zero_le _, rfl, by rw [lastA_zero], I0, G0⟩
  case round =>
    obtain ⟨w2, rfl⟩ : ∃ w2, w2 = wr := ⟨_, rfl⟩
    obtain ⟨k, hk, rfl, rfl, HI, HG⟩ := hrel
    clear I0 G0
    by_cases hlt : k < L.length
    · obtain ⟨-, b, off, rfl, -, hc⟩ := rd3_cells (HR.out.keep HG.out) (by omega)
      obtain ⟨x, hx⟩ : ∃ x, L[k]? = some x := ⟨_, List.getElem?_eq_getElem hlt⟩
      obtain ⟨a0, a1, a2⟩ := hc k x hx
      have HS := Lib.hid (HI.out.symm.trans (vCm_step (d := -1) hx))
      have HLA := Lib.hid (lastA_succ (d := -1) hx)
      have HBX := Lib.hid (heap_alloc_new w2 (.cells #[.int .i64 x.a, .int .i64 x.b, .int .i64 x.c] 62))
      have HGA := Lib.hid (World.grownBy_alloc w2 (.cells #[.int .i64 x.a, .int .i64 x.b, .int .i64 x.c] 62) none)
      clear hc hx
      go_upto_region 5 with fail
      clear a0 a1 a2
      generalize w2.alloc _ = w3 at *
      have HG3 := Lib.hid (grown_trans HG.out HGA.out)
      obtain ⟨d0, d1, d2⟩ := row3 HBX.out
      obtain ⟨t, ht⟩ : ∃ t, lastA (-1) L k = t := ⟨_, rfl⟩
      rw [ht] at HS ⊢
      clear ht HI HG HGA
      by_cases h1 : x.a ≤ t
      · have hX : X = false := by rw [HS.out, show okCm t x = false by unfold okCm; exact decide_eq_false (fun h => by omega)]; rfl
        subst hX
        go_wp2_with fail
        go_ret
        exact ⟨rfl, HG3.out⟩
      · by_cases h2 : 7 < x.a
        · have hX : X = false := by rw [HS.out, show okCm t x = false by unfold okCm; exact decide_eq_false (fun h => by omega)]; rfl
          subst hX
          go_wp2_with fail
          go_ret
          exact ⟨rfl, HG3.out⟩
        · obtain ⟨v1, hv1⟩ : ∃ v1, decide ((1 : Int) ≤ x.b ∧ x.b ≤ 256) = v1 := ⟨_, rfl⟩
          obtain ⟨v2, hv2⟩ : ∃ v2, decide (x.c = 8 ∨ x.c = 16 ∨ x.c = 32 ∨ x.c = 64) = v2 := ⟨_, rfl⟩
          have HV1 := Lib.hid hv1
          have HV2 : Hid (vl x.c = v2) := Lib.hid (by rw [← hv2]; exact vl_dec x.c)
          have HO : Hid (okCm t x = (v1 && v2)) := Lib.hid (by
            rw [← hv1, ← hv2, ← Bool.decide_and]
            unfold okCm
            exact decide_eq_decide.2 ⟨fun h => ⟨h.2.2.1, h.2.2.2⟩, fun h => ⟨by omega, by omega, h.1, h.2⟩⟩)
          clear hv1 hv2
          go_wp2_with fail
          refine (awi_any x.b 1 256 _).mono ?_
          rintro e w' ⟨rfl, rfl⟩
          rw [HV1.out]
          cases v1 with
          | false =>
            have hX : X = false := by rw [HS.out, HO.out]; rfl
            subst hX
            go_wp2_with fail
            go_ret
            exact ⟨rfl, HG3.out⟩
          | true =>
            go_wp2_with fail
            refine (vlp_any x.c _).mono ?_
            rintro e w' ⟨rfl, rfl⟩
            rw [HV2.out]
            cases v2 with
            | false =>
              have hX : X = false := by rw [HS.out, HO.out]; rfl
              subst hX
              go_wp2_with fail
              go_ret
              exact ⟨rfl, HG3.out⟩
            | true =>
              have HI2 : Hid (vCm (lastA (-1) L (k + 1)) (L.drop (k + 1)) = X) := Lib.hid (by rw [HS.out, HO.out]; rfl)
              have hl2 : Value.int .i64 x.a = .int .i64 (lastA (-1) L (k + 1)) := by rw [HLA.out]
              have HL2 := Lib.hid hl2
              clear hl2
              go_wp2_with fail
              exact ⟨⟨k + 1, by omega, congrArg _ (by omega), HL2.out, HI2, HG3⟩, by simp only [RowKit.intOf]; omega⟩
    · obtain rfl : k = L.length := by omega
      obtain rfl : X = true := by rw [← HI.out]; exact vCm_end
      go_wp2_with fail
      go_ret
      exact ⟨rfl, HG.out⟩
/-- The box of an advert. -/
def adC (A : Ad) : Array Value := #[.int .i64 A.r, .int .i64 A.q, .bool A.cp, .slice A.pL A.L.length A.cL, .slice A.pC A.C.length A.cC]
set_option maxRecDepth 100000 in
theorem ad_facts {w : World} {b : Nat} {A : Ad} (h : w.heap[b]? = some (.cells (adC A) 38 (0, 0))) :
    w.cell? ⟨b, 0, none⟩ = some (.int .i64 A.r) ∧ w.cell? ⟨b, 1, none⟩ = some (.int .i64 A.q) ∧ w.cell? ⟨b, 2, none⟩ = some (.bool A.cp) ∧ w.cell? ⟨b, 3, none⟩ = some (.slice A.pL A.L.length A.cL) ∧ w.cell? ⟨b, 4, none⟩ = some (.slice A.pC A.C.length A.cC) := by
  refine ⟨?_, ?_, ?_, ?_, ?_⟩ <;> (rw [cell_of_row _ _ _ _ _ _ h]; rfl)
set_option maxRecDepth 100000 in
set_option maxHeartbeats 3200000 in
theorem avalid_any (A : Ad) (q : Nat → Prop) (w : World) (hA : AdOk w q A) :
    Calls Try.prog 49 #[A.val] w fun e w' => e = .returned (.bool (vAd A)) ∧ w.grownBy w' none := by
  have hm1 := Nat.le_trans hA.hl.1 hA.hl.2
  have hm2 := Nat.le_trans hA.hc.1 hA.hc.2
  have hb := heap_alloc_new w (.cells (adC A) 38)
  have hg := World.grownBy_alloc w (.cells (adC A) 38) none
  have HB := Lib.hid (And.intro hb (And.intro hg (hA.keep hg)))
  clear hb hg hA
  obtain ⟨X, hX⟩ : ∃ X, vAd A = X := ⟨_, rfl⟩
  have HX := Lib.hid hX
  rw [hX]
  clear hX
  unfold Ad.val
  obtain ⟨v1, hv1⟩ : ∃ v, decide ((1 : Int) ≤ A.r ∧ A.r ≤ 99) = v := ⟨_, rfl⟩
  obtain ⟨v2, hv2⟩ : ∃ v, decide ((1 : Int) ≤ A.q ∧ A.q ≤ 1000000) = v := ⟨_, rfl⟩
  obtain ⟨v3, hv3⟩ : ∃ v, vRe A.r 0 A.L = v := ⟨_, rfl⟩
  obtain ⟨v4, hv4⟩ : ∃ v, vCm (-1) A.C = v := ⟨_, rfl⟩
  have HV := Lib.hid (And.intro hv1 (And.intro hv2 (And.intro hv3 hv4)))
  have HS : Hid (X = ((v1 && (v2 && decide (A.L.length ≤ 23))) && (v3 && (decide (A.C.length ≤ 8) && v4)))) := Lib.hid (by
    rw [← HX.out]; unfold vAd vHd vClaims; rw [hv3, hv4, ← hv1, ← hv2, Bool.decide_and, Bool.decide_and (p := (1 : Int) ≤ A.q ∧ A.q ≤ 1000000)])
  clear hv1 hv2 hv3 hv4
  go_enter Try.func49, Try.ntmps49
  go_upto_region 1 with fail
  unfold adC at HB
  generalize w.alloc _ = w0 at *
  obtain ⟨c0, c1, c2, c3, c4⟩ := ad_facts (A := A) HB.out.1
  go_wp2_with fail
  refine (awi_any A.r 1 99 _).mono ?_
  rintro e w' ⟨rfl, rfl⟩
  rw [HV.out.1]
  cases v1 with
  | false =>
    have hX : X = false := by rw [HS.out]; rfl
    subst hX
    go_wp2_with fail
    go_ret
    exact ⟨rfl, HB.out.2.1⟩
  | true =>
    go_wp2_with fail
    refine (awi_any A.q 1 1000000 _).mono ?_
    rintro e w' ⟨rfl, rfl⟩
    rw [HV.out.2.1]
    cases v2 with
    | false =>
      have hX : X = false := by rw [HS.out]; rfl
      subst hX
      go_wp2_with fail
      go_ret
      exact ⟨rfl, HB.out.2.1⟩
    | true =>
      by_cases h1 : 23 < A.L.length
      · have hX : X = false := by rw [HS.out, decide_eq_false (show ¬ A.L.length ≤ 23 by omega)]; rfl
        have h1' : (23 : Int) < (A.L.length : Int) := by omega
        subst hX
        go_wp2_with fail
        go_ret
        exact ⟨rfl, HB.out.2.1⟩
      · have h1' : ¬ (23 : Int) < (A.L.length : Int) := by omega
        by_cases h2 : 8 < A.C.length
        · have hX : X = false := by rw [HS.out, decide_eq_false (show ¬ A.C.length ≤ 8 by omega)]; simp
          have h2' : (8 : Int) < (A.C.length : Int) := by omega
          subst hX
          go_wp2_with fail
          go_ret
          exact ⟨rfl, HB.out.2.1⟩
        · have h2' : ¬ (8 : Int) < (A.C.length : Int) := by omega
          have HS2 : Hid (X = (v3 && v4)) := Lib.hid (by rw [HS.out, decide_eq_true (show A.L.length ≤ 23 by omega), decide_eq_true (show A.C.length ≤ 8 by omega)]; rfl)
          go_wp2_with fail
          refine (avl_any A.L A.r _ _ _ _ HB.out.2.2.l hm1).mono ?_
          rintro e w1 ⟨rfl, g1⟩
          rw [HV.out.2.2.1]
          have HB1 := Lib.hid (And.intro (kept_row HB.out.1 g1 (by simp)) (And.intro (grown_trans HB.out.2.1 g1) (HB.out.2.2.keep g1)))
          clear g1 c0 c1 c2 c3 c4
          obtain ⟨c0, c1, c2, c3, c4⟩ := ad_facts (A := A) HB1.out.1
          cases v3 with
          | false =>
            have hX : X = false := by rw [HS2.out]; rfl
            subst hX
            go_wp2_with fail
            go_ret
            exact ⟨rfl, HB1.out.2.1⟩
          | true =>
            have hX : X = v4 := by rw [HS2.out]; rfl
            subst hX
            go_wp2_with fail
            refine (avc_any A.C _ _ _ _ HB1.out.2.2.c hm2).mono ?_
            rintro e w2 ⟨rfl, g2⟩
            rw [HV.out.2.2.2]
            have HG := Lib.hid (grown_trans HB1.out.2.1 g2)
            clear g2 c0 c1 c2 c3 c4
            go_wp2_with fail
            go_ret
            exact ⟨rfl, HG.out⟩
end Go.Proofs.Ytnpkihioklpnmaa

/- The program's zeros; copy into a row of the call's own. -/
namespace Go.Proofs.Ytnpkihioklpnmaa
open Go.RowKit Bs
end Go.Proofs.Ytnpkihioklpnmaa

/- Take, of the program and of the reference. -/
namespace Go.Proofs.Ytnpkihioklpnmaa
open Go.RowKit Bs
end Go.Proofs.Ytnpkihioklpnmaa

/- The program's Append. -/
namespace Go.Proofs.Ytnpkihioklpnmaa
open Go.RowKit Bs
end Go.Proofs.Ytnpkihioklpnmaa

/- The reference's Append. -/
namespace Go.Proofs.Ytnpkihioklpnmaa
open Go.RowKit Bs
section
variable {W w' w2 : World} {b r : Nat} {p : Option Addr} {c : Nat} {l : List Nat} {n : Int}
end
end Go.Proofs.Ytnpkihioklpnmaa

/- Slice, of the program and of the reference. -/
namespace Go.Proofs.Ytnpkihioklpnmaa
open Go.RowKit Bs
end Go.Proofs.Ytnpkihioklpnmaa

/- Join and Align of the program. -/
namespace Go.Proofs.Ytnpkihioklpnmaa
open Go.RowKit Bs
end Go.Proofs.Ytnpkihioklpnmaa

/- Align of the program. -/
namespace Go.Proofs.Ytnpkihioklpnmaa
open Go.RowKit Bs
end Go.Proofs.Ytnpkihioklpnmaa

/- The program's check number. -/
namespace Go.Proofs.Ytnpkihioklpnmaa
open Go.RowKit Bs
namespace Bs
/-- The register behind one bit. -/
def stp (r : Nat) (b : Bool) : Nat := if (r.testBit 15 != b) = true then (2 * r % 65536) ^^^ 4129 else 2 * r % 65536
/-- The register behind k bits. -/
def crcB (f : Nat → Bool) : Nat → Nat
  | 0 => 65535
  | k + 1 => stp (crcB f k) (f k)
end Bs
end Go.Proofs.Ytnpkihioklpnmaa

/- Spread, Gather, Nth, Rank as plain functions of numbers. No program is named here. -/
namespace Go.Proofs.Ytnpkihioklpnmaa
open Go.RowKit
namespace Bs
/-- A bit put to a place. -/
def put (t : Bool) (k : Nat) : Nat := if t then b2 k else 0
end Bs
end Go.Proofs.Ytnpkihioklpnmaa

/- Full, Valid, Count, First, Rank of the program; Full, Valid of the reference. -/
namespace Go.Proofs.Ytnpkihioklpnmaa
open Go.RowKit Bs

/-- The lowest bit, -1 if there is none. -/
def fst (b : Nat) : Int := if b = 0 then -1 else ((Lib.ctz 64 b : Nat) : Int)
end Go.Proofs.Ytnpkihioklpnmaa

/- Streams as lists of bits; the encoding of a packet as a list of bits. -/
namespace Go.Proofs.Ytnpkihioklpnmaa
open Go.RowKit Bs
/-- The k lowest bits of v, the highest first. -/
def nb (v k : Nat) : List Bool := (List.range k).map fun t => v.testBit (k - 1 - t)
def bf (B : List Bool) (i : Nat) : Bool := B.getD i false
/-- The bytes of these bits. -/
def pk (B : List Bool) : List Nat := pz (bf B) B.length ((B.length + 7) / 8)
/-- The bits of bytes. -/
def pb (l : List Nat) : List Bool := (List.range (8 * l.length)).map (bt l)
/-- A packet's parts. -/
structure Pk where
  mode : Int
  sub : Int
  set : Int
  len : Int
  ttl : Int
  ent : Int
  ing : Int
  pro : Int
  bits : Nat
  pay : ByteArray
def Pk.val (P : Pk) : Value := .agg #[.int .i64 P.mode, .int .i64 P.sub, .int .i64 P.set, .int .i64 P.len, .int .i64 P.ttl, .int .i64 P.ent, .int .i64 P.ing, .int .i64 P.pro, .int .u64 (P.bits : Int), .string P.pay]
/-- The code of the length. -/
def lcode (n : Int) : Nat := if n = 8 then 0 else if n = 16 then 1 else if n = 32 then 2 else 3
/-- The numbers of the header, with their widths. -/
def fl (P : Pk) : List (Nat × Nat) := [(2, 2), (P.mode.toNat, 2), (P.sub.toNat, 3), (P.set.toNat, 5), (lcode P.len, 2), (P.ttl.toNat, 6), (P.ent.toNat, 10), (P.ing.toNat, 9), (P.pro.toNat, 3), (P.pay.size, 7)]
def flb (f : List (Nat × Nat)) : List Bool := f.flatMap fun x => nb x.1 x.2
def byl (s : ByteArray) : List Nat := s.data.toList.map fun b => b.toNat
def body (P : Pk) : List Bool := flb (fl P) ++ nb P.bits P.len.toNat ++ pb (byl P.pay)
def ck (B : List Bool) : Nat := crcB (bf B) B.length
def enc (P : Pk) : List Nat := pk (body P ++ nb (ck (body P)) 16)
end Go.Proofs.Ytnpkihioklpnmaa

/- packet: the table of the fields. -/
namespace Go.Proofs.Ytnpkihioklpnmaa
open Go.RowKit Bs
def hcells (P : Pk) : Array Value := #[.int .i64 2, .int .i64 P.mode, .int .i64 P.sub, .int .i64 P.set, .int .i64 P.len, .int .i64 P.ttl, .int .i64 P.ent, .int .i64 P.ing, .int .i64 P.pro, .int .u64 (P.bits : Int), .string P.pay, .int .i64 (lcode P.len : Int), .int .i64 (P.pay.size : Int)]
end Go.Proofs.Ytnpkihioklpnmaa

/- The program's functions on bits: List, Nth, Rank, Spread, Gather. -/
namespace Go.Proofs.Ytnpkihioklpnmaa
open Go.RowKit Bs

end Go.Proofs.Ytnpkihioklpnmaa

/- packet: a header's block. -/
namespace Go.Proofs.Ytnpkihioklpnmaa
open Go.RowKit Bs
set_option maxRecDepth 100000 in
theorem World.lt_of_row' {w : World} {b : Nat} {o : Obj} (h : w.heap[b]? = some o) : b < w.heap.size := (Array.getElem?_eq_some_iff.1 h).1
section
variable {W w w1 : World} {P : Pk} {h g S : Nat} {B B2 : List Bool}
end
end Go.Proofs.Ytnpkihioklpnmaa

/- packet: the calls of bitio over lists of bits. -/
namespace Go.Proofs.Ytnpkihioklpnmaa
open Go.RowKit Bs
section
variable {w : World} {B : List Bool} {p : Option Addr} {c : Nat} {q : Nat → Prop}
end
end Go.Proofs.Ytnpkihioklpnmaa

/- advert.write: what its closure does to the stream. -/
namespace Go.Proofs.Ytnpkihioklpnmaa
open Go.RowKit Bs
set_option maxRecDepth 100000 in
theorem store2c {w : World} {b : Nat} {t : TypeId} {z0 z1 : Value} (u0 u1 : Value) (h : w.heap[b]? = some (.cells #[z0, z1] t (0, 0))) :
    ((w.setCell ⟨b, 0, none⟩ u0).setCell ⟨b, 1, none⟩ u1).heap[b]? = some (.cells #[u0, u1] t (0, 0)) ∧ w.grownBy ((w.setCell ⟨b, 0, none⟩ u0).setCell ⟨b, 1, none⟩ u1) (some b) := ⟨store2 h, grown_store2 w b u0 u1⟩
end Go.Proofs.Ytnpkihioklpnmaa

/- packet: the header of a packet is read. -/
namespace Go.Proofs.Ytnpkihioklpnmaa
open Go.RowKit Bs
/-- A header's cells behind k fields. -/
def hdc (V : Nat → Nat) (k : Nat) (n : Int) : Array Value := #[.int .i64 ((if 0 < k then V 0 else 0 : Nat) : Int), .int .i64 ((if 1 < k then V 1 else 0 : Nat) : Int), .int .i64 ((if 2 < k then V 2 else 0 : Nat) : Int), .int .i64 ((if 3 < k then V 3 else 0 : Nat) : Int), .int .i64 n, .int .i64 ((if 5 < k then V 5 else 0 : Nat) : Int), .int .i64 ((if 6 < k then V 6 else 0 : Nat) : Int), .int .i64 ((if 7 < k then V 7 else 0 : Nat) : Int), .int .i64 ((if 8 < k then V 8 else 0 : Nat) : Int), .int .u64 0, .string ⟨#[]⟩, .int .i64 ((if 4 < k then V 4 else 0 : Nat) : Int), .int .i64 ((if 9 < k then V 9 else 0 : Nat) : Int)]
section
variable {W w w1 : World} {l : List Nat} {p : Option Addr} {c : Nat} {V : Nat → Nat} {g k : Nat}
end
end Go.Proofs.Ytnpkihioklpnmaa

/- advert: the reader takes a field. -/
namespace Go.Proofs.Ytnpkihioklpnmaa
open Go.RowKit Bs
end Go.Proofs.Ytnpkihioklpnmaa

/- packet: Valid. -/
namespace Go.Proofs.Ytnpkihioklpnmaa
open Go.RowKit Bs
end Go.Proofs.Ytnpkihioklpnmaa

/- packet: a header's value comes back. -/
namespace Go.Proofs.Ytnpkihioklpnmaa
open Go.RowKit Bs
/-- A header's value. -/
def hval (V : Nat → Nat) (n : Int) : Value := .agg (hdc V 10 n)
end Go.Proofs.Ytnpkihioklpnmaa

/- packet: the header of a packet is read. -/
namespace Go.Proofs.Ytnpkihioklpnmaa
open Go.RowKit Bs
end Go.Proofs.Ytnpkihioklpnmaa

/- packet: sizes; the mistakes of a header. -/
namespace Go.Proofs.Ytnpkihioklpnmaa
open Go.RowKit Bs
end Go.Proofs.Ytnpkihioklpnmaa

/- packet: Size and Plane. -/
namespace Go.Proofs.Ytnpkihioklpnmaa
open Go.RowKit Bs
end Go.Proofs.Ytnpkihioklpnmaa

/- packet: the reference's Valid, Size, Plane. -/
namespace Go.Proofs.Ytnpkihioklpnmaa
open Go.RowKit Bs
def ins (n m : Int) : Bool := decide (0 ≤ n ∧ n ≤ m)
end Go.Proofs.Ytnpkihioklpnmaa

/- packet: the reference's Size and Plane. -/
namespace Go.Proofs.Ytnpkihioklpnmaa
open Go.RowKit Bs
end Go.Proofs.Ytnpkihioklpnmaa

/- packet: the header of a packet is written. -/
namespace Go.Proofs.Ytnpkihioklpnmaa
open Go.RowKit Bs
end Go.Proofs.Ytnpkihioklpnmaa

/- Align of the program: the result lies in a block of its own. -/
namespace Go.Proofs.Ytnpkihioklpnmaa
open Go.RowKit Bs
end Go.Proofs.Ytnpkihioklpnmaa

/- packet: Encode. -/
namespace Go.Proofs.Ytnpkihioklpnmaa
open Go.RowKit Bs
section
variable {W w w1 : World} {P : Pk} {S n : Nat} {B B2 : List Bool} {p : Option Addr} {c : Nat}
end
end Go.Proofs.Ytnpkihioklpnmaa

/- The reference's check number; Same. -/
namespace Go.Proofs.Ytnpkihioklpnmaa
open Go.RowKit Bs
/-- Bytes as a string of the model. -/
def bs (l : List Nat) : ByteArray := ⟨(l.map fun x => UInt8.ofNat x).toArray⟩
/-- Whether two streams are one. -/
def same (l : List Nat) (n : Int) (l' : List Nat) (n' : Int) : Bool := n == n' && (bs l).toList == (bs l').toList
end Go.Proofs.Ytnpkihioklpnmaa

/- The reference's Slice. -/
namespace Go.Proofs.Ytnpkihioklpnmaa
open Go.RowKit Bs
end Go.Proofs.Ytnpkihioklpnmaa

/- The reference's Join and Align. -/
namespace Go.Proofs.Ytnpkihioklpnmaa
open Go.RowKit Bs
end Go.Proofs.Ytnpkihioklpnmaa

/- The tape's texts. -/
namespace Go.Proofs.Ytnpkihioklpnmaa
open Go.RowKit Bs
end Go.Proofs.Ytnpkihioklpnmaa

/- packet: a packet's block. -/
namespace Go.Proofs.Ytnpkihioklpnmaa
open Go.RowKit Bs
end Go.Proofs.Ytnpkihioklpnmaa

/- The reference's functions on bits: Count, Nth, First, Rank, Spread, Gather. -/
namespace Go.Proofs.Ytnpkihioklpnmaa
open Go.RowKit Bs

set_option maxRecDepth 100000 in
theorem Rd.form {w : World} {q : Nat → Prop} {v : Value} {vs : List Value} {n : Nat} (h : Rd w q v vs) (hn : vs.length = n) : ∃ p c, v = .slice p n c := by
  obtain ⟨p, c, hv, _⟩ := h
  exact ⟨p, c, by rw [hv, hn]⟩
set_option maxRecDepth 100000 in
theorem Rd.at1_ {w : World} {q : Nat → Prop} {p : Option Addr} {n c : Nat} {vs : List Value} {i : Nat} {x : Value} (h : Rd w q (.slice p n c) vs) (hi : vs[i]? = some x) :
    ∃ b off, p = some ⟨b, off, none⟩ ∧ w.cell? ⟨b, off + i, none⟩ = some x := by
  obtain ⟨p', c', hv, hc⟩ := h
  injection hv with e1 e2 e3
  subst e1
  obtain ⟨b, off, hp, _, hx⟩ := hc (by intro e; rw [e] at hi; simp at hi)
  exact ⟨b, off, hp, hx i x hi⟩
end Go.Proofs.Ytnpkihioklpnmaa

/- The tape's bit strings. -/
namespace Go.Proofs.Ytnpkihioklpnmaa
open Go.RowKit Bs

end Go.Proofs.Ytnpkihioklpnmaa

/- The tape's packets. -/
namespace Go.Proofs.Ytnpkihioklpnmaa
open Go.RowKit Bs
set_option maxRecDepth 100000 in
theorem tp_store {w1 w2 : World} {a b : Nat} (h : Tp w1 a) (k : w1.grownBy w2 (some b)) (hb : a < b) : Tp w2 a := tp_new2 h k hb
set_option maxRecDepth 100000 in
theorem St.store {a b : Nat} {W w w1 : World} (h : St a W w) (k : w.grownBy w1 (some b)) (hb : W.heap.size ≤ b) (ha : a < W.heap.size) : St a W w1 :=
  ⟨⟨k.os.trans h.1.os, k.tape.trans h.1.tape, k.output.trans h.1.output, Nat.le_trans h.1.size k.size, fun i hi hia => (k.block i (Nat.lt_of_lt_of_le hi h.1.size) (fun e => by have := Option.some.inj e; omega)).trans (h.1.block i hi hia)⟩, by
    exact tp_store h.2 k (by omega)⟩
end Go.Proofs.Ytnpkihioklpnmaa

/- The tape's packets, also with a mistake. -/
namespace Go.Proofs.Ytnpkihioklpnmaa
open Go.RowKit Bs
section
variable {a B : Nat} {W w w1 : World} {P P' : Pk}
end
end Go.Proofs.Ytnpkihioklpnmaa

/- A list of three packets that a statement draws, and its members. -/
namespace Go.Proofs.Ytnpkihioklpnmaa
open Go.RowKit Bs
set_option maxRecDepth 100000 in
theorem St.tp {a : Nat} {w w1 : World} (h : St a w w1) : Tp w1 a := h.2
set_option maxRecDepth 100000 in
theorem St.gr {a : Nat} {w w1 : World} (h : St a w w1) : w.grownBy w1 (some a) := h.1
end Go.Proofs.Ytnpkihioklpnmaa

/- packet: the reference's Encode. -/
namespace Go.Proofs.Ytnpkihioklpnmaa
open Go.RowKit Bs
end Go.Proofs.Ytnpkihioklpnmaa

/- packet: the reference's Encode, the walk. -/
namespace Go.Proofs.Ytnpkihioklpnmaa
open Go.RowKit Bs
section
variable {W w w1 : World} {P : Pk} {F D S n : Nat} {B B2 : List Bool} {p : Option Addr} {c : Nat} {q : Nat → Prop}
end
end Go.Proofs.Ytnpkihioklpnmaa

/- advert.write. -/
namespace Go.Proofs.Ytnpkihioklpnmaa
open Go.RowKit Bs
set_option maxRecDepth 100000 in
theorem vRe_all {r : Int} : ∀ (l : List T3) (last : Int), 0 ≤ last → vRe r last l = true → ∀ x ∈ l, (1 ≤ x.a ∧ x.a ≤ 99) ∧ (1 ≤ x.b ∧ x.b ≤ 1000) ∧ 0 ≤ x.c ∧ x.c ≤ 1000
  | [], _, _, _, x, hx => by cases hx
  | a :: t, last, h0, h, x, hx => by
    rw [vRe, Bool.and_eq_true] at h
    have h1 := of_decide_eq_true h.1
    rcases List.mem_cons.1 hx with rfl | hx
    · exact ⟨⟨by omega, h1.2.1⟩, h1.2.2.2.1, h1.2.2.2.2⟩
    · exact vRe_all t a.a (by omega) h.2 x hx
set_option maxRecDepth 100000 in
theorem vCm_all : ∀ (l : List T3) (last : Int), -1 ≤ last → vCm last l = true → ∀ x ∈ l, (0 ≤ x.a ∧ x.a ≤ 7) ∧ (1 ≤ x.b ∧ x.b ≤ 256) ∧ (x.c = 8 ∨ x.c = 16 ∨ x.c = 32 ∨ x.c = 64)
  | [], _, _, _, x, hx => by cases hx
  | a :: t, last, h0, h, x, hx => by
    rw [vCm, Bool.and_eq_true] at h
    have h1 := of_decide_eq_true h.1
    rcases List.mem_cons.1 hx with rfl | hx
    · exact ⟨⟨by omega, h1.2.1⟩, h1.2.2.1, h1.2.2.2⟩
    · exact vCm_all t a.a (by omega) h.2 x hx
/-- What a valid advert keeps within. -/
structure VA (A : Ad) : Prop where
  r : 1 ≤ A.r ∧ A.r ≤ 99
  q : 1 ≤ A.q ∧ A.q ≤ 1000000
  ll : A.L.length ≤ 23
  cl : A.C.length ≤ 8
  L : ∀ x ∈ A.L, (1 ≤ x.a ∧ x.a ≤ 99) ∧ (1 ≤ x.b ∧ x.b ≤ 1000) ∧ 0 ≤ x.c ∧ x.c ≤ 1000
  C : ∀ x ∈ A.C, (0 ≤ x.a ∧ x.a ≤ 7) ∧ (1 ≤ x.b ∧ x.b ≤ 256) ∧ (x.c = 8 ∨ x.c = 16 ∨ x.c = 32 ∨ x.c = 64)
set_option maxRecDepth 100000 in
theorem VA.of {A : Ad} (h : vAd A = true) : VA A := by
  unfold vAd vHd vClaims at h
  simp only [Bool.and_eq_true, decide_eq_true_eq] at h
  obtain ⟨⟨h1, h2, h3⟩, h4, h5, h6⟩ := h
  exact ⟨h1, h2, h3, h5, vRe_all _ _ (by decide) h4, vCm_all _ _ (by decide) h6⟩
set_option maxRecDepth 100000 in
theorem abit_any (b : Bool) (w : World) :
    Calls Try.prog 113 #[.bool b] w fun e w' => e = .returned (.int .i64 ((b.toNat : Nat) : Int)) ∧ w = w' := by
  cases b with
  | false =>
    go_enter Try.func113, Try.ntmps113
    go_wp2_with fail
    go_ret
    exact ⟨rfl, rfl⟩
  | true =>
    go_enter Try.func113, Try.ntmps113
    go_wp2_with fail
    go_ret
    exact ⟨rfl, rfl⟩
set_option maxRecDepth 100000 in
theorem rdfA_old {w : World} {q : Nat → Prop} {v : Value} {n : Nat} {xs : List Value} (h : RdF w q v n xs) : RdF w (· < w.heap.size) v n xs := by
  obtain ⟨p, c, hv, hc⟩ := h
  refine ⟨p, c, hv, fun hne => ?_⟩
  obtain ⟨b, off, hp, hb, hx⟩ := hc hne
  obtain ⟨x, hx0⟩ : ∃ x, xs[0]? = some x := by
    cases xs with
    | nil => exact absurd rfl hne
    | cons a t => exact ⟨a, rfl⟩
  exact ⟨b, off, hp, World.block_lt_of_cell? w ⟨b, off + 0, none⟩ (hx 0 x hx0), hx⟩
set_option maxRecDepth 100000 in
theorem AdOk.old {w : World} {q : Nat → Prop} {A : Ad} (h : AdOk w q A) : AdOk w (· < w.heap.size) A := ⟨rdfA_old h.l, rdfA_old h.c, h.hl, h.hc⟩
end Go.Proofs.Ytnpkihioklpnmaa

/- advert.write. -/
namespace Go.Proofs.Ytnpkihioklpnmaa
open Go.RowKit Bs
end Go.Proofs.Ytnpkihioklpnmaa

/- advert.Encode. -/
namespace Go.Proofs.Ytnpkihioklpnmaa
open Go.RowKit Bs
end Go.Proofs.Ytnpkihioklpnmaa

/- advert: the orders of links and of claims. -/
namespace Go.Proofs.Ytnpkihioklpnmaa
open Go.RowKit Bs
def cmp3 (x y : T3) : Int := orV [cmpV x.a y.a, cmpV x.b y.b, cmpV x.c y.c]
set_option maxRecDepth 100000 in
theorem keep6A {t : TypeId} {w5 w' : World} {b g : Nat} {x y : T3} (h : w5.heap[b]? = some (.cells #[.int .i64 x.a, .int .i64 x.b, .int .i64 x.c] t (0, 0)) ∧ w5.heap[g]? = some (.cells #[.int .i64 y.a, .int .i64 y.b, .int .i64 y.c] t (0, 0))) (hg : Hid (w5.grownBy w' none)) :
    w'.cell? ⟨b, 0, none⟩ = some (.int .i64 x.a) ∧ w'.cell? ⟨b, 1, none⟩ = some (.int .i64 x.b) ∧ w'.cell? ⟨b, 2, none⟩ = some (.int .i64 x.c) ∧ w'.cell? ⟨g, 0, none⟩ = some (.int .i64 y.a) ∧ w'.cell? ⟨g, 1, none⟩ = some (.int .i64 y.b) ∧ w'.cell? ⟨g, 2, none⟩ = some (.int .i64 y.c) ∧ Hid (w5.grownBy w' none) := by
  obtain ⟨a0, a1, a2⟩ := row3 (kept_row h.1 hg.out (by simp))
  obtain ⟨b0, b1, b2⟩ := row3 (kept_row h.2 hg.out (by simp))
  exact ⟨a0, a1, a2, b0, b1, b2, hg⟩
set_option maxRecDepth 100000 in
theorem rd_trip (w : World) (x y z : Int) (q : Nat → Prop) (hq : q w.heap.size) : Rd (w.alloc (.cells #[.int .i64 x, .int .i64 y, .int .i64 z] 3)) q (.slice (some ⟨w.heap.size, 0, none⟩) 3 3) ([x, y, z].map (fun z => Value.int .i64 z)) := by
  have hb : (w.alloc (.cells #[.int .i64 x, .int .i64 y, .int .i64 z] 3)).heap[w.heap.size]? = some (.cells #[.int .i64 x, .int .i64 y, .int .i64 z] 3 (0, 0)) := heap_alloc_new w _
  refine ⟨_, 3, rfl, fun _ => ⟨_, _, rfl, hq, fun i u hi => ?_⟩⟩
  rw [Nat.zero_add, cell_of_row _ _ _ _ _ _ hb]
  simpa using hi
set_option maxRecDepth 100000 in
theorem two_boxesA (w : World) (x y : T3) (t : TypeId) :
    (((w.alloc (.cells #[.int .i64 x.a, .int .i64 x.b, .int .i64 x.c] t)).alloc (.cells #[.int .i64 y.a, .int .i64 y.b, .int .i64 y.c] t)).heap[w.heap.size]? = some (.cells #[.int .i64 x.a, .int .i64 x.b, .int .i64 x.c] t (0, 0)) ∧
     ((w.alloc (.cells #[.int .i64 x.a, .int .i64 x.b, .int .i64 x.c] t)).alloc (.cells #[.int .i64 y.a, .int .i64 y.b, .int .i64 y.c] t)).heap[w.heap.size + 1]? = some (.cells #[.int .i64 y.a, .int .i64 y.b, .int .i64 y.c] t (0, 0))) ∧
    w.grownBy ((w.alloc (.cells #[.int .i64 x.a, .int .i64 x.b, .int .i64 x.c] t)).alloc (.cells #[.int .i64 y.a, .int .i64 y.b, .int .i64 y.c] t)) none := by
  have g1 := World.grownBy_alloc w (.cells #[.int .i64 x.a, .int .i64 x.b, .int .i64 x.c] t) none
  have g2 := World.grownBy_alloc (w.alloc (.cells #[.int .i64 x.a, .int .i64 x.b, .int .i64 x.c] t)) (.cells #[.int .i64 y.a, .int .i64 y.b, .int .i64 y.c] t) none
  have b1 := kept_row (heap_alloc_new w (.cells #[.int .i64 x.a, .int .i64 x.b, .int .i64 x.c] t)) g2 (by simp)
  have b2 := heap_alloc_new (w.alloc (.cells #[.int .i64 x.a, .int .i64 x.b, .int .i64 x.c] t)) (.cells #[.int .i64 y.a, .int .i64 y.b, .int .i64 y.c] t)
  have s1 : (w.alloc (.cells #[.int .i64 x.a, .int .i64 x.b, .int .i64 x.c] t)).heap.size = w.heap.size + 1 := by simp
  rw [s1] at b2
  exact ⟨⟨b1, b2⟩, grown_trans g1 g2⟩
set_option maxRecDepth 100000 in
set_option maxHeartbeats 3200000 in
theorem acmpR_any (x y : T3) (w : World) :
    Calls Try.prog 115 #[.agg #[.int .i64 x.a, .int .i64 x.b, .int .i64 x.c], .agg #[.int .i64 y.a, .int .i64 y.b, .int .i64 y.c]] w fun e w' => e = .returned (.int .i64 (cmp3 x y)) ∧ w.grownBy w' none := by
  have HZ := Lib.hid (two_boxesA w x y 73)
  have HB := Lib.hid HZ.out.1
  have K := Lib.hid HZ.out.2
  clear HZ
  go_enter Try.func115, Try.ntmps115
  go_upto_region 1 with fail
  generalize (w.alloc _).alloc _ = wa at *
  have GZ : Hid (wa.grownBy wa none) := Lib.hid (grown_refl _ _)
  obtain ⟨a0, a1, a2, b0, b1, b2, -⟩ := keep6A HB.out GZ
  go_region_held3 (fun w' => w'.cell? ⟨w.heap.size, 0, none⟩ = some (.int .i64 x.a) ∧ w'.cell? ⟨w.heap.size, 1, none⟩ = some (.int .i64 x.b) ∧ w'.cell? ⟨w.heap.size, 2, none⟩ = some (.int .i64 x.c) ∧ w'.cell? ⟨w.heap.size + 1, 0, none⟩ = some (.int .i64 y.a) ∧ w'.cell? ⟨w.heap.size + 1, 1, none⟩ = some (.int .i64 y.b) ∧ w'.cell? ⟨w.heap.size + 1, 2, none⟩ = some (.int .i64 y.c) ∧ Hid (wa.grownBy w' none))
    (first | with_reducible exact keep6A HB.out (hid_drew GZ) | with_reducible exact keep6A HB.out (hid_drew (hid_more GZ (World.grownBy_alloc _ _ _))) | (go_split_ands; with_reducible refine keep6A HB.out ?_; with_reducible assumption) | (go_split_ands; with_reducible refine keep6A HB.out (hid_more ?_ (World.grownBy_alloc _ _ _)); with_reducible assumption))
    (first
      | (go_at_call 112; refine (tcmp_any _ _ _).mono ?_; rintro e w' ⟨rfl, rfl⟩)
      | (go_at_call 111; refine (tor_any [cmpV x.a y.a, cmpV x.b y.b, cmpV x.c y.c] _ _ (fun _ => True) _ ?_ (by simp)).mono ?_; exact (rd_trip _ _ _ _ _ trivial).keep (grown_drew (grown_refl _ _)); rintro e w' ⟨rfl, rfl⟩))
  all_goals
    go_split_ands
    go_wp2_with fail
    go_ret
    exact ⟨rfl, grown_trans K.out (Hid.out (by assumption))⟩
set_option maxRecDepth 100000 in
set_option maxHeartbeats 3200000 in
theorem acmpC_any (x y : T3) (w : World) :
    Calls Try.prog 117 #[.agg #[.int .i64 x.a, .int .i64 x.b, .int .i64 x.c], .agg #[.int .i64 y.a, .int .i64 y.b, .int .i64 y.c]] w fun e w' => e = .returned (.int .i64 (cmp3 x y)) ∧ w.grownBy w' none := by
  have HZ := Lib.hid (two_boxesA w x y 62)
  have HB := Lib.hid HZ.out.1
  have K := Lib.hid HZ.out.2
  clear HZ
  go_enter Try.func117, Try.ntmps117
  go_upto_region 1 with fail
  generalize (w.alloc _).alloc _ = wa at *
  have GZ : Hid (wa.grownBy wa none) := Lib.hid (grown_refl _ _)
  obtain ⟨a0, a1, a2, b0, b1, b2, -⟩ := keep6A HB.out GZ
  go_region_held3 (fun w' => w'.cell? ⟨w.heap.size, 0, none⟩ = some (.int .i64 x.a) ∧ w'.cell? ⟨w.heap.size, 1, none⟩ = some (.int .i64 x.b) ∧ w'.cell? ⟨w.heap.size, 2, none⟩ = some (.int .i64 x.c) ∧ w'.cell? ⟨w.heap.size + 1, 0, none⟩ = some (.int .i64 y.a) ∧ w'.cell? ⟨w.heap.size + 1, 1, none⟩ = some (.int .i64 y.b) ∧ w'.cell? ⟨w.heap.size + 1, 2, none⟩ = some (.int .i64 y.c) ∧ Hid (wa.grownBy w' none))
    (first | with_reducible exact keep6A HB.out (hid_drew GZ) | with_reducible exact keep6A HB.out (hid_drew (hid_more GZ (World.grownBy_alloc _ _ _))) | (go_split_ands; with_reducible refine keep6A HB.out ?_; with_reducible assumption) | (go_split_ands; with_reducible refine keep6A HB.out (hid_more ?_ (World.grownBy_alloc _ _ _)); with_reducible assumption))
    (first
      | (go_at_call 112; refine (tcmp_any _ _ _).mono ?_; rintro e w' ⟨rfl, rfl⟩)
      | (go_at_call 111; refine (tor_any [cmpV x.a y.a, cmpV x.b y.b, cmpV x.c y.c] _ _ (fun _ => True) _ ?_ (by simp)).mono ?_; exact (rd_trip _ _ _ _ _ trivial).keep (grown_drew (grown_refl _ _)); rintro e w' ⟨rfl, rfl⟩))
  all_goals
    go_split_ands
    go_wp2_with fail
    go_ret
    exact ⟨rfl, grown_trans K.out (Hid.out (by assumption))⟩
end Go.Proofs.Ytnpkihioklpnmaa
