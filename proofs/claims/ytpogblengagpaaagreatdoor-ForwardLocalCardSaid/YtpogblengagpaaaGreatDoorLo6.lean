/- Parts of the proof, packed: MaM, ToUntil, ToUnt2, MaCol, MaRRw, MaRHp, MaBit, FwB, FwC, PkFields, Funs, PkHead, PkValid, PkCalls, PkRd, PkRes, PkRead, PkMis, PkSize, PkRefs. -/
import Derived.Test.YtpogblengagpaaaGreatDoorLo5
import Derived.Deep.RegionHeld
import Derived.Test.YtpogblengagpaaaGreatDoorLo1
import Derived.Test.YtpogblengagpaaaGreatDoorLo2
import Derived.Lib.TrailingZeros
import Derived.OwnWalk
import Derived.Lib.ConvBytes
import Derived.Deep.CutRange
/- masks: the mathematics. -/
namespace Go.Proofs.YtpogblengagpaaaGreatDoor
set_option maxRecDepth 100000
open Go.RowKit Go.Maps Bs
theorem any_memT {α : Type} {p : α → Bool} {l : List α} (h : l.any p = false) {x : α} (hx : x ∈ l) : p x = false := by
 have := List.any_eq_false.1 h x hx
 simpa using this
def nxI (X : List Int) (k : Nat) : Int := if X.length = 0 then 0 else X.getD (k % X.length) 0
def colS (n set : Int) (k : Nat) (f : Int → Option Nat) (x : Rw) : Int → Option Nat :=
 if plS x.id n = set ∧ nxI x.nx k ≠ 0 then putU f (nxI x.nx k) ((f (nxI x.nx k)).getD 0 ||| b2 (plB x.id n).toNat) else f
def colL (n set : Int) (k : Nat) (L : List Rw) : Int → Option Nat := L.foldl (colS n set k) (fun _ => none)
def coF (r s n : Int) (L : List Rw) (pl set : Int) : Int → Option Nat := if (0 ≤ pl ∧ pl < 8) ∧ ckT r s n L = 0 then colL n set pl.toNat L else fun _ => none
theorem colL_take {n set : Int} {k i : Nat} {L : List Rw} {x : Rw} (hx : L[i]? = some x) : colL n set k (L.take (i + 1)) = colS n set k (colL n set k (L.take i)) x := by
 unfold colL
 rw [List.take_add_one, hx, List.foldl_append]; rfl
theorem plB_lt64 (id len : Int) : (plB id len).toNat < 64 := by
 unfold plB
 split
 ·rename_i h
  obtain ⟨hl, h1, h2⟩ := pl_fields h
  rcases hl with rfl | rfl | rfl | rfl <;> omega
 ·decide
structure ColOk (f : Int → Option Nat) : Prop where
 u : ∀ x d, f x = some d → U64 d ∧ 1 ≤ x ∧ x ≤ 99
theorem ColOk.nil : ColOk (fun _ => none) := ⟨fun x d h => by cases h⟩
theorem ColOk.getD {f : Int → Option Nat} (h : ColOk f) (x : Int) : U64 ((f x).getD 0) := by
 cases hf : f x with
 | none => exact u64_mk (by decide)
 | some d => exact (h.u x d hf).1
theorem ColOk.put {f : Int → Option Nat} (h : ColOk f) {x : Int} {d : Nat} (hd : U64 d) (hx : 1 ≤ x ∧ x ≤ 99) : ColOk (putU f x d) := by
 refine ⟨fun y e he => ?_⟩
 by_cases hy : y = x
 ·subst hy
  rw [putU_same] at he
  obtain rfl := Option.some.inj he
  exact ⟨hd, hx⟩
 ·rw [putU_other f x d hy] at he
  exact h.u y e he
theorem ColOk.step {f : Int → Option Nat} (h : ColOk f) {n set : Int} {k : Nat} {x : Rw} (hx : nxI x.nx k ≠ 0 → 1 ≤ nxI x.nx k ∧ nxI x.nx k ≤ 99) : ColOk (colS n set k f x) := by
 unfold colS
 split
 ·rename_i hc
  exact h.put (Nat.or_lt_two_pow (n := 64) (h.getD _) (b2_u64 (plB_lt64 _ _))) (hx hc.2)
 ·exact h
theorem nxI_at {X : List Int} {k : Nat} (h : X.length ≠ 0) : X[k % X.length]? = some (nxI X k) := by
 have hlt : k % X.length < X.length := Nat.mod_lt _ (by omega)
 unfold nxI
 rw [if_neg h, List.getD_eq_getElem?_getD, List.getElem?_eq_getElem hlt]; rfl
theorem nxI_mem {X : List Int} {k : Nat} (h : nxI X k ≠ 0) : nxI X k ∈ X := by
 by_cases h0 : X.length = 0
 ·exact absurd (by unfold nxI; rw [if_pos h0]) h
 ·exact List.mem_of_getElem? (nxI_at h0)
theorem nx_in {x : Rw} {k : Nat} (h : wrW x = false) (h0 : nxI x.nx k ≠ 0) : 1 ≤ nxI x.nx k ∧ nxI x.nx k ≤ 99 := by
 unfold wrW at h
 rw [Bool.or_eq_false_iff] at h
 have h2 := List.any_eq_false.1 h.2 _ (nxI_mem h0)
 unfold inV at h2
 simp only [Bool.not_eq_true, Bool.not_eq_false', decide_eq_true_eq] at h2
 exact h2
theorem colL_ok {n set : Int} {k : Nat} {L : List Rw} (h : L.any wrW = false) : ∀ i, ColOk (colL n set k (L.take i))
 | 0 => by rw [List.take_zero]; exact ColOk.nil
 | i + 1 => by
  cases hx : L[i]? with
  | none =>
   have e : L.take (i + 1) = L.take i := by rw [List.take_add_one, hx]; simp
   rw [e]; exact colL_ok h i
  | some x =>
   rw [colL_take hx]
   exact (colL_ok h i).step (fun h0 => nx_in (any_memT h (List.mem_of_getElem? hx)) h0)
theorem coF_ok (r s n : Int) (L : List Rw) (pl set : Int) : ColOk (coF r s n L pl set) := by
 unfold coF
 split
 ·rename_i h
  have := colL_ok (n := n) (set := set) (k := pl.toNat) (ck_ok h.2).2.1 L.length
  rwa [List.take_length] at this
 ·exact ColOk.nil
theorem colL_bit {n set : Int} {k : Nat} : ∀ (L : List Rw) (u : Int) (j : Nat), (((colL n set k L) u).getD 0).testBit j = true ↔ ∃ x ∈ L, plS x.id n = set ∧ nxI x.nx k = u ∧ u ≠ 0 ∧ (plB x.id n).toNat = j := by
 suffices h : ∀ (L : List Rw) (f : Int → Option Nat) (u : Int) (j : Nat), (((L.foldl (colS n set k) f) u).getD 0).testBit j = true ↔ (((f u).getD 0).testBit j = true ∨ ∃ x ∈ L, plS x.id n = set ∧ nxI x.nx k = u ∧ u ≠ 0 ∧ (plB x.id n).toNat = j) by
  intro L u j
  refine (h L (fun _ => none) u j).trans ?_
  simp
 intro L
 induction L with
 | nil => intro f u j; simp
 | cons x t ih =>
  intro f u j
  rw [List.foldl_cons, ih]
  have hstep : ((colS n set k f x u).getD 0).testBit j = true ↔ (((f u).getD 0).testBit j = true ∨ (plS x.id n = set ∧ nxI x.nx k = u ∧ u ≠ 0 ∧ (plB x.id n).toNat = j)) := by
   unfold colS
   split
   ·rename_i hc
    by_cases hu : u = nxI x.nx k
    ·subst hu
     rw [putU_same, Option.getD_some, Nat.testBit_or]
     unfold b2
     rw [Nat.testBit_two_pow]
     simp only [Bool.or_eq_true, decide_eq_true_eq]
     constructor
     ·rintro (h | h)
      ·exact Or.inl h
      ·exact Or.inr ⟨hc.1, by first | rfl | trivial, hc.2, h⟩
     ·rintro (h | h)
      ·exact Or.inl h
      ·exact Or.inr h.2.2.2
    ·rw [putU_other _ _ _ hu]
     constructor
     ·exact Or.inl
     ·rintro (h | h)
      ·exact h
      ·exact absurd h.2.1.symm hu
   ·rename_i hc
    constructor
    ·exact Or.inl
    ·rintro (h | h)
     ·exact h
     ·exact absurd ⟨h.1, by rw [h.2.1]; exact h.2.2.1⟩ hc
  rw [hstep]
  constructor
  ·rintro ((h | h) | ⟨y, hy, h⟩)
   ·exact Or.inl h
   ·exact Or.inr ⟨x, List.mem_cons_self .., h⟩
   ·exact Or.inr ⟨y, List.mem_cons_of_mem _ hy, h⟩
  ·rintro (h | ⟨y, hy, h⟩)
   ·exact Or.inl (Or.inl h)
   ·rcases List.mem_cons.1 hy with rfl | hy
    ·exact Or.inl (Or.inr h)
    ·exact Or.inr ⟨y, hy, h⟩
end Go.Proofs.YtpogblengagpaaaGreatDoor

/- A region that draws its order: loads are taken first although a late operation writes their cells; what they want of the world holds until then. -/
namespace Go.Proofs.YtpogblengagpaaaGreatDoor
set_option maxRecDepth 100000
open Go
section
variable {P : Program} {ops : Array Oper} {Q : Exit → Act → World → Prop} {md : Region.Mode} {S : World → Prop} {late : Nat → Bool}
def anyU (P : Program) (md : Region.Mode) (ops : Array Oper) (Q : Exit → Act → World → Prop) (S : World → Prop) (late : Nat → Bool) : Nat → Array Bool → Act → World → Prop
 | 0, seen, a, w => Region.ready md ops seen = [] ∧ Q .normal a w
 | n + 1, seen, a, w => (Region.ready md ops seen = [] → Q .normal a w) ∧
   ∀ k, k ∈ Region.ready md ops seen → wpOp P ops Q k (fun b v => (late k = false → S v) ∧ anyU P md ops Q S late n (seen.setIfInBounds k true) b v) a w
theorem anyU_any (n : Nat) : ∀ (seen : Array Bool) (a : Act) (w : World), anyU P md ops Q S late n seen a w → wpAny P md ops Q n seen a w := by
 induction n with
 | zero => intro seen a w h; exact h
 | succ n ih => intro seen a w h; exact ⟨h.1, fun k hk => wpOp_mono (fun b v hb => ih _ b v hb.2) (h.2 k hk)⟩
def reach (md : Region.Mode) (ops : Array Oper) : Nat → Nat → Nat → Bool
 | 0, _, _ => false
 | n + 1, j, i => match ops[j]? with
  | some o => o.after.any fun e => Region.binds md e && (e.on == i || reach md ops n e.on i)
  | none => false
def waits (md : Region.Mode) (ops : Array Oper) (late : Nat → Bool) (i : Nat) : Bool :=
 (List.range ops.size).all fun j => !late j || reach md ops ops.size j i
def Shut1 (md : Region.Mode) (ops : Array Oper) (seen : Array Bool) : Prop :=
 ∀ (j : Nat) (o : Oper), ops[j]? = some o → seen.getD j false = true → ∀ e ∈ o.after, Region.binds md e = true → seen.getD e.on false = true
def shut1 (md : Region.Mode) (ops : Array Oper) (seen : Array Bool) : Bool :=
 (List.range ops.size).all fun j => !seen.getD j false || (match ops[j]? with
  | some o => o.after.all fun e => !Region.binds md e || seen.getD e.on false
  | none => true)
theorem shut1_spec {seen : Array Bool} (h : shut1 md ops seen = true) : Shut1 md ops seen := by
 intro j o ho hj e he hb
 unfold shut1 at h
 rw [List.all_eq_true] at h
 have h1 := h j (List.mem_range.2 (Array.getElem?_eq_some_iff.1 ho).1)
 rw [hj, ho] at h1
 simp only [Bool.not_true, Bool.false_or] at h1
 rw [Array.all_eq_true_iff_forall_mem] at h1
 have h2 := h1 e he
 rw [hb] at h2
 simpa using h2
theorem Shut1.step {seen : Array Bool} {j : Nat} (h : Shut1 md ops seen) (hj : j ∈ Region.ready md ops seen) : Shut1 md ops (seen.setIfInBounds j true) := by
 intro k o ho hk e he hb
 by_cases hjk : j = k
 ·subst hjk
  obtain ⟨_, o2, ho2, hall⟩ := mem_ready.1 hj
  rw [ho] at ho2
  obtain rfl := Option.some.inj ho2
  exact getD_set_true (hall e he hb)
 ·rw [getD_set_ne false hjk] at hk
  exact getD_set_true (h k o ho hk e he hb)
theorem reach_seen {seen : Array Bool} (hc : Shut1 md ops seen) (i : Nat) : ∀ (n j : Nat) (o : Oper), ops[j]? = some o → (∀ e ∈ o.after, Region.binds md e = true → seen.getD e.on false = true) → reach md ops n j i = true → seen.getD i false = true := by
 intro n
 induction n with
 | zero => intro j o _ _ h; cases h
 | succ n ih =>
  intro j o ho hall h
  unfold reach at h
  rw [ho] at h
  simp only at h
  rw [Array.any_eq_true'] at h
  obtain ⟨e, he, hb⟩ := h
  rw [Bool.and_eq_true, Bool.or_eq_true] at hb
  have h1 := hall e he hb.1
  rcases hb.2 with h2 | h2
  ·have : e.on = i := by simpa using h2
   rwa [this] at h1
  ·cases ho2 : ops[e.on]? with
   | none =>
    cases n with
    | zero => cases h2
    | succ n =>
     unfold reach at h2
     rw [ho2] at h2
     cases h2
   | some o2 => exact ih e.on o2 ho2 (hc e.on o2 ho2 h1) h2
theorem waits_seen {seen : Array Bool} {i j : Nat} (hw : waits md ops late i = true) (hc : Shut1 md ops seen) (hj : j ∈ Region.ready md ops seen) (hl : late j = true) : seen.getD i false = true := by
 obtain ⟨_, o, ho, hall⟩ := mem_ready.1 hj
 unfold waits at hw
 rw [List.all_eq_true] at hw
 have h1 := hw j (List.mem_range.2 (Array.getElem?_eq_some_iff.1 ho).1)
 rw [hl] at h1
 exact reach_seen hc i _ j o ho hall (by simpa using h1)
theorem anyU_first {i : Nat} {oi : Oper} {v : Value} (hi : ops[i]? = some oi) (hsel : ∀ (j : Nat) (o : Oper) cs b, ops[j]? = some o → o.op ≠ .select cs b)
  (hQ : ∀ c a w, Q (.panic c) (a.put oi.dst v) w → Q (.panic c) a w) (hw : waits md ops late i = true) (n : Nat) :
  ∀ (seen : Array Bool) (a : Act) (w : World),
   (∀ j oj, ops[j]? = some oj → j ≠ i → seen.getD j true = false → (∀ e ∈ oj.after, Region.binds md e = true → e.on ≠ i) → oi.apart ops oj = true) →
   Shut1 md ops seen → i ∈ Region.ready md ops seen → YieldsIf P ops S oi v a → S w → anyU P md ops Q S late n (seen.setIfInBounds i true) (a.put oi.dst v) w → anyU P md ops Q S late (n + 1) seen a w := by
 have now : ∀ (m : Nat) (seen : Array Bool) (a : Act) (w : World), YieldsIf P ops S oi v a → S w → anyU P md ops Q S late m (seen.setIfInBounds i true) (a.put oi.dst v) w →
   wpOp P ops Q i (fun b u => (late i = false → S u) ∧ anyU P md ops Q S late m (seen.setIfInBounds i true) b u) a w := fun m seen a w hy hS h => hy.wpOp hi hS ⟨fun _ => hS, h⟩
 induction n with
 | zero =>
  intro seen a w _ _ hr hy hS h
  refine ⟨fun e => (by rw [e] at hr; cases hr), fun j hj => ?_⟩
  by_cases e : j = i
  ·exact e ▸ now 0 seen a w hy hS h
  ·have := ready_mono hj e
   rw [h.1] at this
   cases this
 | succ n ih =>
  intro seen a w hf hc hr hy hS h
  refine ⟨fun e => (by rw [e] at hr; cases hr), fun j hj => ?_⟩
  by_cases e : j = i
  ·exact e ▸ now (n + 1) seen a w hy hS h
  obtain ⟨hun, oj, hoj, hall⟩ := mem_ready.1 hj
  have hno : ∀ e ∈ oj.after, Region.binds md e = true → e.on ≠ i := fun e he hb hei => by
   have h1 := hall e he hb
   have h0 := (mem_ready.1 hr).1
   rw [hei] at h1
   by_cases hlt : i < seen.size
   ·simp [hlt] at h0 h1
    rw [h0] at h1
    cases h1
   ·simp [Array.getElem?_eq_none (Nat.le_of_not_lt hlt)] at h1
  have hl : late j = false := by
   cases hl : late j with
   | false => rfl
   | true =>
    have h1 := waits_seen hw hc hj hl
    have h0 := (mem_ready.1 hr).1
    by_cases hlt : i < seen.size
    ·simp [hlt] at h0 h1
     rw [h0] at h1
     cases h1
    ·simp [Array.getElem?_eq_none (Nat.le_of_not_lt hlt)] at h1
  refine wpOp_mono (fun b u hb => ⟨hb.2.1, ih _ b u (fun k ok hk hki hsk hnk => hf k ok hk hki ?_ hnk) (hc.step hj) (ready_mono hr (Ne.symm e)) hb.1 (hb.2.1 hl) (by rw [Array.setIfInBounds_comm _ _ e]; exact hb.2.2)⟩)
   (wpOp_putIf hoj (hf j oj hoj e hun hno) (fun cs b => hsel i oi cs b hi) (fun cs b => hsel j oj cs b hoj) hQ hy (h.2 j (ready_mono hj e)))
  by_cases hjk : j = k
  ·exact hjk ▸ hun
  ·rwa [getD_set_ne true hjk] at hsk
theorem anyU_take {i : Nat} {oi : Oper} {v : Value} {n : Nat} {seen : Array Bool} {a : Act} {w : World} (hi : ops[i]? = some oi) (hw : waits md ops late i = true)
  (hc : shut1 md ops seen = true) (hs : Region.noSelect ops = true) (hf : Region.free md ops seen i = true) (hr : (Region.ready md ops seen).contains i = true)
  (hQ : ∀ c a w, Q (.panic c) (a.put oi.dst v) w → Q (.panic c) a w) (hy : YieldsIf P ops S oi v a) (hS : S w)
  (h : anyU P md ops Q S late n (seen.setIfInBounds i true) (a.put oi.dst v) w) : anyU P md ops Q S late (n + 1) seen a w :=
 anyU_first hi (Region.noSelect_spec hs) hQ hw n seen a w (Region.free_spec hi hf) (shut1_spec hc) (by simpa using hr) hy hS h
def EachU (P : Program) (md : Region.Mode) (ops : Array Oper) (Q : Exit → Act → World → Prop) (S : World → Prop) (late : Nat → Bool) (n : Nat) (seen : Array Bool) (a : Act) (w : World) (rs : List Nat) : Prop :=
 ∀ k ∈ rs, wpOp P ops Q k (fun b v => (late k = false → S v) ∧ anyU P md ops Q S late n (seen.setIfInBounds k true) b v) a w
theorem EachU.nil {n : Nat} {seen : Array Bool} {a : Act} {w : World} : EachU P md ops Q S late n seen a w [] := fun _ h => by cases h
theorem EachU.cons {n : Nat} {seen : Array Bool} {a : Act} {w : World} {i : Nat} {o : Oper} {rs : List Nat} (ho : ops[i]? = some o)
  (h : ∀ K : Act → World → Prop, Shut (∀ b v, (late i = false → S v) → ((late i = false → S v) → anyU P md ops Q S late n (seen.setIfInBounds i true) b v) → K b v) → if Region.wanted o (yielded ops a.tmps) = true then Oper.wp P o a w K Q else K (a.put o.dst undef) w)
  (hs : EachU P md ops Q S late n seen a w rs) : EachU P md ops Q S late n seen a w (i :: rs) := fun j hj => by
 rcases List.mem_cons.1 hj with rfl | hj
 ·exact wpOp_step ho (fun K hK => h K (fun b v hS hW => hK b v ⟨hS, hW hS⟩))
 ·exact hs j hj
theorem anyU_ready {rs : List Nat} {n : Nat} {seen : Array Bool} {a : Act} {w : World} (hr : Region.ready md ops seen = rs) (hne : rs ≠ []) (h : EachU P md ops Q S late n seen a w rs) : anyU P md ops Q S late (n + 1) seen a w :=
 ⟨fun e => absurd (hr ▸ e) hne, hr ▸ h⟩
theorem anyU_done {seen : Array Bool} {a : Act} {w : World} (hr : Region.ready md ops seen = []) (h : Q .normal a w) (n : Nat) : anyU P md ops Q S late n seen a w := by
 cases n with
 | zero => exact ⟨hr, h⟩
 | succ n => exact ⟨fun _ => h, by rw [hr]; intro k hk; cases hk⟩
theorem region_until {id : Nat} {a : Act} {w : World} (late : Nat → Bool) (hm : P.follows .mixedOrders = true) (hS : S w.drew) (h : S w.drew → anyU P .any ops Q S late ops.size (Array.replicate ops.size false) a w.drew) :
  (Code.region id ops true).wp P Q a w := wp_region_any hm (anyU_any _ _ _ _ (h hS))
end
theorem zU {P : Program} {ops : Array Oper} {Q : Exit → Act → World → Prop} {md : Region.Mode} {S : World → Prop} {late : Nat → Bool} {i : Nat} {d o t p f g} {v : Value} {n : Nat} {l : Array Bool} {a : Act} {w : World} (hi : ops[i]? = some (⟨d, o, t, p, f, g⟩ : Oper)) (hy : ∀ w, S w → (execOp a.eval (⟨d, o, t, p, f, g⟩ : Oper)).run P w = .ok (.value v) w) (hS : S w) (h : anyU P md ops Q S late n (l.setIfInBounds i true) (a.put d v) w) (hw : waits md ops late i = true := by kernel_rfl) (hc : shut1 md ops l = true := by kernel_rfl) (hs : Region.noSelect ops = true := by kernel_rfl) (hf : Region.free md ops l i = true := by kernel_rfl) (hr : (Region.ready md ops l).contains i = true := by kernel_rfl) (hQ : ∀ c a w, Q (.panic c) (a.put d v) w → Q (.panic c) a w := by exact fun _ _ _ h => h) (hx : Region.wanted (⟨d, o, t, p, f, g⟩ : Oper) (yielded ops a.tmps) = true := by rfl) : anyU P md ops Q S late (n + 1) l a w :=
 anyU_take hi hw hc hs hf hr hQ (Or.inl ⟨hx, hy⟩) hS h
end Go.Proofs.YtpogblengagpaaaGreatDoor

/- As until: what is not late keeps what holds. -/
namespace Go.Proofs.YtpogblengagpaaaGreatDoor
set_option maxRecDepth 100000
open Go
section
variable {P : Program} {ops : Array Oper} {Q : Exit → Act → World → Prop} {md : Region.Mode} {S : World → Prop} {late : Nat → Bool}
end
end Go.Proofs.YtpogblengagpaaaGreatDoor

/- masks: valid, nextIn, collect. -/
namespace Go.Proofs.YtpogblengagpaaaGreatDoor
set_option maxRecDepth 100000
open Go.RowKit Go.Maps Bs
def vaT (r s n : Int) (L : List Rw) (pl : Int) : Bool := decide ((0 ≤ pl ∧ pl < 8) ∧ ckT r s n L = 0)
theorem mvalid_any (r s n : Int) (p : Option Addr) (c : Nat) (L : List Rw) (pl : Int) (q : Nat → Prop) (w : World) (hR : RdW w q p c L) (hm : L.length ≤ 9223372036854775807) :
  Calls Tryz.prog 102 #[.agg #[.int .i64 r, .int .i64 s, .int .i64 n, .slice p L.length c], .int .i64 pl] w fun e w' => e = .returned (.bool (vaT r s n L pl)) ∧ w.grownBy w' none := by
 obtain ⟨k1, k2⟩ := tone_box w #[.int .i64 r, .int .i64 s, .int .i64 n, .slice p L.length c] 25
 have HB := Lib.hid (And.intro k1 (And.intro k2 (hR.keep k2)))
 clear k1 k2 hR
 go_enter Tryz.func102, Tryz.ntmps102
 go_upto_region 1 with fail
 generalize w.alloc _ = w1 at *
 obtain ⟨d0, d1, d2, d3⟩ := row4T HB.out.1
 by_cases h0 : 0 ≤ pl
 case neg =>
  have HO : Hid (vaT r s n L pl = false) := Lib.hid (decide_eq_false (fun h => h0 h.1.1))
  go_wp2_with fail
  go_ret
  rw [HO.out]
  exact ⟨rfl, HB.out.2.1⟩
 by_cases h8 : pl < 8
 case neg =>
  have HO : Hid (vaT r s n L pl = false) := Lib.hid (decide_eq_false (fun h => h8 h.1.2))
  go_wp2_with fail
  go_ret
  rw [HO.out]
  exact ⟨rfl, HB.out.2.1⟩
 have HO : Hid (vaT r s n L pl = (ckT r s n L == 0)) := Lib.hid (by
  unfold vaT
  by_cases hc : ckT r s n L = 0
  ·rw [decide_eq_true ⟨⟨h0, h8⟩, hc⟩, hc]; rfl
  ·rw [decide_eq_false (fun h => hc h.2)]
   exact (beq_eq_false_iff_ne.2 hc).symm)
 go_wp2_with fail
 refine (tcheckT_any r s n p c L q w1 HB.out.2.2 hm).mono ?_
 rintro e w2 ⟨rfl, hg⟩
 have G := Lib.hid (grown_trans HB.out.2.1 hg)
 clear hg
 go_wp2_with fail
 go_ret
 rw [HO.out]
 exact ⟨rfl, G.out⟩
set_option maxHeartbeats 1600000 in
theorem mnext_any (x : Rw) (k : Nat) (hk : k < 8) (q : Nat → Prop) (w : World) (hx : RwOk w q x) :
  Calls Tryz.prog 103 #[.agg #[.int .i64 x.id, .slice x.p x.nx.length x.c], .int .i64 (k : Int)] w fun e w' => e = .returned (.int .i64 (nxI x.nx k)) ∧ w.grownBy w' none := by
 obtain ⟨k1, k2⟩ := tone_box w #[.int .i64 x.id, .slice x.p x.nx.length x.c] 80
 have HB := Lib.hid (And.intro k1 (And.intro k2 (hx.keep k2)))
 clear k1 k2 hx
 go_enter Tryz.func103, Tryz.ntmps103
 go_upto_region 1 with fail
 generalize w.alloc _ = w1 at *
 have c1 : w1.cell? ⟨w.heap.size, 1, none⟩ = some (.slice x.p x.nx.length x.c) := cell_of_row _ _ _ _ _ _ HB.out.1
 by_cases h0 : x.nx.length = 0
 ·have h0' : ((x.nx.length : Int) == 0) = true := beq_iff_eq.2 (by omega)
  have HO : Hid (nxI x.nx k = 0) := Lib.hid (by unfold nxI; rw [if_pos h0])
  clear h0
  go_wp2_with fail
  go_ret
  rw [HO.out]
  exact ⟨rfl, HB.out.2.1⟩
 ·have h0' : ((x.nx.length : Int) == 0) = false := beq_eq_false_iff_ne.2 (by omega)
  have hm : x.nx.length ≤ 9223372036854775807 := Nat.le_trans HB.out.2.2.hc.1 HB.out.2.2.hc.2
  obtain ⟨xp, hxp⟩ : ∃ xp, x.p = xp := ⟨_, rfl⟩
  have hat := nxI_at (k := k) h0
  have hrd := HB.out.2.2.rd
  obtain ⟨-, b, off, hp, hq, hc⟩ := tvT_at hrd hat
  have a0 := hc _ _ hat
  obtain ⟨j, hj⟩ : ∃ j, k % x.nx.length = j := ⟨_, rfl⟩
  have hjl : j < x.nx.length := by rw [← hj]; exact Nat.mod_lt _ (by omega)
  rw [hj] at a0
  rw [hp] at c1
  obtain ⟨v, hv⟩ : ∃ v, nxI x.nx k = v := ⟨_, rfl⟩
  rw [hv] at a0
  have HV := Lib.hid hv
  have r1 : ((k : Int)).tmod (x.nx.length : Int) = (j : Int) := by rw [Int.tmod_eq_emod_of_nonneg (by omega), ← hj]; exact (Int.natCast_emod k x.nx.length).symm
  have r1b : ((k : Int)) % (x.nx.length : Int) = (j : Int) := by rw [← hj]; exact (Int.natCast_emod k x.nx.length).symm
  have r2 : IntKind.i64.wrap (j : Int) = (j : Int) := IntWalk.i64_in _ (by omega)
  have r0 : (x.nx.length : Int) ≠ 0 := by omega
  have j0 : (0 : Int) ≤ (j : Int) := by omega
  have j1 : (j : Int) < (x.nx.length : Int) := by omega
  clear h0 hat hrd hc hj hv hxp
  go_upto_region 3 with fail
  go_region
  have G := Lib.hid (grown_drew HB.out.2.1)
  clear a0 c1 r1 r1b r2 r0 j0 j1
  go_wp2_with fail
  go_ret
  rw [HV.out]
  exact ⟨rfl, G.out⟩
structure CO (W : World) (r s n : Int) (p : Option Addr) (c : Nat) (L : List Rw) (N : Nat) (f : Int → Option Nat) (w : World) : Prop where
 bx : w.heap[W.heap.size]? = some (.cells #[.int .i64 r, .int .i64 s, .int .i64 n, .slice p L.length c] 25 (0, 0))
 rd : RdW w (fun b => b < W.heap.size) p c L
 mp : OMu w (W.heap.size + 1) N f
 gr : W.grownBy w none
theorem CO.keep {W w w1 : World} {r s n : Int} {p : Option Addr} {c : Nat} {L : List Rw} {N : Nat} {f : Int → Option Nat} (h : CO W r s n p c L N f w) (g : w.grownBy w1 none) : CO W r s n p c L N f w1 :=
 ⟨kept_row h.bx g (by simp), h.rd.keep g, h.mp.kept g (by simp), grown_trans h.gr g⟩
theorem CO.put {W w w1 : World} {r s n : Int} {p : Option Addr} {c : Nat} {L : List Rw} {N M : Nat} {f f' : Int → Option Nat} (h : CO W r s n p c L N f w) (hm : OMu w1 (W.heap.size + 1) M f') (g : w.grownBy w1 (some (W.heap.size + 1))) : CO W r s n p c L M f' w1 := by
 have hn : ∀ b, b ≤ W.heap.size → some b ≠ some (W.heap.size + 1) := fun b hb e => by have := Option.some.inj e; omega
 exact ⟨kept_row h.bx g (hn _ (Nat.le_refl _)), h.rd.grown g (fun b hb => hn b (Nat.le_of_lt hb)), hm, grown_new h.gr g (by omega)⟩
def CoPost (r s n : Int) (L : List Rw) (pl set : Int) (w : World) (e : Ending) (w' : World) : Prop :=
 e = .returned (.map (some (w.heap.size + 1))) ∧ (∃ N, N ≤ 256 ∧ OMu w' (w.heap.size + 1) N (coF r s n L pl set)) ∧ w.grownBy w' none
set_option maxHeartbeats 3200000 in
theorem mcollect_any (r s n : Int) (p : Option Addr) (c : Nat) (L : List Rw) (pl set : Int) (w : World) (hR : RdW w (· < w.heap.size) p c L) (hm : L.length ≤ 9223372036854775807) :
  Calls Tryz.prog 66 #[.agg #[.int .i64 r, .int .i64 s, .int .i64 n, .slice p L.length c], .int .i64 pl, .int .i64 set] w fun e w' => CoPost r s n L pl set w e w' := by
 obtain ⟨k1, k2⟩ := tone_box w #[.int .i64 r, .int .i64 s, .int .i64 n, .slice p L.length c] 25
 have hsz : (w.alloc (.cells #[.int .i64 r, .int .i64 s, .int .i64 n, .slice p L.length c] 25)).heap.size = w.heap.size + 1 := by simp
 have gm := World.grownBy_alloc (w.alloc (.cells #[.int .i64 r, .int .i64 s, .int .i64 n, .slice p L.length c] 25)) (.map #[] 0) none
 have hmade := OMu.made (w.alloc (.cells #[.int .i64 r, .int .i64 s, .int .i64 n, .slice p L.length c] 25))
 rw [hsz] at hmade
 have H0 : Hid (CO w r s n p c L 0 (fun _ => none) _) := Lib.hid ⟨kept_row k1 gm (by simp), (hR.keep k2).keep gm, hmade, grown_trans k2 gm⟩
 have HSZ := Lib.hid hsz
 have hmm := fun t w => run_makeMap (P := Tryz.prog) t w
 clear k1 k2 hR gm hmade hsz
 go_enter Tryz.func66, Tryz.ntmps66
 go_upto_region 2 with fail
 rw [HSZ.out] at *
 clear hmm HSZ
 generalize ((w.alloc _).alloc _) = w1 at *
 obtain ⟨d0, d1, d2, d3⟩ := row4T H0.out.bx
 go_wp2_with fail
 refine (mvalid_any r s n p c L pl _ w1 H0.out.rd hm).mono ?_
 rintro e w2 ⟨rfl, hg⟩
 have H1 := Lib.hid (H0.out.keep hg)
 clear hg H0 d0 d1 d2 d3
 cases hv : vaT r s n L pl
 case false =>
  have HF : Hid (coF r s n L pl set = fun _ => none) := Lib.hid (by
   unfold coF
   unfold vaT at hv
   rw [if_neg (of_decide_eq_false hv)])
  clear hv
  go_wp2_with fail
  go_ret
  exact ⟨rfl, ⟨0, by omega, by rw [HF.out]; exact H1.out.mp⟩, H1.out.gr⟩
 have hvp : (0 ≤ pl ∧ pl < 8) ∧ ckT r s n L = 0 := by unfold vaT at hv; exact of_decide_eq_true hv
 obtain ⟨k, rfl⟩ := Int.eq_ofNat_of_zero_le hvp.1.1
 have hk8 : k < 8 := by have := hvp.1.2; omega
 have HF : Hid (coF r s n L (k : Int) set = colL n set k L) := Lib.hid (by
  unfold coF
  rw [if_pos hvp]; rfl)
 have HOK := Lib.hid (ck_ok hvp.2)
 have hL256 : L.length ≤ 256 := HOK.out.2.2.1
 clear hv hvp
 obtain ⟨d0, d1, d2, d3⟩ := row4T H1.out.bx
 have H2 : Hid (CO w r s n p c L 0 (colL n set k (L.take 0)) w2) := Lib.hid (by rw [List.take_zero]; exact H1.out)
 clear H1
 go_wp2_with fail
 clear d0 d1 d2 d3
 go_loopw [23] (fun a wr => ∃ (i N : Nat), i ≤ L.length ∧ a = .int .i64 (i : Int) ∧ N ≤ i ∧ Hid (CO w r s n p c L N (colL n set k (L.take i)) wr)) (fun a _ => L.length - (RowKit.intOf a).toNat)
 case atStart => exact ⟨0, 0, Nat.zero_le _, rfl, Nat.le_refl _, H2⟩
 case round =>
 clear H2
 obtain ⟨i, N, hi, rfl, hN, S0⟩ := hrel
 obtain ⟨w3, hw3⟩ : ∃ w3, w3 = wr := ⟨_, rfl⟩
 rw [← hw3] at S0 ⊢
 clear hw3
 by_cases hlt : i < L.length
 case neg =>
  obtain rfl : i = L.length := by omega
  have hnl : ¬ (L.length : Int) < (L.length : Int) := by omega
  rw [List.take_length] at S0
  go_wp2_with fail
  go_ret
  exact ⟨rfl, ⟨N, by omega, by rw [HF.out]; exact S0.out.mp⟩, S0.out.gr⟩
 case pos =>
 have hlt' : (i : Int) < (L.length : Int) := by omega
 obtain ⟨x, hx⟩ : ∃ x, L[i]? = some x := ⟨_, List.getElem?_eq_getElem hlt⟩
 have hxm := List.mem_of_getElem? hx
 obtain ⟨-, b, off, rfl, hq, hc⟩ := rw_cells S0.out.rd.rd (by omega)
 obtain ⟨a0, a1⟩ := hc i x hx
 have HX := Lib.hid hx
 have HW := Lib.hid (any_memT HOK.out.2.1 hxm)
 have HXM := Lib.hid hxm
 clear hc hx hxm
 obtain ⟨k1, k2⟩ := tone_box w3 #[.int .i64 x.id, .slice x.p x.nx.length x.c] 80
 have S1 := Lib.hid (And.intro (S0.out.keep k2) k1)
 clear k1 k2 S0
 go_upto_region 7 with fail
 generalize w3.alloc _ = w4 at *
 generalize w3.heap.size = Bx at *
 clear a0 a1
 have e0 : w4.cell? ⟨Bx, 0, none⟩ = some (.int .i64 x.id) := cell_of_row _ _ _ _ _ _ S1.out.2
 have e1 : w4.cell? ⟨Bx, 1, none⟩ = some (.slice x.p x.nx.length x.c) := cell_of_row _ _ _ _ _ _ S1.out.2
 go_wp2_with fail
 refine (mnext_any x k hk8 _ w4 (S1.out.1.rd.ok x HXM.out)).mono ?_
 rintro e w5 ⟨rfl, hg⟩
 have S2 := Lib.hid (And.intro (S1.out.1.keep hg) (kept_row S1.out.2 hg (by simp)))
 clear hg S1 e0 e1
 have e0 : w5.cell? ⟨Bx, 0, none⟩ = some (.int .i64 x.id) := cell_of_row _ _ _ _ _ _ S2.out.2
 obtain ⟨d0, d1, d2, d3⟩ := row4T S2.out.1.bx
 go_wp2_with fail
 refine (iplc_any x.id n w5).mono ?_
 rintro e w6 ⟨rfl, hg⟩
 have S3 := Lib.hid (S2.out.1.keep hg)
 clear hg S2 e0 d0 d1 d2 d3
 obtain ⟨m, hm1⟩ : ∃ m : Nat, plB x.id n = (m : Int) := by
  have : 0 ≤ plB x.id n := by
   unfold plB
   split
   ·rename_i h
    obtain ⟨hl, h1, h2⟩ := pl_fields h
    rcases hl with rfl | rfl | rfl | rfl <;> omega
   ·omega
  exact Int.eq_ofNat_of_zero_le this
 have hm64 : m < 64 := by have := plB_lt64 x.id n; omega
 obtain ⟨st, hst⟩ : ∃ st, plS x.id n = st := ⟨_, rfl⟩
 obtain ⟨h, hh⟩ : ∃ h, nxI x.nx k = h := ⟨_, rfl⟩
 have HST : Hid (colL n set k (L.take (i + 1)) = if st = set ∧ h ≠ 0 then putU (colL n set k (L.take i)) h ((colL n set k (L.take i) h).getD 0 ||| b2 m) else colL n set k (L.take i)) := Lib.hid (by
  rw [colL_take HX.out]
  unfold colS
  rw [hst, hh, hm1]; rfl)
 have HNX : Hid (h ≠ 0 → 1 ≤ h ∧ h ≤ 99) := Lib.hid (by rw [← hh]; exact fun h0 => nx_in HW.out h0)
 have HCO : Hid (ColOk (colL n set k (L.take i))) := Lib.hid (colL_ok HOK.out.2.1 i)
 rw [hst, hh, hm1]
 clear hst hh hm1
 by_cases h1 : st = set
 case neg =>
  have h1' : (st == set) = false := by simpa using h1
  have HS2 : Hid (CO w r s n (some ⟨b, off, none⟩) c L N (colL n set k (L.take (i + 1))) w6) := Lib.hid (by rw [HST.out, if_neg (fun h => h1 h.1)]; exact S3.out)
  clear h1
  go_wp2_with fail
  exact ⟨⟨i + 1, N, by omega, congrArg _ (by omega), by omega, HS2⟩, by simp only [RowKit.intOf]; omega⟩
 have h1' : (st == set) = true := by simpa using h1
 by_cases h2 : h = 0
 case pos =>
  have h2' : (h != 0) = false := by simpa using h2
  have HS2 : Hid (CO w r s n (some ⟨b, off, none⟩) c L N (colL n set k (L.take (i + 1))) w6) := Lib.hid (by rw [HST.out, if_neg (fun h3 => h3.2 h2)]; exact S3.out)
  clear h1 h2
  go_wp2_with fail
  exact ⟨⟨i + 1, N, by omega, congrArg _ (by omega), by omega, HS2⟩, by simp only [RowKit.intOf]; omega⟩
 have h2' : (h != 0) = true := by simpa using h2
 have hh1 := HNX.out h2
 obtain ⟨f, hf⟩ : ∃ f, colL n set k (L.take i) = f := ⟨_, rfl⟩
 rw [hf] at HST HCO S3
 have hU := HCO.out.getD h
 obtain ⟨y, hy⟩ : ∃ y, (f h).getD 0 = y := ⟨_, rfl⟩
 rw [hy] at hU
 have hor : U64 (y ||| b2 m) := Nat.or_lt_two_pow (n := 64) hU (b2_u64 hm64)
 have S4 := Lib.hid (S3.out.keep (grown_drew (grown_refl _ none)))
 have hlook := (S4.out.mp.look (x := h) (by unfold I64; omega)).1
 rw [hy] at hlook
 obtain ⟨w7, hput, hmp, hgr⟩ := S4.out.mp.put (x := h) (d := y ||| b2 m) (by omega) (by unfold I64; omega) hor
 have hor2 : bits .or .u64 (y : Int) (IntKind.u64.wrap (2 ^ m)) = ((y ||| b2 m : Nat) : Int) := by rw [pow_word m hm64, orU _ _ hU (b2_u64 hm64)]
 rw [← hor2] at hput
 have HS2 : Hid (CO w r s n (some ⟨b, off, none⟩) c L (N + 1) (colL n set k (L.take (i + 1))) w7) := Lib.hid (by
  rw [HST.out, if_pos ⟨h1, h2⟩, hy]
  exact S4.out.put hmp hgr)
 have m1 : (m : Int) < 64 := by omega
 have m0 : ¬ (m : Int) < 0 := by omega
 clear h1 h2 hh1 hf hy hmp hgr HST HCO hor hor2 S3 S4
 go_upto_region 10 with fail
 go_region
 clear hlook hput m1 m0
 go_wp2_with fail
 exact ⟨⟨i + 1, N + 1, by omega, congrArg _ (by omega), by omega, HS2⟩, by simp only [RowKit.intOf]; omega⟩
end Go.Proofs.YtpogblengagpaaaGreatDoor

/- tables, the reference's functions: inside, plane, Row, Hop. -/
namespace Go.Proofs.YtpogblengagpaaaGreatDoor
set_option maxRecDepth 100000
open Go.RowKit Go.Maps Bs
def isW (id : Int) (x : Rw) : Bool := decide (x.id = id)
def fdW (L : List Rw) (id : Int) : Option Rw := L.find? (isW id)
def zRw : Rw := ⟨0, [], none, 0⟩
theorem rowR2 {w : World} {b : Nat} {x y : Value} {t : TypeId} (h : w.heap[b]? = some (.cells #[x, y] t (0, 0))) : w.cell? ⟨b, 0, none⟩ = some x ∧ w.cell? ⟨b, 1, none⟩ = some y :=
 ⟨cell_of_row _ _ _ _ _ _ h, cell_of_row _ _ _ _ _ _ h⟩
end Go.Proofs.YtpogblengagpaaaGreatDoor

/- tables, the reference's functions: Hop. -/
namespace Go.Proofs.YtpogblengagpaaaGreatDoor
set_option maxRecDepth 100000
open Go.RowKit Go.Maps Bs
def hopI (L : List Rw) (id : Int) (k : Nat) : Int := nxI ((fdW L id).getD zRw).nx k
end Go.Proofs.YtpogblengagpaaaGreatDoor

/- masks, the reference's Bits: the mathematics. -/
namespace Go.Proofs.YtpogblengagpaaaGreatDoor
set_option maxRecDepth 100000
open Go.RowKit Go.Maps Bs
theorem place_at {s b len : Int} (h : atOk s b len = true) : plOk (atI s b len) len = true ∧ plS (atI s b len) len = s ∧ plB (atI s b len) len = b := by
 have h0 := h
 unfold atOk inV at h
 simp only [Bool.and_eq_true, decide_eq_true_eq] at h
 obtain ⟨⟨⟨hv, hb⟩, hs⟩, hm⟩ := h
 have hl : len = 8 ∨ len = 16 ∨ len = 32 ∨ len = 64 := by
  have := pl_fields (id := 1) (len := len) (by unfold plOk inV; simp [hv])
  exact this.1
 have e : atI s b len = s * len + b + 1 := by unfold atI; rw [if_pos h0]
 have hp : plOk (s * len + b + 1) len = true := by
  unfold plOk inV
  simp only [Bool.and_eq_true, decide_eq_true_eq]
  refine ⟨hv, ?_, hm⟩
  rcases hl with rfl | rfl | rfl | rfl <;> omega
 rw [e]
 refine ⟨hp, ?_, ?_⟩
 ·unfold plS
  rw [if_pos hp, Int.tdiv_eq_ediv_of_nonneg (by rcases hl with rfl | rfl | rfl | rfl <;> omega)]
  rcases hl with rfl | rfl | rfl | rfl <;> omega
 ·unfold plB
  rw [if_pos hp]
  rcases hl with rfl | rfl | rfl | rfl <;> omega
def btP (L : List Rw) (n set u : Int) (k : Nat) (j : Nat) : Bool := atOk set (j : Int) n && decide (0 < u) && decide (hopI L (atI set (j : Int) n) k = u)
def btA (P : Nat → Bool) : Nat → Nat
 | 0 => 0
 | i + 1 => if P i = true then btA P i ||| b2 i else btA P i
theorem btA_bit (P : Nat → Bool) : ∀ N j, (btA P N).testBit j = true ↔ j < N ∧ P j = true
 | 0, j => by unfold btA; simp
 | i + 1, j => by
  have ih := btA_bit P i j
  unfold btA
  by_cases hp : P i = true
  ·rw [if_pos hp, Nat.testBit_or]
   unfold b2
   rw [Nat.testBit_two_pow]
   simp only [Bool.or_eq_true, decide_eq_true_eq, ih]
   constructor
   ·rintro (h | rfl)
    ·exact ⟨by omega, h.2⟩
    ·exact ⟨by omega, hp⟩
   ·rintro ⟨h1, h2⟩
    by_cases e : i = j
    ·exact Or.inr e
    ·exact Or.inl ⟨by omega, h2⟩
  ·rw [if_neg hp, ih]
   constructor
   ·rintro h; exact ⟨by omega, h.2⟩
   ·rintro ⟨h1, h2⟩
    by_cases e : i = j
    ·subst e; exact absurd h2 hp
    ·exact ⟨by omega, h2⟩
theorem ascW_pair : ∀ E : List Rw, ascB ltW E = true → E.Pairwise (fun x y => x.id < y.id)
 | [], _ => List.Pairwise.nil
 | [a], _ => List.pairwise_singleton _ _
 | a :: b :: t, h => by
  rw [ascB, Bool.and_eq_true] at h
  have ih := ascW_pair (b :: t) h.2
  have hab : a.id < b.id := of_decide_eq_true h.1
  refine List.pairwise_cons.2 ⟨fun y hy => ?_, ih⟩
  rcases List.mem_cons.1 hy with rfl | hy
  ·exact hab
  ·have := (List.pairwise_cons.1 ih).1 y hy; omega
theorem fdW_mem {L : List Rw} (h : ascB ltW L = true) {x : Rw} (hx : x ∈ L) : fdW L x.id = some x := by
 have hp := ascW_pair L h
 clear h
 unfold fdW
 induction L with
 | nil => cases hx
 | cons a t ih =>
  obtain ⟨h1, h2⟩ := List.pairwise_cons.1 hp
  rw [List.find?_cons]
  rcases List.mem_cons.1 hx with rfl | hm
  ·simp [isW]
  ·have := h1 x hm
   have e : isW x.id a = false := by unfold isW; simp; omega
   rw [e]
   exact ih hm h2
theorem mask_eq {r s n : Int} {L : List Rw} (h : ckT r s n L = 0) {N : Nat} (hN : n = (N : Int)) {k : Nat} {set u : Int} (hu : 0 < u) :
  btA (btP L n set u k) N = (colL n set k L u).getD 0 := by
 have ho := ck_ok h
 refine Nat.eq_of_testBit_eq fun j => ?_
 rw [Bool.eq_iff_iff, btA_bit, colL_bit]
 unfold btP
 simp only [Bool.and_eq_true, decide_eq_true_eq]
 constructor
 ·rintro ⟨hj, ⟨h1, -⟩, h3⟩
  obtain ⟨p1, p2, p3⟩ := place_at h1
  unfold hopI at h3
  cases hf : fdW L (atI set (j : Int) n) with
  | none =>
   rw [hf] at h3
   have : nxI ([] : List Int) k = 0 := rfl
   simp only [Option.getD_none] at h3
   have h4 : (0 : Int) = u := h3
   omega
  | some x =>
   rw [hf, Option.getD_some] at h3
   have hx := List.mem_of_find?_eq_some hf
   have he : x.id = atI set (j : Int) n := by
    have := List.find?_some hf
    unfold isW at this
    simpa using this
   refine ⟨x, hx, by rw [he]; exact p2, h3, by omega, by rw [he, p3]; omega⟩
 ·rintro ⟨x, hx, h1, h2, h3, h4⟩
  have hw := any_memT ho.2.1 hx
  have hid : 1 ≤ x.id ∧ x.id ≤ 256 := by
   unfold wrW inV at hw
   rw [Bool.or_eq_false_iff] at hw
   simpa using hw.1
  have hvl : vl n = true := by
   have := ho.1
   unfold hdT at this
   have hl : ¬ L.length = 0 := by
    intro e
    have := List.eq_nil_of_length_eq_zero e
    subst this
    cases hx
   simp [hl] at this
   exact this.2
  have hp : plOk x.id n = true := by unfold plOk inV; simp [hvl, hid.1, hid.2]
  obtain ⟨a1, a2⟩ := at_place hp
  have hB : plB x.id n = (j : Int) := by
   have : 0 ≤ plB x.id n := by
    obtain ⟨hl, -⟩ := pl_fields hp
    unfold plB
    rw [if_pos hp]
    rcases hl with rfl | rfl | rfl | rfl <;> omega
   omega
  have hjn : (j : Int) < n := by
   rw [← hB]
   obtain ⟨hl, -⟩ := pl_fields hp
   unfold plB
   rw [if_pos hp]
   rcases hl with rfl | rfl | rfl | rfl <;> omega
  rw [h1, hB] at a1 a2
  refine ⟨by omega, ⟨a1, hu⟩, ?_⟩
  unfold hopI
  rw [a2, fdW_mem ho.2.2.2.2.1 hx, Option.getD_some]
  exact h2
end Go.Proofs.YtpogblengagpaaaGreatDoor

/- forward, the mathematics: the next hop of each bit and the masks. -/
namespace Go.Proofs.YtpogblengagpaaaGreatDoor
set_option maxRecDepth 100000
open Go.RowKit Go.Maps Bs
def hpF (n set : Int) (k : Nat) (L : List Rw) (j : Nat) : Int := if atOk set (j : Int) n = true then hopI L (atI set (j : Int) n) k else 0
theorem hop_pos {r s n : Int} {L : List Rw} (h : ckT r s n L = 0) {id : Int} {k : Nat} (h0 : hopI L id k ≠ 0) : 1 ≤ hopI L id k ∧ hopI L id k ≤ 99 := by
 have ho := ck_ok h
 unfold hopI at h0 ⊢
 cases hf : fdW L id with
 | none =>
  rw [hf] at h0
  exact absurd rfl h0
 | some x =>
  rw [hf, Option.getD_some] at h0
  rw [Option.getD_some]
  exact nx_in (any_memT ho.2.1 (List.mem_of_find?_eq_some hf)) h0
theorem ms_fw {r s n : Int} {L : List Rw} (h : ckT r s n L = 0) {N : Nat} (hN : n = (N : Int)) (k : Nat) (set : Int) : Ms (fun u => (colL n set k L u).getD 0) (hpF n set k L) := by
 have ho := ck_ok h
 have hok : ColOk (colL n set k L) := by
  have := colL_ok (n := n) (set := set) (k := k) ho.2.1 L.length
  rwa [List.take_length] at this
 intro u hu
 refine ⟨hok.getD u, fun j => ?_⟩
 by_cases hp : 0 < u
 ·show ((colL n set k L u).getD 0).testBit j = true ↔ _
  have h64 : ((colL n set k L u).getD 0).testBit j = true → j < 64 := u64_bit (hok.getD u)
  rw [← mask_eq h hN hp] at h64 ⊢
  rw [btA_bit] at h64 ⊢
  unfold btP at h64 ⊢
  unfold hpF
  simp only [Bool.and_eq_true, decide_eq_true_eq] at h64 ⊢
  constructor
  ·rintro ⟨h1, ⟨h2, h3⟩, h4⟩
   exact ⟨by rw [if_pos h2]; exact h4, h64 ⟨h1, ⟨h2, h3⟩, h4⟩⟩
  ·rintro ⟨h1, h2⟩
   by_cases ha : atOk set (j : Int) n = true
   ·rw [if_pos ha] at h1
    refine ⟨?_, ⟨ha, hp⟩, h1⟩
    unfold atOk inV at ha
    simp only [Bool.and_eq_true, decide_eq_true_eq] at ha
    omega
   ·rw [if_neg ha] at h1
    exact absurd h1.symm hu
 ·constructor
  ·intro hb
   obtain ⟨x, hx, -, h2, -, -⟩ := (colL_bit L u j).1 hb
   have := nx_in (k := k) (any_memT ho.2.1 hx) (by rw [h2]; exact hu)
   omega
  ·rintro ⟨h1, -⟩
   unfold hpF at h1
   by_cases ha : atOk set (j : Int) n = true
   ·rw [if_pos ha] at h1
    have := hop_pos h (id := atI set (j : Int) n) (k := k) (by rw [h1]; exact hu)
    omega
   ·rw [if_neg ha] at h1
    exact absurd h1.symm hu
end Go.Proofs.YtpogblengagpaaaGreatDoor

/- forward, the mathematics: the least bit as bitset.First says it. -/
namespace Go.Proofs.YtpogblengagpaaaGreatDoor
set_option maxRecDepth 100000
open Go.RowKit Bs
theorem lst_ctz {b : Nat} (hb : U64 b) (h0 : b ≠ 0) : Lst b (Lib.ctz 64 b) := by
 have hc : Lib.ctz 64 b = Lib.ctzFrom 64 b := by unfold Lib.ctz; rw [if_neg h0]
 obtain ⟨m, hm, -⟩ := Lib.ctzFrom_spec 64 b (Nat.pos_of_ne_zero h0) hb
 rw [hc]
 generalize Lib.ctzFrom 64 b = c at hm
 refine ⟨?_, fun i hi => ?_⟩
 ·rw [hm, Nat.testBit_two_pow_mul]
  simp
 ·rcases Nat.lt_or_ge i c with h | h
  ·rw [hm, Nat.testBit_two_pow_mul] at hi
   simp at hi
   omega
  ·exact h
theorem and_two {a j : Nat} : (a &&& 2 ^ j = 0) ↔ a.testBit j = false := by
 constructor
 ·intro e
  have := congrArg (fun x => x.testBit j) e
  simp only [Nat.testBit_and, Nat.testBit_two_pow_self, Bool.and_true, Nat.zero_testBit] at this
  exact this
 ·intro e
  refine Nat.eq_of_testBit_eq (fun k => ?_)
  rw [Nat.testBit_and, Nat.zero_testBit]
  cases hk : (2 ^ j).testBit k with
  | false => simp
  | true =>
   obtain rfl := two_bit hk
   rw [e]
   rfl
end Go.Proofs.YtpogblengagpaaaGreatDoor

/- packet: the table of the fields. -/
namespace Go.Proofs.YtpogblengagpaaaGreatDoor
set_option maxRecDepth 100000
open Go.RowKit Bs
theorem vpk_parts {P : Pk} (h : vpk P = true) : ((1 ≤ P.mode ∧ P.mode ≤ 3) ∧ (0 ≤ P.sub ∧ P.sub ≤ 7) ∧ (0 ≤ P.set ∧ P.set ≤ 31) ∧ (0 ≤ P.ttl ∧ P.ttl ≤ 63) ∧ (0 ≤ P.ent ∧ P.ent ≤ 1023) ∧ (0 ≤ P.ing ∧ P.ing ≤ 256) ∧ (0 ≤ P.pro ∧ P.pro ≤ 7) ∧ P.pay.size ≤ 64 ∧ vb P.bits P.len = true) := of_decide_eq_true h
theorem vb_vl {b : Nat} {n : Int} (h : vb b n = true) : vl n = true := by
 unfold vb at h
 exact (Bool.and_eq_true _ _ ▸ h).1
end Go.Proofs.YtpogblengagpaaaGreatDoor

/- The program's functions on bits: List, Nth, Rank, Spread, Gather. -/
namespace Go.Proofs.YtpogblengagpaaaGreatDoor
set_option maxRecDepth 100000
open Go.RowKit Bs

theorem Tb.grown {w w' : World} {r : Option Nat} (h : Tb w) (g : w.grownBy w' r) (hr : r ≠ some 0) : Tb w' := by
 intro j hj
 exact g.cell (h j hj) (fun e => hr e.symm)
theorem Tb.keep {w w' : World} (h : Tb w) (g : w.grownBy w' none) : Tb w' := h.grown g (by simp)

theorem fst_pos {c : Nat} (h : c ≠ 0) : fst c = ((Lib.ctz 64 c : Nat) : Int) := by unfold fst; rw [if_neg h]

def tk (b j : Nat) : List Nat := (bl b).take j
theorem tk_le (b j : Nat) : (tk b j).length ≤ 64 := by unfold tk; rw [List.length_take]; have := bl_length_le b; omega
def ListRel (b : Nat) (w : World) (v : Value) (c j : Nat) (wr : World) : Prop :=
 Strip b c j ∧ wr.ownsRow w.heap.size 3 1 v (tk b j).length ((tk b j).map ival) ∧ w.grownBy wr none
theorem list_hit {b c j : Nat} {w wr w1 : World} {v v' : Value} {o : Obj} (h : ListRel b w v c j wr) (h0 : c ≠ 0)
  (hown' : w1.ownsRow w.heap.size 3 1 v' ((tk b j).length + 1) ((tk b j).map ival ++ [.int .i64 (fst c)])) (hg : (wr.alloc o).grownBy w1 v.ownBlock) : ListRel b w v' (wo c) (j + 1) w1 := by
 obtain ⟨h1, h2⟩ := h.1.step h0
 refine ⟨h1, ?_, own_step h.2.2 h.2.1 hg⟩
 unfold tk at hown' ⊢
 rw [take_next h2, List.length_append, List.map_append]
 rw [fst_pos h0] at hown'
 exact hown'
set_option maxHeartbeats 800000 in
theorem listp_any (b : Nat) (hb : U64 b) (w : World) (hT : Tb w) :
  Calls Tryz.prog 50 #[.int .u64 (b : Int)] w fun e w' => ListPost ((bl b).map ival) w e w' := by
 obtain ⟨i0, hi, hz0, hz1, hz2⟩ := info_parts info_int
 have hle := cnt_le b
 go_enter Tryz.func50, Tryz.ntmps50
 go_wp2_with (first
  | (go_at_call 81; refine (countp_any _ hb _).mono ?_; rintro e w' ⟨rfl, rfl⟩)
  | (at_make; refine wpList_make_own _ rfl _ _ 22 rfl w.heap.size 3 i0 (.int .i64 0) 1 Tryz.underlying22 hi hz0 hz1 .i64 .i64 _ (cnt b) rfl rfl rfl ?c1 ?c2 ?c3 ?_))
 case c1 => rw [hz2]; omega
 case c2 => unfold maxLen; omega
 case c3 => exact Nat.le_refl _
 intro w1 hown1 hg1
 have R0 := Lib.hid (⟨Strip.start hb, hown1, hg1⟩ : ListRel b w _ b 0 w1)
 clear hown1 hg1
 go_wp2_with fail
 go_loopw [0, 3] (fun x v wr => ∃ c j : Nat, x = .int .u64 (c : Int) ∧ ListRel b w v c j wr) (fun x _ _ => (RowKit.intOf x).toNat)
 case atStart => exact ⟨b, 0, rfl, R0.out⟩
 case round =>
  obtain ⟨c, j, rfl, hR⟩ := hrel
  have hTr : Tb wr := hT.keep hR.2.2
  have hcu := hR.1.1
  have hlen := tk_le b j
  have hsz := hR.2.2.size
  by_cases h0 : c = 0
  ·subst h0
   have R := Lib.hid hR
   clear hR R0
   go_wp2_with fail
   go_ret
   have hd := R.out.1.done
   have ho := R.out.2.1
   unfold tk at ho
   rw [hd] at ho
   exact ⟨_, rfl, rd_of_own ho, R.out.2.2⟩
  ·have hz : (((c : Nat) : Int) != 0) = true := by simp; omega
   have hown := hR.2.1
   have hR' := Lib.hid hR
   have h0' := Lib.hid h0
   have hlt := wo_lt h0
   clear hR h0 R0
   go_wp2_with (first
    | (go_at_call 40; refine (firstp_any _ hcu _ hTr).mono ?_; rintro e w' ⟨rfl, rfl⟩)
    | (at_builtin; refine wpList_append_own _ rfl _ _ 22 rfl w.heap.size 3 i0 (.int .i64 0) 1 8 Tryz.underlying22 hi hz0 hz1 hz2 rfl (by decide) _ _ _ rfl (hown.alloc _) ⟨wr.heap.size, 0, none⟩ 1 1 [.int .i64 (fst c)] rfl rfl ?c1 ?c2 ?c3 ?c4 ?c5 ?_))
   case c1 => exact cell_one _ _ _
   case c2 => intro u hu; simp at hu; subst hu; rfl
   case c3 => unfold maxLen; omega
   case c4 => omega
   case c5 => simp; omega
   intro v' w2 hown' hg _
   have R := Lib.hid (list_hit hR'.out h0'.out hown' hg)
   clear hown' hg hown hR' h0'
   go_wp2_with (go_at_call 82; refine (wo_any _ hcu _).mono ?_; rintro e w' ⟨rfl, rfl⟩)
   go_roundw
   case rel => exact ⟨_, j + 1, rfl, R.out⟩
   case measure => simp [RowKit.intOf]; omega
end Go.Proofs.YtpogblengagpaaaGreatDoor

/- packet: a header's block. -/
namespace Go.Proofs.YtpogblengagpaaaGreatDoor
set_option maxRecDepth 100000
open Go.RowKit Bs
theorem World.lt_of_row' {w : World} {b : Nat} {o : Obj} (h : w.heap[b]? = some o) : b < w.heap.size := (Array.getElem?_eq_some_iff.1 h).1
def pcells (P : Pk) : Array Value := #[.int .i64 P.mode, .int .i64 P.sub, .int .i64 P.set, .int .i64 P.len, .int .i64 P.ttl, .int .i64 P.ent, .int .i64 P.ing, .int .i64 P.pro, .int .u64 (P.bits : Int), .string P.pay]
theorem p_facts {w : World} {b : Nat} {P : Pk} (h : w.heap[b]? = some (.cells (pcells P) 28 (0, 0))) :
  w.cell? ⟨b, 0, none⟩ = some (.int .i64 P.mode) ∧ w.cell? ⟨b, 1, none⟩ = some (.int .i64 P.sub) ∧ w.cell? ⟨b, 2, none⟩ = some (.int .i64 P.set) ∧ w.cell? ⟨b, 3, none⟩ = some (.int .i64 P.len) ∧ w.cell? ⟨b, 4, none⟩ = some (.int .i64 P.ttl) ∧ w.cell? ⟨b, 5, none⟩ = some (.int .i64 P.ent) ∧ w.cell? ⟨b, 6, none⟩ = some (.int .i64 P.ing) ∧ w.cell? ⟨b, 7, none⟩ = some (.int .i64 P.pro) ∧ w.cell? ⟨b, 8, none⟩ = some (.int .u64 (P.bits : Int)) ∧ w.cell? ⟨b, 9, none⟩ = some (.string P.pay) :=
 ⟨cell_of_row _ _ _ _ _ _ h, cell_of_row _ _ _ _ _ _ h, cell_of_row _ _ _ _ _ _ h, cell_of_row _ _ _ _ _ _ h, cell_of_row _ _ _ _ _ _ h, cell_of_row _ _ _ _ _ _ h, cell_of_row _ _ _ _ _ _ h, cell_of_row _ _ _ _ _ _ h, cell_of_row _ _ _ _ _ _ h, cell_of_row _ _ _ _ _ _ h⟩
section
variable {W w w1 : World} {P : Pk} {h g S : Nat} {B B2 : List Bool}
end
end Go.Proofs.YtpogblengagpaaaGreatDoor

/- packet: Valid. -/
namespace Go.Proofs.YtpogblengagpaaaGreatDoor
set_option maxRecDepth 100000
open Go.RowKit Bs
def vrows (P : Pk) : List (Int × Int × Int) := [(P.mode, 1, 3), (P.sub, 0, 7), (P.set, 0, 31), (P.ttl, 0, 63), (P.ent, 0, 1023), (P.ing, 0, 256), (P.pro, 0, 7), ((P.pay.size : Int), 0, 64)]
def vcells (P : Pk) : Array Value := #[.int .i64 P.mode, .int .i64 1, .int .i64 3, .int .i64 P.sub, .int .i64 0, .int .i64 7, .int .i64 P.set, .int .i64 0, .int .i64 31, .int .i64 P.ttl, .int .i64 0, .int .i64 63,
 .int .i64 P.ent, .int .i64 0, .int .i64 1023, .int .i64 P.ing, .int .i64 0, .int .i64 256, .int .i64 P.pro, .int .i64 0, .int .i64 7, .int .i64 (P.pay.size : Int), .int .i64 0, .int .i64 64]
theorem vrow_at (P : Pk) (k : Nat) (hk : k < 8) : ∃ x lo hi : Int, (vcells P)[k * 3]? = some (.int .i64 x) ∧ (vcells P)[k * 3 + 1]? = some (.int .i64 lo) ∧ (vcells P)[k * 3 + 2]? = some (.int .i64 hi) ∧ (vrows P)[k]? = some (x, lo, hi) := by
 rcases (show k = 0 ∨ k = 1 ∨ k = 2 ∨ k = 3 ∨ k = 4 ∨ k = 5 ∨ k = 6 ∨ k = 7 by omega) with rfl | rfl | rfl | rfl | rfl | rfl | rfl | rfl <;> exact ⟨_, _, _, rfl, rfl, rfl, rfl⟩
def Kept (P : Pk) (k : Nat) : Prop := ∀ j x lo hi, j < k → (vrows P)[j]? = some (x, lo, hi) → lo ≤ x ∧ x ≤ hi
theorem vpk_kept {P : Pk} (h : Kept P 8) : vpk P = vb P.bits P.len := by
 have h0 := h 0 _ _ _ (by decide) rfl
 have h1 := h 1 _ _ _ (by decide) rfl
 have h2 := h 2 _ _ _ (by decide) rfl
 have h3 := h 3 _ _ _ (by decide) rfl
 have h4 := h 4 _ _ _ (by decide) rfl
 have h5 := h 5 _ _ _ (by decide) rfl
 have h6 := h 6 _ _ _ (by decide) rfl
 have h7 := h 7 _ _ _ (by decide) rfl
 unfold vpk
 by_cases hb : vb P.bits P.len = true
 ·rw [hb]; exact decide_eq_true ⟨h0, h1, h2, h3, h4, h5, h6, by omega, rfl⟩
 ·rw [Bool.not_eq_true] at hb
  rw [hb]; exact decide_eq_false fun h => by cases h.2.2.2.2.2.2.2.2
theorem vpk_row {P : Pk} (h : vpk P = true) {k : Nat} {x lo hi : Int} (hk : k < 8) (hr : (vrows P)[k]? = some (x, lo, hi)) : lo ≤ x ∧ x ≤ hi := by
 obtain ⟨h0, h1, h2, h3, h4, h5, h6, h7, _⟩ := vpk_parts h
 rcases (show k = 0 ∨ k = 1 ∨ k = 2 ∨ k = 3 ∨ k = 4 ∨ k = 5 ∨ k = 6 ∨ k = 7 by omega) with rfl | rfl | rfl | rfl | rfl | rfl | rfl | rfl <;> cases hr
 ·exact h0
 ·exact h1
 ·exact h2
 ·exact h3
 ·exact h4
 ·exact h5
 ·exact h6
 ·exact ⟨by omega, by omega⟩
theorem vpk_not {P : Pk} {k : Nat} {x lo hi : Int} (hk : k < 8) (hr : (vrows P)[k]? = some (x, lo, hi)) (hn : ¬ (lo ≤ x ∧ x ≤ hi)) : vpk P = false := by
 cases h : vpk P with
 | false => rfl
 | true => exact absurd (vpk_row h hk hr) hn
set_option maxHeartbeats 3200000 in
theorem pvalid_any (P : Pk) (hP : P.Wf) (w : World) :
  Calls Tryz.prog 65 #[P.val] w fun e w' => e = .returned (.bool (vpk P)) ∧ w.grownBy w' none := by
 unfold Pk.val
 go_enter Tryz.func65, Tryz.ntmps65
 go_wp2_with fail
 obtain ⟨k1, k2, k3, k4⟩ := two_boxes w (pcells P) (vcells P) 28 144
 have HA := Lib.hid (And.intro k1 (And.intro k2 k3))
 clear k1 k2 k3 k4
 unfold pcells vcells at HA
 generalize ((w.alloc (.cells #[.int .i64 P.mode, .int .i64 P.sub, .int .i64 P.set, .int .i64 P.len, .int .i64 P.ttl, .int .i64 P.ent, .int .i64 P.ing, .int .i64 P.pro, .int .u64 (P.bits : Int), .string P.pay] 28)).alloc _) = wa at *
 change Hid (wa.heap[w.heap.size]? = some (.cells (pcells P) 28 (0, 0)) ∧ wa.heap[w.heap.size + 1]? = some (.cells (vcells P) 144 (0, 0)) ∧ w.grownBy wa none) at HA
 have hK0 : Hid (Kept P 0) := Lib.hid fun j x lo hi hj => absurd hj (Nat.not_lt_zero j)
 go_loopw [32] (fun i wr => ∃ k : Nat, k ≤ 8 ∧ i = .int .i64 (k : Int) ∧ Hid (Kept P k) ∧ Hid (wa.grownBy wr none)) (fun i _ => (8 - (RowKit.intOf i).toNat))
 case atStart => exact ⟨0, Nat.zero_le _, rfl, hK0, Lib.hid (grown_refl _ _)⟩
 case round =>
  obtain ⟨k, hk, rfl, hK, hG⟩ := hrel
  clear hK0
  have GE := Lib.hid (grown_trans HA.out.2.2 hG.out)
  by_cases hk2 : k < 8
  ·obtain ⟨x, lo, hi, c0, c1, c2, hr⟩ := vrow_at P k hk2
   have hrow := kept_row HA.out.2.1 hG.out (by simp)
   have d0 := (cell_of_row _ _ _ _ _ _ hrow).trans c0
   have d1 := (cell_of_row _ _ _ _ _ _ hrow).trans c1
   have d2 := (cell_of_row _ _ _ _ _ _ hrow).trans c2
   have HR := Lib.hid hr
   clear c0 c1 c2 hr hrow
   by_cases h1 : x < lo
   ·have hn := Lib.hid (vpk_not hk2 HR.out (by omega))
    go_wp2_with fail
    go_ret
    exact ⟨by rw [hn.out]; rfl, grown_trans GE.out (World.grownBy_alloc _ _ none)⟩
   ·by_cases h2 : hi < x
    ·have hn := Lib.hid (vpk_not hk2 HR.out (by omega))
     go_wp2_with fail
     go_ret
     exact ⟨by rw [hn.out]; rfl, grown_trans GE.out (World.grownBy_alloc _ _ none)⟩
    ·go_wp2_with fail
     go_roundw
     case rel =>
      refine ⟨k + 1, by omega, by go_num, Lib.hid fun j y lo' hi' hj hr => ?_, Lib.hid (grown_trans hG.out (World.grownBy_alloc _ _ none))⟩
      by_cases hjk : j < k
      ·exact hK.out j y lo' hi' hjk hr
      ·obtain rfl : j = k := by omega
       rw [HR.out] at hr
       cases hr
       exact ⟨by omega, by omega⟩
     case measure => simp [RowKit.intOf]; omega
  ·obtain rfl : k = 8 := by omega
   obtain ⟨a0, a1, a2, a3, a4, a5, a6, a7, a8, a9⟩ := p_facts (kept_row HA.out.1 hG.out (by simp))
   have hv := Lib.hid (vpk_kept hK.out)
   go_wp2_with fail
   refine (bvalidp_any P.bits P.len hP.bits _).mono ?_
   rintro e w9 ⟨rfl, rfl⟩
   go_wp2_with fail
   go_ret
   exact ⟨by rw [hv.out]; rfl, GE.out⟩
end Go.Proofs.YtpogblengagpaaaGreatDoor

/- empty -/
namespace Go.Proofs.YtpogblengagpaaaGreatDoor
set_option maxRecDepth 100000
end Go.Proofs.YtpogblengagpaaaGreatDoor

/- packet: the header of a packet is read. -/
namespace Go.Proofs.YtpogblengagpaaaGreatDoor
set_option maxRecDepth 100000
open Go.RowKit Bs
def hdc (V : Nat → Nat) (k : Nat) (n : Int) : Array Value := #[.int .i64 ((if 0 < k then V 0 else 0 : Nat) : Int), .int .i64 ((if 1 < k then V 1 else 0 : Nat) : Int), .int .i64 ((if 2 < k then V 2 else 0 : Nat) : Int), .int .i64 ((if 3 < k then V 3 else 0 : Nat) : Int), .int .i64 n, .int .i64 ((if 5 < k then V 5 else 0 : Nat) : Int), .int .i64 ((if 6 < k then V 6 else 0 : Nat) : Int), .int .i64 ((if 7 < k then V 7 else 0 : Nat) : Int), .int .i64 ((if 8 < k then V 8 else 0 : Nat) : Int), .int .u64 0, .string ⟨#[]⟩, .int .i64 ((if 4 < k then V 4 else 0 : Nat) : Int), .int .i64 ((if 9 < k then V 9 else 0 : Nat) : Int)]
section
variable {W w w1 : World} {l : List Nat} {p : Option Addr} {c : Nat} {V : Nat → Nat} {g k : Nat}
end
end Go.Proofs.YtpogblengagpaaaGreatDoor

/- packet: a header's value comes back. -/
namespace Go.Proofs.YtpogblengagpaaaGreatDoor
set_option maxRecDepth 100000
open Go.RowKit Bs
def hval (V : Nat → Nat) (n : Int) : Value := .agg (hdc V 10 n)
end Go.Proofs.YtpogblengagpaaaGreatDoor

/- empty -/
namespace Go.Proofs.YtpogblengagpaaaGreatDoor
set_option maxRecDepth 100000
end Go.Proofs.YtpogblengagpaaaGreatDoor

/- empty -/
namespace Go.Proofs.YtpogblengagpaaaGreatDoor
set_option maxRecDepth 100000
end Go.Proofs.YtpogblengagpaaaGreatDoor

/- packet: Size and Plane. -/
namespace Go.Proofs.YtpogblengagpaaaGreatDoor
set_option maxRecDepth 100000
open Go.RowKit Bs
def planeV (P : Pk) : Int := if vpk P = true then P.ent % 8 else 0
theorem vpk_len {P : Pk} (h : vpk P = true) : P.len = ((P.len.toNat : Nat) : Int) ∧ P.len.toNat ≤ 64 := by
 rcases vl_cases (vb_vl (vpk_parts h).2.2.2.2.2.2.2.2) with h | h | h | h <;> rw [h] <;> decide
theorem pplane_any (P : Pk) (hP : P.Wf) (w : World) :
  Calls Tryz.prog 39 #[P.val] w fun e w' => e = .returned (.int .i64 (planeV P)) ∧ w.grownBy w' none := by
 have hval : P.val = .agg #[.int .i64 P.mode, .int .i64 P.sub, .int .i64 P.set, .int .i64 P.len, .int .i64 P.ttl, .int .i64 P.ent, .int .i64 P.ing, .int .i64 P.pro, .int .u64 (P.bits : Int), .string P.pay] := rfl
 rw [hval]
 go_enter Tryz.func39, Tryz.ntmps39
 go_wp2_with fail
 obtain ⟨k1, k2⟩ := one_box w (pcells P) 28
 have HP := Lib.hid (And.intro k1 k2)
 clear k1 k2
 unfold pcells at HP
 generalize w.alloc _ = wa at *
 change Hid (wa.heap[w.heap.size]? = some (.cells (pcells P) 28 (0, 0)) ∧ w.grownBy wa none) at HP
 rw [← hval]
 refine (pvalid_any P hP _).mono ?_
 rintro e w1 ⟨rfl, hg⟩
 have HQ := Lib.hid (And.intro (kept_row HP.out.1 hg (by simp)) (grown_trans HP.out.2 hg))
 clear hg HP
 by_cases hv : vpk P = true
 ·have hE : Hid (planeV P = P.ent % 8) := Lib.hid (by unfold planeV; rw [if_pos hv])
  have he := (vpk_parts hv).2.2.2.2.1
  obtain ⟨he1, he2⟩ := he
  rw [hv]
  clear hv
  obtain ⟨_, _, _, _, _, a5, _⟩ := p_facts HQ.out.1
  go_wp2_with fail
  go_ret
  exact ⟨by rw [hE.out]; rfl, HQ.out.2⟩
 ·have hf : vpk P = false := by simpa using hv
  have hE : Hid (planeV P = 0) := Lib.hid (by unfold planeV; rw [if_neg hv])
  rw [hf]
  clear hf hv
  go_wp2_with fail
  go_ret
  exact ⟨by rw [hE.out]; rfl, HQ.out.2⟩
end Go.Proofs.YtpogblengagpaaaGreatDoor

/- packet: the reference's Valid, Size, Plane. -/
namespace Go.Proofs.YtpogblengagpaaaGreatDoor
set_option maxRecDepth 100000
open Go.RowKit Bs
def ins (n m : Int) : Bool := decide (0 ≤ n ∧ n ≤ m)
theorem inside_any (n m : Int) (w : World) :
  Calls Tryz.prog 74 #[.int .i64 n, .int .i64 m] w fun e w' => e = .returned (.bool (ins n m)) ∧ w = w' := by
 by_cases h : 0 ≤ n
 ·by_cases h2 : n ≤ m
  ·have hi : Hid (ins n m = true) := Lib.hid (decide_eq_true ⟨h, h2⟩)
   go_enter Tryz.func74, Tryz.ntmps74
   go_wp2
   all_goals (go_ret; exact ⟨by rw [hi.out]; first | rfl | (simp; omega), rfl⟩)
  ·have hi : Hid (ins n m = false) := Lib.hid (decide_eq_false (by omega))
   go_enter Tryz.func74, Tryz.ntmps74
   go_wp2
   all_goals (go_ret; exact ⟨by rw [hi.out]; first | rfl | (simp; omega), rfl⟩)
 ·have hi : Hid (ins n m = false) := Lib.hid (decide_eq_false (by omega))
  go_enter Tryz.func74, Tryz.ntmps74
  go_wp2
  all_goals (go_ret; exact ⟨by rw [hi.out]; first | rfl | (simp; omega), rfl⟩)
theorem vpk_iff (P : Pk) : vpk P = (decide (1 ≤ P.mode) && (decide (P.mode ≤ 3) && (ins P.sub 7 && (ins P.set 31 && (vb P.bits P.len && (ins P.ttl 63 && (ins P.ent 1023 && (ins P.ing 256 && (ins P.pro 7 && decide (P.pay.size ≤ 64)))))))))) := by
 unfold vpk ins
 rw [Bool.eq_iff_iff]
 simp only [decide_eq_true_eq, Bool.and_eq_true]
 constructor
 ·rintro ⟨⟨h1, h2⟩, h3, h4, h5, h6, h7, h8, h9, h10⟩
  exact ⟨h1, h2, h3, h4, h10, h5, h6, h7, h8, h9⟩
 ·rintro ⟨h1, h2, h3, h4, h10, h5, h6, h7, h8, h9⟩
  exact ⟨⟨h1, h2⟩, h3, h4, h5, h6, h7, h8, h9, h10⟩
set_option maxHeartbeats 3200000 in
theorem rvalid_any (P : Pk) (hP : P.Wf) (w : World) :
  Calls Tryz.prog 43 #[P.val] w fun e w' => e = .returned (.bool (vpk P)) ∧ w.grownBy w' none := by
 have hval : P.val = .agg #[.int .i64 P.mode, .int .i64 P.sub, .int .i64 P.set, .int .i64 P.len, .int .i64 P.ttl, .int .i64 P.ent, .int .i64 P.ing, .int .i64 P.pro, .int .u64 (P.bits : Int), .string P.pay] := rfl
 rw [hval]
 go_enter Tryz.func43, Tryz.ntmps43
 obtain ⟨k1, k2⟩ := one_box w (pcells P) 28
 have HA := Lib.hid (And.intro k1 k2)
 unfold pcells at HA
 clear k1 k2
 by_cases hs : P.pay.size ≤ 64
 ·have hsi : ((P.pay.size : Nat) : Int) ≤ 64 := by omega
  go_wp2_with (first
   | (go_at_call 74; refine (inside_any _ _ _).mono ?_; rintro e w' ⟨rfl, rfl⟩)
   | (go_at_call 75; refine (bvalidr_any P.bits P.len hP.bits _).mono ?_; rintro e w' ⟨rfl, rfl⟩))
  all_goals
   go_ret
   refine ⟨?_, HA.out.2⟩
   first
    | (rw [show vpk P = false by (rw [vpk_iff]; first | (simp [*]; done) | (rw [decide_eq_false (show ¬ 1 ≤ P.mode by omega)]; rfl) | (rw [decide_eq_false (show ¬ P.mode ≤ 3 by omega), Bool.false_and, Bool.and_false]))]; rfl)
    | (rw [show vpk P = true by rw [vpk_iff]; simp [*]]; rfl)
 ·have hsi : ¬ ((P.pay.size : Nat) : Int) ≤ 64 := by omega
  go_wp2_with (first
   | (go_at_call 74; refine (inside_any _ _ _).mono ?_; rintro e w' ⟨rfl, rfl⟩)
   | (go_at_call 75; refine (bvalidr_any P.bits P.len hP.bits _).mono ?_; rintro e w' ⟨rfl, rfl⟩))
  all_goals
   go_ret
   refine ⟨?_, HA.out.2⟩
   first
    | (rw [show vpk P = false by (rw [vpk_iff]; first | (simp [*]; done) | (rw [decide_eq_false (show ¬ 1 ≤ P.mode by omega)]; rfl) | (rw [decide_eq_false (show ¬ P.mode ≤ 3 by omega), Bool.false_and, Bool.and_false]))]; rfl)
    | (rw [show vpk P = false by (rw [vpk_iff]; simp [*]), decide_eq_false (show ¬ ((P.pay.size : Nat) : Int) ≤ 64 by omega)]; rfl)
end Go.Proofs.YtpogblengagpaaaGreatDoor
