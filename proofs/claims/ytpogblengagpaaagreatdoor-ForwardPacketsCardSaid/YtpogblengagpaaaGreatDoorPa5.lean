/- Parts of the proof, packed: MaMap, MaM, ToUntil, ToUnt2, MaCol, MaRRw, MaRHp, MaBit, MaRBt. -/
import Derived.Test.YtpogblengagpaaaGreatDoorPa4
import Derived.Test.YtpogblengagpaaaGreatDoorPa1
import Derived.Maps.OwnSet
import Derived.Maps.OwnOps
import Derived.Lib.SlKeysI
import Derived.Deep.RegionHeld
/- Maps of bit strings. -/
namespace Go.Proofs.YtpogblengagpaaaGreatDoor
set_option maxRecDepth 100000
open Go.RowKit Go.Maps Bs
def kM (x : Int) : Lit := .int .i64 x
def vM (d : Nat) : Lit := .int .u64 (d : Int)
theorem kM_key (x : Int) : WideAt.IsKeyLit (kM x) := by unfold kM WideAt.IsKeyLit; trivial
theorem kM_ne {x y : Int} (h : x ≠ y) : kM x ≠ kM y := fun e => h (by unfold kM at e; injection e)
structure MU (D : DataW Unit) (f : Int → Option Nat) : Prop where
 td : Tidy D
 hs : ∀ x, Maps.has D (kM x) = (f x).isSome
 at1_ : ∀ x, D.atKey (kM x) (.lit (vM 0)) = .lit (vM ((f x).getD 0))
def putU (f : Int → Option Nat) (x : Int) (d : Nat) : Int → Option Nat := fun u => if u = x then some d else f u
theorem putU_same (f : Int → Option Nat) (x : Int) (d : Nat) : putU f x d x = some d := by unfold putU; rw [if_pos rfl]
theorem putU_other (f : Int → Option Nat) (x : Int) (d : Nat) {y : Int} (h : y ≠ x) : putU f x d y = f y := by unfold putU; rw [if_neg h]
theorem MU.nil : MU (.map []) (fun _ => none) := ⟨tidy_empty, fun _ => rfl, fun _ => rfl⟩
theorem MU.put {D : DataW Unit} {f : Int → Option Nat} (h : MU D f) (x : Int) (d : Nat) : MU (D.put (kM x) (.lit (vM d))) (putU f x d) := by
 refine ⟨h.td.put (kM_key x) _, fun y => ?_, fun y => ?_⟩
 ·by_cases e : y = x
  ·subst e
   rw [has_put_same h.td.isMap (kM_key y), putU_same]
   rfl
  ·rw [has_put_other (kM_ne e), h.hs, putU_other f x d e]
 ·by_cases e : y = x
  ·subst e
   rw [putU_same]
   exact atKey_put_same h.td.isMap (kM_key y) _ _
  ·rw [atKey_put_other (kM_ne e), h.at1_, putU_other f x d e]
theorem lawM : Keyed Tryz.prog 3 := int_keyed Tryz.underlying3
theorem zeroU (w : World) : (zeroValue 26).run Tryz.prog w = .ok (.int .u64 0) w := by kernel_rfl
theorem wfM {x : Int} (h : I64 x) : (Lit.int .i64 x).wf = true := by
 unfold I64 at h
 simp [Lit.wf, IntKind.min, IntKind.max, IntKind.bits, IntKind.signed]
 omega
theorem wfU {d : Nat} (h : U64 d) : (Lit.int .u64 (d : Int)).wf = true := by
 have h := U64.lt h
 simp [Lit.wf, IntKind.min, IntKind.max, IntKind.bits, IntKind.signed]
 omega
def OMu (w : World) (b n : Nat) (f : Int → Option Nat) : Prop := ∃ D : DataW Unit, w.ownsMap Tryz.prog 3 (plainElem Tryz.prog 26) b n D ∧ MU D f
theorem OMu.kept {w w' : World} {b n : Nat} {f : Int → Option Nat} {r : Option Nat} (h : OMu w b n f) (g : w.grownBy w' r) (hr : some b ≠ r) : OMu w' b n f := by
 obtain ⟨D, h1, h2⟩ := h
 exact ⟨D, h1.kept g hr, h2⟩
theorem OMu.lt {w : World} {b n : Nat} {f : Int → Option Nat} (h : OMu w b n f) : b < w.heap.size := by
 obtain ⟨D, h1, h2⟩ := h
 exact h1.lt
theorem OMu.mono {w : World} {b n m : Nat} {f : Int → Option Nat} (h : OMu w b n f) (hn : n ≤ m) : OMu w b m f := by
 obtain ⟨D, h1, h2⟩ := h
 exact ⟨D, h1.mono hn, h2⟩
theorem OMu.made (w : World) : OMu (w.alloc (.map #[] 0)) w.heap.size 0 (fun _ => none) := ⟨_, World.ownsMap_made w _ _ _, MU.nil⟩
theorem OMu.put {w : World} {b n : Nat} {f : Int → Option Nat} (h : OMu w b n f) (hn : n ≤ 1000000) {x : Int} {d : Nat} (hx : I64 x) (hd : U64 d) :
  ∃ w', (Instr.mapUpdate 114 (.map (some b)) (.int .i64 x) (.int .u64 (d : Int))).run Tryz.prog w = .ok () w' ∧ OMu w' b (n + 1) (putU f x d) ∧ w.grownBy w' (some b) := by
 obtain ⟨D, h1, h2⟩ := h
 obtain ⟨w', r1, r2, r3⟩ := h1.update (t := 114) lawM Tryz.underlying114 (by unfold maxLen; omega) (keyOf_int_mk Tryz.underlying3 (wfM hx)) (plainElem_int Tryz.underlying26 (wfU hd))
 exact ⟨w', r1, ⟨_, r2, h2.put x d⟩, r3⟩
theorem vM_inj {a : Nat} {c : Int} (h : (DataW.lit (vM a) : DataW Unit) = .lit (.int .u64 c)) : (a : Int) = c := by
 unfold vM at h
 injection h with h
 injection h
theorem vM_zero : (DataW.lit (vM 0) : DataW Unit) = .lit (.int .u64 0) := rfl
theorem OMu.look {w : World} {b n : Nat} {f : Int → Option Nat} (h : OMu w b n f) {x : Int} (hx : I64 x) :
  (Instr.lookup 114 (.map (some b)) (.int .i64 x) false).run Tryz.prog w = .ok (.int .u64 (((f x).getD 0 : Nat) : Int)) w ∧ (Instr.lookup 114 (.map (some b)) (.int .i64 x) true).run Tryz.prog w = .ok (.tuple #[.int .u64 (((f x).getD 0 : Nat) : Int), .bool (f x).isSome]) w := by
 obtain ⟨D, h1, h2⟩ := h
 have hk := keyOf_int_mk Tryz.underlying3 (wfM hx)
 have ha := h2.at1_ x
 constructor
 ·obtain ⟨c, hrun, hat, -⟩ := h1.lookup_int (t := 114) lawM Tryz.underlying114 Tryz.underlying26 (zeroU _) hk
  rw [vM_zero, show kM x = .int .i64 x from rfl, hat] at ha
  rw [hrun, vM_inj ha.symm]
 ·obtain ⟨v, ps, hrun, hv⟩ := h1.look_ok (t := 114) lawM Tryz.underlying114 (zeroU _) (plainElem_int Tryz.underlying26 (q := .u64) (a := 0) (by decide)) hk
  obtain ⟨c, rfl, hc, -⟩ := plainElem_int_inv Tryz.underlying26 hv
  have hc1 := congrArg Prod.fst hc
  simp only at hc1
  rw [vM_zero, show kM x = .int .i64 x from rfl, hc1] at ha
  rw [hrun, ← vM_inj ha.symm, ← h2.hs x]
  rfl
theorem OMu.keys {w : World} {b n : Nat} {f : Int → Option Nat} {D : DataW Unit} (h1 : w.ownsMap Tryz.prog 3 (plainElem Tryz.prog 26) b n D) (h2 : MU D f) {ss : List Int} (hp : ss.Perm (intKeys D)) : ss.Nodup ∧ ∀ x, x ∈ ss ↔ (f x).isSome = true := by
 obtain ⟨es, hD, hpw, _⟩ := h1.entries lawM
 obtain ⟨es', hD', hko⟩ := h1.keysOf
 obtain rfl : es = es' := by rw [hD] at hD'; simpa using hD'
 subst hD
 have hk : ∀ p ∈ es, ∃ x, p.1 = .int .i64 x := fun p hp => by
  obtain ⟨v, hv⟩ := hko p hp
  obtain ⟨x, _, hx, _⟩ := Maps.keyOf_i64 Tryz.underlying3 hv
  exact ⟨x, hx⟩
 have hnd : (intKeys (.map es)).Nodup := by
  show (es.map fun p => Go.intOf p.1).Nodup
  refine List.pairwise_map.2 (hpw.imp_of_mem fun {p q} hp' hq' hne e => hne ?_)
  obtain ⟨a, ha⟩ := hk p hp'
  obtain ⟨b, hb⟩ := hk q hq'
  rw [ha, hb] at e ⊢
  exact congrArg _ e
 refine ⟨(hp.nodup_iff).2 hnd, fun x => ?_⟩
 rw [hp.mem_iff, ← h2.hs x, has_eq, List.any_eq_true]
 show x ∈ es.map (fun p => Go.intOf p.1) ↔ _
 rw [List.mem_map]
 constructor
 ·rintro ⟨p, hp', rfl⟩
  obtain ⟨a, ha⟩ := hk p hp'
  exact ⟨p, hp', by rw [ha]; simp [Lit.sameKey, Go.intOf, kM]⟩
 ·rintro ⟨p, hp', hs⟩
  obtain ⟨a, ha⟩ := hk p hp'
  rw [ha] at hs
  exact ⟨p, hp', by rw [ha]; simpa [Lit.sameKey, Go.intOf, kM] using hs⟩
end Go.Proofs.YtpogblengagpaaaGreatDoor

/- masks: the mathematics. -/
namespace Go.Proofs.YtpogblengagpaaaGreatDoor
set_option maxRecDepth 100000
open Go.RowKit Go.Maps Bs
theorem any_memT {α : Type} {p : α → Bool} {l : List α} (h : l.any p = false) {x : α} (hx : x ∈ l) : p x = false := by
 have := List.any_eq_false.1 h x hx
 simpa using this
def nxI (X : List Int) (k : Nat) : Int := if X.length = 0 then 0 else X.getD (k % X.length) 0
def colS (n set : Int) (k : Nat) (f : Int → Option Nat) (x : Rw) : Int → Option Nat :=
 if plS x.id n = set ∧ nxI x.nx k ≠ 0 then putU f (nxI x.nx k) ((f (nxI x.nx k)).getD 0 ||| b2 (plB x.id n).toNat) else f
def colL (n set : Int) (k : Nat) (L : List Rw) : Int → Option Nat := L.foldl (colS n set k) (fun _ => none)
def coF (r s n : Int) (L : List Rw) (pl set : Int) : Int → Option Nat := if (0 ≤ pl ∧ pl < 8) ∧ ckT r s n L = 0 then colL n set pl.toNat L else fun _ => none
theorem colL_take {n set : Int} {k i : Nat} {L : List Rw} {x : Rw} (hx : L[i]? = some x) : colL n set k (L.take (i + 1)) = colS n set k (colL n set k (L.take i)) x := by
 unfold colL
 rw [List.take_add_one, hx, List.foldl_append]; rfl
theorem plB_lt64 (id len : Int) : (plB id len).toNat < 64 := by
 unfold plB
 split
 ·rename_i h
  obtain ⟨hl, h1, h2⟩ := pl_fields h
  rcases hl with rfl | rfl | rfl | rfl <;> omega
 ·decide
structure ColOk (f : Int → Option Nat) : Prop where
 u : ∀ x d, f x = some d → U64 d ∧ 1 ≤ x ∧ x ≤ 99
theorem ColOk.nil : ColOk (fun _ => none) := ⟨fun x d h => by cases h⟩
theorem ColOk.getD {f : Int → Option Nat} (h : ColOk f) (x : Int) : U64 ((f x).getD 0) := by
 cases hf : f x with
 | none => exact u64_mk (by decide)
 | some d => exact (h.u x d hf).1
theorem ColOk.put {f : Int → Option Nat} (h : ColOk f) {x : Int} {d : Nat} (hd : U64 d) (hx : 1 ≤ x ∧ x ≤ 99) : ColOk (putU f x d) := by
 refine ⟨fun y e he => ?_⟩
 by_cases hy : y = x
 ·subst hy
  rw [putU_same] at he
  obtain rfl := Option.some.inj he
  exact ⟨hd, hx⟩
 ·rw [putU_other f x d hy] at he
  exact h.u y e he
theorem ColOk.step {f : Int → Option Nat} (h : ColOk f) {n set : Int} {k : Nat} {x : Rw} (hx : nxI x.nx k ≠ 0 → 1 ≤ nxI x.nx k ∧ nxI x.nx k ≤ 99) : ColOk (colS n set k f x) := by
 unfold colS
 split
 ·rename_i hc
  exact h.put (Nat.or_lt_two_pow (n := 64) (h.getD _) (b2_u64 (plB_lt64 _ _))) (hx hc.2)
 ·exact h
theorem nxI_at {X : List Int} {k : Nat} (h : X.length ≠ 0) : X[k % X.length]? = some (nxI X k) := by
 have hlt : k % X.length < X.length := Nat.mod_lt _ (by omega)
 unfold nxI
 rw [if_neg h, List.getD_eq_getElem?_getD, List.getElem?_eq_getElem hlt]; rfl
theorem nxI_mem {X : List Int} {k : Nat} (h : nxI X k ≠ 0) : nxI X k ∈ X := by
 by_cases h0 : X.length = 0
 ·exact absurd (by unfold nxI; rw [if_pos h0]) h
 ·exact List.mem_of_getElem? (nxI_at h0)
theorem nx_in {x : Rw} {k : Nat} (h : wrW x = false) (h0 : nxI x.nx k ≠ 0) : 1 ≤ nxI x.nx k ∧ nxI x.nx k ≤ 99 := by
 unfold wrW at h
 rw [Bool.or_eq_false_iff] at h
 have h2 := List.any_eq_false.1 h.2 _ (nxI_mem h0)
 unfold inV at h2
 simp only [Bool.not_eq_true, Bool.not_eq_false', decide_eq_true_eq] at h2
 exact h2
theorem colL_ok {n set : Int} {k : Nat} {L : List Rw} (h : L.any wrW = false) : ∀ i, ColOk (colL n set k (L.take i))
 | 0 => by rw [List.take_zero]; exact ColOk.nil
 | i + 1 => by
  cases hx : L[i]? with
  | none =>
   have e : L.take (i + 1) = L.take i := by rw [List.take_add_one, hx]; simp
   rw [e]; exact colL_ok h i
  | some x =>
   rw [colL_take hx]
   exact (colL_ok h i).step (fun h0 => nx_in (any_memT h (List.mem_of_getElem? hx)) h0)
theorem coF_ok (r s n : Int) (L : List Rw) (pl set : Int) : ColOk (coF r s n L pl set) := by
 unfold coF
 split
 ·rename_i h
  have := colL_ok (n := n) (set := set) (k := pl.toNat) (ck_ok h.2).2.1 L.length
  rwa [List.take_length] at this
 ·exact ColOk.nil
theorem colL_bit {n set : Int} {k : Nat} : ∀ (L : List Rw) (u : Int) (j : Nat), (((colL n set k L) u).getD 0).testBit j = true ↔ ∃ x ∈ L, plS x.id n = set ∧ nxI x.nx k = u ∧ u ≠ 0 ∧ (plB x.id n).toNat = j := by
 suffices h : ∀ (L : List Rw) (f : Int → Option Nat) (u : Int) (j : Nat), (((L.foldl (colS n set k) f) u).getD 0).testBit j = true ↔ (((f u).getD 0).testBit j = true ∨ ∃ x ∈ L, plS x.id n = set ∧ nxI x.nx k = u ∧ u ≠ 0 ∧ (plB x.id n).toNat = j) by
  intro L u j
  refine (h L (fun _ => none) u j).trans ?_
  simp
 intro L
 induction L with
 | nil => intro f u j; simp
 | cons x t ih =>
  intro f u j
  rw [List.foldl_cons, ih]
  have hstep : ((colS n set k f x u).getD 0).testBit j = true ↔ (((f u).getD 0).testBit j = true ∨ (plS x.id n = set ∧ nxI x.nx k = u ∧ u ≠ 0 ∧ (plB x.id n).toNat = j)) := by
   unfold colS
   split
   ·rename_i hc
    by_cases hu : u = nxI x.nx k
    ·subst hu
     rw [putU_same, Option.getD_some, Nat.testBit_or]
     unfold b2
     rw [Nat.testBit_two_pow]
     simp only [Bool.or_eq_true, decide_eq_true_eq]
     constructor
     ·rintro (h | h)
      ·exact Or.inl h
      ·exact Or.inr ⟨hc.1, by first | rfl | trivial, hc.2, h⟩
     ·rintro (h | h)
      ·exact Or.inl h
      ·exact Or.inr h.2.2.2
    ·rw [putU_other _ _ _ hu]
     constructor
     ·exact Or.inl
     ·rintro (h | h)
      ·exact h
      ·exact absurd h.2.1.symm hu
   ·rename_i hc
    constructor
    ·exact Or.inl
    ·rintro (h | h)
     ·exact h
     ·exact absurd ⟨h.1, by rw [h.2.1]; exact h.2.2.1⟩ hc
  rw [hstep]
  constructor
  ·rintro ((h | h) | ⟨y, hy, h⟩)
   ·exact Or.inl h
   ·exact Or.inr ⟨x, List.mem_cons_self .., h⟩
   ·exact Or.inr ⟨y, List.mem_cons_of_mem _ hy, h⟩
  ·rintro (h | ⟨y, hy, h⟩)
   ·exact Or.inl (Or.inl h)
   ·rcases List.mem_cons.1 hy with rfl | hy
    ·exact Or.inl (Or.inr h)
    ·exact Or.inr ⟨y, hy, h⟩
end Go.Proofs.YtpogblengagpaaaGreatDoor

/- A region that draws its order: loads are taken first although a late operation writes their cells; what they want of the world holds until then. -/
namespace Go.Proofs.YtpogblengagpaaaGreatDoor
set_option maxRecDepth 100000
open Go
section
variable {P : Program} {ops : Array Oper} {Q : Exit → Act → World → Prop} {md : Region.Mode} {S : World → Prop} {late : Nat → Bool}
def anyU (P : Program) (md : Region.Mode) (ops : Array Oper) (Q : Exit → Act → World → Prop) (S : World → Prop) (late : Nat → Bool) : Nat → Array Bool → Act → World → Prop
 | 0, seen, a, w => Region.ready md ops seen = [] ∧ Q .normal a w
 | n + 1, seen, a, w => (Region.ready md ops seen = [] → Q .normal a w) ∧
   ∀ k, k ∈ Region.ready md ops seen → wpOp P ops Q k (fun b v => (late k = false → S v) ∧ anyU P md ops Q S late n (seen.setIfInBounds k true) b v) a w
theorem anyU_any (n : Nat) : ∀ (seen : Array Bool) (a : Act) (w : World), anyU P md ops Q S late n seen a w → wpAny P md ops Q n seen a w := by
 induction n with
 | zero => intro seen a w h; exact h
 | succ n ih => intro seen a w h; exact ⟨h.1, fun k hk => wpOp_mono (fun b v hb => ih _ b v hb.2) (h.2 k hk)⟩
def reach (md : Region.Mode) (ops : Array Oper) : Nat → Nat → Nat → Bool
 | 0, _, _ => false
 | n + 1, j, i => match ops[j]? with
  | some o => o.after.any fun e => Region.binds md e && (e.on == i || reach md ops n e.on i)
  | none => false
def waits (md : Region.Mode) (ops : Array Oper) (late : Nat → Bool) (i : Nat) : Bool :=
 (List.range ops.size).all fun j => !late j || reach md ops ops.size j i
def Shut1 (md : Region.Mode) (ops : Array Oper) (seen : Array Bool) : Prop :=
 ∀ (j : Nat) (o : Oper), ops[j]? = some o → seen.getD j false = true → ∀ e ∈ o.after, Region.binds md e = true → seen.getD e.on false = true
def shut1 (md : Region.Mode) (ops : Array Oper) (seen : Array Bool) : Bool :=
 (List.range ops.size).all fun j => !seen.getD j false || (match ops[j]? with
  | some o => o.after.all fun e => !Region.binds md e || seen.getD e.on false
  | none => true)
theorem shut1_spec {seen : Array Bool} (h : shut1 md ops seen = true) : Shut1 md ops seen := by
 intro j o ho hj e he hb
 unfold shut1 at h
 rw [List.all_eq_true] at h
 have h1 := h j (List.mem_range.2 (Array.getElem?_eq_some_iff.1 ho).1)
 rw [hj, ho] at h1
 simp only [Bool.not_true, Bool.false_or] at h1
 rw [Array.all_eq_true_iff_forall_mem] at h1
 have h2 := h1 e he
 rw [hb] at h2
 simpa using h2
theorem Shut1.step {seen : Array Bool} {j : Nat} (h : Shut1 md ops seen) (hj : j ∈ Region.ready md ops seen) : Shut1 md ops (seen.setIfInBounds j true) := by
 intro k o ho hk e he hb
 by_cases hjk : j = k
 ·subst hjk
  obtain ⟨_, o2, ho2, hall⟩ := mem_ready.1 hj
  rw [ho] at ho2
  obtain rfl := Option.some.inj ho2
  exact getD_set_true (hall e he hb)
 ·rw [getD_set_ne false hjk] at hk
  exact getD_set_true (h k o ho hk e he hb)
theorem reach_seen {seen : Array Bool} (hc : Shut1 md ops seen) (i : Nat) : ∀ (n j : Nat) (o : Oper), ops[j]? = some o → (∀ e ∈ o.after, Region.binds md e = true → seen.getD e.on false = true) → reach md ops n j i = true → seen.getD i false = true := by
 intro n
 induction n with
 | zero => intro j o _ _ h; cases h
 | succ n ih =>
  intro j o ho hall h
  unfold reach at h
  rw [ho] at h
  simp only at h
  rw [Array.any_eq_true'] at h
  obtain ⟨e, he, hb⟩ := h
  rw [Bool.and_eq_true, Bool.or_eq_true] at hb
  have h1 := hall e he hb.1
  rcases hb.2 with h2 | h2
  ·have : e.on = i := by simpa using h2
   rwa [this] at h1
  ·cases ho2 : ops[e.on]? with
   | none =>
    cases n with
    | zero => cases h2
    | succ n =>
     unfold reach at h2
     rw [ho2] at h2
     cases h2
   | some o2 => exact ih e.on o2 ho2 (hc e.on o2 ho2 h1) h2
theorem waits_seen {seen : Array Bool} {i j : Nat} (hw : waits md ops late i = true) (hc : Shut1 md ops seen) (hj : j ∈ Region.ready md ops seen) (hl : late j = true) : seen.getD i false = true := by
 obtain ⟨_, o, ho, hall⟩ := mem_ready.1 hj
 unfold waits at hw
 rw [List.all_eq_true] at hw
 have h1 := hw j (List.mem_range.2 (Array.getElem?_eq_some_iff.1 ho).1)
 rw [hl] at h1
 exact reach_seen hc i _ j o ho hall (by simpa using h1)
theorem anyU_first {i : Nat} {oi : Oper} {v : Value} (hi : ops[i]? = some oi) (hsel : ∀ (j : Nat) (o : Oper) cs b, ops[j]? = some o → o.op ≠ .select cs b)
  (hQ : ∀ c a w, Q (.panic c) (a.put oi.dst v) w → Q (.panic c) a w) (hw : waits md ops late i = true) (n : Nat) :
  ∀ (seen : Array Bool) (a : Act) (w : World),
   (∀ j oj, ops[j]? = some oj → j ≠ i → seen.getD j true = false → (∀ e ∈ oj.after, Region.binds md e = true → e.on ≠ i) → oi.apart ops oj = true) →
   Shut1 md ops seen → i ∈ Region.ready md ops seen → YieldsIf P ops S oi v a → S w → anyU P md ops Q S late n (seen.setIfInBounds i true) (a.put oi.dst v) w → anyU P md ops Q S late (n + 1) seen a w := by
 have now : ∀ (m : Nat) (seen : Array Bool) (a : Act) (w : World), YieldsIf P ops S oi v a → S w → anyU P md ops Q S late m (seen.setIfInBounds i true) (a.put oi.dst v) w →
   wpOp P ops Q i (fun b u => (late i = false → S u) ∧ anyU P md ops Q S late m (seen.setIfInBounds i true) b u) a w := fun m seen a w hy hS h => hy.wpOp hi hS ⟨fun _ => hS, h⟩
 induction n with
 | zero =>
  intro seen a w _ _ hr hy hS h
  refine ⟨fun e => (by rw [e] at hr; cases hr), fun j hj => ?_⟩
  by_cases e : j = i
  ·exact e ▸ now 0 seen a w hy hS h
  ·have := ready_mono hj e
   rw [h.1] at this
   cases this
 | succ n ih =>
  intro seen a w hf hc hr hy hS h
  refine ⟨fun e => (by rw [e] at hr; cases hr), fun j hj => ?_⟩
  by_cases e : j = i
  ·exact e ▸ now (n + 1) seen a w hy hS h
  obtain ⟨hun, oj, hoj, hall⟩ := mem_ready.1 hj
  have hno : ∀ e ∈ oj.after, Region.binds md e = true → e.on ≠ i := fun e he hb hei => by
   have h1 := hall e he hb
   have h0 := (mem_ready.1 hr).1
   rw [hei] at h1
   by_cases hlt : i < seen.size
   ·simp [hlt] at h0 h1
    rw [h0] at h1
    cases h1
   ·simp [Array.getElem?_eq_none (Nat.le_of_not_lt hlt)] at h1
  have hl : late j = false := by
   cases hl : late j with
   | false => rfl
   | true =>
    have h1 := waits_seen hw hc hj hl
    have h0 := (mem_ready.1 hr).1
    by_cases hlt : i < seen.size
    ·simp [hlt] at h0 h1
     rw [h0] at h1
     cases h1
    ·simp [Array.getElem?_eq_none (Nat.le_of_not_lt hlt)] at h1
  refine wpOp_mono (fun b u hb => ⟨hb.2.1, ih _ b u (fun k ok hk hki hsk hnk => hf k ok hk hki ?_ hnk) (hc.step hj) (ready_mono hr (Ne.symm e)) hb.1 (hb.2.1 hl) (by rw [Array.setIfInBounds_comm _ _ e]; exact hb.2.2)⟩)
   (wpOp_putIf hoj (hf j oj hoj e hun hno) (fun cs b => hsel i oi cs b hi) (fun cs b => hsel j oj cs b hoj) hQ hy (h.2 j (ready_mono hj e)))
  by_cases hjk : j = k
  ·exact hjk ▸ hun
  ·rwa [getD_set_ne true hjk] at hsk
theorem anyU_take {i : Nat} {oi : Oper} {v : Value} {n : Nat} {seen : Array Bool} {a : Act} {w : World} (hi : ops[i]? = some oi) (hw : waits md ops late i = true)
  (hc : shut1 md ops seen = true) (hs : Region.noSelect ops = true) (hf : Region.free md ops seen i = true) (hr : (Region.ready md ops seen).contains i = true)
  (hQ : ∀ c a w, Q (.panic c) (a.put oi.dst v) w → Q (.panic c) a w) (hy : YieldsIf P ops S oi v a) (hS : S w)
  (h : anyU P md ops Q S late n (seen.setIfInBounds i true) (a.put oi.dst v) w) : anyU P md ops Q S late (n + 1) seen a w :=
 anyU_first hi (Region.noSelect_spec hs) hQ hw n seen a w (Region.free_spec hi hf) (shut1_spec hc) (by simpa using hr) hy hS h
def EachU (P : Program) (md : Region.Mode) (ops : Array Oper) (Q : Exit → Act → World → Prop) (S : World → Prop) (late : Nat → Bool) (n : Nat) (seen : Array Bool) (a : Act) (w : World) (rs : List Nat) : Prop :=
 ∀ k ∈ rs, wpOp P ops Q k (fun b v => (late k = false → S v) ∧ anyU P md ops Q S late n (seen.setIfInBounds k true) b v) a w
theorem EachU.nil {n : Nat} {seen : Array Bool} {a : Act} {w : World} : EachU P md ops Q S late n seen a w [] := fun _ h => by cases h
theorem EachU.cons {n : Nat} {seen : Array Bool} {a : Act} {w : World} {i : Nat} {o : Oper} {rs : List Nat} (ho : ops[i]? = some o)
  (h : ∀ K : Act → World → Prop, Shut (∀ b v, (late i = false → S v) → ((late i = false → S v) → anyU P md ops Q S late n (seen.setIfInBounds i true) b v) → K b v) → if Region.wanted o (yielded ops a.tmps) = true then Oper.wp P o a w K Q else K (a.put o.dst undef) w)
  (hs : EachU P md ops Q S late n seen a w rs) : EachU P md ops Q S late n seen a w (i :: rs) := fun j hj => by
 rcases List.mem_cons.1 hj with rfl | hj
 ·exact wpOp_step ho (fun K hK => h K (fun b v hS hW => hK b v ⟨hS, hW hS⟩))
 ·exact hs j hj
theorem anyU_ready {rs : List Nat} {n : Nat} {seen : Array Bool} {a : Act} {w : World} (hr : Region.ready md ops seen = rs) (hne : rs ≠ []) (h : EachU P md ops Q S late n seen a w rs) : anyU P md ops Q S late (n + 1) seen a w :=
 ⟨fun e => absurd (hr ▸ e) hne, hr ▸ h⟩
theorem anyU_done {seen : Array Bool} {a : Act} {w : World} (hr : Region.ready md ops seen = []) (h : Q .normal a w) (n : Nat) : anyU P md ops Q S late n seen a w := by
 cases n with
 | zero => exact ⟨hr, h⟩
 | succ n => exact ⟨fun _ => h, by rw [hr]; intro k hk; cases hk⟩
theorem region_until {id : Nat} {a : Act} {w : World} (late : Nat → Bool) (hm : P.follows .mixedOrders = true) (hS : S w.drew) (h : S w.drew → anyU P .any ops Q S late ops.size (Array.replicate ops.size false) a w.drew) :
  (Code.region id ops true).wp P Q a w := wp_region_any hm (anyU_any _ _ _ _ (h hS))
end
theorem zU {P : Program} {ops : Array Oper} {Q : Exit → Act → World → Prop} {md : Region.Mode} {S : World → Prop} {late : Nat → Bool} {i : Nat} {d o t p f g} {v : Value} {n : Nat} {l : Array Bool} {a : Act} {w : World} (hi : ops[i]? = some (⟨d, o, t, p, f, g⟩ : Oper)) (hy : ∀ w, S w → (execOp a.eval (⟨d, o, t, p, f, g⟩ : Oper)).run P w = .ok (.value v) w) (hS : S w) (h : anyU P md ops Q S late n (l.setIfInBounds i true) (a.put d v) w) (hw : waits md ops late i = true := by kernel_rfl) (hc : shut1 md ops l = true := by kernel_rfl) (hs : Region.noSelect ops = true := by kernel_rfl) (hf : Region.free md ops l i = true := by kernel_rfl) (hr : (Region.ready md ops l).contains i = true := by kernel_rfl) (hQ : ∀ c a w, Q (.panic c) (a.put d v) w → Q (.panic c) a w := by exact fun _ _ _ h => h) (hx : Region.wanted (⟨d, o, t, p, f, g⟩ : Oper) (yielded ops a.tmps) = true := by rfl) : anyU P md ops Q S late (n + 1) l a w :=
 anyU_take hi hw hc hs hf hr hQ (Or.inl ⟨hx, hy⟩) hS h
end Go.Proofs.YtpogblengagpaaaGreatDoor

/- As until: what is not late keeps what holds. -/
namespace Go.Proofs.YtpogblengagpaaaGreatDoor
set_option maxRecDepth 100000
open Go
section
variable {P : Program} {ops : Array Oper} {Q : Exit → Act → World → Prop} {md : Region.Mode} {S : World → Prop} {late : Nat → Bool}
end
end Go.Proofs.YtpogblengagpaaaGreatDoor

/- masks: valid, nextIn, collect. -/
namespace Go.Proofs.YtpogblengagpaaaGreatDoor
set_option maxRecDepth 100000
open Go.RowKit Go.Maps Bs
def vaT (r s n : Int) (L : List Rw) (pl : Int) : Bool := decide ((0 ≤ pl ∧ pl < 8) ∧ ckT r s n L = 0)
theorem mvalid_any (r s n : Int) (p : Option Addr) (c : Nat) (L : List Rw) (pl : Int) (q : Nat → Prop) (w : World) (hR : RdW w q p c L) (hm : L.length ≤ 9223372036854775807) :
  Calls Tryz.prog 102 #[.agg #[.int .i64 r, .int .i64 s, .int .i64 n, .slice p L.length c], .int .i64 pl] w fun e w' => e = .returned (.bool (vaT r s n L pl)) ∧ w.grownBy w' none := by
 obtain ⟨k1, k2⟩ := tone_box w #[.int .i64 r, .int .i64 s, .int .i64 n, .slice p L.length c] 25
 have HB := Lib.hid (And.intro k1 (And.intro k2 (hR.keep k2)))
 clear k1 k2 hR
 go_enter Tryz.func102, Tryz.ntmps102
 go_upto_region 1 with fail
 generalize w.alloc _ = w1 at *
 obtain ⟨d0, d1, d2, d3⟩ := row4T HB.out.1
 by_cases h0 : 0 ≤ pl
 case neg =>
  have HO : Hid (vaT r s n L pl = false) := Lib.hid (decide_eq_false (fun h => h0 h.1.1))
  go_wp2_with fail
  go_ret
  rw [HO.out]
  exact ⟨rfl, HB.out.2.1⟩
 by_cases h8 : pl < 8
 case neg =>
  have HO : Hid (vaT r s n L pl = false) := Lib.hid (decide_eq_false (fun h => h8 h.1.2))
  go_wp2_with fail
  go_ret
  rw [HO.out]
  exact ⟨rfl, HB.out.2.1⟩
 have HO : Hid (vaT r s n L pl = (ckT r s n L == 0)) := Lib.hid (by
  unfold vaT
  by_cases hc : ckT r s n L = 0
  ·rw [decide_eq_true ⟨⟨h0, h8⟩, hc⟩, hc]; rfl
  ·rw [decide_eq_false (fun h => hc h.2)]
   exact (beq_eq_false_iff_ne.2 hc).symm)
 go_wp2_with fail
 refine (tcheckT_any r s n p c L q w1 HB.out.2.2 hm).mono ?_
 rintro e w2 ⟨rfl, hg⟩
 have G := Lib.hid (grown_trans HB.out.2.1 hg)
 clear hg
 go_wp2_with fail
 go_ret
 rw [HO.out]
 exact ⟨rfl, G.out⟩
set_option maxHeartbeats 1600000 in
theorem mnext_any (x : Rw) (k : Nat) (hk : k < 8) (q : Nat → Prop) (w : World) (hx : RwOk w q x) :
  Calls Tryz.prog 103 #[.agg #[.int .i64 x.id, .slice x.p x.nx.length x.c], .int .i64 (k : Int)] w fun e w' => e = .returned (.int .i64 (nxI x.nx k)) ∧ w.grownBy w' none := by
 obtain ⟨k1, k2⟩ := tone_box w #[.int .i64 x.id, .slice x.p x.nx.length x.c] 80
 have HB := Lib.hid (And.intro k1 (And.intro k2 (hx.keep k2)))
 clear k1 k2 hx
 go_enter Tryz.func103, Tryz.ntmps103
 go_upto_region 1 with fail
 generalize w.alloc _ = w1 at *
 have c1 : w1.cell? ⟨w.heap.size, 1, none⟩ = some (.slice x.p x.nx.length x.c) := cell_of_row _ _ _ _ _ _ HB.out.1
 by_cases h0 : x.nx.length = 0
 ·have h0' : ((x.nx.length : Int) == 0) = true := beq_iff_eq.2 (by omega)
  have HO : Hid (nxI x.nx k = 0) := Lib.hid (by unfold nxI; rw [if_pos h0])
  clear h0
  go_wp2_with fail
  go_ret
  rw [HO.out]
  exact ⟨rfl, HB.out.2.1⟩
 ·have h0' : ((x.nx.length : Int) == 0) = false := beq_eq_false_iff_ne.2 (by omega)
  have hm : x.nx.length ≤ 9223372036854775807 := Nat.le_trans HB.out.2.2.hc.1 HB.out.2.2.hc.2
  obtain ⟨xp, hxp⟩ : ∃ xp, x.p = xp := ⟨_, rfl⟩
  have hat := nxI_at (k := k) h0
  have hrd := HB.out.2.2.rd
  obtain ⟨-, b, off, hp, hq, hc⟩ := tvT_at hrd hat
  have a0 := hc _ _ hat
  obtain ⟨j, hj⟩ : ∃ j, k % x.nx.length = j := ⟨_, rfl⟩
  have hjl : j < x.nx.length := by rw [← hj]; exact Nat.mod_lt _ (by omega)
  rw [hj] at a0
  rw [hp] at c1
  obtain ⟨v, hv⟩ : ∃ v, nxI x.nx k = v := ⟨_, rfl⟩
  rw [hv] at a0
  have HV := Lib.hid hv
  have r1 : ((k : Int)).tmod (x.nx.length : Int) = (j : Int) := by rw [Int.tmod_eq_emod_of_nonneg (by omega), ← hj]; exact (Int.natCast_emod k x.nx.length).symm
  have r1b : ((k : Int)) % (x.nx.length : Int) = (j : Int) := by rw [← hj]; exact (Int.natCast_emod k x.nx.length).symm
  have r2 : IntKind.i64.wrap (j : Int) = (j : Int) := IntWalk.i64_in _ (by omega)
  have r0 : (x.nx.length : Int) ≠ 0 := by omega
  have j0 : (0 : Int) ≤ (j : Int) := by omega
  have j1 : (j : Int) < (x.nx.length : Int) := by omega
  clear h0 hat hrd hc hj hv hxp
  go_upto_region 3 with fail
  go_region
  have G := Lib.hid (grown_drew HB.out.2.1)
  clear a0 c1 r1 r1b r2 r0 j0 j1
  go_wp2_with fail
  go_ret
  rw [HV.out]
  exact ⟨rfl, G.out⟩
structure CO (W : World) (r s n : Int) (p : Option Addr) (c : Nat) (L : List Rw) (N : Nat) (f : Int → Option Nat) (w : World) : Prop where
 bx : w.heap[W.heap.size]? = some (.cells #[.int .i64 r, .int .i64 s, .int .i64 n, .slice p L.length c] 25 (0, 0))
 rd : RdW w (fun b => b < W.heap.size) p c L
 mp : OMu w (W.heap.size + 1) N f
 gr : W.grownBy w none
theorem CO.keep {W w w1 : World} {r s n : Int} {p : Option Addr} {c : Nat} {L : List Rw} {N : Nat} {f : Int → Option Nat} (h : CO W r s n p c L N f w) (g : w.grownBy w1 none) : CO W r s n p c L N f w1 :=
 ⟨kept_row h.bx g (by simp), h.rd.keep g, h.mp.kept g (by simp), grown_trans h.gr g⟩
theorem CO.put {W w w1 : World} {r s n : Int} {p : Option Addr} {c : Nat} {L : List Rw} {N M : Nat} {f f' : Int → Option Nat} (h : CO W r s n p c L N f w) (hm : OMu w1 (W.heap.size + 1) M f') (g : w.grownBy w1 (some (W.heap.size + 1))) : CO W r s n p c L M f' w1 := by
 have hn : ∀ b, b ≤ W.heap.size → some b ≠ some (W.heap.size + 1) := fun b hb e => by have := Option.some.inj e; omega
 exact ⟨kept_row h.bx g (hn _ (Nat.le_refl _)), h.rd.grown g (fun b hb => hn b (Nat.le_of_lt hb)), hm, grown_new h.gr g (by omega)⟩
def CoPost (r s n : Int) (L : List Rw) (pl set : Int) (w : World) (e : Ending) (w' : World) : Prop :=
 e = .returned (.map (some (w.heap.size + 1))) ∧ (∃ N, N ≤ 256 ∧ OMu w' (w.heap.size + 1) N (coF r s n L pl set)) ∧ w.grownBy w' none
set_option maxHeartbeats 3200000 in
theorem mcollect_any (r s n : Int) (p : Option Addr) (c : Nat) (L : List Rw) (pl set : Int) (w : World) (hR : RdW w (· < w.heap.size) p c L) (hm : L.length ≤ 9223372036854775807) :
  Calls Tryz.prog 66 #[.agg #[.int .i64 r, .int .i64 s, .int .i64 n, .slice p L.length c], .int .i64 pl, .int .i64 set] w fun e w' => CoPost r s n L pl set w e w' := by
 obtain ⟨k1, k2⟩ := tone_box w #[.int .i64 r, .int .i64 s, .int .i64 n, .slice p L.length c] 25
 have hsz : (w.alloc (.cells #[.int .i64 r, .int .i64 s, .int .i64 n, .slice p L.length c] 25)).heap.size = w.heap.size + 1 := by simp
 have gm := World.grownBy_alloc (w.alloc (.cells #[.int .i64 r, .int .i64 s, .int .i64 n, .slice p L.length c] 25)) (.map #[] 0) none
 have hmade := OMu.made (w.alloc (.cells #[.int .i64 r, .int .i64 s, .int .i64 n, .slice p L.length c] 25))
 rw [hsz] at hmade
 have H0 : Hid (CO w r s n p c L 0 (fun _ => none) _) := Lib.hid ⟨kept_row k1 gm (by simp), (hR.keep k2).keep gm, hmade, grown_trans k2 gm⟩
 have HSZ := Lib.hid hsz
 have hmm := fun t w => run_makeMap (P := Tryz.prog) t w
 clear k1 k2 hR gm hmade hsz
 go_enter Tryz.func66, Tryz.ntmps66
 go_upto_region 2 with fail
 rw [HSZ.out] at *
 clear hmm HSZ
 generalize ((w.alloc _).alloc _) = w1 at *
 obtain ⟨d0, d1, d2, d3⟩ := row4T H0.out.bx
 go_wp2_with fail
 refine (mvalid_any r s n p c L pl _ w1 H0.out.rd hm).mono ?_
 rintro e w2 ⟨rfl, hg⟩
 have H1 := Lib.hid (H0.out.keep hg)
 clear hg H0 d0 d1 d2 d3
 cases hv : vaT r s n L pl
 case false =>
  have HF : Hid (coF r s n L pl set = fun _ => none) := Lib.hid (by
   unfold coF
   unfold vaT at hv
   rw [if_neg (of_decide_eq_false hv)])
  clear hv
  go_wp2_with fail
  go_ret
  exact ⟨rfl, ⟨0, by omega, by rw [HF.out]; exact H1.out.mp⟩, H1.out.gr⟩
 have hvp : (0 ≤ pl ∧ pl < 8) ∧ ckT r s n L = 0 := by unfold vaT at hv; exact of_decide_eq_true hv
 obtain ⟨k, rfl⟩ := Int.eq_ofNat_of_zero_le hvp.1.1
 have hk8 : k < 8 := by have := hvp.1.2; omega
 have HF : Hid (coF r s n L (k : Int) set = colL n set k L) := Lib.hid (by
  unfold coF
  rw [if_pos hvp]; rfl)
 have HOK := Lib.hid (ck_ok hvp.2)
 have hL256 : L.length ≤ 256 := HOK.out.2.2.1
 clear hv hvp
 obtain ⟨d0, d1, d2, d3⟩ := row4T H1.out.bx
 have H2 : Hid (CO w r s n p c L 0 (colL n set k (L.take 0)) w2) := Lib.hid (by rw [List.take_zero]; exact H1.out)
 clear H1
 go_wp2_with fail
 clear d0 d1 d2 d3
 go_loopw [23] (fun a wr => ∃ (i N : Nat), i ≤ L.length ∧ a = .int .i64 (i : Int) ∧ N ≤ i ∧ Hid (CO w r s n p c L N (colL n set k (L.take i)) wr)) (fun a _ => L.length - (RowKit.intOf a).toNat)
 case atStart => exact ⟨0, 0, Nat.zero_le _, rfl, Nat.le_refl _, H2⟩
 case round =>
 clear H2
 obtain ⟨i, N, hi, rfl, hN, S0⟩ := hrel
 obtain ⟨w3, hw3⟩ : ∃ w3, w3 = wr := ⟨_, rfl⟩
 rw [← hw3] at S0 ⊢
 clear hw3
 by_cases hlt : i < L.length
 case neg =>
  obtain rfl : i = L.length := by omega
  have hnl : ¬ (L.length : Int) < (L.length : Int) := by omega
  rw [List.take_length] at S0
  go_wp2_with fail
  go_ret
  exact ⟨rfl, ⟨N, by omega, by rw [HF.out]; exact S0.out.mp⟩, S0.out.gr⟩
 case pos =>
 have hlt' : (i : Int) < (L.length : Int) := by omega
 obtain ⟨x, hx⟩ : ∃ x, L[i]? = some x := ⟨_, List.getElem?_eq_getElem hlt⟩
 have hxm := List.mem_of_getElem? hx
 obtain ⟨-, b, off, rfl, hq, hc⟩ := rw_cells S0.out.rd.rd (by omega)
 obtain ⟨a0, a1⟩ := hc i x hx
 have HX := Lib.hid hx
 have HW := Lib.hid (any_memT HOK.out.2.1 hxm)
 have HXM := Lib.hid hxm
 clear hc hx hxm
 obtain ⟨k1, k2⟩ := tone_box w3 #[.int .i64 x.id, .slice x.p x.nx.length x.c] 80
 have S1 := Lib.hid (And.intro (S0.out.keep k2) k1)
 clear k1 k2 S0
 go_upto_region 7 with fail
 generalize w3.alloc _ = w4 at *
 generalize w3.heap.size = Bx at *
 clear a0 a1
 have e0 : w4.cell? ⟨Bx, 0, none⟩ = some (.int .i64 x.id) := cell_of_row _ _ _ _ _ _ S1.out.2
 have e1 : w4.cell? ⟨Bx, 1, none⟩ = some (.slice x.p x.nx.length x.c) := cell_of_row _ _ _ _ _ _ S1.out.2
 go_wp2_with fail
 refine (mnext_any x k hk8 _ w4 (S1.out.1.rd.ok x HXM.out)).mono ?_
 rintro e w5 ⟨rfl, hg⟩
 have S2 := Lib.hid (And.intro (S1.out.1.keep hg) (kept_row S1.out.2 hg (by simp)))
 clear hg S1 e0 e1
 have e0 : w5.cell? ⟨Bx, 0, none⟩ = some (.int .i64 x.id) := cell_of_row _ _ _ _ _ _ S2.out.2
 obtain ⟨d0, d1, d2, d3⟩ := row4T S2.out.1.bx
 go_wp2_with fail
 refine (iplc_any x.id n w5).mono ?_
 rintro e w6 ⟨rfl, hg⟩
 have S3 := Lib.hid (S2.out.1.keep hg)
 clear hg S2 e0 d0 d1 d2 d3
 obtain ⟨m, hm1⟩ : ∃ m : Nat, plB x.id n = (m : Int) := by
  have : 0 ≤ plB x.id n := by
   unfold plB
   split
   ·rename_i h
    obtain ⟨hl, h1, h2⟩ := pl_fields h
    rcases hl with rfl | rfl | rfl | rfl <;> omega
   ·omega
  exact Int.eq_ofNat_of_zero_le this
 have hm64 : m < 64 := by have := plB_lt64 x.id n; omega
 obtain ⟨st, hst⟩ : ∃ st, plS x.id n = st := ⟨_, rfl⟩
 obtain ⟨h, hh⟩ : ∃ h, nxI x.nx k = h := ⟨_, rfl⟩
 have HST : Hid (colL n set k (L.take (i + 1)) = if st = set ∧ h ≠ 0 then putU (colL n set k (L.take i)) h ((colL n set k (L.take i) h).getD 0 ||| b2 m) else colL n set k (L.take i)) := Lib.hid (by
  rw [colL_take HX.out]
  unfold colS
  rw [hst, hh, hm1]; rfl)
 have HNX : Hid (h ≠ 0 → 1 ≤ h ∧ h ≤ 99) := Lib.hid (by rw [← hh]; exact fun h0 => nx_in HW.out h0)
 have HCO : Hid (ColOk (colL n set k (L.take i))) := Lib.hid (colL_ok HOK.out.2.1 i)
 rw [hst, hh, hm1]
 clear hst hh hm1
 by_cases h1 : st = set
 case neg =>
  have h1' : (st == set) = false := by simpa using h1
  have HS2 : Hid (CO w r s n (some ⟨b, off, none⟩) c L N (colL n set k (L.take (i + 1))) w6) := Lib.hid (by rw [HST.out, if_neg (fun h => h1 h.1)]; exact S3.out)
  clear h1
  go_wp2_with fail
  exact ⟨⟨i + 1, N, by omega, congrArg _ (by omega), by omega, HS2⟩, by simp only [RowKit.intOf]; omega⟩
 have h1' : (st == set) = true := by simpa using h1
 by_cases h2 : h = 0
 case pos =>
  have h2' : (h != 0) = false := by simpa using h2
  have HS2 : Hid (CO w r s n (some ⟨b, off, none⟩) c L N (colL n set k (L.take (i + 1))) w6) := Lib.hid (by rw [HST.out, if_neg (fun h3 => h3.2 h2)]; exact S3.out)
  clear h1 h2
  go_wp2_with fail
  exact ⟨⟨i + 1, N, by omega, congrArg _ (by omega), by omega, HS2⟩, by simp only [RowKit.intOf]; omega⟩
 have h2' : (h != 0) = true := by simpa using h2
 have hh1 := HNX.out h2
 obtain ⟨f, hf⟩ : ∃ f, colL n set k (L.take i) = f := ⟨_, rfl⟩
 rw [hf] at HST HCO S3
 have hU := HCO.out.getD h
 obtain ⟨y, hy⟩ : ∃ y, (f h).getD 0 = y := ⟨_, rfl⟩
 rw [hy] at hU
 have hor : U64 (y ||| b2 m) := Nat.or_lt_two_pow (n := 64) hU (b2_u64 hm64)
 have S4 := Lib.hid (S3.out.keep (grown_drew (grown_refl _ none)))
 have hlook := (S4.out.mp.look (x := h) (by unfold I64; omega)).1
 rw [hy] at hlook
 obtain ⟨w7, hput, hmp, hgr⟩ := S4.out.mp.put (x := h) (d := y ||| b2 m) (by omega) (by unfold I64; omega) hor
 have hor2 : bits .or .u64 (y : Int) (IntKind.u64.wrap (2 ^ m)) = ((y ||| b2 m : Nat) : Int) := by rw [pow_word m hm64, orU _ _ hU (b2_u64 hm64)]
 rw [← hor2] at hput
 have HS2 : Hid (CO w r s n (some ⟨b, off, none⟩) c L (N + 1) (colL n set k (L.take (i + 1))) w7) := Lib.hid (by
  rw [HST.out, if_pos ⟨h1, h2⟩, hy]
  exact S4.out.put hmp hgr)
 have m1 : (m : Int) < 64 := by omega
 have m0 : ¬ (m : Int) < 0 := by omega
 clear h1 h2 hh1 hf hy hmp hgr HST HCO hor hor2 S3 S4
 go_upto_region 10 with fail
 go_region
 clear hlook hput m1 m0
 go_wp2_with fail
 exact ⟨⟨i + 1, N + 1, by omega, congrArg _ (by omega), by omega, HS2⟩, by simp only [RowKit.intOf]; omega⟩
end Go.Proofs.YtpogblengagpaaaGreatDoor

/- tables, the reference's functions: inside, plane, Row, Hop. -/
namespace Go.Proofs.YtpogblengagpaaaGreatDoor
set_option maxRecDepth 100000
open Go.RowKit Go.Maps Bs
theorem rin11_any (n lo hi : Int) (w : World) :
  Calls Tryz.prog 71 #[.int .i64 n, .int .i64 lo, .int .i64 hi] w fun e w' => e = .returned (.bool (inV n lo hi)) ∧ w = w' := by
 have HV : Hid (inV n lo hi = (decide (lo ≤ n) && decide (n ≤ hi))) := Lib.hid (by unfold inV; rw [Bool.decide_and])
 go_enter Tryz.func71, Tryz.ntmps71
 by_cases h1 : lo ≤ n
 ·go_wp2_with fail
  go_ret
  exact ⟨by rw [HV.out]; simp [h1], rfl⟩
 ·go_wp2_with fail
  go_ret
  exact ⟨by rw [HV.out]; simp; omega, rfl⟩
def isW (id : Int) (x : Rw) : Bool := decide (x.id = id)
def fdW (L : List Rw) (id : Int) : Option Rw := L.find? (isW id)
def zRw : Rw := ⟨0, [], none, 0⟩
theorem fw_take {L : List Rw} {r : Int} {k : Nat} {x : Rw} (h : (L.take k).find? (isW r) = none) (hx : L[k]? = some x) : (L.take (k + 1)).find? (isW r) = if x.id = r then some x else none := by
 rw [List.take_add_one, hx, List.find?_append, h]
 unfold isW
 by_cases e : x.id = r <;> simp [e]
theorem fw_hit {L : List Rw} {r : Int} {k : Nat} {x : Rw} (h : (L.take k).find? (isW r) = none) (hx : L[k]? = some x) (e : x.id = r) : fdW L r = some x := by
 unfold fdW
 have h2 := fw_take h hx
 rw [if_pos e] at h2
 rw [← List.take_append_drop (k + 1) L, List.find?_append, h2]
 rfl
theorem fw_end {L : List Rw} {r : Int} (h : (L.take L.length).find? (isW r) = none) : fdW L r = none := by
 rw [List.take_length] at h
 exact h
theorem row_size : (Tryz.prog.info? 80).map (·.size) = some 2 := by kernel_rfl
theorem res_row_b {fn : Func} {p u : Tmp} (h : fn.results = #[.cell p 80, .tmp u]) (tmps : Array Value) (w : World) (g : Nat) (x y : Value) (hp : tmps.getD p undef = .pointer (some ⟨g, 0, none⟩)) (hg : w.heap[g]? = some (.cells #[x, y] 80 (0, 0))) :
  (results fn tmps).run Tryz.prog w = .ok (.tuple #[.agg #[x, y], tmps.getD u undef]) w := by
 have hp' : tmps[p]?.getD undef = .pointer (some ⟨g, 0, none⟩) := by simpa using hp
 rw [results_cell_tmp h]
 simp [hp', asAddr, run_loadVar_row w g _ _ _ _ _ hg Tryz.underlying80 rfl row_size, Result.andThen]
theorem rowR2 {w : World} {b : Nat} {x y : Value} {t : TypeId} (h : w.heap[b]? = some (.cells #[x, y] t (0, 0))) : w.cell? ⟨b, 0, none⟩ = some x ∧ w.cell? ⟨b, 1, none⟩ = some y :=
 ⟨cell_of_row _ _ _ _ _ _ h, cell_of_row _ _ _ _ _ _ h⟩
theorem storeR {w : World} {b : Nat} {t : TypeId} {z0 z1 : Value} (u0 u1 : Value) (h : w.heap[b]? = some (.cells #[z0, z1] t (0, 0))) :
  ((w.setCell ⟨b, 0, none⟩ u0).setCell ⟨b, 1, none⟩ u1).heap[b]? = some (.cells #[u0, u1] t (0, 0)) ∧ w.grownBy ((w.setCell ⟨b, 0, none⟩ u0).setCell ⟨b, 1, none⟩ u1) (some b) :=
 ⟨store2 h, grown_store2 w b u0 u1⟩
structure TBm (W : World) (r s n : Int) (p : Option Addr) (c : Nat) (L : List Rw) (z0 z1 : Value) (w : World) : Prop where
 bx : w.heap[W.heap.size]? = some (.cells #[.int .i64 r, .int .i64 s, .int .i64 n, .slice p L.length c] 25 (0, 0))
 z : w.heap[W.heap.size + 1]? = some (.cells #[z0, z1] 80 (0, 0))
 rd : RdW w (· < W.heap.size) p c L
 gr : W.grownBy w none
theorem TBm.keep {W w w1 : World} {r s n : Int} {p : Option Addr} {c : Nat} {L : List Rw} {z0 z1 : Value} (h : TBm W r s n p c L z0 z1 w) (g : w.grownBy w1 none) : TBm W r s n p c L z0 z1 w1 :=
 ⟨kept_row h.bx g (by simp), kept_row h.z g (by simp), h.rd.keep g, grown_trans h.gr g⟩
theorem tb_start {w : World} {r s n : Int} {p : Option Addr} {c : Nat} {L : List Rw} (hR : RdW w (· < w.heap.size) p c L) : TBm w r s n p c L (.int .i64 0) (.slice none 0 0) ((w.alloc (.cells #[.int .i64 r, .int .i64 s, .int .i64 n, .slice p L.length c] 25)).alloc (.cells #[.int .i64 0, .slice none 0 0] 80)) := by
 obtain ⟨k1, k2, k3, k4⟩ := two_boxes w #[.int .i64 r, .int .i64 s, .int .i64 n, .slice p L.length c] #[.int .i64 0, .slice none 0 0] 25 80
 exact ⟨k1, k2, hR.keep k3, k3⟩
set_option maxHeartbeats 3200000 in
theorem rrow_any (r s n : Int) (p : Option Addr) (c : Nat) (L : List Rw) (id : Int) (w : World) (hR : RdW w (· < w.heap.size) p c L) (hm : L.length ≤ 9223372036854775807) :
  Calls Tryz.prog 109 #[.agg #[.int .i64 r, .int .i64 s, .int .i64 n, .slice p L.length c], .int .i64 id] w fun e w' => e = .returned (.tuple #[.agg #[.int .i64 ((fdW L id).getD zRw).id, .slice ((fdW L id).getD zRw).p ((fdW L id).getD zRw).nx.length ((fdW L id).getD zRw).c], .bool (fdW L id).isSome]) ∧ w.grownBy w' none := by
 have H0 := Lib.hid (tb_start (r := r) (s := s) (n := n) hR)
 clear hR
 go_enter Tryz.func109, Tryz.ntmps109
 go_upto_region 1 with fail
 generalize (w.alloc _).alloc _ = wa at *
 go_wp2_with fail
 go_loopw [6] (fun a wr => ∃ k : Nat, k ≤ L.length ∧ a = .int .i64 (k : Int) ∧ Hid ((L.take k).find? (isW id) = none) ∧ Hid (TBm w r s n p c L (.int .i64 0) (.slice none 0 0) wr)) (fun a _ => L.length - (RowKit.intOf a).toNat)
 case atStart => exact ⟨0, Nat.zero_le _, rfl, Lib.hid rfl, H0⟩
 case round =>
 obtain ⟨k, hk, rfl, HN, K⟩ := hrel
 clear H0
 obtain ⟨d0, d1, d2, d3⟩ := row4T K.out.bx
 by_cases hlt : k < L.length
 ·have hlt' : (k : Int) < (L.length : Int) := by omega
  obtain ⟨x, hx⟩ : ∃ x, L[k]? = some x := ⟨_, List.getElem?_eq_getElem hlt⟩
  obtain ⟨-, b, off, rfl, -, hc⟩ := rw_cells K.out.rd.rd (by omega)
  obtain ⟨a0, a1⟩ := hc k x hx
  have HX := Lib.hid hx
  clear hc hx
  by_cases e : x.id = id
  ·have e' : (x.id == id) = true := by simpa using e
   have HF := Lib.hid (fw_hit HN.out HX.out e)
   clear e
   obtain ⟨z0, z1⟩ := rowR2 K.out.z
   have f0 := frozen_of_row _ _ 0 _ _ K.out.z
   have f1 := frozen_of_row _ _ 1 _ _ K.out.z
   obtain ⟨t1, t2⟩ := storeR (.int .i64 x.id) (.slice x.p x.nx.length x.c) K.out.z
   have HT := Lib.hid (And.intro t1 (grown_new K.out.gr t2 (by omega)))
   clear t1 t2 K HN
   go_wp2_with fail
   refine bodyPost_ret (res_row_b rfl _ _ (w.heap.size + 1) _ _ rfl HT.out.1) rfl ?_
   exact ⟨by rw [HF.out]; rfl, HT.out.2⟩
  ·have e' : (x.id == id) = false := by simpa using e
   have HN2 : Hid ((L.take (k + 1)).find? (isW id) = none) := Lib.hid (by rw [fw_take HN.out HX.out, if_neg e])
   clear e HN
   go_wp2_with fail
   exact ⟨⟨k + 1, by omega, congrArg _ (by omega), HN2, K⟩, by simp only [RowKit.intOf]; omega⟩
 ·obtain rfl : k = L.length := by omega
  have hnl : ¬ (L.length : Int) < (L.length : Int) := by omega
  have HF := Lib.hid (fw_end HN.out)
  obtain ⟨z0, z1⟩ := rowR2 K.out.z
  have f0 := frozen_of_row _ _ 0 _ _ K.out.z
  have f1 := frozen_of_row _ _ 1 _ _ K.out.z
  obtain ⟨t1, t2⟩ := storeR (.int .i64 0) (.slice none 0 0) K.out.z
  have HT := Lib.hid (And.intro t1 (grown_new K.out.gr t2 (by omega)))
  clear t1 t2 K HN
  go_wp2_with fail
  refine bodyPost_ret (res_row_b rfl _ _ (w.heap.size + 1) _ _ rfl HT.out.1) rfl ?_
  exact ⟨by rw [HF.out]; rfl, HT.out.2⟩
end Go.Proofs.YtpogblengagpaaaGreatDoor

/- tables, the reference's functions: Hop. -/
namespace Go.Proofs.YtpogblengagpaaaGreatDoor
set_option maxRecDepth 100000
open Go.RowKit Go.Maps Bs
def hopI (L : List Rw) (id : Int) (k : Nat) : Int := nxI ((fdW L id).getD zRw).nx k
theorem fdW_ok {w : World} {q : Nat → Prop} {p : Option Addr} {c : Nat} {L : List Rw} {id : Int} (h : RdW w q p c L) : RwOk w q ((fdW L id).getD zRw) := by
 cases hf : fdW L id with
 | none => exact ⟨⟨none, 0, rfl, fun h => absurd rfl h⟩, ⟨Nat.le_refl _, by show (0 : Nat) ≤ _; omega⟩⟩
 | some x => exact h.ok x (List.mem_of_find?_eq_some hf)
set_option maxHeartbeats 3200000 in
theorem rhop_any (r s n : Int) (p : Option Addr) (c : Nat) (L : List Rw) (id : Int) (k : Nat) (hk : k < 8) (w : World) (hR : RdW w (· < w.heap.size) p c L) (hm : L.length ≤ 9223372036854775807) :
  Calls Tryz.prog 78 #[.agg #[.int .i64 r, .int .i64 s, .int .i64 n, .slice p L.length c], .int .i64 id, .int .i64 (k : Int)] w fun e w' => e = .returned (.int .i64 (hopI L id k)) ∧ w.grownBy w' none := by
 obtain ⟨k1, k2⟩ := tone_box w #[.int .i64 r, .int .i64 s, .int .i64 n, .slice p L.length c] 25
 have H0 := Lib.hid (And.intro k1 (And.intro k2 ((hR.keep k2).mono (q' := (· < (w.alloc (.cells #[.int .i64 r, .int .i64 s, .int .i64 n, .slice p L.length c] 25)).heap.size)) (fun b (hb : b < w.heap.size) => by show b < _; simp; omega))))
 clear k1 k2 hR
 go_enter Tryz.func78, Tryz.ntmps78
 go_upto_region 1 with fail
 generalize w.alloc _ = w1 at *
 obtain ⟨d0, d1, d2, d3⟩ := row4T H0.out.1
 go_wp2_with fail
 refine (rrow_any r s n p c L id w1 H0.out.2.2 hm).mono ?_
 rintro e w2 ⟨rfl, hg⟩
 have HX := Lib.hid (fdW_ok (id := id) (H0.out.2.2.keep hg))
 have HZ : Hid ((fdW L id).isSome = false → ((fdW L id).getD zRw).nx.length = 0) := Lib.hid (fun h => by cases hf : fdW L id with
  | none => rfl
  | some x => rw [hf] at h; cases h)
 have HH : Hid (hopI L id k = nxI ((fdW L id).getD zRw).nx k) := Lib.hid rfl
 have G2 := Lib.hid (grown_trans H0.out.2.1 hg)
 clear hg H0 d0 d1 d2 d3
 obtain ⟨res, hres⟩ : ∃ res, hopI L id k = res := ⟨_, rfl⟩
 have HRS := Lib.hid hres
 rw [hres] at HH
 clear hres
 generalize (fdW L id).getD zRw = x at *
 generalize (fdW L id).isSome = ob at *
 obtain ⟨k1, k2⟩ := tone_box w2 #[.int .i64 x.id, .slice x.p x.nx.length x.c] 80
 have HB := Lib.hid (And.intro k1 (And.intro (grown_trans G2.out k2) (HX.out.keep k2)))
 clear k1 k2 G2 HX
 go_upto_region 2 with fail
 generalize w2.alloc _ = w3 at *
 have c1 : w3.cell? ⟨w2.heap.size, 1, none⟩ = some (.slice x.p x.nx.length x.c) := cell_of_row _ _ _ _ _ _ HB.out.1
 by_cases h0 : x.nx.length = 0
 ·have h0' : ((x.nx.length : Int) == 0) = true := beq_iff_eq.2 (by omega)
  have HO : Hid (res = 0) := Lib.hid (by rw [HH.out]; unfold nxI; rw [if_pos h0])
  clear h0
  cases ob
  ·go_wp2_with fail
   go_ret
   exact ⟨by rw [HRS.out, HO.out]; rfl, HB.out.2.1⟩
  ·go_wp2_with fail
   go_ret
   exact ⟨by rw [HRS.out, HO.out]; rfl, HB.out.2.1⟩
 ·cases ob
  ·exact absurd (HZ.out rfl) h0
  have h0' : ((x.nx.length : Int) == 0) = false := beq_eq_false_iff_ne.2 (by omega)
  have hmx : x.nx.length ≤ 9223372036854775807 := Nat.le_trans HB.out.2.2.hc.1 HB.out.2.2.hc.2
  have hat := nxI_at (k := k) h0
  rw [← HH.out] at hat
  have hrd := HB.out.2.2.rd
  obtain ⟨-, b, off, hp, hq, hc⟩ := tvT_at hrd hat
  have a0 := hc _ _ hat
  obtain ⟨j, hj⟩ : ∃ j, k % x.nx.length = j := ⟨_, rfl⟩
  have hjl : j < x.nx.length := by rw [← hj]; exact Nat.mod_lt _ (by omega)
  rw [hj] at a0
  rw [hp] at c1
  have r1 : ((k : Int)).tmod (x.nx.length : Int) = (j : Int) := by rw [Int.tmod_eq_emod_of_nonneg (by omega), ← hj]; exact (Int.natCast_emod k x.nx.length).symm
  have r1b : ((k : Int)) % (x.nx.length : Int) = (j : Int) := by rw [← hj]; exact (Int.natCast_emod k x.nx.length).symm
  have r2 : IntKind.i64.wrap (j : Int) = (j : Int) := IntWalk.i64_in _ (by omega)
  have r0 : (x.nx.length : Int) ≠ 0 := by omega
  have j0 : (0 : Int) ≤ (j : Int) := by omega
  have j1 : (j : Int) < (x.nx.length : Int) := by omega
  clear h0 hat hrd hc hj HZ HH
  go_upto_region 4 with fail
  go_region
  have G := Lib.hid (grown_drew HB.out.2.1)
  clear a0 c1 r1 r1b r2 r0 j0 j1
  go_wp2_with fail
  go_ret
  exact ⟨by rw [HRS.out]; rfl, G.out⟩
end Go.Proofs.YtpogblengagpaaaGreatDoor

/- masks, the reference's Bits: the mathematics. -/
namespace Go.Proofs.YtpogblengagpaaaGreatDoor
set_option maxRecDepth 100000
open Go.RowKit Go.Maps Bs
theorem place_at {s b len : Int} (h : atOk s b len = true) : plOk (atI s b len) len = true ∧ plS (atI s b len) len = s ∧ plB (atI s b len) len = b := by
 have h0 := h
 unfold atOk inV at h
 simp only [Bool.and_eq_true, decide_eq_true_eq] at h
 obtain ⟨⟨⟨hv, hb⟩, hs⟩, hm⟩ := h
 have hl : len = 8 ∨ len = 16 ∨ len = 32 ∨ len = 64 := by
  have := pl_fields (id := 1) (len := len) (by unfold plOk inV; simp [hv])
  exact this.1
 have e : atI s b len = s * len + b + 1 := by unfold atI; rw [if_pos h0]
 have hp : plOk (s * len + b + 1) len = true := by
  unfold plOk inV
  simp only [Bool.and_eq_true, decide_eq_true_eq]
  refine ⟨hv, ?_, hm⟩
  rcases hl with rfl | rfl | rfl | rfl <;> omega
 rw [e]
 refine ⟨hp, ?_, ?_⟩
 ·unfold plS
  rw [if_pos hp, Int.tdiv_eq_ediv_of_nonneg (by rcases hl with rfl | rfl | rfl | rfl <;> omega)]
  rcases hl with rfl | rfl | rfl | rfl <;> omega
 ·unfold plB
  rw [if_pos hp]
  rcases hl with rfl | rfl | rfl | rfl <;> omega
def btP (L : List Rw) (n set u : Int) (k : Nat) (j : Nat) : Bool := atOk set (j : Int) n && decide (0 < u) && decide (hopI L (atI set (j : Int) n) k = u)
def btA (P : Nat → Bool) : Nat → Nat
 | 0 => 0
 | i + 1 => if P i = true then btA P i ||| b2 i else btA P i
theorem btA_u64 (P : Nat → Bool) : ∀ i, i ≤ 64 → U64 (btA P i)
 | 0, _ => by unfold btA; exact u64_mk (by decide)
 | i + 1, h => by
  unfold btA
  split
  ·exact Nat.or_lt_two_pow (n := 64) (btA_u64 P i (by omega)) (b2_u64 (by omega))
  ·exact btA_u64 P i (by omega)
theorem btA_bit (P : Nat → Bool) : ∀ N j, (btA P N).testBit j = true ↔ j < N ∧ P j = true
 | 0, j => by unfold btA; simp
 | i + 1, j => by
  have ih := btA_bit P i j
  unfold btA
  by_cases hp : P i = true
  ·rw [if_pos hp, Nat.testBit_or]
   unfold b2
   rw [Nat.testBit_two_pow]
   simp only [Bool.or_eq_true, decide_eq_true_eq, ih]
   constructor
   ·rintro (h | rfl)
    ·exact ⟨by omega, h.2⟩
    ·exact ⟨by omega, hp⟩
   ·rintro ⟨h1, h2⟩
    by_cases e : i = j
    ·exact Or.inr e
    ·exact Or.inl ⟨by omega, h2⟩
  ·rw [if_neg hp, ih]
   constructor
   ·rintro h; exact ⟨by omega, h.2⟩
   ·rintro ⟨h1, h2⟩
    by_cases e : i = j
    ·subst e; exact absurd h2 hp
    ·exact ⟨by omega, h2⟩
theorem ascW_pair : ∀ E : List Rw, ascB ltW E = true → E.Pairwise (fun x y => x.id < y.id)
 | [], _ => List.Pairwise.nil
 | [a], _ => List.pairwise_singleton _ _
 | a :: b :: t, h => by
  rw [ascB, Bool.and_eq_true] at h
  have ih := ascW_pair (b :: t) h.2
  have hab : a.id < b.id := of_decide_eq_true h.1
  refine List.pairwise_cons.2 ⟨fun y hy => ?_, ih⟩
  rcases List.mem_cons.1 hy with rfl | hy
  ·exact hab
  ·have := (List.pairwise_cons.1 ih).1 y hy; omega
theorem fdW_mem {L : List Rw} (h : ascB ltW L = true) {x : Rw} (hx : x ∈ L) : fdW L x.id = some x := by
 have hp := ascW_pair L h
 clear h
 unfold fdW
 induction L with
 | nil => cases hx
 | cons a t ih =>
  obtain ⟨h1, h2⟩ := List.pairwise_cons.1 hp
  rw [List.find?_cons]
  rcases List.mem_cons.1 hx with rfl | hm
  ·simp [isW]
  ·have := h1 x hm
   have e : isW x.id a = false := by unfold isW; simp; omega
   rw [e]
   exact ih hm h2
theorem mask_eq {r s n : Int} {L : List Rw} (h : ckT r s n L = 0) {N : Nat} (hN : n = (N : Int)) {k : Nat} {set u : Int} (hu : 0 < u) :
  btA (btP L n set u k) N = (colL n set k L u).getD 0 := by
 have ho := ck_ok h
 refine Nat.eq_of_testBit_eq fun j => ?_
 rw [Bool.eq_iff_iff, btA_bit, colL_bit]
 unfold btP
 simp only [Bool.and_eq_true, decide_eq_true_eq]
 constructor
 ·rintro ⟨hj, ⟨h1, -⟩, h3⟩
  obtain ⟨p1, p2, p3⟩ := place_at h1
  unfold hopI at h3
  cases hf : fdW L (atI set (j : Int) n) with
  | none =>
   rw [hf] at h3
   have : nxI ([] : List Int) k = 0 := rfl
   simp only [Option.getD_none] at h3
   have h4 : (0 : Int) = u := h3
   omega
  | some x =>
   rw [hf, Option.getD_some] at h3
   have hx := List.mem_of_find?_eq_some hf
   have he : x.id = atI set (j : Int) n := by
    have := List.find?_some hf
    unfold isW at this
    simpa using this
   refine ⟨x, hx, by rw [he]; exact p2, h3, by omega, by rw [he, p3]; omega⟩
 ·rintro ⟨x, hx, h1, h2, h3, h4⟩
  have hw := any_memT ho.2.1 hx
  have hid : 1 ≤ x.id ∧ x.id ≤ 256 := by
   unfold wrW inV at hw
   rw [Bool.or_eq_false_iff] at hw
   simpa using hw.1
  have hvl : vl n = true := by
   have := ho.1
   unfold hdT at this
   have hl : ¬ L.length = 0 := by
    intro e
    have := List.eq_nil_of_length_eq_zero e
    subst this
    cases hx
   simp [hl] at this
   exact this.2
  have hp : plOk x.id n = true := by unfold plOk inV; simp [hvl, hid.1, hid.2]
  obtain ⟨a1, a2⟩ := at_place hp
  have hB : plB x.id n = (j : Int) := by
   have : 0 ≤ plB x.id n := by
    obtain ⟨hl, -⟩ := pl_fields hp
    unfold plB
    rw [if_pos hp]
    rcases hl with rfl | rfl | rfl | rfl <;> omega
   omega
  have hjn : (j : Int) < n := by
   rw [← hB]
   obtain ⟨hl, -⟩ := pl_fields hp
   unfold plB
   rw [if_pos hp]
   rcases hl with rfl | rfl | rfl | rfl <;> omega
  rw [h1, hB] at a1 a2
  refine ⟨by omega, ⟨a1, hu⟩, ?_⟩
  unfold hopI
  rw [a2, fdW_mem ho.2.2.2.2.1 hx, Option.getD_some]
  exact h2
end Go.Proofs.YtpogblengagpaaaGreatDoor

/- masks, the reference's functions: Bits. -/
namespace Go.Proofs.YtpogblengagpaaaGreatDoor
set_option maxRecDepth 100000
open Go.RowKit Go.Maps Bs
structure BX (W : World) (r s n : Int) (p : Option Addr) (c : Nat) (L : List Rw) (w : World) : Prop where
 bx : w.heap[W.heap.size]? = some (.cells #[.int .i64 r, .int .i64 s, .int .i64 n, .slice p L.length c] 25 (0, 0))
 rd : RdW w (· < w.heap.size) p c L
 gr : W.grownBy w none
theorem BX.keep {W w w1 : World} {r s n : Int} {p : Option Addr} {c : Nat} {L : List Rw} (h : BX W r s n p c L w) (g : w.grownBy w1 none) : BX W r s n p c L w1 :=
 ⟨kept_row h.bx g (by simp), (h.rd.keep g).mono (fun b (hb : b < w.heap.size) => Nat.lt_of_lt_of_le hb g.size), grown_trans h.gr g⟩
theorem bx_start {w : World} {r s n : Int} {p : Option Addr} {c : Nat} {L : List Rw} (hR : RdW w (· < w.heap.size) p c L) : BX w r s n p c L (w.alloc (.cells #[.int .i64 r, .int .i64 s, .int .i64 n, .slice p L.length c] 25)) := by
 obtain ⟨k1, k2⟩ := tone_box w #[.int .i64 r, .int .i64 s, .int .i64 n, .slice p L.length c] 25
 exact ⟨k1, (hR.keep k2).mono (fun b (hb : b < w.heap.size) => Nat.lt_of_lt_of_le hb k2.size), k2⟩
set_option maxHeartbeats 3200000 in
theorem rbits_any (r s : Int) (N : Nat) (hN : N ≤ 64) (p : Option Addr) (c : Nat) (L : List Rw) (k : Nat) (hk : k < 8) (set u : Int) (w : World) (hR : RdW w (· < w.heap.size) p c L) (hm : L.length ≤ 9223372036854775807) :
  Calls Tryz.prog 55 #[.agg #[.int .i64 r, .int .i64 s, .int .i64 (N : Int), .slice p L.length c], .int .i64 (k : Int), .int .i64 set, .int .i64 u] w fun e w' => e = .returned (.int .u64 ((btA (btP L (N : Int) set u k) N : Nat) : Int)) ∧ w.grownBy w' none := by
 have H0 := Lib.hid (bx_start (r := r) (s := s) (n := (N : Int)) hR)
 obtain ⟨P, hP⟩ : ∃ P, btP L (N : Int) set u k = P := ⟨_, rfl⟩
 have HP := Lib.hid hP
 rw [hP]
 clear hR hP
 go_enter Tryz.func55, Tryz.ntmps55
 go_upto_region 1 with fail
 generalize w.alloc _ = wa at *
 go_wp2_with fail
 go_loopw [9, 10] (fun o a wr => ∃ i : Nat, i ≤ N ∧ a = .int .i64 (i : Int) ∧ o = .int .u64 ((btA P i : Nat) : Int) ∧ Hid (BX w r s (N : Int) p c L wr)) (fun _ a _ => N - (RowKit.intOf a).toNat)
 case atStart => exact ⟨0, Nat.zero_le _, rfl, rfl, H0⟩
 case round =>
 obtain ⟨i, hi, rfl, rfl, K⟩ := hrel
 clear H0
 obtain ⟨d0, d1, d2, d3⟩ := row4T K.out.bx
 by_cases hlt : i < N
 case neg =>
  obtain rfl : i = N := by omega
  have hnl : ¬ (i : Int) < (i : Int) := by omega
  go_wp2_with fail
  go_ret
  exact ⟨rfl, K.out.gr⟩
 have hlt' : (i : Int) < (N : Int) := by omega
 have HU := Lib.hid (btA_u64 P i (by omega))
 have HS : Hid (btA P (i + 1) = if P i = true then btA P i ||| b2 i else btA P i) := Lib.hid rfl
 have hPi : Hid (P i = (atOk set (i : Int) (N : Int) && decide (0 < u) && decide (hopI L (atI set (i : Int) (N : Int)) k = u))) := Lib.hid (by rw [← HP.out]; rfl)
 obtain ⟨B, hB⟩ : ∃ B, btA P i = B := ⟨_, rfl⟩
 rw [hB] at HU HS ⊢
 clear hB
 go_wp2_with fail
 refine (irat_any set i N wr).mono ?_
 rintro e w1 ⟨rfl, hg⟩
 have K1 := Lib.hid (K.out.keep hg)
 clear hg K d0 d1 d2 d3
 obtain ⟨ok, hok⟩ : ∃ ok, atOk set (i : Int) (N : Int) = ok := ⟨_, rfl⟩
 obtain ⟨id, hid⟩ : ∃ id, atI set (i : Int) (N : Int) = id := ⟨_, rfl⟩
 rw [hok, hid] at hPi ⊢
 clear hok hid
 obtain ⟨d0, d1, d2, d3⟩ := row4T K1.out.bx
 cases ok
 case false =>
  have HE : Hid (btA P (i + 1) = B) := Lib.hid (by rw [HS.out, hPi.out]; simp)
  go_wp2_with fail
  exact ⟨⟨i + 1, by omega, congrArg _ (by omega), by rw [HE.out], K1⟩, by simp only [RowKit.intOf]; omega⟩
 by_cases hu : 0 < u
 case neg =>
  have HE : Hid (btA P (i + 1) = B) := Lib.hid (by rw [HS.out, hPi.out]; simp [hu])
  go_wp2_with fail
  exact ⟨⟨i + 1, by omega, congrArg _ (by omega), by rw [HE.out], K1⟩, by simp only [RowKit.intOf]; omega⟩
 go_wp2_with fail
 refine (rhop_any r s N p c L id k hk w1 K1.out.rd hm).mono ?_
 rintro e w2 ⟨rfl, hg⟩
 have K2 := Lib.hid (K1.out.keep hg)
 clear hg K1 d0 d1 d2 d3
 obtain ⟨h, hh⟩ : ∃ h, hopI L id k = h := ⟨_, rfl⟩
 rw [hh] at hPi ⊢
 clear hh
 by_cases he : h = u
 case neg =>
  have he' : (h == u) = false := by simpa using he
  have HE : Hid (btA P (i + 1) = B) := Lib.hid (by rw [HS.out, hPi.out]; simp [he])
  clear he
  go_wp2_with fail
  exact ⟨⟨i + 1, by omega, congrArg _ (by omega), by rw [HE.out], K2⟩, by simp only [RowKit.intOf]; omega⟩
 have he' : (h == u) = true := by simpa using he
 have HE : Hid (btA P (i + 1) = B ||| b2 i) := Lib.hid (by rw [HS.out, hPi.out]; simp [he, hu])
 clear he
 go_wp2_with fail
 refine (bit_any i (by omega) w2).mono ?_
 rintro e w3 ⟨rfl, rfl⟩
 have HU2 := HU.out
 have HB2 : U64 (b2 i) := b2_u64 (by omega)
 go_wp2_with fail
 exact ⟨⟨i + 1, by omega, congrArg _ (by omega), by rw [HE.out]; exact congrArg _ (orU _ _ HU2 HB2), K2⟩, by simp only [RowKit.intOf]; omega⟩
end Go.Proofs.YtpogblengagpaaaGreatDoor
