/- Parts of the proof, packed: IoMath, IoWord, IoLeaf, IoTape, IoMem, IoRead, IoWild, ToKit, IoWrite, IoValid, IoRef, IoPut, IoRows, ToMath, ToMem, ToLeaf, ToFuns, IdM, ToSeek, ToRow, ToJoin, ToCheck, ToNear, ToHop, ToCheckR, ToFail, ToWith, ToRws, IdArr. -/
import Derived.Lib.TrailingZeros
import Derived.IntWalk
import Derived.Laws.BitsAllLaws
import Derived.RowKit3
import Derived.Test.YtndfhgklhjfhkaaRows
import Derived.WalkKit
import Derived.WalkSpells
import Derived.WalkLawsBesides
import Derived.Lib.Hide
import Derived.Deep.QuietTactic
import Derived.BigQuiet
import Derived.Shelf.Spec.TrailingZeros
import Derived.ProofKit
import Derived.OpenShut
import Derived.Deep.DeepHandedRow
import Derived.Lib.SmallJoins
import Derived.BigRegion
import Derived.Deep.LoopGhost
import Derived.Laws.AppendOwnNone
import Derived.Laws.CopyOwn
import Derived.Laws.ResultCell
import Derived.Deep.Onto
import Derived.Deep.AppendLies
import Derived.Deep.RegionHeld3
import Derived.Shelf.Abstract
import Derived.Deep.CutRange
import Derived.Deep.WholeRow
import Derived.Deep.CutBlock
/- Both. -/
namespace Go.Proofs.Ytndfhgklhjfhkaa
namespace Bs
/- THE COUNT OF BITS, AS math/bits HAS IT: in halves, quarters, bytes; each step a byte at a time. -/
def k0 : Nat → Nat | 0 => 0 | k + 1 => 85 + 256 * k0 k
def k1 : Nat → Nat | 0 => 0 | k + 1 => 51 + 256 * k1 k
def k2 : Nat → Nat | 0 => 0 | k + 1 => 15 + 256 * k2 k
def t1 (k x : Nat) : Nat := (x / 2 &&& k0 k) + (x &&& k0 k)
def t2 (k x : Nat) : Nat := (x / 4 &&& k1 k) + (x &&& k1 k)
def t3 (k x : Nat) : Nat := (x / 16 + x) &&& k2 k
def p1 (d : Nat) : Nat := (d / 2 &&& 85) + (d &&& 85)
def p2 (d : Nat) : Nat := (d / 4 &&& 51) + (d &&& 51)
def p3 (d : Nat) : Nat := p2 (p1 d) % 16 + p2 (p1 d) / 16
/-- Bit i of a list of bytes. -/
def bt (l : List Nat) (i : Nat) : Bool := (l.getD (i / 8) 0).testBit (7 - i % 8)
end Bs
end Go.Proofs.Ytndfhgklhjfhkaa

/- Both. -/
namespace Go.Proofs.Ytndfhgklhjfhkaa
open Go.RowKit
namespace Bs
/-- One bit; all bits below. Plain names, so that the walk doesn't open them. -/
def b2 (k : Nat) : Nat := 2 ^ k
def lo (k : Nat) : Nat := 2 ^ k - 1
end Bs
end Go.Proofs.Ytndfhgklhjfhkaa

/- Both. -/
namespace Go.Proofs.Ytndfhgklhjfhkaa
open Go.RowKit Bs

set_option maxRecDepth 100000 in
theorem ret_bool {a b : Bool} (h : a = b) : Ending.returned (.bool a) = .returned (.bool b) := by rw [h]

def vl (n : Int) : Bool := n == 8 || n == 16 || n == 32 || n == 64
set_option maxRecDepth 100000 in
theorem vl_cases {n : Int} (h : vl n = true) : n = 8 ∨ n = 16 ∨ n = 32 ∨ n = 64 := by
  unfold vl at h; simp at h; omega
set_option maxRecDepth 100000 in
set_option maxHeartbeats 400000 in
theorem vlp_any (n : Int) (w : World) :
    Calls Try.prog 53 #[.int .i64 n] w fun e w' => e = .returned (.bool (vl n)) ∧ w = w' := by
  go_enter Try.func53, Try.ntmps53
  go_wp2
  all_goals go_ret
  all_goals exact ⟨ret_bool (by first | rfl | (unfold vl; simp [*])), rfl⟩
end Go.Proofs.Ytndfhgklhjfhkaa

/- Both. -/
namespace Go.Proofs.Ytndfhgklhjfhkaa
open Go.RowKit Bs

set_option maxRecDepth 100000 in
theorem grown_refl (w : World) (r : Option Nat) : w.grownBy w r := ⟨rfl, rfl, rfl, Nat.le_refl _, fun _ _ _ => rfl⟩
set_option maxRecDepth 100000 in
theorem grown_trans {w0 w1 w2 : World} {r : Option Nat} (h : w0.grownBy w1 r) (k : w1.grownBy w2 r) : w0.grownBy w2 r :=
  ⟨k.os.trans h.os, k.tape.trans h.tape, k.output.trans h.output, Nat.le_trans h.size k.size, fun b hb hr => (k.block b (Nat.lt_of_lt_of_le hb h.size) hr).trans (h.block b hb hr)⟩
set_option maxRecDepth 100000 in
theorem grown_setCell (w : World) (p : Addr) (u : Value) : w.grownBy (w.setCell p u) (some p.block) :=
  ⟨rfl, rfl, rfl, by simp [World.setCell], fun k _ hk => Below.heap_setCell _ _ _ _ (by simpa using hk)⟩
end Go.Proofs.Ytndfhgklhjfhkaa

/- Both. -/
namespace Go.Proofs.Ytndfhgklhjfhkaa
open Go.RowKit Bs

/-- The slice value v reads as vs; where it has elements, its block meets q. -/
def Rd (w : World) (q : Nat → Prop) (v : Value) (vs : List Value) : Prop :=
  ∃ p c, v = .slice p vs.length c ∧ (vs ≠ [] → ∃ b off, p = some ⟨b, off, none⟩ ∧ q b ∧ ∀ i x, vs[i]? = some x → w.cell? ⟨b, off + i, none⟩ = some x)
set_option maxRecDepth 100000 in
theorem Rd.grown {w w' : World} {q : Nat → Prop} {v : Value} {vs : List Value} {r : Option Nat} (h : Rd w q v vs) (g : w.grownBy w' r) (hq : ∀ b, q b → some b ≠ r) : Rd w' q v vs := by
  obtain ⟨p, c, hv, hc⟩ := h
  refine ⟨p, c, hv, fun hne => ?_⟩
  obtain ⟨b, off, hp, hb, hx⟩ := hc hne
  exact ⟨b, off, hp, hb, fun i x hi => g.cell (hx i x hi) (hq b hb)⟩
set_option maxRecDepth 100000 in
theorem Rd.mono {w : World} {q q' : Nat → Prop} {v : Value} {vs : List Value} (h : Rd w q v vs) (hq : ∀ b, q b → q' b) : Rd w q' v vs := by
  obtain ⟨p, c, hv, hc⟩ := h
  refine ⟨p, c, hv, fun hne => ?_⟩
  obtain ⟨b, off, hp, hb, hx⟩ := hc hne
  exact ⟨b, off, hp, hq b hb, hx⟩
set_option maxRecDepth 100000 in
theorem Rd.keep {w w' : World} {q : Nat → Prop} {v : Value} {vs : List Value} (h : Rd w q v vs) (g : w.grownBy w' none) : Rd w' q v vs := h.grown g (fun _ _ => by simp)
set_option maxRecDepth 100000 in
theorem hid_drew {W w : World} {r : Option Nat} (h : Hid (W.grownBy w r)) : Hid (W.grownBy w.drew r) := Lib.hid ⟨h.out.os, h.out.tape, h.out.output, h.out.size, h.out.block⟩
set_option maxRecDepth 100000 in
theorem hid_more {W w w' : World} {r : Option Nat} (h : Hid (W.grownBy w r)) (k : w.grownBy w' r) : Hid (W.grownBy w' r) := Lib.hid (grown_trans h.out k)
end Go.Proofs.Ytndfhgklhjfhkaa

/- The program's small functions, and its reading of bits. -/
namespace Go.Proofs.Ytndfhgklhjfhkaa
open Go.RowKit Bs

/-- A byte. -/
def nv (x : Nat) : Value := .int .u8 (x : Int)
end Go.Proofs.Ytndfhgklhjfhkaa

/- The tape's wild numbers; rows of a call's own while the tape turns. -/
namespace Go.Proofs.Ytndfhgklhjfhkaa
open Go.RowKit Bs
end Go.Proofs.Ytndfhgklhjfhkaa

/- (Without streams.) What every statement's proof shares: the arguments opened; the call's end shut. -/
namespace Go.Proofs.Ytndfhgklhjfhkaa
open Go.ChangeShapes Go.WideShapes Go.ChangeAt Go.RowKit Go.Joins Bs

set_option maxRecDepth 100000 in
theorem kit_own : ownKnob Try.prog.godebug = none := by kernel_rfl
set_option maxRecDepth 100000 in
theorem kit_laid : laidOutB Try.prog = true := by kernel_rfl
section
variable {H : Type} {enc : TypeId × Value → H} {W W' : World}
/-- The types of these parameters can be read. -/
def Readable (P : Program) (ts : List TypeId) : Bool := ts.all fun t => P.readableRec t && decide (t < P.types.size)
set_option maxRecDepth 100000 in
theorem args_below {P : Program} (hl : laidOutB P = true) (hb : Below W.heap.size W W') {sp : Nat → Bool} : ∀ (ts : List TypeId) (vs : List Value) (ds : List (DataW H)) (ps : List MemPlace), Readable P ts = true →
    DataW.TrodAll enc P W 0 (fun _ => true) true ts vs ds ps → (∀ x ∈ ps, x.block < W.heap.size) → (∀ x ∈ ps, sp x.block = true) → DataW.TrodAll enc P W' 0 sp true ts vs ds ps := by
  intro ts
  induction ts with
  | nil =>
    intro vs ds ps _ h _ _
    cases vs with
    | nil => cases ds with
      | nil => exact h
      | cons _ _ => exact h.elim
    | cons _ _ => exact h.elim
  | cons t ts ih =>
    intro vs ds ps hr h hlt hs
    cases vs with
    | nil => exact h.elim
    | cons v vs => cases ds with
      | nil => exact h.elim
      | cons d ds =>
        obtain ⟨p, q, h1, h2, rfl⟩ := h
        have hr' : (P.readableRec t = true ∧ t < P.types.size) ∧ Readable P ts = true := by
          unfold Readable at hr ⊢
          rw [List.all_cons, Bool.and_eq_true, Bool.and_eq_true, decide_eq_true_eq] at hr
          exact hr
        exact ⟨p, q, WideElems.Trod_stays hl hr'.1.1 hr'.1.2 h1 (fun x hx => hb.same (hlt x (by simp [hx]))) (fun x hx => hs x (by simp [hx])),
          ih vs ds q hr'.2 h2 (fun x hx => hlt x (by simp [hx])) (fun x hx => hs x (by simp [hx])), rfl⟩
set_option maxRecDepth 100000 in
theorem below_of_grown (g : W.grownBy W' none) : Below W.heap.size W W' := ⟨g.os, g.tape, g.output, g.size, fun k hk => g.block k hk (by simp)⟩
set_option maxRecDepth 100000 in
/-- The end of a statement's call: it returned true, and made memory alone. -/
theorem law_post {f : Func} {s : ChangeSpec} {args : Array Value} {ds gs : List (DataW H)} {before : List MemPlace} (hr : Readable Try.prog f.params.toList = true) (hv : s.vars = [])
    (hres : f.resultTypes = #[4]) (hfn : (s.fn H (ds ++ gs)).results = [.lit (.bool true)] ∧ (s.fn H (ds ++ gs)).args = ds ∧ (s.fn H (ds ++ gs)).vars = [])
    (hW : DataW.Whole enc Try.prog f.params.toList s.vars false W args.toList ds gs before) (g : W.grownBy W' none) : s.post enc Try.prog f false true false false W args (.bool true) W' := by
  have hlt := hW.lt
  have hb := below_of_grown g
  obtain ⟨p, q, hA, hV, hp, _, _⟩ := id hW
  rw [hv] at hV
  obtain ⟨rfl, rfl⟩ := trodVars_none hV
  rw [List.append_nil] at hp
  subst hp
  refine ⟨ds, [], before, [], before, [], hW, ?_, ?_, ?_, hb.frame _, fun h => by cases h⟩
  · rw [hfn.1, hres]
    exact trodAll_mk1 (shut_bool Try.underlying4 _)
  · rw [hfn.2.1]
    exact args_below kit_laid hb _ _ _ _ hr hA hlt (fun x hx => by simpa using hlt x hx)
  · rw [hfn.2.2, hv]; rfl
end

section
variable {H : Type} {enc : TypeId × Value → H} {W : World} {base : Nat} {v : Value} {d : DataW H} {ps : List MemPlace}
end
section
variable {H : Type} {enc : TypeId × Value → H} {W : World} {base : Nat} {v : Value} {d : DataW H} {ps : List MemPlace}
set_option maxRecDepth 100000 in
theorem opn_u8 (hval : Value.okWide Try.prog W .any base 5 v) (h : DataW.Trod enc Try.prog W 0 (fun _ => true) true 5 v d ps) : ∃ b : Nat, v = .int .u8 (b : Int) ∧ b < 256 := by
  obtain ⟨n, rfl, _, _, wf⟩ := open_int Try.underlying5 hval h
  have hb : 0 ≤ n ∧ n < 256 := by
    simp [Lit.wf, IntKind.min, IntKind.max, IntKind.bits, IntKind.signed] at wf
    omega
  obtain ⟨b, rfl⟩ := Int.eq_ofNat_of_zero_le hb.1
  exact ⟨b, rfl, by omega⟩
end
end Go.Proofs.Ytndfhgklhjfhkaa

/- A block of bytes that a call has made; the program's writing and moving of bits. -/
namespace Go.Proofs.Ytndfhgklhjfhkaa
open Go.RowKit Bs

section
variable {w w' : World} {g : Nat} {l : List Nat}
end
end Go.Proofs.Ytndfhgklhjfhkaa

/- Valid, of the program and of the reference. -/
namespace Go.Proofs.Ytndfhgklhjfhkaa
open Go.RowKit Bs
/-- A stream is valid. -/
def vs (l : List Nat) (n : Int) : Bool := decide (0 ≤ n ∧ n ≤ 8192 ∧ l.length = (n.toNat + 7) / 8 ∧ ∀ i, i < 8 * l.length → n.toNat ≤ i → bt l i = false)
end Go.Proofs.Ytndfhgklhjfhkaa

/- Of the reference: one bit, Valid. -/
namespace Go.Proofs.Ytndfhgklhjfhkaa
open Go.RowKit Bs
end Go.Proofs.Ytndfhgklhjfhkaa

/- Streams as values; the reference's Put. -/
namespace Go.Proofs.Ytndfhgklhjfhkaa
open Go.RowKit Bs
set_option maxRecDepth 100000 in
theorem add_plain (b off j : Nat) : (⟨b, off, none⟩ : Addr).add j = ⟨b, off + j, none⟩ := by unfold Addr.add; split <;> simp_all
set_option maxRecDepth 100000 in
theorem grown_drew {w w' : World} {r : Option Nat} (h : w.grownBy w' r) : w.grownBy w'.drew r := ⟨h.os, h.tape, h.output, h.size, h.block⟩
set_option maxRecDepth 100000 in
/-- Two blocks laid one behind the other. -/
theorem two_boxes (w : World) (A Z : Array Value) (t u : TypeId) :
    ((w.alloc (.cells A t)).alloc (.cells Z u)).heap[w.heap.size]? = some (.cells A t (0, 0)) ∧ ((w.alloc (.cells A t)).alloc (.cells Z u)).heap[w.heap.size + 1]? = some (.cells Z u (0, 0)) ∧
      w.grownBy ((w.alloc (.cells A t)).alloc (.cells Z u)) none ∧ ((w.alloc (.cells A t)).alloc (.cells Z u)).heap.size = w.heap.size + 2 := by
  have e1 : (w.alloc (.cells A t)).heap.size = w.heap.size + 1 := by simp
  refine ⟨?_, ?_, grown_trans (World.grownBy_alloc w _ _) (World.grownBy_alloc _ _ _), by simp⟩
  · rw [Below.heap_alloc _ _ _ (by omega)]; exact heap_alloc_new w _
  · rw [← e1]; exact heap_alloc_new _ _
set_option maxRecDepth 100000 in
theorem row_cells {w : World} {b : Nat} {x y : Value} {t : TypeId} (h : w.heap[b]? = some (.cells #[x, y] t (0, 0))) : w.cell? ⟨b, 0, none⟩ = some x ∧ w.cell? ⟨b, 1, none⟩ = some y := by
  refine ⟨?_, ?_⟩
  · rw [cell_of_row _ _ _ _ _ _ h]; rfl
  · rw [cell_of_row _ _ _ _ _ _ h]; rfl
set_option maxRecDepth 100000 in
theorem kept_row {w w' : World} {b : Nat} {o : Obj} {r : Option Nat} (h : w.heap[b]? = some o) (g : w.grownBy w' r) (hr : some b ≠ r) : w'.heap[b]? = some o :=
  (g.block b (Array.getElem?_eq_some_iff.1 h).1 hr).trans h
set_option maxRecDepth 100000 in
/-- What lies behind the call's start may turn. -/
theorem grown_new {w w1 w2 : World} {b : Nat} (h : w.grownBy w1 none) (k : w1.grownBy w2 (some b)) (hb : w.heap.size ≤ b) : w.grownBy w2 none :=
  ⟨k.os.trans h.os, k.tape.trans h.tape, k.output.trans h.output, Nat.le_trans h.size k.size, fun i hi _ => (k.block i (Nat.lt_of_lt_of_le hi h.size) (by intro e; have := Option.some.inj e; omega)).trans (h.block i hi (by simp))⟩
end Go.Proofs.Ytndfhgklhjfhkaa

/- Rows of the call's own that grow apart. -/
namespace Go.Proofs.Ytndfhgklhjfhkaa
open Go.RowKit Bs
end Go.Proofs.Ytndfhgklhjfhkaa

/- Topologies: the mathematics. -/
namespace Go.Proofs.Ytndfhgklhjfhkaa
open Go.RowKit Bs
/-- A router and a link. -/
structure Rt where
  id : Int
  cap : Bool
structure Lk where
  a : Int
  b : Int
  ca : Int
  cb : Int
  cp : Int
/-- Strictly ascending. -/
def ascB {α : Type} (f : α → α → Bool) : List α → Bool
  | a :: b :: t => f a b && ascB f (b :: t)
  | _ => true
set_option maxRecDepth 100000 in
theorem ascB_iff {α : Type} (f : α → α → Bool) : ∀ l : List α, ascB f l = true ↔ ∀ i x y, l[i]? = some x → l[i + 1]? = some y → f x y = true
  | [] => by simp [ascB]
  | [a] => by simp [ascB]
  | a :: b :: t => by
    rw [ascB, Bool.and_eq_true, ascB_iff f (b :: t)]
    constructor
    · rintro ⟨h1, h2⟩ i x y hx hy
      cases i with
      | zero => simp at hx hy; subst hx; subst hy; exact h1
      | succ i => exact h2 i x y (by simpa using hx) (by simpa using hy)
    · intro h
      exact ⟨h 0 a b rfl rfl, fun i x y hx hy => h (i + 1) x y (by simpa using hx) (by simpa using hy)⟩
set_option maxRecDepth 100000 in
theorem any_take {α : Type} {p : α → Bool} {l : List α} {k : Nat} {x : α} (h : (l.take k).any p = false) (hx : l[k]? = some x) (hp : p x = false) : (l.take (k + 1)).any p = false := by
  rw [List.take_add_one, List.any_append, h, hx]
  simpa using hp
set_option maxRecDepth 100000 in
theorem any_at {α : Type} {p : α → Bool} {l : List α} {k : Nat} {x : α} (hx : l[k]? = some x) (hp : p x = true) : l.any p = true :=
  List.any_eq_true.2 ⟨x, List.mem_of_getElem? hx, hp⟩
set_option maxRecDepth 100000 in
theorem any_end {α : Type} {p : α → Bool} {l : List α} {k : Nat} (h : (l.take k).any p = false) (hk : l.length ≤ k) : l.any p = false := by
  rwa [List.take_of_length_le hk] at h
set_option maxRecDepth 100000 in
/-- The cells of a list of elements of k cells each. -/
theorem flat_at {α : Type} (f : α → List Value) (n : Nat) (hf : ∀ x, (f x).length = n) : ∀ (l : List α) (i j : Nat) (x : α), l[i]? = some x → j < n → (l.flatMap f)[i * n + j]? = (f x)[j]?
  | [], i, j, x, h, _ => by simp at h
  | m :: l, 0, j, x, h, hj => by
    obtain rfl : m = x := by simpa using h
    rw [List.flatMap_cons, Nat.zero_mul, Nat.zero_add, List.getElem?_append_left (by rw [hf]; exact hj)]
  | m :: l, i + 1, j, x, h, hj => by
    rw [List.flatMap_cons, List.getElem?_append_right (by rw [hf, Nat.add_mul]; omega), show (i + 1) * n + j - (f m).length = i * n + j by rw [hf, Nat.add_mul]; omega]
    exact flat_at f n hf l i j x (by simpa using h) hj
set_option maxRecDepth 100000 in
theorem flat_len {α : Type} (f : α → List Value) (n : Nat) (hf : ∀ x, (f x).length = n) : ∀ (l : List α), (l.flatMap f).length = l.length * n
  | [] => by simp
  | m :: l => by rw [List.flatMap_cons, List.length_append, hf, flat_len f n hf l, List.length_cons, Nat.add_mul]; omega
end Go.Proofs.Ytndfhgklhjfhkaa

/- Topologies in memory. -/
namespace Go.Proofs.Ytndfhgklhjfhkaa
open Go.RowKit Bs
set_option maxRecDepth 100000 in
theorem tone_box (w : World) (A : Array Value) (t : TypeId) : (w.alloc (.cells A t)).heap[w.heap.size]? = some (.cells A t (0, 0)) ∧ w.grownBy (w.alloc (.cells A t)) none :=
  ⟨heap_alloc_new w _, World.grownBy_alloc w _ _⟩
/-- The slice value v has n elements, whose cells are xs. -/
def RdF (w : World) (q : Nat → Prop) (v : Value) (n : Nat) (xs : List Value) : Prop :=
  ∃ p c, v = .slice p n c ∧ (xs ≠ [] → ∃ b off, p = some ⟨b, off, none⟩ ∧ q b ∧ ∀ i x, xs[i]? = some x → w.cell? ⟨b, off + i, none⟩ = some x)
set_option maxRecDepth 100000 in
theorem RdF.grown {w w' : World} {q : Nat → Prop} {v : Value} {n : Nat} {xs : List Value} {r : Option Nat} (h : RdF w q v n xs) (g : w.grownBy w' r) (hq : ∀ b, q b → some b ≠ r) : RdF w' q v n xs := by
  obtain ⟨p, c, hv, hc⟩ := h
  refine ⟨p, c, hv, fun hne => ?_⟩
  obtain ⟨b, off, hp, hb, hx⟩ := hc hne
  exact ⟨b, off, hp, hb, fun i x hi => g.cell (hx i x hi) (hq b hb)⟩
set_option maxRecDepth 100000 in
theorem RdF.keep {w w' : World} {q : Nat → Prop} {v : Value} {n : Nat} {xs : List Value} (h : RdF w q v n xs) (g : w.grownBy w' none) : RdF w' q v n xs := h.grown g (fun _ _ => by simp)
set_option maxRecDepth 100000 in
theorem RdF.mono {w : World} {q q' : Nat → Prop} {v : Value} {n : Nat} {xs : List Value} (h : RdF w q v n xs) (hq : ∀ b, q b → q' b) : RdF w q' v n xs := by
  obtain ⟨p, c, hv, hc⟩ := h
  refine ⟨p, c, hv, fun hne => ?_⟩
  obtain ⟨b, off, hp, hb, hx⟩ := hc hne
  exact ⟨b, off, hp, hq b hb, hx⟩
set_option maxRecDepth 100000 in
theorem rdf_of_own {w : World} {base size : Nat} {e : TypeId} {v : Value} {n : Nat} {xs : List Value} (h : w.ownsRow base e size v n xs) : RdF w (base ≤ ·) v n xs := by
  rcases h.2 with ⟨rfl, h0⟩ | ⟨g, cap, cur, rfl, hb, hg, _⟩
  · subst h0
    have hl : xs = [] := List.eq_nil_of_length_eq_zero (by have := h.1; omega)
    exact ⟨none, 0, rfl, fun hne => absurd hl hne⟩
  · refine ⟨some ⟨g, 0, none⟩, cap, rfl, fun _ => ⟨g, 0, rfl, hb, fun i x hi => ?_⟩⟩
    have := h.cells (g := g) rfl i x hi
    have hadd : (⟨g, 0, none⟩ : Addr).add i = ⟨g, 0 + i, none⟩ := by unfold Addr.add; split <;> simp_all
    rw [hadd] at this
    exact this
set_option maxRecDepth 100000 in
theorem RdF.cells {α : Type} {f : α → List Value} {k : Nat} (hf : ∀ x, (f x).length = k) (hk : 0 < k) {w : World} {q : Nat → Prop} {p : Option Addr} {n c : Nat} {l : List α} (h : RdF w q (.slice p n c) l.length (l.flatMap f)) (hn : 0 < l.length) :
    n = l.length ∧ ∃ b off, p = some ⟨b, off, none⟩ ∧ q b ∧ ∀ i x, l[i]? = some x → ∀ j y, (f x)[j]? = some y → w.cell? ⟨b, off + i * k + j, none⟩ = some y := by
  obtain ⟨p1, c1, e1, hx⟩ := h
  injection e1 with a1 a2 a3
  subst a1
  have hne : l.flatMap f ≠ [] := by
    intro e
    have h2 := flat_len f k hf l
    rw [e, List.length_nil] at h2
    have := Nat.mul_pos hn hk
    omega
  obtain ⟨b, off, hp, hq, hc⟩ := hx hne
  refine ⟨a2, b, off, hp, hq, fun i x hi j y hj => ?_⟩
  have hjk : j < k := by
    have := (List.getElem?_eq_some_iff.1 hj).1
    rw [hf] at this
    exact this
  rw [Nat.add_assoc]
  exact hc _ _ ((flat_at f k hf l i j x hi hjk).trans hj)
end Go.Proofs.Ytndfhgklhjfhkaa

/- topology: within, wrongID, wrongNumbers, the comparisons. -/
namespace Go.Proofs.Ytndfhgklhjfhkaa
open Go.RowKit Bs
def cmpV (x y : Int) : Int := if x < y then -1 else if y < x then 1 else 0
set_option maxRecDepth 100000 in
theorem cmpV_lt {x y : Int} : (cmpV x y < 0) ↔ x < y := by unfold cmpV; split <;> (try split) <;> omega
set_option maxRecDepth 100000 in
set_option maxHeartbeats 1600000 in
theorem tcmp_any (x y : Int) (w : World) :
    Calls Try.prog 71 #[.int .i64 x, .int .i64 y] w fun e w' => e = .returned (.int .i64 (cmpV x y)) ∧ w' = w := by
  have N : ∀ (z : Int) (w : World), Calls Try.prog 74 #[.int .i64 z] w fun e w' => e = .returned (.bool false) ∧ w' = w := by
    intro z w
    go_enter Try.func74, Try.ntmps74
    go_wp2_with fail
    go_ret
    first | exact ⟨rfl, rfl⟩ | exact ⟨by simp, rfl⟩
  go_enter Try.func71, Try.ntmps71
  by_cases h1 : x < y
  · go_wp2_with (go_at_call 74; refine (N _ _).mono ?_; rintro e w' ⟨rfl, rfl⟩)
    go_ret
    exact ⟨by unfold cmpV; rw [if_pos (by omega)]; rfl, rfl⟩
  · by_cases h2 : y < x
    · go_wp2_with (go_at_call 74; refine (N _ _).mono ?_; rintro e w' ⟨rfl, rfl⟩)
      go_ret
      exact ⟨by unfold cmpV; rw [if_neg (by omega), if_pos (by omega)]; rfl, rfl⟩
    · go_wp2_with (go_at_call 74; refine (N _ _).mono ?_; rintro e w' ⟨rfl, rfl⟩)
      go_ret
      exact ⟨by unfold cmpV; rw [if_neg (by omega), if_neg (by omega)]; rfl, rfl⟩
end Go.Proofs.Ytndfhgklhjfhkaa

/- topology: lists that are searched by functions; what is ascending. -/
namespace Go.Proofs.Ytndfhgklhjfhkaa
open Go.RowKit Bs
/-- The first number of a list that is not 0. -/
def orV : List Int → Int
  | [] => 0
  | x :: r => if x = 0 then orV r else x
set_option maxRecDepth 100000 in
theorem orV_take {r : List Int} {k : Nat} {y : Int} (h : orV (r.take k) = 0) (hy : r[k]? = some y) : orV (r.take (k + 1)) = y := by
  induction r generalizing k with
  | nil => simp at hy
  | cons x r ih =>
    cases k with
    | zero =>
      obtain rfl : x = y := by simpa using hy
      show (if x = 0 then orV (r.take 0) else x) = x
      split
      · rename_i e; rw [e]; rfl
      · rfl
    | succ k =>
      rw [List.take_succ_cons, orV] at h
      rw [List.take_succ_cons, orV]
      by_cases e : x = 0
      · rw [if_pos e] at h ⊢
        exact ih h (by simpa using hy)
      · rw [if_neg e] at h
        exact absurd h e
set_option maxRecDepth 100000 in
theorem orV_pre {r : List Int} {k : Nat} (h : orV (r.take k) ≠ 0) : orV r = orV (r.take k) := by
  induction r generalizing k with
  | nil => simp
  | cons x r ih =>
    cases k with
    | zero => exact absurd rfl h
    | succ k =>
      rw [List.take_succ_cons, orV] at h ⊢
      rw [orV]
      by_cases e : x = 0
      · rw [if_pos e] at h ⊢
        rw [if_pos e]
        exact ih h
      · rw [if_neg e]
        rw [if_neg e]
set_option maxRecDepth 100000 in
theorem rdi_at {w : World} {q : Nat → Prop} {p : Option Addr} {n c : Nat} {r : List Int} (h : Rd w q (.slice p n c) (r.map (fun z => Value.int .i64 z))) (hn : 0 < r.length) :
    n = r.length ∧ ∃ b off, p = some ⟨b, off, none⟩ ∧ q b ∧ ∀ i x, r[i]? = some x → w.cell? ⟨b, off + i, none⟩ = some (.int .i64 x) := by
  obtain ⟨p1, c1, e1, hx⟩ := h
  injection e1 with a1 a2 a3
  subst a1
  obtain ⟨b, off, hp, hq, hc⟩ := hx (by intro e; have := congrArg List.length e; simp only [List.length_map, List.length_nil] at this; omega)
  refine ⟨by rw [a2, List.length_map], b, off, hp, hq, fun i x hi => hc i _ ?_⟩
  rw [List.getElem?_map, hi]; rfl
set_option maxRecDepth 100000 in
set_option maxHeartbeats 1600000 in
theorem tor_any (r : List Int) (p : Option Addr) (c : Nat) (q : Nat → Prop) (w : World) (hR : Rd w q (.slice p r.length c) (r.map (fun z => Value.int .i64 z))) (hm : r.length ≤ 9223372036854775807) :
    Calls Try.prog 70 #[.slice p r.length c] w fun e w' => e = .returned (.int .i64 (orV r)) ∧ w' = w := by
  have HR := Lib.hid hR
  clear hR
  go_enter Try.func70, Try.ntmps70
  go_wp2_with fail
  go_loopw [8] (fun a wr => ∃ k : Nat, k ≤ r.length ∧ a = .int .i64 (k : Int) ∧ wr = w ∧ Hid (orV (r.take k) = 0)) (fun a _ => r.length - (RowKit.intOf a).toNat)
  case atStart => exact ⟨0, Nat.zero_le _, rfl, rfl, Lib.hid rfl⟩
  case round =>
    obtain ⟨k, hk, rfl, rfl, H0⟩ := hrel
    by_cases hlt : k < r.length
    · obtain ⟨-, b, off, rfl, hq, hc⟩ := rdi_at HR.out (by omega)
      obtain ⟨y, hy⟩ : ∃ y, r[k]? = some y := ⟨_, List.getElem?_eq_getElem hlt⟩
      have c0 := hc k y hy
      have HY := Lib.hid hy
      clear hc hy
      by_cases e : y = 0
      · have HE := Lib.hid e
        subst e
        go_wp2_with fail
        exact ⟨⟨k + 1, by omega, congrArg _ (by omega), trivial, Lib.hid (orV_take H0.out HY.out)⟩, by simp only [RowKit.intOf]; omega⟩
      · have e' : (y != 0) = true := by simpa using e
        go_wp2_with fail
        go_ret
        refine ⟨?_, rfl⟩
        have h1 := orV_take H0.out HY.out
        have h2 := orV_pre (r := r) (k := k + 1) (by rw [h1]; exact e)
        rw [h2, h1]; rfl
    · obtain rfl : k = r.length := by omega
      go_wp2_with fail
      go_ret
      have := H0.out
      rw [List.take_length] at this
      rw [this]
      exact ⟨rfl, rfl⟩
set_option maxRecDepth 100000 in
theorem rd_pair (w : World) (x y : Int) (q : Nat → Prop) (hq : q w.heap.size) : Rd (w.alloc (.cells #[.int .i64 x, .int .i64 y] 3)) q (.slice (some ⟨w.heap.size, 0, none⟩) 2 2) ([x, y].map (fun z => Value.int .i64 z)) := by
  have hb : (w.alloc (.cells #[.int .i64 x, .int .i64 y] 3)).heap[w.heap.size]? = some (.cells #[.int .i64 x, .int .i64 y] 3 (0, 0)) := heap_alloc_new w _
  refine ⟨_, 2, rfl, fun _ => ⟨_, _, rfl, hq, fun i u hi => ?_⟩⟩
  rw [Nat.zero_add, cell_of_row _ _ _ _ _ _ hb]
  simpa using hi
end Go.Proofs.Ytndfhgklhjfhkaa

/- identify: claims and plans, the mathematics. -/
namespace Go.Proofs.Ytndfhgklhjfhkaa
open Go.RowKit Bs
/-- A router's claim of an ID: router, subdomain, ID, length. -/
structure Od where
  r : Int
  s : Int
  i : Int
  l : Int
def odC (x : Od) : List Value := [.int .i64 x.r, .int .i64 x.s, .int .i64 x.i, .int .i64 x.l]
set_option maxRecDepth 100000 in
theorem od_len (x : Od) : (odC x).length = 4 := rfl
set_option maxRecDepth 100000 in
theorem od_one (x : Od) : ∀ u ∈ odC x, u.oneCell' = true := by
  intro u hu
  simp [odC] at hu
  rcases hu with rfl | rfl | rfl | rfl <;> rfl
def inV (n a b : Int) : Bool := decide (a ≤ n ∧ n ≤ b)
def wrO (x : Od) : Bool := !(inV x.r 1 99 && inV x.s 0 7 && inV x.i 1 256 && vl x.l)
def ltO (x y : Od) : Bool := decide (x.r < y.r ∨ (x.r = y.r ∧ x.s < y.s))
def cmpO (x y : Od) : Int := orV [cmpV x.r y.r, cmpV x.s y.s]
set_option maxRecDepth 100000 in
theorem cmpO_ge {x y : Od} : (0 ≤ cmpO x y) ↔ ltO x y = false := by
  unfold cmpO ltO orV orV orV cmpV
  rw [decide_eq_false_iff_not]
  repeat' split
  all_goals omega
/-- What Check returns. -/
def ckO (l : List Od) : Int := if 192 < l.length then 3 else if l.any wrO then 2 else if ascB ltO l then 0 else 25
def isO (sub id : Int) (x : Od) : Bool := decide (x.s = sub ∧ x.i = id)
/-- How many claims for a subdomain have an ID. -/
def cnt (l : List Od) (sub id : Int) : Nat := l.countP (isO sub id)
set_option maxRecDepth 100000 in
theorem cnt_snoc (l : List Od) (x : Od) (sub id : Int) : cnt (l ++ [x]) sub id = cnt l sub id + if x.s = sub ∧ x.i = id then 1 else 0 := by
  unfold cnt
  rw [List.countP_append]
  congr 1
  by_cases h : x.s = sub ∧ x.i = id
  · have e : isO sub id x = true := decide_eq_true h
    rw [if_pos h, List.countP_cons_of_pos e]; rfl
  · have e : ¬ isO sub id x = true := by unfold isO; simpa using h
    rw [if_neg h, List.countP_cons_of_neg e]; rfl
set_option maxRecDepth 100000 in
theorem cnt_take {l : List Od} {k : Nat} {x : Od} (hx : l[k]? = some x) (sub id : Int) : cnt (l.take (k + 1)) sub id = cnt (l.take k) sub id + if x.s = sub ∧ x.i = id then 1 else 0 := by
  rw [List.take_add_one, hx]
  exact cnt_snoc _ _ _ _
set_option maxRecDepth 100000 in
theorem cnt_le (l : List Od) (sub id : Int) : cnt l sub id ≤ l.length := List.countP_le_length
set_option maxRecDepth 100000 in
theorem ck_any {l : List Od} (h : ckO l = 0) : l.length ≤ 192 ∧ l.any wrO = false ∧ ascB ltO l = true := by
  unfold ckO at h
  by_cases h1 : 192 < l.length
  · rw [if_pos h1] at h; cases h
  · rw [if_neg h1] at h
    cases h2 : l.any wrO
    · rw [h2] at h
      cases h3 : ascB ltO l
      · rw [h3] at h; cases h
      · exact ⟨by omega, rfl, rfl⟩
    · rw [h2] at h; cases h
set_option maxRecDepth 100000 in
theorem wr_fields {x : Od} (h : wrO x = false) : (1 ≤ x.r ∧ x.r ≤ 99) ∧ (0 ≤ x.s ∧ x.s ≤ 7) ∧ (1 ≤ x.i ∧ x.i ≤ 256) ∧ vl x.l = true := by
  unfold wrO inV at h
  have h2 : (decide (1 ≤ x.r ∧ x.r ≤ 99) && decide (0 ≤ x.s ∧ x.s ≤ 7) && decide (1 ≤ x.i ∧ x.i ≤ 256) && vl x.l) = true := by
    cases hh : (decide (1 ≤ x.r ∧ x.r ≤ 99) && decide (0 ≤ x.s ∧ x.s ≤ 7) && decide (1 ≤ x.i ∧ x.i ≤ 256) && vl x.l)
    · rw [hh] at h; cases h
    · rfl
  simp only [Bool.and_eq_true, decide_eq_true_eq] at h2
  exact ⟨h2.1.1.1, h2.1.1.2, h2.1.2, h2.2⟩
set_option maxRecDepth 100000 in
theorem any_mem {α : Type} {p : α → Bool} {l : List α} (h : l.any p = false) {x : α} (hx : x ∈ l) : p x = false := by
  cases hp : p x
  · rfl
  · rw [List.any_eq_true.2 ⟨x, hx, hp⟩] at h; cases h
set_option maxRecDepth 100000 in
theorem ck_id {l : List Od} (h : ckO l = 0) {x : Od} (hx : x ∈ l) : 1 ≤ x.i ∧ x.i ≤ 256 := (wr_fields (any_mem (ck_any h).2.1 hx)).2.2.1
/-- The numbers from 0 to n - 1. -/
def idr (n : Nat) : List Int := (List.range n).map (fun k : Nat => (k : Int))
set_option maxRecDepth 100000 in
theorem idr_succ (n : Nat) : idr (n + 1) = idr n ++ [(n : Int)] := by
  unfold idr
  rw [List.range_succ, List.map_append]; rfl
set_option maxRecDepth 100000 in
theorem idr_mem {n : Nat} {x : Int} : x ∈ idr n ↔ 0 ≤ x ∧ x < n := by
  unfold idr
  rw [List.mem_map]
  constructor
  · rintro ⟨k, hk, rfl⟩
    have := List.mem_range.1 hk
    omega
  · intro h
    exact ⟨x.toNat, List.mem_range.2 (by omega), by omega⟩
/-- One claim more for the least length. -/
def lnS (sub : Int) (a : Int) (x : Od) : Int := if x.s = sub ∧ (a = 0 ∨ x.l < a) then x.l else a
def lnK (l : List Od) (sub : Int) : Int := l.foldl (lnS sub) 0
def lnO (l : List Od) (sub : Int) : Int := if ckO l = 0 then lnK l sub else 0
set_option maxRecDepth 100000 in
theorem lnK_take {l : List Od} {k : Nat} {x : Od} (hx : l[k]? = some x) (sub : Int) : lnK (l.take (k + 1)) sub = lnS sub (lnK (l.take k) sub) x := by
  unfold lnK
  rw [List.take_add_one, hx]
  show ((l.take k) ++ [x]).foldl _ _ = _
  rw [List.foldl_append]; rfl
/-- The least number from 1 to 256 that is not counted. -/
def FreeIs (c : Nat → Nat) (n : Int) (ok : Bool) : Prop :=
  (ok = true ∧ 1 ≤ n ∧ n ≤ 256 ∧ c n.toNat = 0 ∧ ∀ j : Nat, 1 ≤ j → (j : Int) < n → c j ≠ 0) ∨ (ok = false ∧ n = 0 ∧ ∀ j : Nat, 1 ≤ j → j ≤ 256 → c j ≠ 0)
set_option maxRecDepth 100000 in
theorem free_uniq {c d : Nat → Nat} (hcd : ∀ j : Nat, 1 ≤ j → j ≤ 256 → (c j = 0 ↔ d j = 0)) {n m : Int} {a b : Bool} (h : FreeIs c n a) (k : FreeIs d m b) : n = m ∧ a = b := by
  rcases h with ⟨rfl, h1, h2, h3, h4⟩ | ⟨rfl, rfl, h4⟩
  · rcases k with ⟨rfl, k1, k2, k3, k4⟩ | ⟨rfl, rfl, k4⟩
    · refine ⟨?_, rfl⟩
      rcases Int.lt_trichotomy n m with hlt | rfl | hlt
      · exact absurd ((hcd _ (by omega) (by omega)).1 h3) (k4 n.toNat (by omega) (by omega))
      · rfl
      · exact absurd ((hcd _ (by omega) (by omega)).2 k3) (h4 m.toNat (by omega) (by omega))
    · exact absurd ((hcd _ (by omega) (by omega)).1 h3) (k4 n.toNat (by omega) (by omega))
  · rcases k with ⟨rfl, k1, k2, k3, k4⟩ | ⟨rfl, rfl, k4⟩
    · exact absurd ((hcd _ (by omega) (by omega)).2 k3) (h4 m.toNat (by omega) (by omega))
    · exact ⟨rfl, rfl⟩
/-- A router and its ID. -/
structure Ed where
  r : Int
  i : Int
def edC (e : Ed) : List Value := [.int .i64 e.r, .int .i64 e.i]
set_option maxRecDepth 100000 in
theorem ed_one (x : Ed) : ∀ u ∈ edC x, u.oneCell' = true := by
  intro u hu
  simp [edC] at hu
  rcases hu with rfl | rfl <;> rfl
def edOf (x : Od) : Ed := ⟨x.r, x.i⟩
/-- The edges of claims in their order. -/
def e1P (l : List Od) (sub : Int) (x : Od) : Bool := decide (x.s = sub ∧ cnt l sub x.i = 1)
def e1K (l m : List Od) (sub : Int) : List Ed := (m.filter (e1P l sub)).map edOf
set_option maxRecDepth 100000 in
theorem e1K_yes {l m : List Od} {sub : Int} {k : Nat} {x : Od} (hx : m[k]? = some x) (h : x.s = sub ∧ cnt l sub x.i = 1) : e1K l (m.take (k + 1)) sub = e1K l (m.take k) sub ++ [edOf x] := by
  unfold e1K
  rw [List.take_add_one, hx]
  show List.map _ (List.filter _ (m.take k ++ [x])) = _
  have e : e1P l sub x = true := decide_eq_true h
  rw [List.filter_append, List.filter_cons_of_pos e, List.map_append]; rfl
set_option maxRecDepth 100000 in
theorem e1K_no {l m : List Od} {sub : Int} {k : Nat} {x : Od} (hx : m[k]? = some x) (h : ¬ (x.s = sub ∧ cnt l sub x.i = 1)) : e1K l (m.take (k + 1)) sub = e1K l (m.take k) sub := by
  unfold e1K
  rw [List.take_add_one, hx]
  show List.map _ (List.filter _ (m.take k ++ [x])) = _
  have e : ¬ e1P l sub x = true := by unfold e1P; simpa using h
  rw [List.filter_append, List.filter_cons_of_neg e, List.filter_nil, List.append_nil]
/-- The edges of one ID, and of the first n numbers. -/
def e2I (l : List Od) (sub id : Int) : List Ed := if cnt l sub id = 1 then (l.filter (isO sub id)).map edOf else []
def e2K (l : List Od) (sub : Int) (n : Nat) : List Ed := (idr n).flatMap (e2I l sub)
set_option maxRecDepth 100000 in
theorem e2K_succ (l : List Od) (sub : Int) (n : Nat) : e2K l sub (n + 1) = e2K l sub n ++ e2I l sub n := by
  unfold e2K
  rw [idr_succ, List.flatMap_append]
  simp
set_option maxRecDepth 100000 in
theorem one_of_count {α : Type} (p : α → Bool) : ∀ l : List α, l.countP p = 1 → ∃ x, x ∈ l ∧ l.filter p = [x]
  | l, h => by
    rw [List.countP_eq_length_filter] at h
    obtain ⟨x, hx⟩ := List.length_eq_one_iff.1 h
    exact ⟨x, (List.mem_filter.1 (by rw [hx]; exact List.mem_singleton.2 rfl : x ∈ l.filter p)).1, hx⟩
set_option maxRecDepth 100000 in
theorem e2I_mem {l : List Od} {sub id : Int} {e : Ed} (h : e ∈ e2I l sub id) : e.i = id := by
  unfold e2I at h
  split at h
  · obtain ⟨x, hx, rfl⟩ := List.mem_map.1 h
    exact (of_decide_eq_true (List.mem_filter.1 hx).2).2
  · cases h
set_option maxRecDepth 100000 in
theorem e2I_len (l : List Od) (sub id : Int) : (e2I l sub id).length ≤ 1 := by
  unfold e2I
  split
  · rename_i h
    obtain ⟨x, -, hx⟩ := one_of_count _ _ h
    rw [hx]; exact Nat.le_refl _
  · exact Nat.zero_le _
set_option maxRecDepth 100000 in
/-- The second form ascends by ID. -/
theorem e2K_asc (l : List Od) (sub : Int) : ∀ n : Nat, (∀ e ∈ e2K l sub n, 0 ≤ e.i ∧ e.i < n) ∧ (e2K l sub n).Pairwise (fun x y => x.i < y.i)
  | 0 => ⟨fun e he => (by cases he), List.Pairwise.nil⟩
  | n + 1 => by
    obtain ⟨h1, h2⟩ := e2K_asc l sub n
    rw [e2K_succ]
    refine ⟨fun e he => ?_, ?_⟩
    · rcases List.mem_append.1 he with h | h
      · have := h1 e h; omega
      · have := e2I_mem h; omega
    · refine List.pairwise_append.2 ⟨h2, ?_, fun x hx y hy => ?_⟩
      · have h3 := e2I_len l sub n
        rcases hh : e2I l sub n with _ | ⟨a, _ | ⟨b, t⟩⟩
        · exact List.Pairwise.nil
        · exact List.pairwise_singleton _ _
        · rw [hh] at h3; simp at h3
      · have := (h1 x hx).2
        have := e2I_mem hy
        omega
set_option maxRecDepth 100000 in
/-- Two lists that ascend by ID and hold the same edges are equal. -/
theorem asc_uniqE : ∀ E F : List Ed, E.Pairwise (fun x y => x.i < y.i) → F.Pairwise (fun x y => x.i < y.i) → (∀ e, e ∈ E ↔ e ∈ F) → E = F
  | [], F, _, _, h => by
    cases F with
    | nil => rfl
    | cons b t => exact absurd ((h b).2 (List.mem_cons_self ..)) (by simp)
  | a :: s, [], _, _, h => absurd ((h a).1 (List.mem_cons_self ..)) (by simp)
  | a :: s, b :: t, hE, hF, h => by
    obtain ⟨e1, e2⟩ := List.pairwise_cons.1 hE
    obtain ⟨f1, f2⟩ := List.pairwise_cons.1 hF
    have hab : a = b := by
      rcases List.mem_cons.1 ((h a).1 (List.mem_cons_self ..)) with h1 | h1
      · exact h1
      · rcases List.mem_cons.1 ((h b).2 (List.mem_cons_self ..)) with h2 | h2
        · exact h2.symm
        · have := f1 a h1
          have := e1 b h2
          omega
    subst hab
    congr 1
    refine asc_uniqE s t e2 f2 fun e => ?_
    constructor
    · intro hm
      rcases List.mem_cons.1 ((h e).1 (List.mem_cons_of_mem _ hm)) with h1 | h1
      · have := e1 e hm; rw [h1] at this; omega
      · exact h1
    · intro hm
      rcases List.mem_cons.1 ((h e).2 (List.mem_cons_of_mem _ hm)) with h1 | h1
      · have := f1 e hm; rw [h1] at this; omega
      · exact h1
set_option maxRecDepth 100000 in
theorem e1_mem {l : List Od} {sub : Int} {e : Ed} : e ∈ e1K l l sub ↔ ∃ x ∈ l, x.s = sub ∧ cnt l sub x.i = 1 ∧ edOf x = e := by
  unfold e1K
  rw [List.mem_map]
  constructor
  · rintro ⟨x, hx, rfl⟩
    obtain ⟨h1, h2⟩ := List.mem_filter.1 hx
    have := of_decide_eq_true h2
    exact ⟨x, h1, this.1, this.2, rfl⟩
  · rintro ⟨x, h1, h2, h3, rfl⟩
    exact ⟨x, List.mem_filter.2 ⟨h1, decide_eq_true ⟨h2, h3⟩⟩, rfl⟩
set_option maxRecDepth 100000 in
theorem e2_mem {l : List Od} (hv : ckO l = 0) {sub : Int} {e : Ed} : e ∈ e2K l sub 257 ↔ ∃ x ∈ l, x.s = sub ∧ cnt l sub x.i = 1 ∧ edOf x = e := by
  unfold e2K
  rw [List.mem_flatMap]
  constructor
  · rintro ⟨id, _, he⟩
    unfold e2I at he
    split at he
    · rename_i hc
      obtain ⟨x, hx, rfl⟩ := List.mem_map.1 he
      obtain ⟨h1, h2⟩ := List.mem_filter.1 hx
      have h3 := of_decide_eq_true h2
      exact ⟨x, h1, h3.1, by rw [h3.2]; exact hc, rfl⟩
    · cases he
  · rintro ⟨x, h1, h2, h3, rfl⟩
    have := ck_id hv h1
    refine ⟨x.i, idr_mem.2 (by omega), ?_⟩
    unfold e2I
    rw [if_pos h3]
    exact List.mem_map.2 ⟨x, List.mem_filter.2 ⟨h1, decide_eq_true ⟨h2, rfl⟩⟩, rfl⟩
set_option maxRecDepth 100000 in
/-- What is sorted of the first form is the second. -/
theorem edges_eq {l : List Od} (hv : ckO l = 0) (sub : Int) {F : List Ed} (hp : F.Perm (e1K l l sub)) (hs : F.Pairwise (fun x y => x.i ≤ y.i)) : F = e2K l sub 257 := by
  have hnd : ((e1K l l sub).map Ed.i).Nodup := by
    unfold e1K
    rw [List.map_map]
    show ((l.filter (e1P l sub)).map (Ed.i ∘ edOf)).Nodup
    rw [List.Nodup, List.pairwise_map]
    rw [List.pairwise_iff_getElem]
    intro i j hi hj hij he
    have hx := List.getElem_mem hi
    have hy := List.getElem_mem hj
    have h1 := of_decide_eq_true (List.mem_filter.1 hx).2
    have h2 := of_decide_eq_true (List.mem_filter.1 hy).2
    have he' : (l.filter (e1P l sub))[i].i = (l.filter (e1P l sub))[j].i := he
    obtain ⟨z, -, hz⟩ := one_of_count (isO sub (l.filter (e1P l sub))[i].i) l h1.2
    have hle : ((l.filter (e1P l sub)).filter (isO sub (l.filter (e1P l sub))[i].i)).length ≤ 1 := by
      have : ((l.filter (e1P l sub)).filter (isO sub (l.filter (e1P l sub))[i].i)).Sublist (l.filter (isO sub (l.filter (e1P l sub))[i].i)) := List.Sublist.filter _ List.filter_sublist
      have h3 := this.length_le
      rw [hz] at h3
      exact h3
    rw [← List.countP_eq_length_filter] at hle
    have h4 : 2 ≤ (l.filter (e1P l sub)).countP (isO sub (l.filter (e1P l sub))[i].i) := by
      have hsub : [(l.filter (e1P l sub))[i], (l.filter (e1P l sub))[j]].Sublist (l.filter (e1P l sub)) := by
        have h5 := List.drop_sublist i (l.filter (e1P l sub))
        rw [List.drop_eq_getElem_cons hi] at h5
        refine List.Sublist.trans ?_ h5
        refine List.Sublist.cons_cons _ ?_
        rw [List.singleton_sublist]
        rw [List.mem_iff_getElem]
        refine ⟨j - (i + 1), by rw [List.length_drop]; omega, ?_⟩
        rw [List.getElem_drop]
        congr 1; omega
      have h6 := List.Sublist.countP_le (p := isO sub (l.filter (e1P l sub))[i].i) hsub
      have q1 : isO sub (l.filter (e1P l sub))[i].i (l.filter (e1P l sub))[i] = true := decide_eq_true ⟨h1.1, rfl⟩
      have q2 : isO sub (l.filter (e1P l sub))[i].i (l.filter (e1P l sub))[j] = true := decide_eq_true ⟨h2.1, he'.symm⟩
      rw [List.countP_cons_of_pos q1, List.countP_cons_of_pos q2] at h6
      simpa using h6
    omega
  have hnd2 : (F.map Ed.i).Nodup := ((hp.map Ed.i).nodup_iff).2 hnd
  have hlt : F.Pairwise (fun x y => x.i < y.i) := by
    rw [List.Nodup, List.pairwise_map] at hnd2
    exact (hs.and hnd2).imp (fun h => by have := h.1; have := h.2; omega)
  refine asc_uniqE _ _ hlt (e2K_asc l sub 257).2 fun e => ?_
  rw [hp.mem_iff, e1_mem, e2_mem hv]
end Go.Proofs.Ytndfhgklhjfhkaa

/- topology: IndexFunc, ContainsFunc and ascending at routers and at links. -/
namespace Go.Proofs.Ytndfhgklhjfhkaa
open Go.RowKit Bs
abbrev EnterF (g : Nat) : Prop := ∀ (args : Array Value) (w : World), (callFunc g args).run Try.prog w = .ok (.enter g args) w

end Go.Proofs.Ytndfhgklhjfhkaa

/- Blocks that a call fills; the array of the routers that are known. -/
namespace Go.Proofs.Ytndfhgklhjfhkaa
open Go.RowKit Bs
end Go.Proofs.Ytndfhgklhjfhkaa

/- topology: joinsUnknown. -/
namespace Go.Proofs.Ytndfhgklhjfhkaa
open Go.RowKit Bs
end Go.Proofs.Ytndfhgklhjfhkaa

/- topology: Check, valid. -/
namespace Go.Proofs.Ytndfhgklhjfhkaa
open Go.RowKit Bs
end Go.Proofs.Ytndfhgklhjfhkaa

/- topology: neighbours. -/
namespace Go.Proofs.Ytndfhgklhjfhkaa
open Go.RowKit Bs
def tv (z : Int) : Value := .int .i64 z
/-- Numbers in a row of the call's own. -/
structure NK (w : World) (v : Value) (l : List Int) (wr : World) : Prop where
  own : wr.ownsRow w.heap.size 3 1 v l.length (l.map tv)
  gr : w.grownBy wr none
set_option maxRecDepth 100000 in
theorem NK.keep {w wr w' : World} {v : Value} {l : List Int} (h : NK w v l wr) (g : wr.grownBy w' none) : NK w v l w' :=
  ⟨h.own.kept g (by cases hv : v.ownBlock <;> simp), grown_trans h.gr g⟩
end Go.Proofs.Ytndfhgklhjfhkaa

/- topology: Contains of numbers and of hops; the closures of Without. -/
namespace Go.Proofs.Ytndfhgklhjfhkaa
open Go.RowKit Bs
end Go.Proofs.Ytndfhgklhjfhkaa

/- The reference's has, cost, Check of a topology. -/
namespace Go.Proofs.Ytndfhgklhjfhkaa
open Go.RowKit Bs
end Go.Proofs.Ytndfhgklhjfhkaa

/- topology: the closures of Without; what memory holds while it runs. -/
namespace Go.Proofs.Ytndfhgklhjfhkaa
open Go.RowKit Bs
set_option maxRecDepth 100000 in
/-- What is read lies below. -/
theorem RdF.old {w : World} {q : Nat → Prop} {v : Value} {n : Nat} {xs : List Value} (h : RdF w q v n xs) : RdF w (· < w.heap.size) v n xs := by
  obtain ⟨p, c, hv, hc⟩ := h
  refine ⟨p, c, hv, fun hne => ?_⟩
  obtain ⟨b, off, hp, hb, hx⟩ := hc hne
  obtain ⟨x, hx0⟩ : ∃ x, xs[0]? = some x := by
    cases xs with
    | nil => exact absurd rfl hne
    | cons a t => exact ⟨a, rfl⟩
  exact ⟨b, off, hp, World.block_lt_of_cell? w ⟨b, off + 0, none⟩ (hx 0 x hx0), hx⟩
set_option maxRecDepth 100000 in
theorem Rd.old {w : World} {q : Nat → Prop} {v : Value} {xs : List Value} (h : Rd w q v xs) : Rd w (· < w.heap.size) v xs := by
  obtain ⟨p, c, hv, hc⟩ := h
  refine ⟨p, c, hv, fun hne => ?_⟩
  obtain ⟨b, off, hp, hb, hx⟩ := hc hne
  obtain ⟨x, hx0⟩ : ∃ x, xs[0]? = some x := by
    cases xs with
    | nil => exact absurd rfl hne
    | cons a t => exact ⟨a, rfl⟩
  exact ⟨b, off, hp, World.block_lt_of_cell? w ⟨b, off + 0, none⟩ (hx 0 x hx0), hx⟩
end Go.Proofs.Ytndfhgklhjfhkaa

/- topology: Without. -/
namespace Go.Proofs.Ytndfhgklhjfhkaa
open Go.RowKit Bs
set_option maxRecDepth 100000 in
theorem grown_any {w w1 w2 : World} {r : Option Nat} (h : w.grownBy w1 none) (k : w1.grownBy w2 r) (hr : ∀ b, b < w.heap.size → some b ≠ r) : w.grownBy w2 none :=
  ⟨k.os.trans h.os, k.tape.trans h.tape, k.output.trans h.output, Nat.le_trans h.size k.size, fun b hb _ => (k.block b (Nat.lt_of_lt_of_le hb h.size) (hr b hb)).trans (h.block b hb (by simp))⟩
set_option maxRecDepth 100000 in
theorem own_shape {w : World} {base size n : Nat} {e : TypeId} {v : Value} {xs : List Value} (h : w.ownsRow base e size v n xs) : ∃ p c, v = .slice p n c ∧ n ≤ c ∧ c ≤ 9223372036854775807 := by
  rcases h.2 with ⟨rfl, h0⟩ | ⟨g, cap, cur, rfl, _, _, hn, hm, _⟩
  · subst h0
    exact ⟨none, 0, rfl, Nat.le_refl _, by omega⟩
  · unfold maxLen at hm
    exact ⟨_, cap, rfl, hn, by omega⟩
end Go.Proofs.Ytndfhgklhjfhkaa

/- Rows of structs: parts of them, and append. -/
namespace Go.Proofs.Ytndfhgklhjfhkaa
open Go.RowKit Bs
set_option maxRecDepth 100000 in
/-- A walk stops here. -/
theorem hold_on {p : Prop} (h : Hid p) : p := h.out
set_option maxRecDepth 100000 in
theorem flat_drop {α : Type} (f : α → List Value) (k : Nat) (hf : ∀ x, (f x).length = k) : ∀ (l : List α) (j : Nat), (l.drop j).flatMap f = (l.flatMap f).drop (j * k)
  | [], j => by simp
  | a :: t, 0 => by simp
  | a :: t, j + 1 => by
    rw [List.drop_succ_cons, flat_drop f k hf t j, List.flatMap_cons, Nat.add_mul, Nat.one_mul, Nat.add_comm, ← List.drop_drop, List.drop_append_of_le_length (by rw [hf]; exact Nat.le_refl _), ← hf a, List.drop_length, List.nil_append]
set_option maxRecDepth 100000 in
theorem RdF.rest {α : Type} {f : α → List Value} {k : Nat} (hf : ∀ x, (f x).length = k) {w : World} {q : Nat → Prop} {b off c : Nat} {l : List α} (h : RdF w q (.slice (some ⟨b, off, none⟩) l.length c) l.length (l.flatMap f)) (j : Nat) (c' : Nat) :
    RdF w q (.slice (some ⟨b, off + j * k, none⟩) (l.length - j) c') (l.drop j).length ((l.drop j).flatMap f) := by
  obtain ⟨p1, c1, e1, hx⟩ := h
  injection e1 with a1 a2 a3
  subst a1
  have hlen : (l.drop j).length = l.length - j := by rw [List.length_drop]
  rw [hlen]
  refine ⟨_, c', rfl, fun hne => ?_⟩
  rw [flat_drop f k hf] at hne ⊢
  obtain ⟨b1, off1, hp, hq, hc⟩ := hx (by intro e; rw [e] at hne; simp at hne)
  injection hp with hp
  injection hp with hb ho
  subst hb
  subst ho
  refine ⟨b, off + j * k, rfl, hq, fun i x hi => ?_⟩
  rw [List.getElem?_drop] at hi
  rw [Nat.add_assoc]
  exact hc _ x hi
set_option maxRecDepth 100000 in
theorem rdf_news {w : World} {q : Nat → Prop} {ad : Addr} {n c m : Nat} {xs : List Value} (hR : RdF w q (.slice (some ad) n c) m xs) : ∀ j u, xs[j]? = some u → w.cell? (ad.add j) = some u := by
  intro j u hj
  obtain ⟨p1, c1, e1, hx⟩ := hR
  injection e1 with a1 a2 a3
  subst a1
  obtain ⟨b, off, hp, hq, hc⟩ := hx (by intro e; rw [e] at hj; simp at hj)
  injection hp with hp
  subst hp
  rw [add_plain]
  exact hc j u hj
set_option maxRecDepth 100000 in
theorem rdf_one {w : World} {b off n : Nat} {xs : List Value} (q : Nat → Prop) (hq : q b) (h : ∀ j u, xs[j]? = some u → w.cell? ((⟨b, off, none⟩ : Addr).add j) = some u) (c : Nat) : RdF w q (.slice (some ⟨b, off, none⟩) n c) n xs :=
  ⟨_, c, rfl, fun _ => ⟨b, off, rfl, hq, fun i x hi => by have := h i x hi; rw [add_plain] at this; exact this⟩⟩
set_option maxRecDepth 100000 in
theorem wpList_append_f {α : Type} (f : α → List Value) (size bytes : Nat) (hsz : 0 < size) (hf : ∀ x, (f x).length = size) (hone : ∀ x, ∀ u ∈ f x, u.oneCell' = true) (e t : TypeId) (i : TypeInfo) (z : Value)
    (ht : Try.prog.underlying t = some (.slice e)) (hi : Try.prog.info? e = some i) (hz : i.zero = some z) (hsize : i.size = size) (hby : i.bytes = bytes) (hzs : z.cells.size = size) (hb40 : bytes ≤ 1000)
    {w : World} {ops : Array Oper} {rest : List Oper} {o : Oper} {a : Act} {Q : Exit → Act → World → Prop} (hgd : o.guard = none) (s x : Operand)
    (ho : o.op = .call { callee := .builtin .append, args := #[s, x], argTypes := #[t, t] }) (base : Nat) (v : Value) (l : List α) (n : Nat) (hn : n = l.length) (hs : a.eval s = v) (hown : w.ownsRow base e size v n (l.flatMap f))
    (p : Option Addr) (k c : Nat) (r : List α) (hx : a.eval x = .slice p k c) (hk : k = r.length) (hn0 : p = none → c = 0) (q : Nat → Prop) (hR : RdF w q (.slice p k c) r.length (r.flatMap f)) (hkc : k ≤ c) (h63 : n + r.length ≤ 100000) (hbase : base ≤ w.heap.size)
    (h : ∀ v' w', w'.ownsRow base e size v' (l ++ r).length ((l ++ r).flatMap f) → w.grownBy w' v.ownBlock → wpList Try.prog ops Q rest (a.put o.dst v') w') : wpList Try.prog ops Q (o :: rest) a w := by
  subst hn
  cases p with
  | none =>
    obtain rfl := hn0 rfl
    have hr : r.length = 0 := by omega
    obtain rfl := List.eq_nil_of_length_eq_zero hr
    obtain rfl : k = 0 := hk
    refine wpList_append_own_none hgd s x t ho base e i size ht hi v l.length (l.flatMap f) hs hown hx ?_
    refine h v w ?_ (grown_refl _ _)
    rw [List.append_nil]; exact hown
  | some ad =>
    have hb2 : (l.length + k) * bytes ≤ 140737488355328 := Nat.le_trans (Nat.mul_le_mul (show l.length + k ≤ 100000 by omega) hb40) (by decide)
    refine wpList_append_own w hgd s x t ho base e i z size bytes ht hi hz hsize hby hzs hsz v l.length (l.flatMap f) hs hown ad k c (r.flatMap f) hx (by rw [flat_len f size hf, hk]) (rdf_news hR) ?_ (by unfold maxLen; omega) hb2 hbase ?_
    · intro u hu
      obtain ⟨y, _, hy⟩ := List.mem_flatMap.1 hu
      exact hone y u hy
    · intro v' w' h1 h2 _
      refine h v' w' ?_ h2
      rw [List.length_append, List.flatMap_append, ← hk]; exact h1
set_option maxRecDepth 100000 in
theorem old_grow {w w1 : World} {base2 size2 : Nat} {e2 : TypeId} {v2 : Value} {m : Nat} {ys : List Value} {W : World} (g : W.grownBy w none) (hv : w.ownsRow base2 e2 size2 v2 m ys) (hb : W.heap.size ≤ base2) (k : w.grownBy w1 v2.ownBlock) : W.grownBy w1 none :=
  grown_any g k (fun b hlt e => by have := (hv.lt b e.symm).1; omega)
end Go.Proofs.Ytndfhgklhjfhkaa

/- identify: arrays by value, count. -/
namespace Go.Proofs.Ytndfhgklhjfhkaa
open Go.RowKit Bs
/-- The cells of an array. -/
def arrV (n : Nat) (f : Nat → Value) : Array Value := ((List.range n).map f).toArray
set_option maxRecDepth 100000 in
theorem arr_size (n : Nat) (f : Nat → Value) : (arrV n f).size = n := by simp [arrV]
set_option maxRecDepth 100000 in
theorem arr_at {n k : Nat} (f : Nat → Value) (h : k < n) : (arrV n f)[k]? = some (f k) := by
  unfold arrV
  simp [h]
set_option maxRecDepth 100000 in
theorem arr_set {n k : Nat} (f : Nat → Value) (v : Value) (h : k < n) : (arrV n f).setIfInBounds k v = arrV n (fun j => if j = k then v else f j) := by
  apply Array.ext'
  unfold arrV
  simp only [List.setIfInBounds_toArray]
  apply List.ext_getElem?
  intro j
  rw [List.getElem?_set]
  simp only [List.length_map, List.length_range, List.getElem?_map, List.getElem?_range]
  by_cases hj : k = j
  · subst hj
    simp [h]
  · by_cases hn : j < n
    · simp [hj, hn, List.getElem?_range, Ne.symm hj, fun e : j = k => hj e.symm]
    · simp [hj, hn]
set_option maxRecDepth 100000 in
theorem arr_congr {n : Nat} {f g : Nat → Value} (h : ∀ k, k < n → f k = g k) : arrV n f = arrV n g := by
  unfold arrV
  congr 1
  exact List.map_congr_left (fun k hk => h k (List.mem_range.1 hk))
set_option maxRecDepth 100000 in
theorem arr_one {n : Nat} {f : Nat → Value} (h : ∀ k, (f k).oneCell' = true) : (arrV n f).all (·.oneCell') = true := by
  rw [Array.all_eq_true_iff_forall_mem]
  intro v hv
  unfold arrV at hv
  rw [List.mem_toArray] at hv
  obtain ⟨k, -, rfl⟩ := List.mem_map.1 hv
  exact h k
def ivN (f : Nat → Nat) (k : Nat) : Value := .int .i64 (f k : Int)
def bvN (f : Nat → Bool) (k : Nat) : Value := .bool (f k)
set_option maxRecDepth 100000 in
theorem info_cs : (Try.prog.info? 92).map (fun i => (i.zero, i.size)) = some (some (.agg (arrV 257 (ivN fun _ => 0))), 257) := by kernel_rfl
set_option maxRecDepth 100000 in
theorem arr_row {w : World} {b n k : Nat} {f : Nat → Value} {t : TypeId} (h : w.heap[b]? = some (.cells (arrV n f) t (0, 0))) (hk : k < n) : w.cell? ⟨b, k, none⟩ = some (f k) := by
  rw [cell_of_row _ _ _ _ _ _ h]; exact arr_at f hk
set_option maxRecDepth 100000 in
theorem arr_put {w : World} {b n k : Nat} {f : Nat → Value} {t : TypeId} (v : Value) (h : w.heap[b]? = some (.cells (arrV n f) t (0, 0))) (hk : k < n) :
    (w.setCell ⟨b, k, none⟩ v).heap[b]? = some (.cells (arrV n (fun j => if j = k then v else f j)) t (0, 0)) ∧ w.grownBy (w.setCell ⟨b, k, none⟩ v) (some b) := by
  have h1 := heap_setCell_same w b k _ _ v h
  rw [arr_set f v hk] at h1
  exact ⟨h1, grown_setCell w ⟨b, k, none⟩ v⟩
set_option maxRecDepth 100000 in
theorem grown_setRow {w : World} {b : Nat} {cs : Array Value} : w.grownBy (w.setRow b cs) (some b) := by
  refine ⟨rfl, rfl, rfl, by simp, fun k hk hne => ?_⟩
  unfold World.setRow
  simp only [Array.getElem?_modify]
  have : b ≠ k := fun e => hne (by rw [e])
  simp [this]
set_option maxRecDepth 100000 in
theorem od_cells {w : World} {q : Nat → Prop} {p : Option Addr} {n c : Nat} {l : List Od} (h : RdF w q (.slice p n c) l.length (l.flatMap odC)) (hn : 0 < l.length) :
    n = l.length ∧ ∃ b off, p = some ⟨b, off, none⟩ ∧ q b ∧ ∀ i x, l[i]? = some x → w.cell? ⟨b, off + i * 4, none⟩ = some (.int .i64 x.r) ∧ w.cell? ⟨b, off + i * 4 + 1, none⟩ = some (.int .i64 x.s) ∧ w.cell? ⟨b, off + i * 4 + 2, none⟩ = some (.int .i64 x.i) ∧ w.cell? ⟨b, off + i * 4 + 3, none⟩ = some (.int .i64 x.l) := by
  obtain ⟨h0, b, off, hp, hq, hc⟩ := RdF.cells (f := odC) (k := 4) (fun _ => rfl) (by decide) h hn
  exact ⟨h0, b, off, hp, hq, fun i x hi => ⟨hc i x hi 0 _ rfl, hc i x hi 1 _ rfl, hc i x hi 2 _ rfl, hc i x hi 3 _ rfl⟩⟩
set_option maxRecDepth 100000 in
theorem ed_cells {w : World} {q : Nat → Prop} {p : Option Addr} {n c : Nat} {l : List Ed} (h : RdF w q (.slice p n c) l.length (l.flatMap edC)) (hn : 0 < l.length) :
    n = l.length ∧ ∃ b off, p = some ⟨b, off, none⟩ ∧ q b ∧ ∀ i x, l[i]? = some x → w.cell? ⟨b, off + i * 2, none⟩ = some (.int .i64 x.r) ∧ w.cell? ⟨b, off + i * 2 + 1, none⟩ = some (.int .i64 x.i) := by
  obtain ⟨h0, b, off, hp, hq, hc⟩ := RdF.cells (f := edC) (k := 2) (fun _ => rfl) (by decide) h hn
  exact ⟨h0, b, off, hp, hq, fun i x hi => ⟨hc i x hi 0 _ rfl, hc i x hi 1 _ rfl⟩⟩
end Go.Proofs.Ytndfhgklhjfhkaa
