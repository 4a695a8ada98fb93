/- Parts of the proof, packed: IoMath, IoWord, IoLeaf, IoTape, IoMem, IoRead, IoWild, ToKit, IoWrite, IoValid, IoRef, IoPut, IoRows, ToMath, ToMem, ToLeaf, ToFuns, IdM, ToSeek, ToRow, ToJoin, ToCheck, ToNear, ToHop, ToCheckR, ToFail, ToWith, ToRws, IdArr, IdLeaf, IdPlc, ToHasF, TaM. -/
import Derived.Lib.TrailingZeros
import Derived.IntWalk
import Derived.Laws.BitsAllLaws
import Derived.RowKit3
import Derived.Test.YtdkbdghkboeggaaRows
import Derived.WalkKit
import Derived.WalkSpells
import Derived.WalkLawsBesides
import Derived.Lib.Hide
import Derived.Deep.QuietTactic
import Derived.BigQuiet
import Derived.Shelf.Spec.TrailingZeros
import Derived.ProofKit
import Derived.OpenShut
import Derived.Deep.DeepHandedRow
import Derived.Lib.SmallJoins
import Derived.BigRegion
import Derived.Deep.LoopGhost
import Derived.Laws.AppendOwnNone
import Derived.Laws.CopyOwn
import Derived.Laws.ResultCell
import Derived.Deep.Onto
import Derived.Deep.AppendLies
import Derived.Deep.RegionHeld3
import Derived.Shelf.Abstract
import Derived.Deep.CutRange
import Derived.Deep.WholeRow
import Derived.Deep.CutBlock
/- Both. -/
namespace Go.Proofs.Ytdkbdghkboeggaa
namespace Bs
/- THE COUNT OF BITS, AS math/bits HAS IT: in halves, quarters, bytes; each step a byte at a time. -/
def k0 : Nat → Nat | 0 => 0 | k + 1 => 85 + 256 * k0 k
def k1 : Nat → Nat | 0 => 0 | k + 1 => 51 + 256 * k1 k
def k2 : Nat → Nat | 0 => 0 | k + 1 => 15 + 256 * k2 k
def t1 (k x : Nat) : Nat := (x / 2 &&& k0 k) + (x &&& k0 k)
def t2 (k x : Nat) : Nat := (x / 4 &&& k1 k) + (x &&& k1 k)
def t3 (k x : Nat) : Nat := (x / 16 + x) &&& k2 k
def p1 (d : Nat) : Nat := (d / 2 &&& 85) + (d &&& 85)
def p2 (d : Nat) : Nat := (d / 4 &&& 51) + (d &&& 51)
def p3 (d : Nat) : Nat := p2 (p1 d) % 16 + p2 (p1 d) / 16
/-- Bit i of a list of bytes. -/
def bt (l : List Nat) (i : Nat) : Bool := (l.getD (i / 8) 0).testBit (7 - i % 8)
end Bs
end Go.Proofs.Ytdkbdghkboeggaa

/- Both. -/
namespace Go.Proofs.Ytdkbdghkboeggaa
open Go.RowKit
namespace Bs
/-- A number of 64 bits. -/
def U64 (b : Nat) : Prop := b < 18446744073709551616
/-- An int of Go's. -/
def I64 (x : Int) : Prop := -9223372036854775808 ≤ x ∧ x ≤ 9223372036854775807
set_option maxRecDepth 100000 in
theorem U64.lt {b : Nat} (h : U64 b) : b < 18446744073709551616 := h
set_option maxRecDepth 100000 in
theorem u64_mk {b : Nat} (h : b < 18446744073709551616) : U64 b := h
set_option maxRecDepth 100000 in
theorem wrapU (x : Nat) (h : U64 x) : IntKind.u64.wrap (x : Int) = (x : Int) := by
  have := h.lt
  rw [IntKind.wrap_u64]; omega
set_option maxRecDepth 100000 in
theorem orU (a b : Nat) (ha : U64 a) (hb : U64 b) : bits .or .u64 (a : Int) (b : Int) = ((a ||| b : Nat) : Int) := u64_or_nat a b ha hb
/-- One bit; all bits below. Plain names, so that the walk doesn't open them. -/
def b2 (k : Nat) : Nat := 2 ^ k
def lo (k : Nat) : Nat := 2 ^ k - 1
set_option maxRecDepth 100000 in
theorem b2_u64 {k : Nat} (h : k < 64) : U64 (b2 k) := Nat.pow_lt_pow_right (n := 64) (by decide) h
end Bs
end Go.Proofs.Ytdkbdghkboeggaa

/- Both. -/
namespace Go.Proofs.Ytdkbdghkboeggaa
open Go.RowKit Bs

set_option maxRecDepth 100000 in
theorem ret_int {k : IntKind} {a b : Int} (h : a = b) : Ending.returned (.int k a) = .returned (.int k b) := by rw [h]
set_option maxRecDepth 100000 in
theorem ret_bool {a b : Bool} (h : a = b) : Ending.returned (.bool a) = .returned (.bool b) := by rw [h]

def vl (n : Int) : Bool := n == 8 || n == 16 || n == 32 || n == 64
set_option maxRecDepth 100000 in
theorem vl_cases {n : Int} (h : vl n = true) : n = 8 ∨ n = 16 ∨ n = 32 ∨ n = 64 := by
  unfold vl at h; simp at h; omega
set_option maxRecDepth 100000 in
set_option maxHeartbeats 400000 in
theorem vlp_any (n : Int) (w : World) :
    Calls Try.prog 78 #[.int .i64 n] w fun e w' => e = .returned (.bool (vl n)) ∧ w = w' := by
  go_enter Try.func78, Try.ntmps78
  go_wp2
  all_goals go_ret
  all_goals exact ⟨ret_bool (by first | rfl | (unfold vl; simp [*])), rfl⟩
set_option maxRecDepth 100000 in
set_option maxHeartbeats 400000 in
theorem vlr_any (n : Int) (w : World) :
    Calls Try.prog 46 #[.int .i64 n] w fun e w' => e = .returned (.bool (vl n)) ∧ w = w' := by
  go_enter Try.func46, Try.ntmps46
  go_wp2
  all_goals go_ret
  all_goals exact ⟨ret_bool (by first | rfl | (unfold vl; simp [*])), rfl⟩
set_option maxRecDepth 100000 in
theorem pow_word (k : Nat) (hk : k < 64) : IntKind.u64.wrap (2 ^ k) = ((b2 k : Nat) : Int) := by
  unfold b2
  have e : ((2 : Int) ^ k) = ((2 ^ k : Nat) : Int) := by simp
  rw [e]
  exact wrapU _ (Nat.pow_lt_pow_right (by decide) hk)
set_option maxRecDepth 100000 in
set_option maxHeartbeats 400000 in
theorem bit_any (k : Nat) (hk : k < 64) (w : World) :
    Calls Try.prog 26 #[.int .i64 (k : Int)] w fun e w' => e = .returned (.int .u64 ((b2 k : Nat) : Int)) ∧ w = w' := by
  go_enter Try.func26, Try.ntmps26
  go_wp2
  all_goals go_ret
  exact ⟨ret_int (pow_word k hk), rfl⟩
end Go.Proofs.Ytdkbdghkboeggaa

/- Both. -/
namespace Go.Proofs.Ytdkbdghkboeggaa
open Go.RowKit Bs

set_option maxRecDepth 100000 in
theorem grown_refl (w : World) (r : Option Nat) : w.grownBy w r := ⟨rfl, rfl, rfl, Nat.le_refl _, fun _ _ _ => rfl⟩
set_option maxRecDepth 100000 in
theorem grown_trans {w0 w1 w2 : World} {r : Option Nat} (h : w0.grownBy w1 r) (k : w1.grownBy w2 r) : w0.grownBy w2 r :=
  ⟨k.os.trans h.os, k.tape.trans h.tape, k.output.trans h.output, Nat.le_trans h.size k.size, fun b hb hr => (k.block b (Nat.lt_of_lt_of_le hb h.size) hr).trans (h.block b hb hr)⟩
set_option maxRecDepth 100000 in
theorem grown_setCell (w : World) (p : Addr) (u : Value) : w.grownBy (w.setCell p u) (some p.block) :=
  ⟨rfl, rfl, rfl, by simp [World.setCell], fun k _ hk => Below.heap_setCell _ _ _ _ (by simpa using hk)⟩
end Go.Proofs.Ytdkbdghkboeggaa

/- Both. -/
namespace Go.Proofs.Ytdkbdghkboeggaa
open Go.RowKit Bs

set_option maxRecDepth 100000 in
theorem info_int : (Try.prog.info? 3).map (fun i => (i.zero, i.size, i.bytes)) = some (some (.int .i64 0), 1, 8) := by kernel_rfl
/-- The slice value v reads as vs; where it has elements, its block meets q. -/
def Rd (w : World) (q : Nat → Prop) (v : Value) (vs : List Value) : Prop :=
  ∃ p c, v = .slice p vs.length c ∧ (vs ≠ [] → ∃ b off, p = some ⟨b, off, none⟩ ∧ q b ∧ ∀ i x, vs[i]? = some x → w.cell? ⟨b, off + i, none⟩ = some x)
set_option maxRecDepth 100000 in
theorem Rd.grown {w w' : World} {q : Nat → Prop} {v : Value} {vs : List Value} {r : Option Nat} (h : Rd w q v vs) (g : w.grownBy w' r) (hq : ∀ b, q b → some b ≠ r) : Rd w' q v vs := by
  obtain ⟨p, c, hv, hc⟩ := h
  refine ⟨p, c, hv, fun hne => ?_⟩
  obtain ⟨b, off, hp, hb, hx⟩ := hc hne
  exact ⟨b, off, hp, hb, fun i x hi => g.cell (hx i x hi) (hq b hb)⟩
set_option maxRecDepth 100000 in
theorem Rd.mono {w : World} {q q' : Nat → Prop} {v : Value} {vs : List Value} (h : Rd w q v vs) (hq : ∀ b, q b → q' b) : Rd w q' v vs := by
  obtain ⟨p, c, hv, hc⟩ := h
  refine ⟨p, c, hv, fun hne => ?_⟩
  obtain ⟨b, off, hp, hb, hx⟩ := hc hne
  exact ⟨b, off, hp, hq b hb, hx⟩
set_option maxRecDepth 100000 in
theorem Rd.keep {w w' : World} {q : Nat → Prop} {v : Value} {vs : List Value} (h : Rd w q v vs) (g : w.grownBy w' none) : Rd w' q v vs := h.grown g (fun _ _ => by simp)
set_option maxRecDepth 100000 in
theorem rd_of_own {w : World} {base : Nat} {e : TypeId} {v : Value} {n : Nat} {xs : List Value} (h : w.ownsRow base e 1 v n xs) : Rd w (base ≤ ·) v xs := by
  have hl : xs.length = n := by have := h.1; omega
  rcases h.2 with ⟨rfl, h0⟩ | ⟨g, cap, cur, rfl, hb, hg, _⟩
  · subst h0
    exact ⟨none, 0, by rw [hl], fun hne => absurd (List.eq_nil_of_length_eq_zero hl) hne⟩
  · refine ⟨some ⟨g, 0, none⟩, cap, by rw [hl], fun _ => ⟨g, 0, rfl, hb, fun i x hi => ?_⟩⟩
    have := h.cells (g := g) rfl i x hi
    have hadd : (⟨g, 0, none⟩ : Addr).add i = ⟨g, 0 + i, none⟩ := by unfold Addr.add; split <;> simp_all
    rw [hadd] at this
    exact this
set_option maxRecDepth 100000 in
theorem hid_drew {W w : World} {r : Option Nat} (h : Hid (W.grownBy w r)) : Hid (W.grownBy w.drew r) := Lib.hid ⟨h.out.os, h.out.tape, h.out.output, h.out.size, h.out.block⟩
set_option maxRecDepth 100000 in
theorem hid_more {W w w' : World} {r : Option Nat} (h : Hid (W.grownBy w r)) (k : w.grownBy w' r) : Hid (W.grownBy w' r) := Lib.hid (grown_trans h.out k)
end Go.Proofs.Ytdkbdghkboeggaa

/- The program's small functions, and its reading of bits. -/
namespace Go.Proofs.Ytdkbdghkboeggaa
open Go.RowKit Bs

set_option maxRecDepth 100000 in
theorem Rd.at_ {w : World} {q : Nat → Prop} {p : Option Addr} {n c i : Nat} {vs : List Value} {x : Value} (h : Rd w q (.slice p n c) vs) (hi : vs[i]? = some x) :
    ∃ b off, p = some ⟨b, off, none⟩ ∧ q b ∧ w.cell? ⟨b, off + i, none⟩ = some x := by
  obtain ⟨p1, c1, e1, hx⟩ := h
  injection e1 with a1 a2 a3
  subst a1
  obtain ⟨b, off, hp, hq, hc⟩ := hx (by intro e; rw [e] at hi; simp at hi)
  exact ⟨b, off, hp, hq, hc i x hi⟩
end Go.Proofs.Ytdkbdghkboeggaa

/- The tape's wild numbers; rows of a call's own while the tape turns. -/
namespace Go.Proofs.Ytdkbdghkboeggaa
open Go.RowKit Bs
end Go.Proofs.Ytdkbdghkboeggaa

/- (Without streams.) What every statement's proof shares: the arguments opened; the call's end shut. -/
namespace Go.Proofs.Ytdkbdghkboeggaa
open Go.ChangeShapes Go.WideShapes Go.ChangeAt Go.RowKit Go.Joins Bs

set_option maxRecDepth 100000 in
theorem kit_own : ownKnob Try.prog.godebug = none := by kernel_rfl
set_option maxRecDepth 100000 in
theorem kit_laid : laidOutB Try.prog = true := by kernel_rfl
set_option maxRecDepth 100000 in
theorem kit_cellsInt : Try.prog.cellsOf 3 = 1 := by kernel_rfl
section
variable {H : Type} {enc : TypeId × Value → H} {W W' : World}
/-- The types of these parameters can be read. -/
def Readable (P : Program) (ts : List TypeId) : Bool := ts.all fun t => P.readableRec t && decide (t < P.types.size)
set_option maxRecDepth 100000 in
theorem args_below {P : Program} (hl : laidOutB P = true) (hb : Below W.heap.size W W') {sp : Nat → Bool} : ∀ (ts : List TypeId) (vs : List Value) (ds : List (DataW H)) (ps : List MemPlace), Readable P ts = true →
    DataW.TrodAll enc P W 0 (fun _ => true) true ts vs ds ps → (∀ x ∈ ps, x.block < W.heap.size) → (∀ x ∈ ps, sp x.block = true) → DataW.TrodAll enc P W' 0 sp true ts vs ds ps := by
  intro ts
  induction ts with
  | nil =>
    intro vs ds ps _ h _ _
    cases vs with
    | nil => cases ds with
      | nil => exact h
      | cons _ _ => exact h.elim
    | cons _ _ => exact h.elim
  | cons t ts ih =>
    intro vs ds ps hr h hlt hs
    cases vs with
    | nil => exact h.elim
    | cons v vs => cases ds with
      | nil => exact h.elim
      | cons d ds =>
        obtain ⟨p, q, h1, h2, rfl⟩ := h
        have hr' : (P.readableRec t = true ∧ t < P.types.size) ∧ Readable P ts = true := by
          unfold Readable at hr ⊢
          rw [List.all_cons, Bool.and_eq_true, Bool.and_eq_true, decide_eq_true_eq] at hr
          exact hr
        exact ⟨p, q, WideElems.Trod_stays hl hr'.1.1 hr'.1.2 h1 (fun x hx => hb.same (hlt x (by simp [hx]))) (fun x hx => hs x (by simp [hx])),
          ih vs ds q hr'.2 h2 (fun x hx => hlt x (by simp [hx])) (fun x hx => hs x (by simp [hx])), rfl⟩
set_option maxRecDepth 100000 in
theorem below_of_grown (g : W.grownBy W' none) : Below W.heap.size W W' := ⟨g.os, g.tape, g.output, g.size, fun k hk => g.block k hk (by simp)⟩
set_option maxRecDepth 100000 in
/-- The end of a statement's call: it returned true, and made memory alone. -/
theorem law_post {f : Func} {s : ChangeSpec} {args : Array Value} {ds gs : List (DataW H)} {before : List MemPlace} (hr : Readable Try.prog f.params.toList = true) (hv : s.vars = [])
    (hres : f.resultTypes = #[4]) (hfn : (s.fn H (ds ++ gs)).results = [.lit (.bool true)] ∧ (s.fn H (ds ++ gs)).args = ds ∧ (s.fn H (ds ++ gs)).vars = [])
    (hW : DataW.Whole enc Try.prog f.params.toList s.vars false W args.toList ds gs before) (g : W.grownBy W' none) : s.post enc Try.prog f false true false false W args (.bool true) W' := by
  have hlt := hW.lt
  have hb := below_of_grown g
  obtain ⟨p, q, hA, hV, hp, _, _⟩ := id hW
  rw [hv] at hV
  obtain ⟨rfl, rfl⟩ := trodVars_none hV
  rw [List.append_nil] at hp
  subst hp
  refine ⟨ds, [], before, [], before, [], hW, ?_, ?_, ?_, hb.frame _, fun h => by cases h⟩
  · rw [hfn.1, hres]
    exact trodAll_mk1 (shut_bool Try.underlying4 _)
  · rw [hfn.2.1]
    exact args_below kit_laid hb _ _ _ _ hr hA hlt (fun x hx => by simpa using hlt x hx)
  · rw [hfn.2.2, hv]; rfl
end

section
variable {H : Type} {enc : TypeId × Value → H} {W : World} {base : Nat} {v : Value} {d : DataW H} {ps : List MemPlace}
set_option maxRecDepth 100000 in
theorem opn_i64 (hval : Value.okWide Try.prog W .any base 3 v) (h : DataW.Trod enc Try.prog W 0 (fun _ => true) true 3 v d ps) : ∃ n : Int, v = .int .i64 n ∧ I64 n := by
  obtain ⟨n, rfl, _, _, wf⟩ := open_int Try.underlying3 hval h
  refine ⟨n, rfl, ?_⟩
  simp [Lit.wf, IntKind.min, IntKind.max, IntKind.bits, IntKind.signed] at wf
  unfold I64; omega
set_option maxRecDepth 100000 in
theorem i64_wf {n : Int} (wf : (Lit.int .i64 n).wf = true) : I64 n := by
  simp [Lit.wf, IntKind.min, IntKind.max, IntKind.bits, IntKind.signed] at wf
  unfold I64; omega
end
section
variable {H : Type} {enc : TypeId × Value → H} {W : World} {base : Nat} {v : Value} {d : DataW H} {ps : List MemPlace}
end
end Go.Proofs.Ytdkbdghkboeggaa

/- A block of bytes that a call has made; the program's writing and moving of bits. -/
namespace Go.Proofs.Ytdkbdghkboeggaa
open Go.RowKit Bs

section
variable {w w' : World} {g : Nat} {l : List Nat}
end
end Go.Proofs.Ytdkbdghkboeggaa

/- Valid, of the program and of the reference. -/
namespace Go.Proofs.Ytdkbdghkboeggaa
open Go.RowKit Bs
/-- A stream is valid. -/
def vs (l : List Nat) (n : Int) : Bool := decide (0 ≤ n ∧ n ≤ 8192 ∧ l.length = (n.toNat + 7) / 8 ∧ ∀ i, i < 8 * l.length → n.toNat ≤ i → bt l i = false)
end Go.Proofs.Ytdkbdghkboeggaa

/- Of the reference: one bit, Valid. -/
namespace Go.Proofs.Ytdkbdghkboeggaa
open Go.RowKit Bs
end Go.Proofs.Ytdkbdghkboeggaa

/- Streams as values; the reference's Put. -/
namespace Go.Proofs.Ytdkbdghkboeggaa
open Go.RowKit Bs
set_option maxRecDepth 100000 in
theorem add_plain (b off j : Nat) : (⟨b, off, none⟩ : Addr).add j = ⟨b, off + j, none⟩ := by unfold Addr.add; split <;> simp_all
set_option maxRecDepth 100000 in
theorem grown_drew {w w' : World} {r : Option Nat} (h : w.grownBy w' r) : w.grownBy w'.drew r := ⟨h.os, h.tape, h.output, h.size, h.block⟩
set_option maxRecDepth 100000 in
/-- Two blocks laid one behind the other. -/
theorem two_boxes (w : World) (A Z : Array Value) (t u : TypeId) :
    ((w.alloc (.cells A t)).alloc (.cells Z u)).heap[w.heap.size]? = some (.cells A t (0, 0)) ∧ ((w.alloc (.cells A t)).alloc (.cells Z u)).heap[w.heap.size + 1]? = some (.cells Z u (0, 0)) ∧
      w.grownBy ((w.alloc (.cells A t)).alloc (.cells Z u)) none ∧ ((w.alloc (.cells A t)).alloc (.cells Z u)).heap.size = w.heap.size + 2 := by
  have e1 : (w.alloc (.cells A t)).heap.size = w.heap.size + 1 := by simp
  refine ⟨?_, ?_, grown_trans (World.grownBy_alloc w _ _) (World.grownBy_alloc _ _ _), by simp⟩
  · rw [Below.heap_alloc _ _ _ (by omega)]; exact heap_alloc_new w _
  · rw [← e1]; exact heap_alloc_new _ _
set_option maxRecDepth 100000 in
theorem kept_row {w w' : World} {b : Nat} {o : Obj} {r : Option Nat} (h : w.heap[b]? = some o) (g : w.grownBy w' r) (hr : some b ≠ r) : w'.heap[b]? = some o :=
  (g.block b (Array.getElem?_eq_some_iff.1 h).1 hr).trans h
set_option maxRecDepth 100000 in
theorem store2 {w : World} {b : Nat} {x y u z : Value} {t : TypeId} (h : w.heap[b]? = some (.cells #[x, y] t (0, 0))) : ((w.setCell ⟨b, 0, none⟩ u).setCell ⟨b, 1, none⟩ z).heap[b]? = some (.cells #[u, z] t (0, 0)) := by
  have e1 := heap_setCell_same w b 0 _ _ u h
  have e2 := heap_setCell_same _ b 1 _ _ z e1
  rw [e2]; rfl
set_option maxRecDepth 100000 in
theorem grown_store2 (w : World) (b : Nat) (u z : Value) : w.grownBy ((w.setCell ⟨b, 0, none⟩ u).setCell ⟨b, 1, none⟩ z) (some b) := grown_trans (grown_setCell w ⟨b, 0, none⟩ u) (grown_setCell _ ⟨b, 1, none⟩ z)
set_option maxRecDepth 100000 in
/-- What lies behind the call's start may turn. -/
theorem grown_new {w w1 w2 : World} {b : Nat} (h : w.grownBy w1 none) (k : w1.grownBy w2 (some b)) (hb : w.heap.size ≤ b) : w.grownBy w2 none :=
  ⟨k.os.trans h.os, k.tape.trans h.tape, k.output.trans h.output, Nat.le_trans h.size k.size, fun i hi _ => (k.block i (Nat.lt_of_lt_of_le hi h.size) (by intro e; have := Option.some.inj e; omega)).trans (h.block i hi (by simp))⟩
end Go.Proofs.Ytdkbdghkboeggaa

/- Rows of the call's own that grow apart. -/
namespace Go.Proofs.Ytdkbdghkboeggaa
open Go.RowKit Bs
end Go.Proofs.Ytdkbdghkboeggaa

/- Topologies: the mathematics. -/
namespace Go.Proofs.Ytdkbdghkboeggaa
open Go.RowKit Bs
/-- Strictly ascending. -/
def ascB {α : Type} (f : α → α → Bool) : List α → Bool
  | a :: b :: t => f a b && ascB f (b :: t)
  | _ => true
set_option maxRecDepth 100000 in
theorem ascB_iff {α : Type} (f : α → α → Bool) : ∀ l : List α, ascB f l = true ↔ ∀ i x y, l[i]? = some x → l[i + 1]? = some y → f x y = true
  | [] => by simp [ascB]
  | [a] => by simp [ascB]
  | a :: b :: t => by
    rw [ascB, Bool.and_eq_true, ascB_iff f (b :: t)]
    constructor
    · rintro ⟨h1, h2⟩ i x y hx hy
      cases i with
      | zero => simp at hx hy; subst hx; subst hy; exact h1
      | succ i => exact h2 i x y (by simpa using hx) (by simpa using hy)
    · intro h
      exact ⟨h 0 a b rfl rfl, fun i x y hx hy => h (i + 1) x y (by simpa using hx) (by simpa using hy)⟩
set_option maxRecDepth 100000 in
theorem any_take {α : Type} {p : α → Bool} {l : List α} {k : Nat} {x : α} (h : (l.take k).any p = false) (hx : l[k]? = some x) (hp : p x = false) : (l.take (k + 1)).any p = false := by
  rw [List.take_add_one, List.any_append, h, hx]
  simpa using hp
set_option maxRecDepth 100000 in
theorem any_at {α : Type} {p : α → Bool} {l : List α} {k : Nat} {x : α} (hx : l[k]? = some x) (hp : p x = true) : l.any p = true :=
  List.any_eq_true.2 ⟨x, List.mem_of_getElem? hx, hp⟩
set_option maxRecDepth 100000 in
theorem any_end {α : Type} {p : α → Bool} {l : List α} {k : Nat} (h : (l.take k).any p = false) (hk : l.length ≤ k) : l.any p = false := by
  rwa [List.take_of_length_le hk] at h
set_option maxRecDepth 100000 in
/-- The cells of a list of elements of k cells each. -/
theorem flat_at {α : Type} (f : α → List Value) (n : Nat) (hf : ∀ x, (f x).length = n) : ∀ (l : List α) (i j : Nat) (x : α), l[i]? = some x → j < n → (l.flatMap f)[i * n + j]? = (f x)[j]?
  | [], i, j, x, h, _ => by simp at h
  | m :: l, 0, j, x, h, hj => by
    obtain rfl : m = x := by simpa using h
    rw [List.flatMap_cons, Nat.zero_mul, Nat.zero_add, List.getElem?_append_left (by rw [hf]; exact hj)]
  | m :: l, i + 1, j, x, h, hj => by
    rw [List.flatMap_cons, List.getElem?_append_right (by rw [hf, Nat.add_mul]; omega), show (i + 1) * n + j - (f m).length = i * n + j by rw [hf, Nat.add_mul]; omega]
    exact flat_at f n hf l i j x (by simpa using h) hj
set_option maxRecDepth 100000 in
theorem flat_len {α : Type} (f : α → List Value) (n : Nat) (hf : ∀ x, (f x).length = n) : ∀ (l : List α), (l.flatMap f).length = l.length * n
  | [] => by simp
  | m :: l => by rw [List.flatMap_cons, List.length_append, hf, flat_len f n hf l, List.length_cons, Nat.add_mul]; omega
end Go.Proofs.Ytdkbdghkboeggaa

/- Topologies in memory. -/
namespace Go.Proofs.Ytdkbdghkboeggaa
open Go.RowKit Bs
set_option maxRecDepth 100000 in
theorem tone_box (w : World) (A : Array Value) (t : TypeId) : (w.alloc (.cells A t)).heap[w.heap.size]? = some (.cells A t (0, 0)) ∧ w.grownBy (w.alloc (.cells A t)) none :=
  ⟨heap_alloc_new w _, World.grownBy_alloc w _ _⟩
/-- The slice value v has n elements, whose cells are xs. -/
def RdF (w : World) (q : Nat → Prop) (v : Value) (n : Nat) (xs : List Value) : Prop :=
  ∃ p c, v = .slice p n c ∧ (xs ≠ [] → ∃ b off, p = some ⟨b, off, none⟩ ∧ q b ∧ ∀ i x, xs[i]? = some x → w.cell? ⟨b, off + i, none⟩ = some x)
set_option maxRecDepth 100000 in
theorem RdF.grown {w w' : World} {q : Nat → Prop} {v : Value} {n : Nat} {xs : List Value} {r : Option Nat} (h : RdF w q v n xs) (g : w.grownBy w' r) (hq : ∀ b, q b → some b ≠ r) : RdF w' q v n xs := by
  obtain ⟨p, c, hv, hc⟩ := h
  refine ⟨p, c, hv, fun hne => ?_⟩
  obtain ⟨b, off, hp, hb, hx⟩ := hc hne
  exact ⟨b, off, hp, hb, fun i x hi => g.cell (hx i x hi) (hq b hb)⟩
set_option maxRecDepth 100000 in
theorem RdF.keep {w w' : World} {q : Nat → Prop} {v : Value} {n : Nat} {xs : List Value} (h : RdF w q v n xs) (g : w.grownBy w' none) : RdF w' q v n xs := h.grown g (fun _ _ => by simp)
set_option maxRecDepth 100000 in
theorem RdF.mono {w : World} {q q' : Nat → Prop} {v : Value} {n : Nat} {xs : List Value} (h : RdF w q v n xs) (hq : ∀ b, q b → q' b) : RdF w q' v n xs := by
  obtain ⟨p, c, hv, hc⟩ := h
  refine ⟨p, c, hv, fun hne => ?_⟩
  obtain ⟨b, off, hp, hb, hx⟩ := hc hne
  exact ⟨b, off, hp, hq b hb, hx⟩
set_option maxRecDepth 100000 in
theorem rdf_nil (w : World) (q : Nat → Prop) (p : Option Addr) (c : Nat) : RdF w q (.slice p 0 c) 0 [] := ⟨p, c, rfl, fun h => absurd rfl h⟩
set_option maxRecDepth 100000 in
theorem rdf_of_own {w : World} {base size : Nat} {e : TypeId} {v : Value} {n : Nat} {xs : List Value} (h : w.ownsRow base e size v n xs) : RdF w (base ≤ ·) v n xs := by
  rcases h.2 with ⟨rfl, h0⟩ | ⟨g, cap, cur, rfl, hb, hg, _⟩
  · subst h0
    have hl : xs = [] := List.eq_nil_of_length_eq_zero (by have := h.1; omega)
    exact ⟨none, 0, rfl, fun hne => absurd hl hne⟩
  · refine ⟨some ⟨g, 0, none⟩, cap, rfl, fun _ => ⟨g, 0, rfl, hb, fun i x hi => ?_⟩⟩
    have := h.cells (g := g) rfl i x hi
    have hadd : (⟨g, 0, none⟩ : Addr).add i = ⟨g, 0 + i, none⟩ := by unfold Addr.add; split <;> simp_all
    rw [hadd] at this
    exact this
set_option maxRecDepth 100000 in
theorem RdF.cells {α : Type} {f : α → List Value} {k : Nat} (hf : ∀ x, (f x).length = k) (hk : 0 < k) {w : World} {q : Nat → Prop} {p : Option Addr} {n c : Nat} {l : List α} (h : RdF w q (.slice p n c) l.length (l.flatMap f)) (hn : 0 < l.length) :
    n = l.length ∧ ∃ b off, p = some ⟨b, off, none⟩ ∧ q b ∧ ∀ i x, l[i]? = some x → ∀ j y, (f x)[j]? = some y → w.cell? ⟨b, off + i * k + j, none⟩ = some y := by
  obtain ⟨p1, c1, e1, hx⟩ := h
  injection e1 with a1 a2 a3
  subst a1
  have hne : l.flatMap f ≠ [] := by
    intro e
    have h2 := flat_len f k hf l
    rw [e, List.length_nil] at h2
    have := Nat.mul_pos hn hk
    omega
  obtain ⟨b, off, hp, hq, hc⟩ := hx hne
  refine ⟨a2, b, off, hp, hq, fun i x hi j y hj => ?_⟩
  have hjk : j < k := by
    have := (List.getElem?_eq_some_iff.1 hj).1
    rw [hf] at this
    exact this
  rw [Nat.add_assoc]
  exact hc _ _ ((flat_at f k hf l i j x hi hjk).trans hj)
end Go.Proofs.Ytdkbdghkboeggaa

/- topology: within, wrongID, wrongNumbers, the comparisons. -/
namespace Go.Proofs.Ytdkbdghkboeggaa
open Go.RowKit Bs
end Go.Proofs.Ytdkbdghkboeggaa

/- topology: lists that are searched by functions; what is ascending. -/
namespace Go.Proofs.Ytdkbdghkboeggaa
open Go.RowKit Bs
set_option maxRecDepth 100000 in
theorem rdi_at {w : World} {q : Nat → Prop} {p : Option Addr} {n c : Nat} {r : List Int} (h : Rd w q (.slice p n c) (r.map (fun z => Value.int .i64 z))) (hn : 0 < r.length) :
    n = r.length ∧ ∃ b off, p = some ⟨b, off, none⟩ ∧ q b ∧ ∀ i x, r[i]? = some x → w.cell? ⟨b, off + i, none⟩ = some (.int .i64 x) := by
  obtain ⟨p1, c1, e1, hx⟩ := h
  injection e1 with a1 a2 a3
  subst a1
  obtain ⟨b, off, hp, hq, hc⟩ := hx (by intro e; have := congrArg List.length e; simp only [List.length_map, List.length_nil] at this; omega)
  refine ⟨by rw [a2, List.length_map], b, off, hp, hq, fun i x hi => hc i _ ?_⟩
  rw [List.getElem?_map, hi]; rfl
end Go.Proofs.Ytdkbdghkboeggaa

/- identify: claims and plans, the mathematics. -/
namespace Go.Proofs.Ytdkbdghkboeggaa
open Go.RowKit Bs
def inV (n a b : Int) : Bool := decide (a ≤ n ∧ n ≤ b)
end Go.Proofs.Ytdkbdghkboeggaa

/- topology: IndexFunc, ContainsFunc and ascending at routers and at links. -/
namespace Go.Proofs.Ytdkbdghkboeggaa
open Go.RowKit Bs
abbrev EnterF (g : Nat) : Prop := ∀ (args : Array Value) (w : World), (callFunc g args).run Try.prog w = .ok (.enter g args) w

end Go.Proofs.Ytdkbdghkboeggaa

/- Blocks that a call fills; the array of the routers that are known. -/
namespace Go.Proofs.Ytdkbdghkboeggaa
open Go.RowKit Bs
end Go.Proofs.Ytdkbdghkboeggaa

/- topology: joinsUnknown. -/
namespace Go.Proofs.Ytdkbdghkboeggaa
open Go.RowKit Bs
end Go.Proofs.Ytdkbdghkboeggaa

/- topology: Check, valid. -/
namespace Go.Proofs.Ytdkbdghkboeggaa
open Go.RowKit Bs
end Go.Proofs.Ytdkbdghkboeggaa

/- topology: neighbours. -/
namespace Go.Proofs.Ytdkbdghkboeggaa
open Go.RowKit Bs
def tv (z : Int) : Value := .int .i64 z
end Go.Proofs.Ytdkbdghkboeggaa

/- topology: Contains of numbers and of hops; the closures of Without. -/
namespace Go.Proofs.Ytdkbdghkboeggaa
open Go.RowKit Bs
def hasI (X : List Int) (x : Int) : Bool := X.any fun y => decide (y = x)
end Go.Proofs.Ytdkbdghkboeggaa

/- The reference's has, cost, Check of a topology. -/
namespace Go.Proofs.Ytdkbdghkboeggaa
open Go.RowKit Bs
end Go.Proofs.Ytdkbdghkboeggaa

/- topology: the closures of Without; what memory holds while it runs. -/
namespace Go.Proofs.Ytdkbdghkboeggaa
open Go.RowKit Bs
set_option maxRecDepth 100000 in
/-- What is read lies below. -/
theorem RdF.old {w : World} {q : Nat → Prop} {v : Value} {n : Nat} {xs : List Value} (h : RdF w q v n xs) : RdF w (· < w.heap.size) v n xs := by
  obtain ⟨p, c, hv, hc⟩ := h
  refine ⟨p, c, hv, fun hne => ?_⟩
  obtain ⟨b, off, hp, hb, hx⟩ := hc hne
  obtain ⟨x, hx0⟩ : ∃ x, xs[0]? = some x := by
    cases xs with
    | nil => exact absurd rfl hne
    | cons a t => exact ⟨a, rfl⟩
  exact ⟨b, off, hp, World.block_lt_of_cell? w ⟨b, off + 0, none⟩ (hx 0 x hx0), hx⟩
set_option maxRecDepth 100000 in
theorem Rd.old {w : World} {q : Nat → Prop} {v : Value} {xs : List Value} (h : Rd w q v xs) : Rd w (· < w.heap.size) v xs := by
  obtain ⟨p, c, hv, hc⟩ := h
  refine ⟨p, c, hv, fun hne => ?_⟩
  obtain ⟨b, off, hp, hb, hx⟩ := hc hne
  obtain ⟨x, hx0⟩ : ∃ x, xs[0]? = some x := by
    cases xs with
    | nil => exact absurd rfl hne
    | cons a t => exact ⟨a, rfl⟩
  exact ⟨b, off, hp, World.block_lt_of_cell? w ⟨b, off + 0, none⟩ (hx 0 x hx0), hx⟩
end Go.Proofs.Ytdkbdghkboeggaa

/- topology: Without. -/
namespace Go.Proofs.Ytdkbdghkboeggaa
open Go.RowKit Bs
set_option maxRecDepth 100000 in
theorem grown_any {w w1 w2 : World} {r : Option Nat} (h : w.grownBy w1 none) (k : w1.grownBy w2 r) (hr : ∀ b, b < w.heap.size → some b ≠ r) : w.grownBy w2 none :=
  ⟨k.os.trans h.os, k.tape.trans h.tape, k.output.trans h.output, Nat.le_trans h.size k.size, fun b hb _ => (k.block b (Nat.lt_of_lt_of_le hb h.size) (hr b hb)).trans (h.block b hb (by simp))⟩
set_option maxRecDepth 100000 in
theorem own_shape {w : World} {base size n : Nat} {e : TypeId} {v : Value} {xs : List Value} (h : w.ownsRow base e size v n xs) : ∃ p c, v = .slice p n c ∧ n ≤ c ∧ c ≤ 9223372036854775807 := by
  rcases h.2 with ⟨rfl, h0⟩ | ⟨g, cap, cur, rfl, _, _, hn, hm, _⟩
  · subst h0
    exact ⟨none, 0, rfl, Nat.le_refl _, by omega⟩
  · unfold maxLen at hm
    exact ⟨_, cap, rfl, hn, by omega⟩
end Go.Proofs.Ytdkbdghkboeggaa

/- Rows of structs: parts of them, and append. -/
namespace Go.Proofs.Ytdkbdghkboeggaa
open Go.RowKit Bs
set_option maxRecDepth 100000 in
/-- A walk stops here. -/
theorem hold_on {p : Prop} (h : Hid p) : p := h.out
set_option maxRecDepth 100000 in
theorem flat_drop {α : Type} (f : α → List Value) (k : Nat) (hf : ∀ x, (f x).length = k) : ∀ (l : List α) (j : Nat), (l.drop j).flatMap f = (l.flatMap f).drop (j * k)
  | [], j => by simp
  | a :: t, 0 => by simp
  | a :: t, j + 1 => by
    rw [List.drop_succ_cons, flat_drop f k hf t j, List.flatMap_cons, Nat.add_mul, Nat.one_mul, Nat.add_comm, ← List.drop_drop, List.drop_append_of_le_length (by rw [hf]; exact Nat.le_refl _), ← hf a, List.drop_length, List.nil_append]
set_option maxRecDepth 100000 in
theorem RdF.rest {α : Type} {f : α → List Value} {k : Nat} (hf : ∀ x, (f x).length = k) {w : World} {q : Nat → Prop} {b off c : Nat} {l : List α} (h : RdF w q (.slice (some ⟨b, off, none⟩) l.length c) l.length (l.flatMap f)) (j : Nat) (c' : Nat) :
    RdF w q (.slice (some ⟨b, off + j * k, none⟩) (l.length - j) c') (l.drop j).length ((l.drop j).flatMap f) := by
  obtain ⟨p1, c1, e1, hx⟩ := h
  injection e1 with a1 a2 a3
  subst a1
  have hlen : (l.drop j).length = l.length - j := by rw [List.length_drop]
  rw [hlen]
  refine ⟨_, c', rfl, fun hne => ?_⟩
  rw [flat_drop f k hf] at hne ⊢
  obtain ⟨b1, off1, hp, hq, hc⟩ := hx (by intro e; rw [e] at hne; simp at hne)
  injection hp with hp
  injection hp with hb ho
  subst hb
  subst ho
  refine ⟨b, off + j * k, rfl, hq, fun i x hi => ?_⟩
  rw [List.getElem?_drop] at hi
  rw [Nat.add_assoc]
  exact hc _ x hi
set_option maxRecDepth 100000 in
theorem rdf_news {w : World} {q : Nat → Prop} {ad : Addr} {n c m : Nat} {xs : List Value} (hR : RdF w q (.slice (some ad) n c) m xs) : ∀ j u, xs[j]? = some u → w.cell? (ad.add j) = some u := by
  intro j u hj
  obtain ⟨p1, c1, e1, hx⟩ := hR
  injection e1 with a1 a2 a3
  subst a1
  obtain ⟨b, off, hp, hq, hc⟩ := hx (by intro e; rw [e] at hj; simp at hj)
  injection hp with hp
  subst hp
  rw [add_plain]
  exact hc j u hj
set_option maxRecDepth 100000 in
theorem wpList_append_f {α : Type} (f : α → List Value) (size bytes : Nat) (hsz : 0 < size) (hf : ∀ x, (f x).length = size) (hone : ∀ x, ∀ u ∈ f x, u.oneCell' = true) (e t : TypeId) (i : TypeInfo) (z : Value)
    (ht : Try.prog.underlying t = some (.slice e)) (hi : Try.prog.info? e = some i) (hz : i.zero = some z) (hsize : i.size = size) (hby : i.bytes = bytes) (hzs : z.cells.size = size) (hb40 : bytes ≤ 1000)
    {w : World} {ops : Array Oper} {rest : List Oper} {o : Oper} {a : Act} {Q : Exit → Act → World → Prop} (hgd : o.guard = none) (s x : Operand)
    (ho : o.op = .call { callee := .builtin .append, args := #[s, x], argTypes := #[t, t] }) (base : Nat) (v : Value) (l : List α) (n : Nat) (hn : n = l.length) (hs : a.eval s = v) (hown : w.ownsRow base e size v n (l.flatMap f))
    (p : Option Addr) (k c : Nat) (r : List α) (hx : a.eval x = .slice p k c) (hk : k = r.length) (hn0 : p = none → c = 0) (q : Nat → Prop) (hR : RdF w q (.slice p k c) r.length (r.flatMap f)) (hkc : k ≤ c) (h63 : n + r.length ≤ 100000) (hbase : base ≤ w.heap.size)
    (h : ∀ v' w', w'.ownsRow base e size v' (l ++ r).length ((l ++ r).flatMap f) → w.grownBy w' v.ownBlock → wpList Try.prog ops Q rest (a.put o.dst v') w') : wpList Try.prog ops Q (o :: rest) a w := by
  subst hn
  cases p with
  | none =>
    obtain rfl := hn0 rfl
    have hr : r.length = 0 := by omega
    obtain rfl := List.eq_nil_of_length_eq_zero hr
    obtain rfl : k = 0 := hk
    refine wpList_append_own_none hgd s x t ho base e i size ht hi v l.length (l.flatMap f) hs hown hx ?_
    refine h v w ?_ (grown_refl _ _)
    rw [List.append_nil]; exact hown
  | some ad =>
    have hb2 : (l.length + k) * bytes ≤ 140737488355328 := Nat.le_trans (Nat.mul_le_mul (show l.length + k ≤ 100000 by omega) hb40) (by decide)
    refine wpList_append_own w hgd s x t ho base e i z size bytes ht hi hz hsize hby hzs hsz v l.length (l.flatMap f) hs hown ad k c (r.flatMap f) hx (by rw [flat_len f size hf, hk]) (rdf_news hR) ?_ (by unfold maxLen; omega) hb2 hbase ?_
    · intro u hu
      obtain ⟨y, _, hy⟩ := List.mem_flatMap.1 hu
      exact hone y u hy
    · intro v' w' h1 h2 _
      refine h v' w' ?_ h2
      rw [List.length_append, List.flatMap_append, ← hk]; exact h1
set_option maxRecDepth 100000 in
theorem old_grow {w w1 : World} {base2 size2 : Nat} {e2 : TypeId} {v2 : Value} {m : Nat} {ys : List Value} {W : World} (g : W.grownBy w none) (hv : w.ownsRow base2 e2 size2 v2 m ys) (hb : W.heap.size ≤ base2) (k : w.grownBy w1 v2.ownBlock) : W.grownBy w1 none :=
  grown_any g k (fun b hlt e => by have := (hv.lt b e.symm).1; omega)
end Go.Proofs.Ytdkbdghkboeggaa

/- identify: arrays by value, count. -/
namespace Go.Proofs.Ytdkbdghkboeggaa
open Go.RowKit Bs
end Go.Proofs.Ytdkbdghkboeggaa

/- identify: the leaves, of the program and of the reference. -/
namespace Go.Proofs.Ytdkbdghkboeggaa
open Go.RowKit Bs
set_option maxRecDepth 100000 in
theorem ivi_lit (n : Int) (b : Bool) (h : inV n 1 256 = b) (w : World) :
    Calls Try.prog 79 #[.int .i64 n] w fun e w' => e = .returned (.bool b) ∧ w = w' := by
  subst h
  unfold inV
  go_enter Try.func79, Try.ntmps79
  by_cases h1 : (1 : Int) ≤ n
  · by_cases h2 : n ≤ (256 : Int)
    · rw [decide_eq_true (show 1 ≤ n ∧ n ≤ 256 from ⟨h1, h2⟩)]
      go_wp2_with fail
      go_ret
      exact ⟨rfl, rfl⟩
    · rw [decide_eq_false (show ¬ (1 ≤ n ∧ n ≤ 256) from fun h => h2 h.2)]
      go_wp2_with fail
      go_ret
      exact ⟨rfl, rfl⟩
  · rw [decide_eq_false (show ¬ (1 ≤ n ∧ n ≤ 256) from fun h => h1 h.1)]
    go_wp2_with fail
    go_ret
    exact ⟨rfl, rfl⟩
set_option maxRecDepth 100000 in
theorem rin10_lit (n lo hi : Int) (b : Bool) (h : inV n lo hi = b) (w : World) :
    Calls Try.prog 47 #[.int .i64 n, .int .i64 lo, .int .i64 hi] w fun e w' => e = .returned (.bool b) ∧ w = w' := by
  subst h
  unfold inV
  go_enter Try.func47, Try.ntmps47
  by_cases h1 : lo ≤ n
  · by_cases h2 : n ≤ hi
    · rw [decide_eq_true (show lo ≤ n ∧ n ≤ hi from ⟨h1, h2⟩)]
      go_wp2_with fail
      go_ret
      exact ⟨rfl, rfl⟩
    · rw [decide_eq_false (show ¬ (lo ≤ n ∧ n ≤ hi) from fun h => h2 h.2)]
      go_wp2_with fail
      go_ret
      exact ⟨rfl, rfl⟩
  · rw [decide_eq_false (show ¬ (lo ≤ n ∧ n ≤ hi) from fun h => h1 h.1)]
    go_wp2_with fail
    go_ret
    exact ⟨rfl, rfl⟩
set_option maxRecDepth 100000 in
theorem vlp_lit (n : Int) (b : Bool) (h : vl n = b) (w : World) :
    Calls Try.prog 78 #[.int .i64 n] w fun e w' => e = .returned (.bool b) ∧ w = w' := by
  rw [← h]; exact vlp_any n w
set_option maxRecDepth 100000 in
theorem vlr10_lit (n : Int) (b : Bool) (h : vl n = b) (w : World) :
    Calls Try.prog 46 #[.int .i64 n] w fun e w' => e = .returned (.bool b) ∧ w = w' := by
  rw [← h]; exact vlr_any n w
end Go.Proofs.Ytdkbdghkboeggaa

/- identify: Place and At, of the program and of the reference. -/
namespace Go.Proofs.Ytdkbdghkboeggaa
open Go.RowKit Bs
/-- The set and the bit of an ID. -/
def plOk (id len : Int) : Bool := vl len && inV id 1 256
def plS (id len : Int) : Int := if plOk id len = true then (id - 1).tdiv len else 0
def plB (id len : Int) : Int := if plOk id len = true then (id - 1) % len else 0
set_option maxRecDepth 100000 in
theorem pl_fields {id len : Int} (h : plOk id len = true) : (len = 8 ∨ len = 16 ∨ len = 32 ∨ len = 64) ∧ 1 ≤ id ∧ id ≤ 256 := by
  unfold plOk inV at h
  rw [Bool.and_eq_true, decide_eq_true_eq] at h
  exact ⟨vl_cases h.1, h.2⟩
/-- The ID of a set and a bit. -/
def atOk (s b len : Int) : Bool := vl len && inV b 0 (len - 1) && inV s 0 31 && decide (s * len + b + 1 ≤ 256)
def atI (s b len : Int) : Int := if atOk s b len = true then s * len + b + 1 else 0
set_option maxRecDepth 100000 in
set_option maxHeartbeats 3200000 in
theorem iplc_any (id len : Int) (w : World) :
    Calls Try.prog 55 #[.int .i64 id, .int .i64 len] w fun e w' => e = .returned (.tuple #[.int .i64 (plS id len), .int .i64 (plB id len), .bool (plOk id len)]) ∧ w.grownBy w' none := by
  obtain ⟨b1, h1⟩ : ∃ b, vl len = b := ⟨_, rfl⟩
  obtain ⟨b2, h2⟩ : ∃ b, inV id 1 256 = b := ⟨_, rfl⟩
  have HO : Hid (plOk id len = (b1 && b2)) := Lib.hid (by unfold plOk; rw [h1, h2])
  have HL := Lib.hid h1
  have HI := Lib.hid h2
  clear h1 h2
  go_enter Try.func55, Try.ntmps55
  cases b1
  case false =>
    go_wp2_with (go_at_call 78; refine (vlp_lit _ _ HL.out _).mono ?_; rintro e w' ⟨rfl, rfl⟩)
    go_ret3
    have h0 : plOk id len = false := HO.out
    exact ⟨by unfold plS plB; rw [h0]; rfl, grown_refl _ _⟩
  cases b2
  case false =>
    go_wp2_with (first | (go_at_call 78; refine (vlp_lit _ _ HL.out _).mono ?_; rintro e w' ⟨rfl, rfl⟩) | (go_at_call 79; refine (ivi_lit _ _ HI.out _).mono ?_; rintro e w' ⟨rfl, rfl⟩))
    go_ret3
    have h0 : plOk id len = false := HO.out
    exact ⟨by unfold plS plB; rw [h0]; rfl, grown_refl _ _⟩
  have h0 : plOk id len = true := HO.out
  obtain ⟨hl, hi1, hi2⟩ := pl_fields h0
  have hS : plS id len = (id - 1).tdiv len := by unfold plS; rw [if_pos h0]
  have hB : plB id len = (id - 1) % len := by unfold plB; rw [if_pos h0]
  rw [h0, hS, hB]
  clear hS hB h0
  obtain ⟨m, rfl⟩ : ∃ m : Int, id = m + 1 := ⟨id - 1, by omega⟩
  rw [show m + 1 - 1 = m by omega]
  have e1 : m + 1 - 1 = m := by omega
  have e2 : IntKind.i64.wrap (m + 1 - 1) = m := by rw [e1, IntWalk.i64_in _ (by omega)]
  have e3 : IntKind.i64.wrap m = m := IntWalk.i64_in _ (by omega)
  have hm0 : 0 ≤ m := by omega
  have hm1 : m ≤ 255 := by omega
  have d0 : IntKind.i64.wrap (m.tdiv len) = m.tdiv len := IntWalk.i64_in _ (by
    rw [Int.tdiv_eq_ediv_of_nonneg hm0]
    rcases hl with rfl | rfl | rfl | rfl <;> omega)
  have d1 : IntKind.i64.wrap (m % len) = m % len := IntWalk.i64_in _ (by
    rcases hl with rfl | rfl | rfl | rfl <;> omega)
  have hn0 : (len == 0) = false := by rcases hl with rfl | rfl | rfl | rfl <;> rfl
  have hn1 : ¬ len = 0 := by rcases hl with rfl | rfl | rfl | rfl <;> decide
  clear hi1 hi2 hl
  go_wp2_with (first | (go_at_call 78; refine (vlp_lit _ _ HL.out _).mono ?_; rintro e w' ⟨rfl, rfl⟩) | (go_at_call 79; refine (ivi_lit _ _ HI.out _).mono ?_; rintro e w' ⟨rfl, rfl⟩))
  go_region
  all_goals
    go_wp2_with fail
    go_ret3
    exact ⟨rfl, grown_drew (grown_refl _ _)⟩
set_option maxRecDepth 100000 in
set_option maxHeartbeats 3200000 in
theorem irat_any (s b len : Int) (w : World) :
    Calls Try.prog 56 #[.int .i64 s, .int .i64 b, .int .i64 len] w fun e w' => e = .returned (.tuple #[.int .i64 (atI s b len), .bool (atOk s b len)]) ∧ w.grownBy w' none := by
  obtain ⟨b1, h1⟩ : ∃ b, vl len = b := ⟨_, rfl⟩
  obtain ⟨b2, h2⟩ : ∃ q, inV b 0 (len - 1) = q := ⟨_, rfl⟩
  obtain ⟨b3, h3⟩ : ∃ q, inV s 0 31 = q := ⟨_, rfl⟩
  obtain ⟨b4, h4⟩ : ∃ q, decide (s * len + b + 1 ≤ 256) = q := ⟨_, rfl⟩
  have HO : Hid (atOk s b len = (b1 && b2 && b3 && b4)) := Lib.hid (by unfold atOk; rw [h1, h2, h3, h4])
  have HL := Lib.hid h1
  have HB := Lib.hid h2
  have HS := Lib.hid h3
  have H4 := Lib.hid h4
  clear h1 h2 h3 h4
  go_enter Try.func56, Try.ntmps56
  cases b1
  case false =>
    go_wp2_with (go_at_call 46; refine (vlr10_lit _ _ HL.out _).mono ?_; rintro e w' ⟨rfl, rfl⟩)
    go_ret2
    have h0 : atOk s b len = false := HO.out
    exact ⟨by unfold atI; rw [h0]; rfl, grown_refl _ _⟩
  have hl := vl_cases HL.out
  have ew : IntKind.i64.wrap (len - 1) = len - 1 := IntWalk.i64_in _ (by rcases hl with rfl | rfl | rfl | rfl <;> omega)
  clear hl
  cases b2
  case false =>
    go_wp2_with (first | (go_at_call 46; refine (vlr10_lit _ _ HL.out _).mono ?_; rintro e w' ⟨rfl, rfl⟩) | (go_at_call 47; (first | with_reducible refine (rin10_lit b 0 (len - 1) _ HB.out _).mono ?_ | with_reducible refine (rin10_lit s 0 31 _ HS.out _).mono ?_); rintro e w' ⟨rfl, rfl⟩))
    go_ret2
    have h0 : atOk s b len = false := HO.out
    exact ⟨by unfold atI; rw [h0]; rfl, grown_refl _ _⟩
  cases b3
  case false =>
    go_wp2_with (first | (go_at_call 46; refine (vlr10_lit _ _ HL.out _).mono ?_; rintro e w' ⟨rfl, rfl⟩) | (go_at_call 47; (first | with_reducible refine (rin10_lit b 0 (len - 1) _ HB.out _).mono ?_ | with_reducible refine (rin10_lit s 0 31 _ HS.out _).mono ?_); rintro e w' ⟨rfl, rfl⟩))
    go_ret2
    have h0 : atOk s b len = false := HO.out
    exact ⟨by unfold atI; rw [h0]; rfl, grown_refl _ _⟩
  obtain ⟨z1, z2⟩ : 0 ≤ b ∧ b ≤ len - 1 := of_decide_eq_true HB.out
  obtain ⟨z3, z4⟩ : 0 ≤ s ∧ s ≤ 31 := of_decide_eq_true HS.out
  have hl := vl_cases HL.out
  have z5 : ¬ s < 0 := by omega
  have z6 : ¬ 31 < s := by omega
  have w1 : IntKind.i64.wrap (s * len) = s * len := IntWalk.i64_in _ (by rcases hl with rfl | rfl | rfl | rfl <;> omega)
  have w2 : IntKind.i64.wrap (s * len + b) = s * len + b := IntWalk.i64_in _ (by rcases hl with rfl | rfl | rfl | rfl <;> omega)
  have w3 : IntKind.i64.wrap (s * len + b + 1) = s * len + b + 1 := IntWalk.i64_in _ (by rcases hl with rfl | rfl | rfl | rfl <;> omega)
  clear hl z1 z2 z3 z4
  cases b4
  case false =>
    have z7 : 256 < s * len + b + 1 := by have := of_decide_eq_false H4.out; omega
    go_wp2_with (first | (go_at_call 46; refine (vlr10_lit _ _ HL.out _).mono ?_; rintro e w' ⟨rfl, rfl⟩) | (go_at_call 47; (first | with_reducible refine (rin10_lit b 0 (len - 1) _ HB.out _).mono ?_ | with_reducible refine (rin10_lit s 0 31 _ HS.out _).mono ?_); rintro e w' ⟨rfl, rfl⟩))
    go_ret2
    have h0 : atOk s b len = false := HO.out
    exact ⟨by unfold atI; rw [h0]; rfl, grown_refl _ _⟩
  have z7 : ¬ 256 < s * len + b + 1 := by have := of_decide_eq_true H4.out; omega
  go_wp2_with (first | (go_at_call 46; refine (vlr10_lit _ _ HL.out _).mono ?_; rintro e w' ⟨rfl, rfl⟩) | (go_at_call 47; (first | with_reducible refine (rin10_lit b 0 (len - 1) _ HB.out _).mono ?_ | with_reducible refine (rin10_lit s 0 31 _ HS.out _).mono ?_); rintro e w' ⟨rfl, rfl⟩))
  go_ret2
  have h0 : atOk s b len = true := HO.out
  exact ⟨by unfold atI; rw [h0]; rfl, grown_refl _ _⟩
set_option maxRecDepth 100000 in
theorem at_place {id len : Int} (h : plOk id len = true) : atOk (plS id len) (plB id len) len = true ∧ atI (plS id len) (plB id len) len = id := by
  obtain ⟨hl, h1, h2⟩ := pl_fields h
  have e1 : plS id len = (id - 1) / len := by unfold plS; rw [if_pos h, Int.tdiv_eq_ediv_of_nonneg (by omega)]
  have e2 : plB id len = (id - 1) % len := by unfold plB; rw [if_pos h]
  have hv : vl len = true := by unfold plOk at h; rw [Bool.and_eq_true] at h; exact h.1
  have h3 : atOk (plS id len) (plB id len) len = true := by
    unfold atOk inV
    rw [hv, e1, e2]
    simp only [Bool.true_and, Bool.and_eq_true, decide_eq_true_eq]
    rcases hl with rfl | rfl | rfl | rfl <;> omega
  refine ⟨h3, ?_⟩
  unfold atI
  rw [if_pos h3, e1, e2]
  rcases hl with rfl | rfl | rfl | rfl <;> omega
end Go.Proofs.Ytdkbdghkboeggaa

/- The reference's Has and Named; Same of equal topologies. -/
namespace Go.Proofs.Ytdkbdghkboeggaa
open Go.RowKit Bs
set_option maxRecDepth 100000 in
set_option maxHeartbeats 1600000 in
theorem rhas4_any (X : List Int) (x : Int) (p : Option Addr) (c : Nat) (q : Nat → Prop) (w : World) (hR : Rd w q (.slice p X.length c) (X.map tv)) (hm : X.length ≤ 9223372036854775807) :
    Calls Try.prog 28 #[.slice p X.length c, .int .i64 x] w fun e w' => e = .returned (.bool (hasI X x)) ∧ w = w' := by
  have HR := Lib.hid hR
  have HN0 : Hid ((X.take 0).any (fun y => decide (y = x)) = false) := Lib.hid rfl
  clear hR
  go_enter Try.func28, Try.ntmps28
  go_wp2_with fail
  go_loopw [5] (fun a wr => ∃ k : Nat, k ≤ X.length ∧ a = .int .i64 (k : Int) ∧ Hid ((X.take k).any (fun y => decide (y = x)) = false) ∧ wr = w) (fun a _ => X.length - (RowKit.intOf a).toNat)
  case atStart => exact ⟨0, Nat.zero_le _, rfl, HN0, rfl⟩
  case round =>
    obtain ⟨k, hk, rfl, HN, rfl⟩ := hrel
    by_cases hlt : k < X.length
    · obtain ⟨-, b, off, rfl, -, hc⟩ := rdi_at HR.out (by omega)
      obtain ⟨y, hy⟩ : ∃ y, X[k]? = some y := ⟨_, List.getElem?_eq_getElem hlt⟩
      have d0 := hc k y hy
      have HY := Lib.hid hy
      clear hc hy HN0
      by_cases hyx : y = x
      · have HT : Hid (hasI X x = true) := Lib.hid (any_at HY.out (decide_eq_true hyx))
        subst hyx
        go_wp2_with fail
        go_ret
        rw [HT.out]
        exact ⟨rfl, rfl⟩
      · have HN2 := Lib.hid (any_take HN.out HY.out (decide_eq_false hyx))
        have h' : (y == x) = false := by simpa using hyx
        go_wp2_with fail
        exact ⟨⟨k + 1, by omega, congrArg _ (by omega), HN2, (by first | rfl | trivial)⟩, by simp only [RowKit.intOf]; omega⟩
    · have HT : Hid (hasI X x = false) := Lib.hid (any_end HN.out (by omega))
      obtain rfl : k = X.length := by omega
      go_wp2_with fail
      go_ret
      rw [HT.out]
      exact ⟨rfl, rfl⟩
end Go.Proofs.Ytdkbdghkboeggaa

/- Tables: the mathematics, and how they lie in memory. -/
namespace Go.Proofs.Ytdkbdghkboeggaa
open Go.RowKit Bs
/-- A row: its ID, its next hops, and where they lie. -/
structure Rw where
  id : Int
  nx : List Int
  p : Option Addr
  c : Nat
def rwC (x : Rw) : List Value := [.int .i64 x.id, .slice x.p x.nx.length x.c]
/-- The next hops of a row can be read. -/
structure RwOk (w : World) (q : Nat → Prop) (x : Rw) : Prop where
  rd : Rd w q (.slice x.p x.nx.length x.c) (x.nx.map tv)
  hc : x.nx.length ≤ x.c ∧ x.c ≤ 9223372036854775807
set_option maxRecDepth 100000 in
theorem RwOk.grown {w w1 : World} {q : Nat → Prop} {r : Option Nat} {x : Rw} (h : RwOk w q x) (g : w.grownBy w1 r) (hq : ∀ b, q b → some b ≠ r) : RwOk w1 q x := ⟨h.rd.grown g hq, h.hc⟩
set_option maxRecDepth 100000 in
theorem RwOk.keep {w w1 : World} {q : Nat → Prop} {x : Rw} (h : RwOk w q x) (g : w.grownBy w1 none) : RwOk w1 q x := h.grown g (fun _ _ => by simp)
set_option maxRecDepth 100000 in
theorem RwOk.mono {w : World} {q q' : Nat → Prop} {x : Rw} (h : RwOk w q x) (hq : ∀ b, q b → q' b) : RwOk w q' x := ⟨h.rd.mono hq, h.hc⟩
/-- Rows in memory. -/
structure RdW (w : World) (q : Nat → Prop) (p : Option Addr) (c : Nat) (L : List Rw) : Prop where
  rd : RdF w q (.slice p L.length c) L.length (L.flatMap rwC)
  ok : ∀ x ∈ L, RwOk w q x
set_option maxRecDepth 100000 in
theorem RdW.grown {w w1 : World} {q : Nat → Prop} {r : Option Nat} {p : Option Addr} {c : Nat} {L : List Rw} (h : RdW w q p c L) (g : w.grownBy w1 r) (hq : ∀ b, q b → some b ≠ r) : RdW w1 q p c L := ⟨h.rd.grown g hq, fun x hx => (h.ok x hx).grown g hq⟩
set_option maxRecDepth 100000 in
theorem RdW.keep {w w1 : World} {q : Nat → Prop} {p : Option Addr} {c : Nat} {L : List Rw} (h : RdW w q p c L) (g : w.grownBy w1 none) : RdW w1 q p c L := h.grown g (fun _ _ => by simp)
set_option maxRecDepth 100000 in
theorem RdW.mono {w : World} {q q' : Nat → Prop} {p : Option Addr} {c : Nat} {L : List Rw} (h : RdW w q p c L) (hq : ∀ b, q b → q' b) : RdW w q' p c L := ⟨h.rd.mono hq, fun x hx => (h.ok x hx).mono hq⟩
set_option maxRecDepth 100000 in
theorem rw_cells {w : World} {q : Nat → Prop} {p : Option Addr} {n c : Nat} {L : List Rw} (h : RdF w q (.slice p n c) L.length (L.flatMap rwC)) (hn : 0 < L.length) :
    n = L.length ∧ ∃ b off, p = some ⟨b, off, none⟩ ∧ q b ∧ ∀ i x, L[i]? = some x → w.cell? ⟨b, off + i * 2, none⟩ = some (.int .i64 x.id) ∧ w.cell? ⟨b, off + i * 2 + 1, none⟩ = some (.slice x.p x.nx.length x.c) := by
  obtain ⟨h0, b, off, hp, hq, hc⟩ := RdF.cells (f := rwC) (k := 2) (fun _ => rfl) (by decide) h hn
  exact ⟨h0, b, off, hp, hq, fun i x hi => ⟨hc i x hi 0 _ rfl, hc i x hi 1 _ rfl⟩⟩
def ltI (x y : Int) : Bool := decide (x < y)
def wrW (x : Rw) : Bool := !inV x.id 1 256 || x.nx.any fun z => !inV z 1 99
def lgW (x : Rw) : Bool := decide (24 < x.nx.length)
def ltW (x y : Rw) : Bool := decide (x.id < y.id)
def dsW (x : Rw) : Bool := !ascB ltI x.nx
def cfW (r : Int) (x : Rw) : Bool := decide (1 < x.nx.length) && x.nx.any fun z => decide (z = r)
def hdT (r s n : Int) (L : List Rw) : Bool := !(inV r 1 99 && inV s 0 7 && (vl n || (decide (n = 0) && decide (L.length = 0))))
/-- What Check returns. -/
def ckT (r s n : Int) (L : List Rw) : Int :=
  if hdT r s n L = true then 2 else if L.any wrW = true then 2 else if 256 < L.length then 3 else if L.any lgW = true then 3 else if ascB ltW L = false then 25 else if L.any dsW = true then 25 else if L.any (cfW r) = true then 8 else 0
set_option maxRecDepth 100000 in
theorem ck_ok {r s n : Int} {L : List Rw} (h : ckT r s n L = 0) : hdT r s n L = false ∧ L.any wrW = false ∧ L.length ≤ 256 ∧ L.any lgW = false ∧ ascB ltW L = true ∧ L.any dsW = false ∧ L.any (cfW r) = false := by
  unfold ckT at h
  split at h
  · cases h
  · rename_i h1
    split at h
    · cases h
    · rename_i h2
      split at h
      · cases h
      · rename_i h3
        split at h
        · cases h
        · rename_i h4
          split at h
          · cases h
          · rename_i h5
            split at h
            · cases h
            · rename_i h6
              split at h
              · cases h
              · rename_i h7
                refine ⟨by simpa using h1, by simpa using h2, by omega, by simpa using h4, by simpa using h5, by simpa using h6, by simpa using h7⟩
set_option maxRecDepth 100000 in
theorem tvT_at {w : World} {q : Nat → Prop} {p : Option Addr} {n c i : Nat} {x : Int} {X : List Int} (h : Rd w q (.slice p n c) (X.map tv)) (hi : X[i]? = some x) :
    n = X.length ∧ ∃ b off, p = some ⟨b, off, none⟩ ∧ q b ∧ ∀ j y, X[j]? = some y → w.cell? ⟨b, off + j, none⟩ = some (.int .i64 y) := by
  obtain ⟨p1, c1, e1, hx⟩ := h
  injection e1 with a1 a2 a3
  subst a1
  have hne : X.map tv ≠ [] := by
    intro e
    have := List.map_eq_nil_iff.1 e
    subst this
    simp at hi
  obtain ⟨b, off, hp, hq, hc⟩ := hx hne
  exact ⟨by rw [a2, List.length_map], b, off, hp, hq, fun j y hj => hc j (tv y) (by rw [List.getElem?_map, hj]; rfl)⟩
end Go.Proofs.Ytdkbdghkboeggaa
