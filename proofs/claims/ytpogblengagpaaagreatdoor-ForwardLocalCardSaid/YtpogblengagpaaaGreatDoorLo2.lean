/- Parts of the proof, packed: IoKit, IoWrite, IoValid, IoRef, IoPut, IoZeros, IoTake, IoAppend, IoAppendR, IoSlice, IoJoin, IoAlign, IoCheck, Spread, Full, PkBits, PkOpn, FwOpn, FwM. -/
import Derived.Test.YtpogblengagpaaaGreatDoorLo1
import Derived.Test.YtpogblengagpaaaGreatDoorCards
import Derived.Test.YtpogblengagpaaaGreatDoorTie
import Derived.ProofKit
import Derived.OpenShut
import Derived.Deep.DeepHandedRow
import Derived.Lib.LaidTab
import Derived.Lib.SmallJoins
import Derived.BigRegion
import Derived.Deep.LoopGhost
import Derived.Laws.AppendOwnNone
import Derived.Laws.CopyOwn
import Derived.Laws.ResultCell
import Derived.Deep.Onto
import Derived.Deep.AppendLies
import Derived.Deep.RegionHeld3
import Derived.Deep.OwnRows
import Derived.WalkMore
/- Both. -/
namespace Go.Proofs.YtpogblengagpaaaGreatDoor
set_option maxRecDepth 100000
open Go.ChangeShapes Go.WideShapes Go.ChangeAt Go.RowKit Bs

theorem kit_own : ownKnob Tryz.prog.godebug = none := by kernel_rfl
theorem kit_laid : laidOutB Tryz.prog = true := by kernel_rfl
theorem kit_tab : Tryz.prog.globalNamed "math/bits.deBruijn64tab" = some 0 := by kernel_rfl
theorem kit_tabType : (Tryz.prog.globals[0]?).map (·.type) = some 149 := by kernel_rfl
theorem kit_cellsTab : Tryz.prog.cellsOf 149 = 64 := by kernel_rfl
theorem kit_cellsByte : Tryz.prog.cellsOf 5 = 1 := by kernel_rfl
theorem kit_cellsInt : Tryz.prog.cellsOf 3 = 1 := by kernel_rfl
theorem kit_cellsU64 : Tryz.prog.cellsOf 26 = 1 := by kernel_rfl
theorem kit_table {W : World} (h : laidMetH Tryz.prog [("math/bits.deBruijn64tab", Rows.laid_math_bits_deBruijn64tab)] W) : Tb W := by
 have T : Lib.TabIs Tryz.prog W "math/bits.deBruijn64tab" .u8 (Lib.deBruijn64tab.map fun n : Nat => (n : Int)) :=
  Lib.tabIs_of_head (rest := []) kit_tab kit_tabType Tryz.underlying149 Tryz.underlying5 kit_cellsByte kit_cellsTab h
 intro j hj
 have := T.cell kit_tab j (by simpa using hj)
 rw [this]
 congr 2
 rw [List.getD_eq_getElem?_getD, List.getD_eq_getElem?_getD, List.getElem?_map]
 cases Lib.deBruijn64tab[j]? <;> rfl

section
variable {H : Type} {enc : TypeId × Value → H} {W W' : World}
def Readable (P : Program) (ts : List TypeId) : Bool := ts.all fun t => P.readableRec t && decide (t < P.types.size)
theorem args_below {P : Program} (hl : laidOutB P = true) (hb : Below W.heap.size W W') {sp : Nat → Bool} : ∀ (ts : List TypeId) (vs : List Value) (ds : List (DataW H)) (ps : List MemPlace), Readable P ts = true →
  DataW.TrodAll enc P W 0 (fun _ => true) true ts vs ds ps → (∀ x ∈ ps, x.block < W.heap.size) → (∀ x ∈ ps, sp x.block = true) → DataW.TrodAll enc P W' 0 sp true ts vs ds ps := by
 intro ts
 induction ts with
 | nil =>
  intro vs ds ps _ h _ _
  cases vs with
  | nil => cases ds with
   | nil => exact h
   | cons _ _ => exact h.elim
  | cons _ _ => exact h.elim
 | cons t ts ih =>
  intro vs ds ps hr h hlt hs
  cases vs with
  | nil => exact h.elim
  | cons v vs => cases ds with
   | nil => exact h.elim
   | cons d ds =>
    obtain ⟨p, q, h1, h2, rfl⟩ := h
    have hr' : (P.readableRec t = true ∧ t < P.types.size) ∧ Readable P ts = true := by
     unfold Readable at hr ⊢
     rw [List.all_cons, Bool.and_eq_true, Bool.and_eq_true, decide_eq_true_eq] at hr
     exact hr
    exact ⟨p, q, WideElems.Trod_stays hl hr'.1.1 hr'.1.2 h1 (fun x hx => hb.same (hlt x (by simp [hx]))) (fun x hx => hs x (by simp [hx])),
     ih vs ds q hr'.2 h2 (fun x hx => hlt x (by simp [hx])) (fun x hx => hs x (by simp [hx])), rfl⟩
theorem below_of_grown (g : W.grownBy W' none) : Below W.heap.size W W' := ⟨g.os, g.tape, g.output, g.size, fun k hk => g.block k hk (by simp)⟩
theorem law_post {f : Func} {s : ChangeSpec} {args : Array Value} {ds gs : List (DataW H)} {before : List MemPlace} (hr : Readable Tryz.prog f.params.toList = true) (hv : s.vars = [])
  (hres : f.resultTypes = #[4]) (hfn : (s.fn H (ds ++ gs)).results = [.lit (.bool true)] ∧ (s.fn H (ds ++ gs)).args = ds ∧ (s.fn H (ds ++ gs)).vars = [])
  (hW : DataW.Whole enc Tryz.prog f.params.toList s.vars false W args.toList ds gs before) (g : W.grownBy W' none) : s.post enc Tryz.prog f false true false false W args (.bool true) W' := by
 have hlt := hW.lt
 have hb := below_of_grown g
 obtain ⟨p, q, hA, hV, hp, _, _⟩ := id hW
 rw [hv] at hV
 obtain ⟨rfl, rfl⟩ := trodVars_none hV
 rw [List.append_nil] at hp
 subst hp
 refine ⟨ds, [], before, [], before, [], hW, ?_, ?_, ?_, hb.frame _, fun h => by cases h⟩
 ·rw [hfn.1, hres]
  exact trodAll_mk1 (shut_bool Tryz.underlying4 _)
 ·rw [hfn.2.1]
  exact args_below kit_laid hb _ _ _ _ hr hA hlt (fun x hx => by simpa using hlt x hx)
 ·rw [hfn.2.2, hv]; rfl
end

section
variable {H : Type} {enc : TypeId × Value → H} {W : World} {base : Nat} {v : Value} {d : DataW H} {ps : List MemPlace}
theorem opn_i64 (hval : Value.okWide Tryz.prog W .any base 3 v) (h : DataW.Trod enc Tryz.prog W 0 (fun _ => true) true 3 v d ps) : ∃ n : Int, v = .int .i64 n ∧ I64 n := by
 obtain ⟨n, rfl, _, _, wf⟩ := open_int Tryz.underlying3 hval h
 refine ⟨n, rfl, ?_⟩
 simp [Lit.wf, IntKind.min, IntKind.max, IntKind.bits, IntKind.signed] at wf
 unfold I64; omega
theorem i64_wf {n : Int} (wf : (Lit.int .i64 n).wf = true) : I64 n := by
 simp [Lit.wf, IntKind.min, IntKind.max, IntKind.bits, IntKind.signed] at wf
 unfold I64; omega
theorem opn_slice {T E : TypeId} {k : IntKind} (ht : Tryz.prog.underlying T = some (.slice E)) (he : Tryz.prog.underlying E = some (.int k)) (hc : Tryz.prog.cellsOf E = 1)
  (hval : Value.okWide Tryz.prog W .any base T v) (h : DataW.Trod enc Tryz.prog W 0 (fun _ => true) true T v d ps) :
  ∃ zs : List Int, (∀ z ∈ zs, (Lit.int k z).wf = true) ∧ Rd W (· < W.heap.size) v (zs.map fun z => .int k z) ∧ ∃ p c, v = .slice p zs.length c ∧ zs.length ≤ c ∧ c ≤ 9223372036854775807 := by
 obtain ⟨p0, n0, c0, rfl⟩ := okWide_slice ht hval
 obtain ⟨fuel, hf⟩ := h
 rcases open_ints ht he hc hf with ⟨hcs, _⟩ | ⟨a, len, cap, zs, hcs, _, hl, hm, hz, _, hcell, hw⟩
 ·simp [Value.cells] at hcs
  obtain ⟨rfl, rfl, rfl⟩ := hcs
  exact ⟨[], fun _ h => by simp at h, Rd.nil_ _ _ _ _, none, 0, rfl, Nat.le_refl _, Nat.zero_le _⟩
 ·simp [Value.cells] at hcs
  obtain ⟨rfl, rfl, rfl⟩ := hcs
  rw [if_pos rfl] at hz
  have hlen : (zs.take n0).length = n0 := by rw [List.length_take]; omega
  refine ⟨zs.take n0, fun z hzm => hw z (List.mem_of_mem_take hzm), ?_, some a, c0, by rw [hlen], by omega, hm⟩
  refine ⟨some a, c0, by rw [List.length_map, hlen], fun hne => ?_⟩
  have hpos : 0 < zs.length := by
   rcases Nat.eq_zero_or_pos zs.length with h0 | h0
   ·rw [List.eq_nil_of_length_eq_zero h0] at hne
    simp at hne
   ·exact h0
  obtain ⟨b, off, rfl, hcc⟩ := ints_at hcell hpos
  refine ⟨b, off, rfl, World.block_lt_of_cell? W ⟨b, off + 0, none⟩ (hcc 0 hpos), fun i x hi => ?_⟩
  obtain ⟨hi1, hi2⟩ := List.getElem?_eq_some_iff.1 hi
  rw [List.length_map, hlen] at hi1
  rw [hcc i (by omega)]
  rw [List.getElem_map, List.getElem_take] at hi2
  rw [← hi2, List.getD_eq_getElem?_getD, List.getElem?_eq_getElem (by omega)]; rfl
theorem opn_ints (hval : Value.okWide Tryz.prog W .any base 22 v) (h : DataW.Trod enc Tryz.prog W 0 (fun _ => true) true 22 v d ps) :
  ∃ zs : List Int, (∀ z ∈ zs, I64 z) ∧ Rd W (· < W.heap.size) v (zs.map fun z => .int .i64 z) ∧ ∃ p c, v = .slice p zs.length c ∧ zs.length ≤ c ∧ c ≤ 9223372036854775807 := by
 obtain ⟨zs, hw, hr⟩ := opn_slice Tryz.underlying22 Tryz.underlying3 kit_cellsInt hval h
 exact ⟨zs, fun z hz => i64_wf (hw z hz), hr⟩
theorem ints_in {zs : List Int} (hz : ∀ z ∈ zs, I64 z) (h : Rd W (· < W.heap.size) v (zs.map fun z => .int .i64 z)) (hc : ∃ p c, v = .slice p zs.length c ∧ zs.length ≤ c ∧ c ≤ 9223372036854775807) : IntsIn W v := by
 obtain ⟨p, c, rfl, h1, h2⟩ := hc
 refine ⟨p, zs.length, c, rfl, h1, h2, fun hn => ?_⟩
 obtain ⟨p', c', hv, hx⟩ := h
 injection hv with e1 e2 e3
 subst e1
 obtain ⟨b, off, hp, hb, hcell⟩ := hx (by intro e; have := congrArg List.length e; simp at this; subst this; simp at hn)
 refine ⟨b, off, hp, hb, fun i hi => ⟨zs[i], hz _ (List.getElem_mem hi), hcell i _ ?_⟩⟩
 rw [List.getElem?_map, List.getElem?_eq_getElem hi]; rfl
end
section
variable {H : Type} {enc : TypeId × Value → H} {W : World} {base : Nat} {v : Value} {d : DataW H} {ps : List MemPlace}
end
noncomputable def laidWorld (os : Os) : World :=
 { World.holding Tryz.prog os ⟨#[], #[], []⟩ with heap := (World.holding Tryz.prog os ⟨#[], #[], []⟩).heap.modify 0 fun
   | .cells _ t frozen => .cells (Lib.deBruijn64tab.map fun n : Nat => Value.int .u8 (n : Int)).toArray t frozen
   | o => o }
open Go.ChangeShapes Go.WideShapes Go.ChangeAt Go.RowKit Go.Joins Bs

section
variable {H : Type} {enc : TypeId × Value → H} {W W' : World}
end

section
variable {H : Type} {enc : TypeId × Value → H} {W : World} {base : Nat} {v : Value} {d : DataW H} {ps : List MemPlace}
end
section
variable {H : Type} {enc : TypeId × Value → H} {W : World} {base : Nat} {v : Value} {d : DataW H} {ps : List MemPlace}
end
end Go.Proofs.YtpogblengagpaaaGreatDoor

/- empty -/
namespace Go.Proofs.YtpogblengagpaaaGreatDoor
set_option maxRecDepth 100000
end Go.Proofs.YtpogblengagpaaaGreatDoor

/- Valid, of the program and of the reference. -/
namespace Go.Proofs.YtpogblengagpaaaGreatDoor
set_option maxRecDepth 100000
open Go.RowKit Bs
def vs (l : List Nat) (n : Int) : Bool := decide (0 ≤ n ∧ n ≤ 8192 ∧ l.length = (n.toNat + 7) / 8 ∧ ∀ i, i < 8 * l.length → n.toNat ≤ i → bt l i = false)
end Go.Proofs.YtpogblengagpaaaGreatDoor

/- empty -/
namespace Go.Proofs.YtpogblengagpaaaGreatDoor
set_option maxRecDepth 100000
end Go.Proofs.YtpogblengagpaaaGreatDoor

/- Streams as values; the reference's Put. -/
namespace Go.Proofs.YtpogblengagpaaaGreatDoor
set_option maxRecDepth 100000
open Go.RowKit Bs
theorem add_plain (b off j : Nat) : (⟨b, off, none⟩ : Addr).add j = ⟨b, off + j, none⟩ := by unfold Addr.add; split <;> simp_all
theorem Rd.news {w : World} {q : Nat → Prop} {ad : Addr} {n c : Nat} {r : List Nat} (hR : Rd w q (.slice (some ad) n c) (r.map nv)) : ∀ j u, (r.map nv)[j]? = some u → w.cell? (ad.add j) = some u := by
 obtain ⟨p1, c1, e1, hx⟩ := hR
 injection e1 with a1 a2 a3
 subst a1
 intro j u hj
 obtain ⟨b, off, hp, hq, hc⟩ := hx (by intro e; rw [e] at hj; simp at hj)
 obtain rfl := Option.some.inj hp
 rw [add_plain]; exact hc j u hj
theorem grown_drew {w w' : World} {r : Option Nat} (h : w.grownBy w' r) : w.grownBy w'.drew r := ⟨h.os, h.tape, h.output, h.size, h.block⟩
theorem two_boxes (w : World) (A Z : Array Value) (t u : TypeId) :
  ((w.alloc (.cells A t)).alloc (.cells Z u)).heap[w.heap.size]? = some (.cells A t (0, 0)) ∧ ((w.alloc (.cells A t)).alloc (.cells Z u)).heap[w.heap.size + 1]? = some (.cells Z u (0, 0)) ∧
   w.grownBy ((w.alloc (.cells A t)).alloc (.cells Z u)) none ∧ ((w.alloc (.cells A t)).alloc (.cells Z u)).heap.size = w.heap.size + 2 := by
 have e1 : (w.alloc (.cells A t)).heap.size = w.heap.size + 1 := by simp
 refine ⟨?_, ?_, grown_trans (World.grownBy_alloc w _ _) (World.grownBy_alloc _ _ _), by simp⟩
 ·rw [Below.heap_alloc _ _ _ (by omega)]; exact heap_alloc_new w _
 ·rw [← e1]; exact heap_alloc_new _ _
theorem row_cells {w : World} {b : Nat} {x y : Value} {t : TypeId} (h : w.heap[b]? = some (.cells #[x, y] t (0, 0))) : w.cell? ⟨b, 0, none⟩ = some x ∧ w.cell? ⟨b, 1, none⟩ = some y := by
 refine ⟨?_, ?_⟩
 ·rw [cell_of_row _ _ _ _ _ _ h]; rfl
 ·rw [cell_of_row _ _ _ _ _ _ h]; rfl
theorem kept_row {w w' : World} {b : Nat} {o : Obj} {r : Option Nat} (h : w.heap[b]? = some o) (g : w.grownBy w' r) (hr : some b ≠ r) : w'.heap[b]? = some o :=
 (g.block b (Array.getElem?_eq_some_iff.1 h).1 hr).trans h
theorem rd_new (w : World) (cs : Array Value) (t : TypeId) (c : Nat) : Rd (w.alloc (.cells cs t)) (· = w.heap.size) (.slice (some ⟨w.heap.size, 0, none⟩) cs.toList.length c) cs.toList := by
 have hb : (w.alloc (.cells cs t)).heap[w.heap.size]? = some (.cells cs t (0, 0)) := heap_alloc_new w _
 refine ⟨_, c, rfl, fun _ => ⟨w.heap.size, 0, rfl, rfl, fun i x hi => ?_⟩⟩
 rw [Nat.zero_add, cell_of_row _ _ _ _ _ _ hb]
 simpa using hi
theorem own_ne {w : World} {base k n : Nat} {e : TypeId} {v : Value} {xs : List Value} (h : w.ownsRow base e 1 v n xs) (hk : k < base) : some k ≠ v.ownBlock := by
 intro e2
 have := (h.lt k e2.symm).1
 omega
theorem own_form {w : World} {base n : Nat} {e : TypeId} {v : Value} {xs : List Value} (h : w.ownsRow base e 1 v n xs) (hn : 0 < n) : ∃ g cap, v = .slice (some ⟨g, 0, none⟩) n cap ∧ base ≤ g := by
 rcases h.2 with ⟨_, h0⟩ | ⟨g, cap, cur, rfl, hb, _⟩
 ·omega
 ·exact ⟨g, cap, rfl, hb⟩
theorem store2 {w : World} {b : Nat} {x y u z : Value} {t : TypeId} (h : w.heap[b]? = some (.cells #[x, y] t (0, 0))) : ((w.setCell ⟨b, 0, none⟩ u).setCell ⟨b, 1, none⟩ z).heap[b]? = some (.cells #[u, z] t (0, 0)) := by
 have e1 := heap_setCell_same w b 0 _ _ u h
 have e2 := heap_setCell_same _ b 1 _ _ z e1
 rw [e2]; rfl
theorem grown_store2 (w : World) (b : Nat) (u z : Value) : w.grownBy ((w.setCell ⟨b, 0, none⟩ u).setCell ⟨b, 1, none⟩ z) (some b) := grown_trans (grown_setCell w ⟨b, 0, none⟩ u) (grown_setCell _ ⟨b, 1, none⟩ z)
theorem grown_new {w w1 w2 : World} {b : Nat} (h : w.grownBy w1 none) (k : w1.grownBy w2 (some b)) (hb : w.heap.size ≤ b) : w.grownBy w2 none :=
 ⟨k.os.trans h.os, k.tape.trans h.tape, k.output.trans h.output, Nat.le_trans h.size k.size, fun i hi _ => (k.block i (Nat.lt_of_lt_of_le hi h.size) (by intro e; have := Option.some.inj e; omega)).trans (h.block i hi (by simp))⟩
end Go.Proofs.YtpogblengagpaaaGreatDoor

/- empty -/
namespace Go.Proofs.YtpogblengagpaaaGreatDoor
set_option maxRecDepth 100000
end Go.Proofs.YtpogblengagpaaaGreatDoor

/- Take, of the program and of the reference. -/
namespace Go.Proofs.YtpogblengagpaaaGreatDoor
set_option maxRecDepth 100000
open Go.RowKit Bs
theorem one_box (w : World) (A : Array Value) (t : TypeId) : (w.alloc (.cells A t)).heap[w.heap.size]? = some (.cells A t (0, 0)) ∧ w.grownBy (w.alloc (.cells A t)) none := ⟨heap_alloc_new w _, World.grownBy_alloc w _ _⟩
end Go.Proofs.YtpogblengagpaaaGreatDoor

/- empty -/
namespace Go.Proofs.YtpogblengagpaaaGreatDoor
set_option maxRecDepth 100000
end Go.Proofs.YtpogblengagpaaaGreatDoor

/- empty -/
namespace Go.Proofs.YtpogblengagpaaaGreatDoor
set_option maxRecDepth 100000
end Go.Proofs.YtpogblengagpaaaGreatDoor

/- empty -/
namespace Go.Proofs.YtpogblengagpaaaGreatDoor
set_option maxRecDepth 100000
end Go.Proofs.YtpogblengagpaaaGreatDoor

/- empty -/
namespace Go.Proofs.YtpogblengagpaaaGreatDoor
set_option maxRecDepth 100000
end Go.Proofs.YtpogblengagpaaaGreatDoor

/- empty -/
namespace Go.Proofs.YtpogblengagpaaaGreatDoor
set_option maxRecDepth 100000
end Go.Proofs.YtpogblengagpaaaGreatDoor

/- The program's check number. -/
namespace Go.Proofs.YtpogblengagpaaaGreatDoor
set_option maxRecDepth 100000
open Go.RowKit Bs
namespace Bs
def stp (r : Nat) (b : Bool) : Nat := if (r.testBit 15 != b) = true then (2 * r % 65536) ^^^ 4129 else 2 * r % 65536
def crcB (f : Nat → Bool) : Nat → Nat
 | 0 => 65535
 | k + 1 => stp (crcB f k) (f k)
end Bs
end Go.Proofs.YtpogblengagpaaaGreatDoor

/- Spread, Gather, Nth, Rank as plain functions of numbers. No program is named here. -/
namespace Go.Proofs.YtpogblengagpaaaGreatDoor
set_option maxRecDepth 100000
open Go.RowKit
namespace Bs
def cnt (b : Nat) : Nat := (bl b).length
theorem cnt_le (b : Nat) : cnt b ≤ 64 := bl_length_le b
def put (t : Bool) (k : Nat) : Nat := if t then b2 k else 0
def Strip (b c j : Nat) : Prop := U64 c ∧ bl c = (bl b).drop j ∧ j ≤ cnt b
theorem Strip.start {b : Nat} (h : U64 b) : Strip b b 0 := ⟨h, rfl, Nat.zero_le _⟩
theorem Strip.step {b c j : Nat} (h : Strip b c j) (h0 : c ≠ 0) : Strip b (wo c) (j + 1) ∧ (bl b)[j]? = some (Lib.ctz 64 c) := by
 have hc := bl_wo h0 h.1.lt
 rw [h.2.1] at hc
 have h1 : (bl b)[j]? = some (Lib.ctz 64 c) := by
  have := congrArg (fun l => l[0]?) hc
  simpa using this
 refine ⟨⟨u64_wo c h.1, ?_, (List.getElem?_eq_some_iff.1 h1).1⟩, h1⟩
 have := congrArg List.tail hc
 rw [List.tail_drop] at this
 simpa using this.symm
theorem Strip.end_ {b j : Nat} (h : Strip b 0 j) : j = cnt b := by
 have h1 := h.2.1
 rw [bl_zero] at h1
 have := congrArg List.length h1
 rw [List.length_drop] at this
 have h2 := h.2.2
 unfold cnt at h2 ⊢
 simp at this
 omega
theorem Strip.more {b c j : Nat} (h : Strip b c j) (hj : j < cnt b) : c ≠ 0 := by
 rintro rfl
 have := h.end_
 omega
theorem Strip.done {b j : Nat} (h : Strip b 0 j) : (bl b).take j = bl b := by
 rw [h.end_]; exact List.take_length
theorem take_next {l : List Nat} {j x : Nat} (h : l[j]? = some x) : l.take (j + 1) = l.take j ++ [x] := by
 rw [List.take_add_one, h]; rfl
theorem compl_test {f : Nat} (h : U64 f) (i : Nat) : (18446744073709551615 - f).testBit i = (decide (i < 64) && !f.testBit i) := by
 have := Nat.testBit_two_pow_sub_succ h.pow i
 rw [← this]
 congr 1
 have := h.lt
 omega
theorem and_compl (z : Nat) {f : Nat} (h : U64 f) : (z &&& f) &&& (18446744073709551615 - f) = 0 := by
 apply Nat.eq_of_testBit_eq
 intro i
 rw [Nat.testBit_and, Nat.testBit_and, compl_test h, Nat.zero_testBit]
 cases f.testBit i <;> simp
end Bs
end Go.Proofs.YtpogblengagpaaaGreatDoor

/- Full, Valid, Count, First, Rank of the program; Full, Valid of the reference. -/
namespace Go.Proofs.YtpogblengagpaaaGreatDoor
set_option maxRecDepth 100000
open Go.RowKit Bs

def full (n : Int) : Nat := if vl n then lo n.toNat else 0
theorem full_val : full 8 = 255 ∧ full 16 = 65535 ∧ full 32 = 4294967295 ∧ full 64 = 18446744073709551615 := by decide +kernel
theorem full_false {n : Int} (h : vl n = false) : full n = 0 := by unfold full; rw [h]; rfl
theorem full_true {n : Int} (h : vl n = true) : full n = lo n.toNat := by unfold full; rw [h]; rfl
theorem full_u64 (n : Int) : U64 (full n) := by
 by_cases h : vl n = true
 ·rcases vl_cases h with rfl | rfl | rfl | rfl <;> (unfold U64; decide +kernel)
 ·rw [full_false (by simpa using h)]; unfold U64; decide
set_option maxHeartbeats 400000 in
theorem fullp_any (n : Int) (w : World) :
  Calls Tryz.prog 124 #[.int .i64 n] w fun e w' => e = .returned (.int .u64 ((full n : Nat) : Int)) ∧ w = w' := by
 by_cases h : vl n = true
 ·obtain ⟨v1, v2, v3, v4⟩ := full_val
  rcases vl_cases h with rfl | rfl | rfl | rfl
  all_goals clear h
  ·have V := Lib.hid v1; clear v1 v2 v3 v4
   go_enter Tryz.func124, Tryz.ntmps124
   go_wp2
   go_ret
   exact ⟨ret_int (by rw [V.out]; rfl), rfl⟩
  ·have V := Lib.hid v2; clear v1 v2 v3 v4
   go_enter Tryz.func124, Tryz.ntmps124
   go_wp2
   go_ret
   exact ⟨ret_int (by rw [V.out]; rfl), rfl⟩
  ·have V := Lib.hid v3; clear v1 v2 v3 v4
   go_enter Tryz.func124, Tryz.ntmps124
   go_wp2
   go_ret
   exact ⟨ret_int (by rw [V.out]; rfl), rfl⟩
  ·have V := Lib.hid v4; clear v1 v2 v3 v4
   go_enter Tryz.func124, Tryz.ntmps124
   go_wp2
   go_ret
   exact ⟨ret_int (by rw [V.out]; rfl), rfl⟩
 ·have hv : vl n = false := by simpa using h
  have V := Lib.hid (full_false hv)
  clear h
  go_enter Tryz.func124, Tryz.ntmps124
  go_wp2_with (go_at_call 111; refine (vlp_any _ _).mono ?_; rintro e w' ⟨rfl, rfl⟩)
  go_ret
  exact ⟨ret_int (by rw [V.out]; rfl), rfl⟩

set_option maxHeartbeats 400000 in
theorem fullr_any (n : Int) (w : World) :
  Calls Tryz.prog 49 #[.int .i64 n] w fun e w' => e = .returned (.int .u64 ((full n : Nat) : Int)) ∧ w = w' := by
 by_cases h : vl n = true
 ·have hv := h
  obtain ⟨N, rfl⟩ : ∃ N : Nat, n = (N : Int) := ⟨n.toNat, by rcases vl_cases h with rfl | rfl | rfl | rfl <;> rfl⟩
  have hN : N ≤ 64 := by rcases vl_cases h with h | h | h | h <;> omega
  have V := Lib.hid (full_true h)
  clear h
  go_enter Tryz.func49, Tryz.ntmps49
  go_wp2_with (go_at_call 72; refine (vlr_any _ _).mono ?_; rintro e w' ⟨rfl, rfl⟩)
  go_loop [3, 4] (fun b k => ∃ j : Nat, j ≤ N ∧ k = .int .i64 (j : Int) ∧ b = .int .u64 ((lo j : Nat) : Int)) (fun _ k => N - (RowKit.intOf k).toNat)
  case atStart => exact ⟨0, Nat.zero_le _, rfl, rfl⟩
  case round =>
   obtain ⟨j, hj, rfl, rfl⟩ := hrel
   by_cases hlt : j < N
   ·have hj64 : j < 64 := by omega
    have O := Lib.hid (or_lo j hj64)
    go_wp2_with (go_at_call 48; refine (bit_any _ hj64 _).mono ?_; rintro e w' ⟨rfl, rfl⟩)
    go_round
    case rel => exact ⟨j + 1, by omega, by go_num, by rw [O.out]⟩
    case measure => simp [RowKit.intOf]; omega
   ·go_wp2_with fail
    go_ret
    have hjN : j = N := by omega
    exact ⟨ret_int (by rw [V.out, hjN]; rfl), rfl⟩
 ·have hv : vl n = false := by simpa using h
  have V := Lib.hid (full_false hv)
  clear h
  go_enter Tryz.func49, Tryz.ntmps49
  go_wp2_with (go_at_call 72; refine (vlr_any _ _).mono ?_; rintro e w' ⟨rfl, rfl⟩)
  go_ret
  exact ⟨ret_int (by rw [V.out]; rfl), rfl⟩

def vb (b : Nat) (n : Int) : Bool := vl n && b &&& (18446744073709551615 - full n) == 0
set_option maxHeartbeats 400000 in
theorem bvalidp_any (b : Nat) (n : Int) (hb : U64 b) (w : World) :
  Calls Tryz.prog 101 #[.int .u64 (b : Int), .int .i64 n] w fun e w' => e = .returned (.bool (vb b n)) ∧ w = w' := by
 by_cases h : vl n = true
 ·have hv := h
  clear h
  go_enter Tryz.func101, Tryz.ntmps101
  go_wp2_with (first | (go_at_call 111; refine (vlp_any _ _).mono ?_; rintro e w' ⟨rfl, rfl⟩) | (go_at_call 124; refine (fullp_any _ _).mono ?_; rintro e w' ⟨rfl, rfl⟩))
  go_ret
  exact ⟨ret_bool (by unfold vb; rw [hv]; exact andNot_zero b _ hb (full_u64 n)), rfl⟩
 ·have hv : vl n = false := by simpa using h
  clear h
  go_enter Tryz.func101, Tryz.ntmps101
  go_wp2_with (go_at_call 111; refine (vlp_any _ _).mono ?_; rintro e w' ⟨rfl, rfl⟩)
  go_ret
  exact ⟨ret_bool (by unfold vb; rw [hv]; rfl), rfl⟩
set_option maxHeartbeats 400000 in
theorem bvalidr_any (b : Nat) (n : Int) (hb : U64 b) (w : World) :
  Calls Tryz.prog 75 #[.int .u64 (b : Int), .int .i64 n] w fun e w' => e = .returned (.bool (vb b n)) ∧ w = w' := by
 by_cases h : vl n = true
 ·have hv := h
  clear h
  go_enter Tryz.func75, Tryz.ntmps75
  go_wp2_with (first | (go_at_call 72; refine (vlr_any _ _).mono ?_; rintro e w' ⟨rfl, rfl⟩) | (go_at_call 49; refine (fullr_any _ _).mono ?_; rintro e w' ⟨rfl, rfl⟩))
  go_ret
  exact ⟨ret_bool (by unfold vb; rw [hv]; exact andNot_zero b _ hb (full_u64 n)), rfl⟩
 ·have hv : vl n = false := by simpa using h
  clear h
  go_enter Tryz.func75, Tryz.ntmps75
  go_wp2_with (go_at_call 72; refine (vlr_any _ _).mono ?_; rintro e w' ⟨rfl, rfl⟩)
  go_ret
  exact ⟨ret_bool (by unfold vb; rw [hv]; rfl), rfl⟩

set_option maxHeartbeats 400000 in
theorem countp_any (b : Nat) (hb : U64 b) (w : World) :
  Calls Tryz.prog 81 #[.int .u64 (b : Int)] w fun e w' => e = .returned (.int .i64 ((cnt b : Nat) : Int)) ∧ w = w' := by
 go_enter Tryz.func81, Tryz.ntmps81
 go_wp2_with (go_at_call 110; refine (ones_any _ hb _).mono ?_; rintro e w' ⟨rfl, rfl⟩)
 go_ret
 exact ⟨rfl, rfl⟩
def fst (b : Nat) : Int := if b = 0 then -1 else ((Lib.ctz 64 b : Nat) : Int)
set_option maxHeartbeats 400000 in
theorem firstp_any (b : Nat) (hb : U64 b) (w : World) (hT : Tb w) :
  Calls Tryz.prog 40 #[.int .u64 (b : Int)] w fun e w' => e = .returned (.int .i64 (fst b)) ∧ w = w' := by
 by_cases h0 : b = 0
 ·subst h0
  go_enter Tryz.func40, Tryz.ntmps40
  go_wp2
  go_ret
  exact ⟨rfl, rfl⟩
 ·have hz : ((b : Int) == 0) = false := by simp; omega
  have F : Hid (fst b = ((Lib.ctz 64 b : Nat) : Int)) := by show fst b = _; unfold fst; rw [if_neg h0]
  clear h0
  go_enter Tryz.func40, Tryz.ntmps40
  go_wp2_with (go_at_call 69; refine (tz_any _ hb _ hT).mono ?_; rintro e w' ⟨rfl, rfl⟩)
  go_ret
  exact ⟨ret_int (by rw [F.out]), rfl⟩
end Go.Proofs.YtpogblengagpaaaGreatDoor

/- Streams as lists of bits; the encoding of a packet as a list of bits. -/
namespace Go.Proofs.YtpogblengagpaaaGreatDoor
set_option maxRecDepth 100000
open Go.RowKit Bs
def nb (v k : Nat) : List Bool := (List.range k).map fun t => v.testBit (k - 1 - t)
def bf (B : List Bool) (i : Nat) : Bool := B.getD i false
def pk (B : List Bool) : List Nat := pz (bf B) B.length ((B.length + 7) / 8)
def pb (l : List Nat) : List Bool := (List.range (8 * l.length)).map (bt l)
structure Pk where
 mode : Int
 sub : Int
 set : Int
 len : Int
 ttl : Int
 ent : Int
 ing : Int
 pro : Int
 bits : Nat
 pay : ByteArray
def Pk.val (P : Pk) : Value := .agg #[.int .i64 P.mode, .int .i64 P.sub, .int .i64 P.set, .int .i64 P.len, .int .i64 P.ttl, .int .i64 P.ent, .int .i64 P.ing, .int .i64 P.pro, .int .u64 (P.bits : Int), .string P.pay]
structure Pk.Wf (P : Pk) : Prop where
 mode : I64 P.mode
 sub : I64 P.sub
 set : I64 P.set
 len : I64 P.len
 ttl : I64 P.ttl
 ent : I64 P.ent
 ing : I64 P.ing
 pro : I64 P.pro
 bits : U64 P.bits
 pay : P.pay.size ≤ maxLen
def vpk (P : Pk) : Bool := decide ((1 ≤ P.mode ∧ P.mode ≤ 3) ∧ (0 ≤ P.sub ∧ P.sub ≤ 7) ∧ (0 ≤ P.set ∧ P.set ≤ 31) ∧ (0 ≤ P.ttl ∧ P.ttl ≤ 63) ∧ (0 ≤ P.ent ∧ P.ent ≤ 1023) ∧ (0 ≤ P.ing ∧ P.ing ≤ 256) ∧ (0 ≤ P.pro ∧ P.pro ≤ 7) ∧ P.pay.size ≤ 64 ∧ vb P.bits P.len = true)
def lcode (n : Int) : Nat := if n = 8 then 0 else if n = 16 then 1 else if n = 32 then 2 else 3
def fl (P : Pk) : List (Nat × Nat) := [(2, 2), (P.mode.toNat, 2), (P.sub.toNat, 3), (P.set.toNat, 5), (lcode P.len, 2), (P.ttl.toNat, 6), (P.ent.toNat, 10), (P.ing.toNat, 9), (P.pro.toNat, 3), (P.pay.size, 7)]
def flb (f : List (Nat × Nat)) : List Bool := f.flatMap fun x => nb x.1 x.2
def byl (s : ByteArray) : List Nat := s.data.toList.map fun b => b.toNat
def body (P : Pk) : List Bool := flb (fl P) ++ nb P.bits P.len.toNat ++ pb (byl P.pay)
def ck (B : List Bool) : Nat := crcB (bf B) B.length
def enc (P : Pk) : List Nat := pk (body P ++ nb (ck (body P)) 16)
end Go.Proofs.YtpogblengagpaaaGreatDoor

/- A packet that comes in as an argument. -/
namespace Go.Proofs.YtpogblengagpaaaGreatDoor
set_option maxRecDepth 100000
open Go.ChangeShapes Go.WideShapes Go.ChangeAt Go.RowKit Go.Joins Bs
theorem array10 {xs : Array Value} (h : xs.size = 10) : ∃ c0 c1 c2 c3 c4 c5 c6 c7 c8 c9, xs = #[c0, c1, c2, c3, c4, c5, c6, c7, c8, c9] := by
 obtain ⟨l⟩ := xs
 match l, h with
 | [c0, c1, c2, c3, c4, c5, c6, c7, c8, c9], _ => exact ⟨c0, c1, c2, c3, c4, c5, c6, c7, c8, c9, rfl⟩
theorem list10 {A : Type} {xs : List A} (h : xs.length = 10) : ∃ x0 x1 x2 x3 x4 x5 x6 x7 x8 x9, xs = [x0, x1, x2, x3, x4, x5, x6, x7, x8, x9] := by
 match xs, h with
 | [x0, x1, x2, x3, x4, x5, x6, x7, x8, x9], _ => exact ⟨x0, x1, x2, x3, x4, x5, x6, x7, x8, x9, rfl⟩
theorem kit_cellsStr : Tryz.prog.cellsOf 9 = 1 := by kernel_rfl
section
variable {H : Type} {enc : TypeId × Value → H} {W : World} {base : Nat} {v : Value} {d : DataW H} {ps : List MemPlace}
theorem opn_packet (hval : Value.okWide Tryz.prog W .any base 28 v) (h : DataW.Trod enc Tryz.prog W 0 (fun _ => true) true 28 v d ps) : ∃ P : Pk, v = P.val ∧ P.Wf := by
 have hs := Tryz.underlying28
 obtain ⟨cs, rfl, hsz⟩ := okWide_struct hs hval
 obtain ⟨c0, c1, c2, c3, c4, c5, c6, c7, c8, c9, rfl⟩ := array10 (hsz.trans (by kernel_rfl))
 obtain ⟨fuel, hf⟩ := h
 obtain ⟨xs, n, _, _, hl, hlen, hf⟩ := DataW.trod_struct hs hf
 obtain ⟨x0, x1, x2, x3, x4, x5, x6, x7, x8, x9, rfl⟩ := list10 hlen
 have h0 : DataW.trod enc Tryz.prog W 0 (fun _ => true) true n 3 [c0] = some x0 := by simpa [Value.cells, kit_cellsInt] using hf 0 _ rfl
 have h1 : DataW.trod enc Tryz.prog W 0 (fun _ => true) true n 3 [c1] = some x1 := by simpa [Value.cells, kit_cellsInt] using hf 1 _ rfl
 have h2 : DataW.trod enc Tryz.prog W 0 (fun _ => true) true n 3 [c2] = some x2 := by simpa [Value.cells, kit_cellsInt] using hf 2 _ rfl
 have h3 : DataW.trod enc Tryz.prog W 0 (fun _ => true) true n 3 [c3] = some x3 := by simpa [Value.cells, kit_cellsInt] using hf 3 _ rfl
 have h4 : DataW.trod enc Tryz.prog W 0 (fun _ => true) true n 3 [c4] = some x4 := by simpa [Value.cells, kit_cellsInt] using hf 4 _ rfl
 have h5 : DataW.trod enc Tryz.prog W 0 (fun _ => true) true n 3 [c5] = some x5 := by simpa [Value.cells, kit_cellsInt] using hf 5 _ rfl
 have h6 : DataW.trod enc Tryz.prog W 0 (fun _ => true) true n 3 [c6] = some x6 := by simpa [Value.cells, kit_cellsInt] using hf 6 _ rfl
 have h7 : DataW.trod enc Tryz.prog W 0 (fun _ => true) true n 3 [c7] = some x7 := by simpa [Value.cells, kit_cellsInt] using hf 7 _ rfl
 have h8 : DataW.trod enc Tryz.prog W 0 (fun _ => true) true n 26 [c8] = some x8 := by simpa [Value.cells, kit_cellsU64] using hf 8 _ rfl
 have h9 : DataW.trod enc Tryz.prog W 0 (fun _ => true) true n 9 [c9] = some x9 := by simpa [Value.cells, kit_cellsStr] using hf 9 _ rfl
 obtain ⟨m0, e0, _, w0⟩ := DataW.trod_int Tryz.underlying3 h0
 obtain rfl : c0 = .int .i64 m0 := by simpa using e0
 obtain ⟨m1, e1, _, w1⟩ := DataW.trod_int Tryz.underlying3 h1
 obtain rfl : c1 = .int .i64 m1 := by simpa using e1
 obtain ⟨m2, e2, _, w2⟩ := DataW.trod_int Tryz.underlying3 h2
 obtain rfl : c2 = .int .i64 m2 := by simpa using e2
 obtain ⟨m3, e3, _, w3⟩ := DataW.trod_int Tryz.underlying3 h3
 obtain rfl : c3 = .int .i64 m3 := by simpa using e3
 obtain ⟨m4, e4, _, w4⟩ := DataW.trod_int Tryz.underlying3 h4
 obtain rfl : c4 = .int .i64 m4 := by simpa using e4
 obtain ⟨m5, e5, _, w5⟩ := DataW.trod_int Tryz.underlying3 h5
 obtain rfl : c5 = .int .i64 m5 := by simpa using e5
 obtain ⟨m6, e6, _, w6⟩ := DataW.trod_int Tryz.underlying3 h6
 obtain rfl : c6 = .int .i64 m6 := by simpa using e6
 obtain ⟨m7, e7, _, w7⟩ := DataW.trod_int Tryz.underlying3 h7
 obtain rfl : c7 = .int .i64 m7 := by simpa using e7
 obtain ⟨m8, e8, _, w8⟩ := DataW.trod_int Tryz.underlying26 h8
 obtain rfl : c8 = .int .u64 m8 := by simpa using e8
 obtain ⟨s9, e9, _, w9⟩ := DataW.trod_string Tryz.underlying9 h9
 obtain rfl : c9 = .string s9 := by simpa using e9
 have hb : 0 ≤ m8 ∧ m8 < 18446744073709551616 := by
  simp [Lit.wf, IntKind.min, IntKind.max, IntKind.bits, IntKind.signed] at w8
  omega
 obtain ⟨b, rfl⟩ := Int.eq_ofNat_of_zero_le hb.1
 exact ⟨⟨m0, m1, m2, m3, m4, m5, m6, m7, b, s9⟩, rfl, ⟨i64_wf w0, i64_wf w1, i64_wf w2, i64_wf w3, i64_wf w4, i64_wf w5, i64_wf w6, i64_wf w7, (show U64 b by unfold U64; omega), w9⟩⟩
end
end Go.Proofs.YtpogblengagpaaaGreatDoor

/- An outcome that comes in as an argument. -/
namespace Go.Proofs.YtpogblengagpaaaGreatDoor
set_option maxRecDepth 100000
open Go.ChangeShapes Go.WideShapes Go.ChangeAt Go.RowKit Go.Joins Bs
theorem array3F {xs : Array Value} (h : xs.size = 3) : ∃ c0 c1 c2, xs = #[c0, c1, c2] := by
 obtain ⟨l⟩ := xs
 match l, h with
 | [a, b, c], _ => exact ⟨a, b, c, rfl⟩
theorem list3F {A : Type} {xs : List A} (h : xs.length = 3) : ∃ x0 x1 x2, xs = [x0, x1, x2] := by
 match xs, h with
 | [a, b, c], _ => exact ⟨a, b, c, rfl⟩
theorem kit_cellsCps : Tryz.prog.cellsOf 36 = 1 := by kernel_rfl
section
variable {H : Type} {enc : TypeId × Value → H} {W : World} {base : Nat} {v : Value} {d : DataW H} {ps : List MemPlace}
theorem opn_outcome (hval : Value.okWide Tryz.prog W .any base 38 v) (h : DataW.Trod enc Tryz.prog W 0 (fun _ => true) true 38 v d ps) : ∃ (lo ls : Nat) (p : Option Addr) (n c : Nat), v = .agg #[.int .u64 (lo : Int), .int .u64 (ls : Int), .slice p n c] ∧ U64 lo ∧ U64 ls := by
 have hs := Tryz.underlying38
 obtain ⟨cs, rfl, hsz⟩ := okWide_struct hs hval
 obtain ⟨c0, c1, c2, rfl⟩ := array3F (hsz.trans (by kernel_rfl))
 obtain ⟨fuel, hf⟩ := h
 obtain ⟨xs, n, _, _, hl, hlen, hf⟩ := DataW.trod_struct hs hf
 obtain ⟨x0, x1, x2, rfl⟩ := list3F hlen
 have h0 : DataW.trod enc Tryz.prog W 0 (fun _ => true) true n 26 [c0] = some x0 := by simpa [Value.cells, kit_cellsU64] using hf 0 _ rfl
 have h1 : DataW.trod enc Tryz.prog W 0 (fun _ => true) true n 26 [c1] = some x1 := by simpa [Value.cells, kit_cellsU64] using hf 1 _ rfl
 have h2 : DataW.trod enc Tryz.prog W 0 (fun _ => true) true n 36 [c2] = some x2 := by simpa [Value.cells, kit_cellsU64, kit_cellsCps] using hf 2 _ rfl
 obtain ⟨m0, e0, _, w0⟩ := DataW.trod_int Tryz.underlying26 h0
 obtain rfl : c0 = .int .u64 m0 := by simpa using e0
 obtain ⟨m1, e1, _, w1⟩ := DataW.trod_int Tryz.underlying26 h1
 obtain rfl : c1 = .int .u64 m1 := by simpa using e1
 have hb0 : 0 ≤ m0 ∧ m0 < 18446744073709551616 := by
  simp [Lit.wf, IntKind.min, IntKind.max, IntKind.bits, IntKind.signed] at w0
  omega
 have hb1 : 0 ≤ m1 ∧ m1 < 18446744073709551616 := by
  simp [Lit.wf, IntKind.min, IntKind.max, IntKind.bits, IntKind.signed] at w1
  omega
 obtain ⟨b0, rfl⟩ := Int.eq_ofNat_of_zero_le hb0.1
 obtain ⟨b1, rfl⟩ := Int.eq_ofNat_of_zero_le hb1.1
 rcases DataW.trod_slice Tryz.underlying36 h2 with ⟨hcs, _⟩ | ⟨a, len, cap, elems, rest, n, _, hcs, _⟩
 ·obtain rfl : c2 = .slice none 0 0 := by simpa using hcs
  exact ⟨b0, b1, none, 0, 0, rfl, (show U64 b0 by unfold U64; omega), (show U64 b1 by unfold U64; omega)⟩
 ·obtain rfl : c2 = .slice (some a) len cap := by simpa using hcs
  exact ⟨b0, b1, some a, len, cap, rfl, (show U64 b0 by unfold U64; omega), (show U64 b1 by unfold U64; omega)⟩
end
end Go.Proofs.YtpogblengagpaaaGreatDoor

/- forward, the mathematics: what a walk over the bits of a packet leaves, whether it takes the own bits one by one or at once. -/
namespace Go.Proofs.YtpogblengagpaaaGreatDoor
set_option maxRecDepth 100000
open Go.RowKit Bs
def selB (P : Nat → Bool) : Nat → Nat
 | 0 => 0
 | n + 1 => if P n = true then selB P n ||| 2 ^ n else selB P n
theorem selB_bit (P : Nat → Bool) : ∀ n j, (selB P n).testBit j = (decide (j < n) && P j)
 | 0, j => by simp [selB]
 | n + 1, j => by
  have ih := selB_bit P n j
  unfold selB
  rcases Nat.lt_trichotomy j n with h | rfl | h
  ·have h1 : decide (j < n + 1) = true := decide_eq_true (by omega)
   have h2 : decide (j < n) = true := decide_eq_true h
   split
   ·rw [Nat.testBit_or, ih, Nat.testBit_two_pow, h1, h2, decide_eq_false (by omega : ¬ n = j)]
    simp
   ·rw [ih, h1, h2]
  ·have h1 : decide (j < j + 1) = true := decide_eq_true (by omega)
   have h2 : decide (j < j) = false := decide_eq_false (by omega)
   split
   ·rename_i hp
    rw [Nat.testBit_or, ih, Nat.testBit_two_pow, h1, h2, hp]
    simp
   ·rename_i hp
    rw [ih, h1, h2]
    simpa using hp
  ·have h1 : decide (j < n + 1) = false := decide_eq_false (by omega)
   have h2 : decide (j < n) = false := decide_eq_false (by omega)
   split
   ·rw [Nat.testBit_or, ih, Nat.testBit_two_pow, h1, h2, decide_eq_false (by omega : ¬ n = j)]
    simp
   ·rw [ih, h1, h2]
def fltB (P : Nat → Bool) (x : Nat) : Nat := selB (fun j => x.testBit j && P j) 64
theorem u64_bit {x : Nat} (h : U64 x) {j : Nat} (hj : x.testBit j = true) : j < 64 := by
 rcases Nat.lt_or_ge j 64 with h1 | h1
 ·exact h1
 ·rw [Nat.testBit_lt_two_pow (Nat.lt_of_lt_of_le h (Nat.pow_le_pow_right (n := 2) (by decide) h1))] at hj
  cases hj
theorem fltB_bit {x : Nat} (h : U64 x) (P : Nat → Bool) (j : Nat) : (fltB P x).testBit j = (x.testBit j && P j) := by
 unfold fltB
 rw [selB_bit]
 by_cases h1 : j < 64
 ·simp [h1]
 ·have : x.testBit j = false := by
   cases hx : x.testBit j with
   | false => rfl
   | true => exact absurd (u64_bit h hx) h1
  simp [h1, this]
structure Lst (x j : Nat) : Prop where
 on : x.testBit j = true
 le : ∀ i, x.testBit i = true → j ≤ i
theorem Lst.uniq {x i j : Nat} (h : Lst x i) (k : Lst x j) : i = j := Nat.le_antisymm (h.le j k.on) (k.le i h.on)
def lstB (x : Nat) : Nat := ((List.range 64).find? (fun j => x.testBit j)).getD 0
theorem lstB_eq {x j : Nat} (hx : U64 x) (h : Lst x j) : lstB x = j := by
 unfold lstB
 cases e : (List.range 64).find? (fun j => x.testBit j) with
 | none =>
  have := List.find?_eq_none.1 e j (List.mem_range.2 (u64_bit hx h.on))
  exact absurd h.on this
 | some i =>
  obtain ⟨h1, us, vs, h2, h3⟩ := List.find?_eq_some_iff_append.1 e
  show i = j
  have hij := h.le i (by simpa using h1)
  refine Nat.le_antisymm ?_ hij
  rcases Nat.lt_or_ge j i with hlt | hge
  ·have hi : us.length = i := by
    have hl : (List.range 64)[us.length]? = some i := by rw [h2]; simp
    rw [List.getElem?_range] at hl
    ·exact Option.some.inj hl
    ·have := congrArg List.length h2
     simp at this
     omega
   have hj : (List.range 64)[j]? = some j := List.getElem?_range (u64_bit hx h.on)
   rw [h2, List.getElem?_append_left (by omega)] at hj
   have := h3 j (List.mem_of_getElem? hj)
   rw [h.on] at this
   simp at this
  ·exact hge
def ntB (a b : Nat) : Nat := a &&& (18446744073709551615 - b)
theorem ntB_bit {a b : Nat} (ha : U64 a) (hb : U64 b) (j : Nat) : (ntB a b).testBit j = (a.testBit j && !b.testBit j) := by
 unfold ntB
 have e : 18446744073709551615 - b = 2 ^ 64 - (b + 1) := by
  show _ = 18446744073709551616 - (b + 1)
  omega
 rw [Nat.testBit_and, e, Nat.testBit_two_pow_sub_succ hb]
 by_cases h1 : j < 64
 ·simp [h1]
 ·have : a.testBit j = false := by
   cases hx : a.testBit j with
   | false => rfl
   | true => exact absurd (u64_bit ha hx) h1
  simp [this]
theorem ntB_u {a b : Nat} (ha : U64 a) : U64 (ntB a b) := Nat.lt_of_le_of_lt Nat.and_le_left ha
def cpF (M : Int → Nat) (h : Nat → Int) : Nat → Nat → List (Int × Nat)
 | 0, _ => []
 | n + 1, x => if x = 0 then [] else (h (lstB x), x &&& M (h (lstB x))) :: cpF M h n (ntB x (M (h (lstB x))))
def cpB (M : Int → Nat) (h : Nat → Int) (x : Nat) : List (Int × Nat) := cpF M h (x + 1) x
def Ms (M : Int → Nat) (h : Nat → Int) : Prop := ∀ u, u ≠ 0 → U64 (M u) ∧ ∀ j, (M u).testBit j = true ↔ (h j = u ∧ j < 64)
theorem ntB_lt {a b j : Nat} (ha : U64 a) (hb : U64 b) (h1 : a.testBit j = true) (h2 : b.testBit j = true) : ntB a b < a := by
 refine Nat.lt_of_le_of_ne Nat.and_le_left (fun e => ?_)
 have := ntB_bit ha hb j
 rw [show ntB a b = a from e, h1, h2] at this
 cases this
theorem u64_some {x : Nat} (h : x ≠ 0) : ∃ j, Lst x j := by
 obtain ⟨j, hj⟩ : ∃ j, x.testBit j = true := by
  rcases Classical.em (∃ j, x.testBit j = true) with h1 | h1
  ·exact h1
  ·refine absurd (Nat.eq_of_testBit_eq (fun j => ?_)) h
   rw [Nat.zero_testBit]
   cases hx : x.testBit j with
   | false => rfl
   | true => exact absurd ⟨j, hx⟩ h1
 have step : ∀ n, (∃ i, i ≤ n ∧ x.testBit i = true) → ∃ j, Lst x j := by
  intro n
  induction n with
  | zero =>
   rintro ⟨i, hi, h1⟩
   obtain rfl : i = 0 := by omega
   exact ⟨0, h1, fun i _ => Nat.zero_le i⟩
  | succ n ih =>
   rintro ⟨i, hi, h1⟩
   rcases Classical.em (∃ i, i ≤ n ∧ x.testBit i = true) with h2 | h2
   ·exact ih h2
   ·refine ⟨i, h1, fun k hk => ?_⟩
    rcases Nat.lt_or_ge k i with h3 | h3
    ·exact absurd ⟨k, by omega, hk⟩ h2
    ·exact h3
 exact step j ⟨j, Nat.le_refl _, hj⟩
theorem cpF_fuel {M : Int → Nat} {h : Nat → Int} (hM : Ms M h) : ∀ n m x, U64 x → (∀ j, x.testBit j = true → h j ≠ 0) → x < n → x < m → cpF M h n x = cpF M h m x := by
 intro n
 induction n with
 | zero => intro m x _ _ h1; omega
 | succ n ih =>
  intro m x hu hz h1 h2
  obtain ⟨m, rfl⟩ : ∃ k, m = k + 1 := ⟨m - 1, by omega⟩
  unfold cpF
  by_cases h0 : x = 0
  ·rw [if_pos h0, if_pos h0]
  ·rw [if_neg h0, if_neg h0]
   obtain ⟨j, hj⟩ := u64_some h0
   rw [lstB_eq hu hj]
   have hne := hz j hj.on
   have hlt := ntB_lt hu (hM _ hne).1 hj.on (((hM _ hne).2 j).2 ⟨rfl, u64_bit hu hj.on⟩)
   rw [ih m _ (ntB_u hu) (fun i hi => hz i (by rw [ntB_bit hu (hM _ hne).1] at hi; simp at hi; exact hi.1)) (by omega) (by omega)]
theorem cpB_step {M : Int → Nat} {h : Nat → Int} (hM : Ms M h) {x j : Nat} (hu : U64 x) (hz : ∀ j, x.testBit j = true → h j ≠ 0) (hj : Lst x j) : cpB M h x = (h j, x &&& M (h j)) :: cpB M h (ntB x (M (h j))) := by
 have hne := hz j hj.on
 have hlt := ntB_lt hu (hM _ hne).1 hj.on (((hM _ hne).2 j).2 ⟨rfl, u64_bit hu hj.on⟩)
 have h0 : x ≠ 0 := fun e => by
  have := hj.on
  rw [e, Nat.zero_testBit] at this
  cases this
 have hf := cpF_fuel hM x (ntB x (M (h j)) + 1) _ (ntB_u (b := M (h j)) hu) (fun i hi => hz i (by rw [ntB_bit hu (hM _ hne).1] at hi; simp at hi; exact hi.1)) hlt (by omega)
 unfold cpB
 rw [cpF, if_neg h0, lstB_eq hu hj, hf]
def lzB (h : Nat → Int) (r : Int) (t : Bool) (j : Nat) : Bool := decide (h j = 0) || (t && !decide (h j = r))
def czB (h : Nat → Int) (r : Int) (t : Bool) (j : Nat) : Bool := !t && !decide (h j = 0) && !decide (h j = r)
structure FwI (M : Int → Nat) (h : Nat → Int) (r : Int) (t : Bool) (P left loc lost : Nat) (cs : List (Int × Nat)) : Prop where
 hu : U64 left ∧ U64 loc ∧ U64 lost
 sub : ∀ j, left.testBit j = true → P.testBit j = true
 whole : ∀ i j, h i = h j → h i ≠ 0 → h i ≠ r → P.testBit i = true → left.testBit j = true → left.testBit i = true
 hloc : ∀ j, (loc.testBit j || (left.testBit j && decide (h j = r))) = (P.testBit j && decide (h j = r))
 hlost : ∀ j, (lost.testBit j || (left.testBit j && lzB h r t j)) = (P.testBit j && lzB h r t j)
 hcs : cs ++ cpB M h (fltB (czB h r t) left) = cpB M h (fltB (czB h r t) P)
variable {M : Int → Nat} {h : Nat → Int} {r : Int} {t : Bool} {P left loc lost : Nat} {cs : List (Int × Nat)}
theorem u64_zero : U64 0 := by
 unfold U64
 decide
theorem fwI_start (hP : U64 P) : FwI M h r t P P 0 0 [] :=
 ⟨⟨hP, u64_zero, u64_zero⟩, fun _ h => h, fun _ _ _ _ _ h _ => h, fun j => by rw [Nat.zero_testBit, Bool.false_or], fun j => by rw [Nat.zero_testBit, Bool.false_or], rfl⟩
theorem fltB_u (P : Nat → Bool) {x : Nat} (hx : U64 x) : U64 (fltB P x) := by
 have : fltB P x ≤ x := by
  have e : fltB P x = fltB P x &&& x := Nat.eq_of_testBit_eq (fun j => by rw [Nat.testBit_and, fltB_bit hx]; cases x.testBit j <;> simp)
  rw [e]
  exact Nat.and_le_right
 exact Nat.lt_of_le_of_lt this hx
theorem fltB_same (Q : Nat → Bool) {x y : Nat} (hx : U64 x) (hy : U64 y) (he : ∀ j, Q j = true → x.testBit j = y.testBit j) : fltB Q x = fltB Q y := Nat.eq_of_testBit_eq (fun j => by
 rw [fltB_bit hx, fltB_bit hy]
 cases hq : Q j with
 | false => simp
 | true => rw [he j hq])
theorem FwI.done (I : FwI M h r t P 0 loc lost cs) : (∀ j, loc.testBit j = (P.testBit j && decide (h j = r))) ∧ (∀ j, lost.testBit j = (P.testBit j && lzB h r t j)) ∧ cs = cpB M h (fltB (czB h r t) P) := by
 refine ⟨fun j => ?_, fun j => ?_, ?_⟩
 ·have := I.hloc j
  rwa [Nat.zero_testBit, Bool.false_and, Bool.or_false] at this
 ·have := I.hlost j
  rwa [Nat.zero_testBit, Bool.false_and, Bool.or_false] at this
 ·have := I.hcs
  have e : fltB (czB h r t) 0 = 0 := Nat.eq_of_testBit_eq (fun j => by rw [fltB_bit u64_zero, Nat.zero_testBit, Bool.false_and])
  rw [e] at this
  have e2 : cpB M h 0 = [] := rfl
  rw [e2, List.append_nil] at this
  exact this
theorem u64_two {j : Nat} (hj : j < 64) : U64 (2 ^ j) := Nat.pow_lt_pow_right (n := 64) (by decide) hj
theorem u64_andl (a b : Nat) (h : U64 a) : U64 (a &&& b) := Nat.lt_of_le_of_lt Nat.and_le_left h
theorem u64_orl (a b : Nat) (h : U64 a) (k : U64 b) : U64 (a ||| b) := Nat.or_lt_two_pow (n := 64) h k
theorem FwI.same (I : FwI M h r t P left loc lost cs) (hM : Ms M h) {j : Nat} (hj : Lst left j) (h0 : h j ≠ 0) (h1 : h j ≠ r) : P &&& M (h j) = left &&& M (h j) := Nat.eq_of_testBit_eq (fun i => by
 rw [Nat.testBit_and, Nat.testBit_and]
 cases hm : (M (h j)).testBit i with
 | false => simp
 | true =>
  have hi := (((hM _ h0).2 i).1 hm).1
  rw [Bool.and_true, Bool.and_true]
  rw [Bool.eq_iff_iff]
  exact ⟨fun hp => I.whole i j hi (hi ▸ h0) (hi ▸ h1) hp hj.on, I.sub i⟩)
theorem FwI.step (I : FwI M h r t P left loc lost cs) {X loc' lost' : Nat} {cs' : List (Int × Nat)} (hX : U64 X) (hl : U64 loc') (hl2 : U64 lost')
  (hw : ∀ i k, i < 64 → k < 64 → h i = h k → h i ≠ 0 → h i ≠ r → X.testBit i = X.testBit k)
  (h1 : ∀ j, (loc'.testBit j || (left.testBit j && !X.testBit j && decide (h j = r))) = (loc.testBit j || (left.testBit j && decide (h j = r))))
  (h2 : ∀ j, (lost'.testBit j || (left.testBit j && !X.testBit j && lzB h r t j)) = (lost.testBit j || (left.testBit j && lzB h r t j)))
  (h3 : cs' ++ cpB M h (fltB (czB h r t) (ntB left X)) = cs ++ cpB M h (fltB (czB h r t) left)) (hP : U64 P) :
  FwI M h r t P (ntB left X) loc' lost' cs' := by
 refine ⟨⟨ntB_u I.hu.1, hl, hl2⟩, fun j hj => ?_, fun i k e e0 e1 hp hk => ?_, fun j => ?_, fun j => ?_, h3.trans I.hcs⟩
 ·rw [ntB_bit I.hu.1 hX] at hj
  simp at hj
  exact I.sub j hj.1
 ·rw [ntB_bit I.hu.1 hX] at hk ⊢
  simp at hk ⊢
  have hli := I.whole i k e e0 e1 hp hk.1
  exact ⟨hli, (hw i k (u64_bit hP hp) (u64_bit I.hu.1 hk.1) e e0 e1).trans hk.2⟩
 ·rw [ntB_bit I.hu.1 hX, h1, I.hloc]
 ·rw [ntB_bit I.hu.1 hX, h2, I.hlost]
theorem FwI.skip (I : FwI M h r t P left loc lost cs) {X : Nat} (hX : U64 X) (hz : ∀ j, X.testBit j = true → left.testBit j = true → czB h r t j = false) : fltB (czB h r t) (ntB left X) = fltB (czB h r t) left :=
 fltB_same _ (ntB_u I.hu.1) I.hu.1 (fun j hq => by
  rw [ntB_bit I.hu.1 hX]
  cases hx : X.testBit j with
  | false => simp
  | true =>
   cases hl : left.testBit j with
   | false => rfl
   | true =>
    rw [hz j hx hl] at hq
    cases hq)
theorem FwI.allLoc (I : FwI M h r t P left loc lost cs) (hM : Ms M h) (hP : U64 P) (hr : r ≠ 0) : FwI M h r t P (ntB left (M r)) (loc ||| (P &&& M r)) lost cs := by
 obtain ⟨hu, hb⟩ := hM r hr
 have hb2 : ∀ i, i < 64 → (M r).testBit i = decide (h i = r) := fun i hi => by
  rw [Bool.eq_iff_iff, hb i]
  simp [hi]
 refine I.step hu (u64_orl _ _ I.hu.2.1 (u64_andl _ _ hP)) I.hu.2.2 (fun i k hi hk e2 _ e1 => ?_) (fun i => ?_) (fun i => ?_) ?_ hP
 ·rw [hb2 i hi, hb2 k hk, e2]
 ·have hL := I.hloc i
  have hS := I.sub i
  rw [Nat.testBit_or, Nat.testBit_and]
  by_cases h64 : i < 64
  ·rw [hb2 i h64]
   revert hL hS
   cases P.testBit i <;> cases left.testBit i <;> cases loc.testBit i <;> cases decide (h i = r) <;> simp
  ·have h1 : P.testBit i = false := by
    cases x : P.testBit i with
    | false => rfl
    | true => exact absurd (u64_bit hP x) h64
   have h2 : left.testBit i = false := by
    cases x : left.testBit i with
    | false => rfl
    | true => exact absurd (u64_bit I.hu.1 x) h64
   simp [h1, h2]
 ·by_cases h64 : i < 64
  ·rw [hb2 i h64]
   by_cases x : h i = r
   ·have : lzB h r t i = false := by unfold lzB; simp [x, hr]
    simp [this]
   ·simp [x]
  ·have h2 : left.testBit i = false := by
    cases x : left.testBit i with
    | false => rfl
    | true => exact absurd (u64_bit I.hu.1 x) h64
   simp [h2]
 ·rw [I.skip hu (fun i hi _ => by
   have := ((hb i).1 hi).1
   unfold czB
   simp [this])]
theorem FwI.oneLost (I : FwI M h r t P left loc lost cs) (hP : U64 P) (hr : r ≠ 0) {j : Nat} (hj : Lst left j) (e : h j = 0) : FwI M h r t P (ntB left (2 ^ j)) loc (lost ||| 2 ^ j) cs := by
 have h64 := u64_bit I.hu.1 hj.on
 refine I.step (u64_two h64) I.hu.2.1 (u64_orl _ _ I.hu.2.2 (u64_two h64)) (fun i k _ _ e2 e0 _ => ?_) (fun i => ?_) (fun i => ?_) ?_ hP
 ·rw [Nat.testBit_two_pow, Nat.testBit_two_pow, decide_eq_false (fun x : j = i => e0 (x ▸ e)), decide_eq_false (fun x : j = k => e0 (e2.trans (x ▸ e)))]
 ·rw [Nat.testBit_two_pow]
  by_cases x : j = i
  ·subst x
   simp [e, Ne.symm hr]
  ·simp [x]
 ·rw [Nat.testBit_or, Nat.testBit_two_pow]
  by_cases x : j = i
  ·subst x
   have : lzB h r t j = true := by unfold lzB; simp [e]
   simp [this, hj.on]
  ·simp [x]
 ·rw [I.skip (u64_two h64) (fun i hi _ => by
   rw [Nat.testBit_two_pow] at hi
   obtain rfl : j = i := by simpa using hi
   unfold czB
   simp [e])]
theorem FwI.allLost (I : FwI M h r true P left loc lost cs) (hM : Ms M h) (hP : U64 P) {u : Int} (h0 : u ≠ 0) (h1 : u ≠ r) : FwI M h r true P (ntB left (M u)) loc (lost ||| (left &&& M u)) cs := by
 obtain ⟨hu, hb⟩ := hM u h0
 have hb2 : ∀ i, i < 64 → (M u).testBit i = decide (h i = u) := fun i hi => by
  rw [Bool.eq_iff_iff, hb i]
  simp [hi]
 refine I.step hu I.hu.2.1 (u64_orl _ _ I.hu.2.2 (u64_andl _ _ I.hu.1)) (fun i k hi hk e2 _ _ => ?_) (fun i => ?_) (fun i => ?_) ?_ hP
 ·rw [hb2 i hi, hb2 k hk, e2]
 ·cases hm : (M u).testBit i with
  | false => simp
  | true =>
   have := ((hb i).1 hm).1
   simp [this, h1]
 ·rw [Nat.testBit_or, Nat.testBit_and]
  cases hm : (M u).testBit i with
  | false => simp
  | true =>
   have h2 := ((hb i).1 hm).1
   have : lzB h r true i = true := by unfold lzB; simp [h2, h1]
   simp [this]
 ·rw [I.skip hu (fun i _ _ => by unfold czB; simp)]
theorem FwI.copy (I : FwI M h r false P left loc lost cs) (hM : Ms M h) (hP : U64 P) {j : Nat} (hj : Lst left j) (h0 : h j ≠ 0) (h1 : h j ≠ r) : FwI M h r false P (ntB left (M (h j))) loc lost (cs ++ [(h j, left &&& M (h j))]) := by
 obtain ⟨hu, hb⟩ := hM _ h0
 have hcz : ∀ i, (M (h j)).testBit i = true → czB h r false i = true := fun i hi => by
  have h2 := ((hb i).1 hi).1
  unfold czB
  simp [h2, h0, h1]
 refine I.step hu I.hu.2.1 I.hu.2.2 (fun i k hi hk e2 _ _ => ?_) (fun i => ?_) (fun i => ?_) ?_ hP
 ·rw [Bool.eq_iff_iff, hb i, hb k, e2]
  simp [hi, hk]
 ·cases hm : (M (h j)).testBit i with
  | false => simp
  | true =>
   have := ((hb i).1 hm).1
   simp [this, h1]
 ·cases hm : (M (h j)).testBit i with
  | false => simp
  | true =>
   have h2 := ((hb i).1 hm).1
   have : lzB h r false i = false := by unfold lzB; simp [h2, h0]
   simp [this]
 ·have hLs : Lst (fltB (czB h r false) left) j := ⟨by
    rw [fltB_bit I.hu.1, hj.on, Bool.true_and]
    exact hcz j ((hb j).2 ⟨rfl, u64_bit I.hu.1 hj.on⟩), fun i hi => hj.le i (by
    rw [fltB_bit I.hu.1] at hi
    simp at hi
    exact hi.1)⟩
  rw [cpB_step hM (fltB_u _ I.hu.1) (fun i hi => by
   rw [fltB_bit I.hu.1] at hi
   unfold czB at hi
   simp at hi
   exact hi.2.1) hLs]
  have e1 : fltB (czB h r false) left &&& M (h j) = left &&& M (h j) := Nat.eq_of_testBit_eq (fun i => by
   rw [Nat.testBit_and, Nat.testBit_and, fltB_bit I.hu.1]
   cases hm : (M (h j)).testBit i with
   | false => simp
   | true => simp [hcz i hm])
  have e2 : ntB (fltB (czB h r false) left) (M (h j)) = fltB (czB h r false) (ntB left (M (h j))) := Nat.eq_of_testBit_eq (fun i => by
   rw [ntB_bit (fltB_u _ I.hu.1) hu, fltB_bit I.hu.1, fltB_bit (ntB_u I.hu.1), ntB_bit I.hu.1 hu]
   cases left.testBit i <;> cases (M (h j)).testBit i <;> simp)
  rw [e1, e2, List.append_assoc]
  rfl
theorem FwI.both {loc2 lost2 : Nat} {cs2 : List (Int × Nat)} (I : FwI M h r t P 0 loc lost cs) (K : FwI M h r t P 0 loc2 lost2 cs2) : loc = loc2 ∧ lost = lost2 ∧ cs = cs2 := by
 obtain ⟨a1, a2, a3⟩ := I.done
 obtain ⟨b1, b2, b3⟩ := K.done
 exact ⟨Nat.eq_of_testBit_eq (fun j => (a1 j).trans (b1 j).symm), Nat.eq_of_testBit_eq (fun j => (a2 j).trans (b2 j).symm), a3.trans b3.symm⟩
theorem cpB_zero (M : Int → Nat) (h : Nat → Int) : cpB M h 0 = [] := rfl
theorem cpB_mem (hM : Ms M h) : ∀ x, U64 x → (∀ j, x.testBit j = true → h j ≠ 0) → ∀ y ∈ cpB M h x, y.2 = x &&& M y.1 ∧ ∃ j, x.testBit j = true ∧ h j = y.1 := by
 intro x
 induction x using Nat.strongRecOn with
 | ind x ih =>
  intro hu hz y hy
  by_cases h0 : x = 0
  ·subst h0
   rw [cpB_zero] at hy
   cases hy
  ·obtain ⟨j, hj⟩ := u64_some h0
   have hne := hz j hj.on
   obtain ⟨hmu, hmb⟩ := hM _ hne
   rw [cpB_step hM hu hz hj] at hy
   rcases List.mem_cons.1 hy with rfl | hy
   ·exact ⟨rfl, j, hj.on, rfl⟩
   ·have hb := fun i => ntB_bit (j := i) hu hmu
    obtain ⟨h1, i, h2, h3⟩ := ih _ (ntB_lt hu hmu hj.on ((hmb j).2 ⟨rfl, u64_bit hu hj.on⟩)) (ntB_u hu) (fun i hi => hz i (by
     rw [hb i] at hi
     simp at hi
     exact hi.1)) y hy
    rw [hb i] at h2
    simp only [Bool.and_eq_true, Bool.not_eq_true'] at h2
    have hd : y.1 ≠ h j := fun e => by
     have := (hmb i).2 ⟨h3.trans e, u64_bit hu h2.1⟩
     rw [h2.2] at this
     cases this
    have hy0 : y.1 ≠ 0 := fun e => hz i h2.1 (h3.trans e)
    refine ⟨h1.trans (Nat.eq_of_testBit_eq (fun k => ?_)), i, h2.1, h3⟩
    rw [Nat.testBit_and, Nat.testBit_and, hb k]
    cases hk : (M y.1).testBit k with
    | false => simp
    | true =>
     have e1 := (((hM _ hy0).2 k).1 hk).1
     have e2 : (M (h j)).testBit k = false := by
      cases x2 : (M (h j)).testBit k with
      | false => rfl
      | true => exact absurd (e1.symm.trans ((hmb k).1 x2).1) hd
     rw [e2]
     simp
theorem cpB_once (hM : Ms M h) : ∀ x, U64 x → (∀ j, x.testBit j = true → h j ≠ 0) → (cpB M h x).Pairwise (fun y z => y.1 ≠ z.1) := by
 intro x
 induction x using Nat.strongRecOn with
 | ind x ih =>
  intro hu hz
  by_cases h0 : x = 0
  ·subst h0
   rw [cpB_zero]
   exact List.Pairwise.nil
  ·obtain ⟨j, hj⟩ := u64_some h0
   have hne := hz j hj.on
   obtain ⟨hmu, hmb⟩ := hM _ hne
   have hb := fun i => ntB_bit (j := i) hu hmu
   have hz2 : ∀ i, (ntB x (M (h j))).testBit i = true → h i ≠ 0 := fun i hi => hz i (by
    rw [hb i] at hi
    simp at hi
    exact hi.1)
   rw [cpB_step hM hu hz hj]
   refine List.Pairwise.cons (fun z hz3 e => ?_) (ih _ (ntB_lt hu hmu hj.on ((hmb j).2 ⟨rfl, u64_bit hu hj.on⟩)) (ntB_u hu) hz2)
   obtain ⟨-, i, h2, h3⟩ := cpB_mem hM _ (ntB_u hu) hz2 z hz3
   rw [hb i] at h2
   simp only [Bool.and_eq_true, Bool.not_eq_true'] at h2
   have := (hmb i).2 ⟨h3.trans e.symm, u64_bit hu h2.1⟩
   rw [h2.2] at this
   cases this
theorem cpB_full (hM : Ms M h) : ∀ x, U64 x → (∀ j, x.testBit j = true → h j ≠ 0) → ∀ j, x.testBit j = true → (h j, x &&& M (h j)) ∈ cpB M h x := by
 intro x
 induction x using Nat.strongRecOn with
 | ind x ih =>
  intro hu hz i hi
  obtain ⟨j, hj⟩ := u64_some (x := x) (fun e => by
   rw [e, Nat.zero_testBit] at hi
   cases hi)
  have hne := hz j hj.on
  obtain ⟨hmu, hmb⟩ := hM _ hne
  have hb := fun i => ntB_bit (j := i) hu hmu
  rw [cpB_step hM hu hz hj]
  by_cases e : h i = h j
  ·rw [e]
   exact List.mem_cons_self
  ·have hm : (M (h j)).testBit i = false := by
    cases x2 : (M (h j)).testBit i with
    | false => rfl
    | true => exact absurd ((hmb i).1 x2).1 e
   have h1 := ih _ (ntB_lt hu hmu hj.on ((hmb j).2 ⟨rfl, u64_bit hu hj.on⟩)) (ntB_u hu) (fun k hk => hz k (by
    rw [hb k] at hk
    simp at hk
    exact hk.1)) i (by rw [hb i, hi, hm]; rfl)
   have e2 : ntB x (M (h j)) &&& M (h i) = x &&& M (h i) := Nat.eq_of_testBit_eq (fun k => by
    rw [Nat.testBit_and, Nat.testBit_and, hb k]
    cases hk : (M (h i)).testBit k with
    | false => simp
    | true =>
     have e1 := (((hM _ (hz i hi)).2 k).1 hk).1
     have e3 : (M (h j)).testBit k = false := by
      cases x2 : (M (h j)).testBit k with
      | false => rfl
      | true => exact absurd (e1.symm.trans ((hmb k).1 x2).1) e
     rw [e3]
     simp)
   rw [e2] at h1
   exact List.mem_cons_of_mem _ h1
theorem two_bit {j k : Nat} (hk : (2 ^ j).testBit k = true) : j = k := by
 rw [Nat.testBit_two_pow] at hk
 simpa using hk
end Go.Proofs.YtpogblengagpaaaGreatDoor
