/- Parts of the proof, packed: IoRead, IoWild, ToKit, IoWrite, IoValid, IoRef, IoPut. -/
import Derived.Test.YtnpkihioklpnmaaMg1
import Derived.WalkLawsBesides
import Derived.ProofKit
import Derived.OpenShut
import Derived.Deep.DeepHandedRow
import Derived.Lib.SmallJoins
import Derived.BigRegion
import Derived.Deep.LoopGhost
import Derived.Laws.AppendOwnNone
import Derived.Laws.CopyOwn
import Derived.Laws.ResultCell
import Derived.Deep.Onto
import Derived.Deep.AppendLies
import Derived.Deep.RegionHeld3
/- The program's small functions, and its reading of bits. -/
namespace Go.Proofs.Ytnpkihioklpnmaa
open Go.RowKit Bs

/-- A byte. -/
def nv (x : Nat) : Value := .int .u8 (x : Int)
/-- Bytes, each below 256. -/
def By (l : List Nat) : Prop := ∀ x ∈ l, x < 256
set_option maxRecDepth 100000 in
theorem By.at_ {l : List Nat} (h : By l) {j : Nat} (hj : j < l.length) : l.getD j 0 < 256 := by
  rw [List.getD_eq_getElem?_getD, List.getElem?_eq_getElem hj]
  exact h _ (List.getElem_mem hj)
set_option maxRecDepth 100000 in
theorem nv_at {l : List Nat} {j : Nat} (h : j < l.length) : (l.map nv)[j]? = some (.int .u8 ((l.getD j 0 : Nat) : Int)) := by
  rw [List.getElem?_map, List.getElem?_eq_getElem h, List.getD_eq_getElem?_getD, List.getElem?_eq_getElem h]; rfl
set_option maxRecDepth 100000 in
theorem Rd.at_ {w : World} {q : Nat → Prop} {p : Option Addr} {n c i : Nat} {vs : List Value} {x : Value} (h : Rd w q (.slice p n c) vs) (hi : vs[i]? = some x) :
    ∃ b off, p = some ⟨b, off, none⟩ ∧ q b ∧ w.cell? ⟨b, off + i, none⟩ = some x := by
  obtain ⟨p1, c1, e1, hx⟩ := h
  injection e1 with a1 a2 a3
  subst a1
  obtain ⟨b, off, hp, hq, hc⟩ := hx (by intro e; rw [e] at hi; simp at hi)
  exact ⟨b, off, hp, hq, hc i x hi⟩
def vw (n : Int) : Bool := decide (0 ≤ n) && decide (n ≤ 64)
set_option maxRecDepth 100000 in
/-- One round of reading: k bits of the byte at A. -/
theorem read_step {l : List Nat} {at0 j A x k s : Nat} (hA : at0 + j = A) (hX : l.getD (A / 8) 0 = x) (hs : s + k + A % 8 = 8) (hj : j + k ≤ 64) (hx : x < 256) :
    bits .or .u64 (IntKind.u64.wrap (((num (bt l) at0 j : Nat) : Int) * 2 ^ k)) (bits .and .u64 ((x : Int) / 2 ^ s) (IntKind.u64.wrap (IntKind.u64.wrap (2 ^ k) - 1))) = ((num (bt l) at0 (j + k) : Nat) : Int) := by
  have h1 := num_lt (bt l) at0 j
  have h2 : 2 ^ (j + k) ≤ 2 ^ 64 := Nat.pow_le_pow_right (by decide) hj
  have h3 : num (bt l) at0 j * 2 ^ k + 2 ^ k ≤ 2 ^ (j + k) := by
    rw [Nat.pow_add, ← Nat.succ_mul]
    exact Nat.mul_le_mul_right _ h1
  rw [rd_word _ x s k (by omega) hx (Nat.le_trans h3 h2), num_add, hA]
  rw [num_byte x s k A (A % 8) (bt l) hs]
  intro t ht
  unfold bt
  rw [show (A + t) / 8 = A / 8 by omega, hX, show (A + t) % 8 = A % 8 + t by omega]
end Go.Proofs.Ytnpkihioklpnmaa

/- The tape's wild numbers; rows of a call's own while the tape turns. -/
namespace Go.Proofs.Ytnpkihioklpnmaa
open Go.RowKit Bs
def wilds : List Int := [-1, 0, 1, 7, 8, 23, 24, 31, 32, 63, 64, 99, 100, 255, 256, 257, 1000, 1001, 1023, 1024, 1000000, 1000001, 1099511627776, 9223372036854775807, -9223372036854775808]
set_option maxRecDepth 100000 in
theorem wilds_i64 : ∀ x ∈ wilds, I64 x := by unfold I64 wilds; decide +kernel
set_option maxRecDepth 100000 in
set_option maxHeartbeats 800000 in
theorem wild_any (a : Nat) (w : World) (hT : Tp w a) :
    Calls Try.prog 56 #[.pointer (some ⟨a, 0, none⟩)] w fun e w' => IntPost I64 a w e w' := by
  have HA := among_list I64 w a wilds (wilds.map fun x => Value.int .i64 x).toArray 3 hT.lt rfl wilds_i64
  have HA' := Lib.hid HA
  clear HA
  go_enter Try.func56, Try.ntmps56
  go_wp2_with fail
  refine (pick_any I64 a _ 0 25 25 (by omega) (by omega) _ (hT.alloc _) HA'.out).mono ?_
  rintro e w1 ⟨r, rfl, hr, hs⟩
  go_wp2_with fail
  go_ret
  exact ⟨_, rfl, hr, hs.alloc_left⟩
set_option maxRecDepth 100000 in
theorem own_block_ne {w wr : World} {e : TypeId} {v : Value} {n a : Nat} {xs : List Value} (h : wr.ownsRow w.heap.size e 1 v n xs) (ha : a < w.heap.size) : v.ownBlock = none ∨ v.ownBlock ≠ some a := by
  cases hv : v.ownBlock with
  | none => exact .inl rfl
  | some g =>
    right
    intro e2
    have e3 := Option.some.inj e2
    have := (h.lt g hv).1
    omega
set_option maxRecDepth 100000 in
/-- A row of the call's own is appended to: the tape stands. -/
theorem st_append {a : Nat} {w wr w1 : World} {o : Obj} {v : Value} {n : Nat} {e : TypeId} {xs : List Value} (hs : St a w wr) (ha : a < w.heap.size) (hown : wr.ownsRow w.heap.size e 1 v n xs) (hg : (wr.alloc o).grownBy w1 v.ownBlock) : St a w w1 := by
  have hT := hs.2.alloc o
  have hlt := hT.lt
  have hne : some a ≠ v.ownBlock := by
    rcases own_block_ne hown ha with h | h
    · rw [h]; simp
    · exact fun e => h e.symm
  refine ⟨⟨hg.os.trans hs.1.os, hg.tape.trans hs.1.tape, hg.output.trans hs.1.output, Nat.le_trans hs.1.size (Nat.le_trans (by simp) hg.size), fun k hk hka => ?_⟩, ?_⟩
  · have hks : k < wr.heap.size := Nat.lt_of_lt_of_le hk hs.1.size
    refine (hg.block k (by simp; omega) (fun e => ?_)).trans ((Below.heap_alloc wr o k hks).trans (hs.1.block k hk hka))
    have := (hown.lt k e.symm).1
    omega
  · have hb := hg.block a hlt hne
    have hal := hs.2.lt
    obtain ⟨lv, m, i, T⟩ := hT
    refine ⟨lv, m, i, (World.cell?_of_block (a := ⟨a, 0, none⟩) hb).trans T.l, (World.cell?_of_block (a := ⟨a, 1, none⟩) hb).trans T.p, (World.frozen?_of_block (a := ⟨a, 1, none⟩) hb).trans T.fr, ?_, T.le, T.len⟩
    obtain ⟨p, c, hv, hc⟩ := T.ints
    refine ⟨p, c, hv, fun hm => ?_⟩
    obtain ⟨b, off, hp, hba, hx⟩ := hc hm
    refine ⟨b, off, hp, hba, fun i hi => ?_⟩
    obtain ⟨x, hx, hcell⟩ := hx i hi
    refine ⟨x, hx, hg.cell hcell (fun e => ?_)⟩
    have := (hown.lt b e.symm).1
    omega
set_option maxRecDepth 100000 in
/-- A row of the call's own stands while the tape turns. -/
theorem own_kept {a : Nat} {w wr w1 : World} {v : Value} {n : Nat} {e : TypeId} {xs : List Value} (ha : a < w.heap.size) (hown : wr.ownsRow w.heap.size e 1 v n xs) (g : wr.grownBy w1 (some a)) : w1.ownsRow w.heap.size e 1 v n xs :=
  hown.kept g (own_block_ne hown ha)
end Go.Proofs.Ytnpkihioklpnmaa

/- (Without streams.) What every statement's proof shares: the arguments opened; the call's end shut. -/
namespace Go.Proofs.Ytnpkihioklpnmaa
open Go.ChangeShapes Go.WideShapes Go.ChangeAt Go.RowKit Go.Joins Bs

set_option maxRecDepth 100000 in
theorem kit_own : ownKnob Try.prog.godebug = none := by kernel_rfl
set_option maxRecDepth 100000 in
theorem kit_laid : laidOutB Try.prog = true := by kernel_rfl
set_option maxRecDepth 100000 in
theorem kit_cellsByte : Try.prog.cellsOf 5 = 1 := by kernel_rfl
set_option maxRecDepth 100000 in
theorem kit_cellsInt : Try.prog.cellsOf 3 = 1 := by kernel_rfl
section
variable {H : Type} {enc : TypeId × Value → H} {W W' : World}
/-- The types of these parameters can be read. -/
def Readable (P : Program) (ts : List TypeId) : Bool := ts.all fun t => P.readableRec t && decide (t < P.types.size)
set_option maxRecDepth 100000 in
theorem args_below {P : Program} (hl : laidOutB P = true) (hb : Below W.heap.size W W') {sp : Nat → Bool} : ∀ (ts : List TypeId) (vs : List Value) (ds : List (DataW H)) (ps : List MemPlace), Readable P ts = true →
    DataW.TrodAll enc P W 0 (fun _ => true) true ts vs ds ps → (∀ x ∈ ps, x.block < W.heap.size) → (∀ x ∈ ps, sp x.block = true) → DataW.TrodAll enc P W' 0 sp true ts vs ds ps := by
  intro ts
  induction ts with
  | nil =>
    intro vs ds ps _ h _ _
    cases vs with
    | nil => cases ds with
      | nil => exact h
      | cons _ _ => exact h.elim
    | cons _ _ => exact h.elim
  | cons t ts ih =>
    intro vs ds ps hr h hlt hs
    cases vs with
    | nil => exact h.elim
    | cons v vs => cases ds with
      | nil => exact h.elim
      | cons d ds =>
        obtain ⟨p, q, h1, h2, rfl⟩ := h
        have hr' : (P.readableRec t = true ∧ t < P.types.size) ∧ Readable P ts = true := by
          unfold Readable at hr ⊢
          rw [List.all_cons, Bool.and_eq_true, Bool.and_eq_true, decide_eq_true_eq] at hr
          exact hr
        exact ⟨p, q, WideElems.Trod_stays hl hr'.1.1 hr'.1.2 h1 (fun x hx => hb.same (hlt x (by simp [hx]))) (fun x hx => hs x (by simp [hx])),
          ih vs ds q hr'.2 h2 (fun x hx => hlt x (by simp [hx])) (fun x hx => hs x (by simp [hx])), rfl⟩
set_option maxRecDepth 100000 in
theorem below_of_grown (g : W.grownBy W' none) : Below W.heap.size W W' := ⟨g.os, g.tape, g.output, g.size, fun k hk => g.block k hk (by simp)⟩
set_option maxRecDepth 100000 in
/-- The end of a statement's call: it returned true, and made memory alone. -/
theorem law_post {f : Func} {s : ChangeSpec} {args : Array Value} {ds gs : List (DataW H)} {before : List MemPlace} (hr : Readable Try.prog f.params.toList = true) (hv : s.vars = [])
    (hres : f.resultTypes = #[4]) (hfn : (s.fn H (ds ++ gs)).results = [.lit (.bool true)] ∧ (s.fn H (ds ++ gs)).args = ds ∧ (s.fn H (ds ++ gs)).vars = [])
    (hW : DataW.Whole enc Try.prog f.params.toList s.vars false W args.toList ds gs before) (g : W.grownBy W' none) : s.post enc Try.prog f false true false false W args (.bool true) W' := by
  have hlt := hW.lt
  have hb := below_of_grown g
  obtain ⟨p, q, hA, hV, hp, _, _⟩ := id hW
  rw [hv] at hV
  obtain ⟨rfl, rfl⟩ := trodVars_none hV
  rw [List.append_nil] at hp
  subst hp
  refine ⟨ds, [], before, [], before, [], hW, ?_, ?_, ?_, hb.frame _, fun h => by cases h⟩
  · rw [hfn.1, hres]
    exact trodAll_mk1 (shut_bool Try.underlying4 _)
  · rw [hfn.2.1]
    exact args_below kit_laid hb _ _ _ _ hr hA hlt (fun x hx => by simpa using hlt x hx)
  · rw [hfn.2.2, hv]; rfl
end

section
variable {H : Type} {enc : TypeId × Value → H} {W : World} {base : Nat} {v : Value} {d : DataW H} {ps : List MemPlace}
set_option maxRecDepth 100000 in
theorem opn_u64 (hval : Value.okWide Try.prog W .any base 125 v) (h : DataW.Trod enc Try.prog W 0 (fun _ => true) true 125 v d ps) : ∃ b : Nat, v = .int .u64 (b : Int) ∧ U64 b := by
  obtain ⟨n, rfl, _, _, wf⟩ := open_int Try.underlying125 hval h
  have hb : 0 ≤ n ∧ n < 18446744073709551616 := by
    simp [Lit.wf, IntKind.min, IntKind.max, IntKind.bits, IntKind.signed] at wf
    omega
  obtain ⟨b, rfl⟩ := Int.eq_ofNat_of_zero_le hb.1
  exact ⟨b, rfl, u64_mk (by omega)⟩
set_option maxRecDepth 100000 in
theorem opn_i64 (hval : Value.okWide Try.prog W .any base 3 v) (h : DataW.Trod enc Try.prog W 0 (fun _ => true) true 3 v d ps) : ∃ n : Int, v = .int .i64 n ∧ I64 n := by
  obtain ⟨n, rfl, _, _, wf⟩ := open_int Try.underlying3 hval h
  refine ⟨n, rfl, ?_⟩
  simp [Lit.wf, IntKind.min, IntKind.max, IntKind.bits, IntKind.signed] at wf
  unfold I64; omega
set_option maxRecDepth 100000 in
theorem i64_wf {n : Int} (wf : (Lit.int .i64 n).wf = true) : I64 n := by
  simp [Lit.wf, IntKind.min, IntKind.max, IntKind.bits, IntKind.signed] at wf
  unfold I64; omega
set_option maxRecDepth 100000 in
theorem opn_slice {T E : TypeId} {k : IntKind} (ht : Try.prog.underlying T = some (.slice E)) (he : Try.prog.underlying E = some (.int k)) (hc : Try.prog.cellsOf E = 1)
    (hval : Value.okWide Try.prog W .any base T v) (h : DataW.Trod enc Try.prog W 0 (fun _ => true) true T v d ps) :
    ∃ zs : List Int, (∀ z ∈ zs, (Lit.int k z).wf = true) ∧ Rd W (· < W.heap.size) v (zs.map fun z => .int k z) ∧ ∃ p c, v = .slice p zs.length c ∧ zs.length ≤ c ∧ c ≤ 9223372036854775807 := by
  obtain ⟨p0, n0, c0, rfl⟩ := okWide_slice ht hval
  obtain ⟨fuel, hf⟩ := h
  rcases open_ints ht he hc hf with ⟨hcs, _⟩ | ⟨a, len, cap, zs, hcs, _, hl, hm, hz, _, hcell, hw⟩
  · simp [Value.cells] at hcs
    obtain ⟨rfl, rfl, rfl⟩ := hcs
    exact ⟨[], fun _ h => by simp at h, Rd.nil_ _ _ _ _, none, 0, rfl, Nat.le_refl _, Nat.zero_le _⟩
  · simp [Value.cells] at hcs
    obtain ⟨rfl, rfl, rfl⟩ := hcs
    rw [if_pos rfl] at hz
    have hlen : (zs.take n0).length = n0 := by rw [List.length_take]; omega
    refine ⟨zs.take n0, fun z hzm => hw z (List.mem_of_mem_take hzm), ?_, some a, c0, by rw [hlen], by omega, hm⟩
    refine ⟨some a, c0, by rw [List.length_map, hlen], fun hne => ?_⟩
    have hpos : 0 < zs.length := by
      rcases Nat.eq_zero_or_pos zs.length with h0 | h0
      · rw [List.eq_nil_of_length_eq_zero h0] at hne
        simp at hne
      · exact h0
    obtain ⟨b, off, rfl, hcc⟩ := ints_at hcell hpos
    refine ⟨b, off, rfl, World.block_lt_of_cell? W ⟨b, off + 0, none⟩ (hcc 0 hpos), fun i x hi => ?_⟩
    obtain ⟨hi1, hi2⟩ := List.getElem?_eq_some_iff.1 hi
    rw [List.length_map, hlen] at hi1
    rw [hcc i (by omega)]
    rw [List.getElem_map, List.getElem_take] at hi2
    rw [← hi2, List.getD_eq_getElem?_getD, List.getElem?_eq_getElem (by omega)]; rfl
set_option maxRecDepth 100000 in
theorem opn_ints (hval : Value.okWide Try.prog W .any base 22 v) (h : DataW.Trod enc Try.prog W 0 (fun _ => true) true 22 v d ps) :
    ∃ zs : List Int, (∀ z ∈ zs, I64 z) ∧ Rd W (· < W.heap.size) v (zs.map fun z => .int .i64 z) ∧ ∃ p c, v = .slice p zs.length c ∧ zs.length ≤ c ∧ c ≤ 9223372036854775807 := by
  obtain ⟨zs, hw, hr⟩ := opn_slice Try.underlying22 Try.underlying3 kit_cellsInt hval h
  exact ⟨zs, fun z hz => i64_wf (hw z hz), hr⟩
set_option maxRecDepth 100000 in
theorem ints_in {zs : List Int} (hz : ∀ z ∈ zs, I64 z) (h : Rd W (· < W.heap.size) v (zs.map fun z => .int .i64 z)) (hc : ∃ p c, v = .slice p zs.length c ∧ zs.length ≤ c ∧ c ≤ 9223372036854775807) : IntsIn W v := by
  obtain ⟨p, c, rfl, h1, h2⟩ := hc
  refine ⟨p, zs.length, c, rfl, h1, h2, fun hn => ?_⟩
  obtain ⟨p', c', hv, hx⟩ := h
  injection hv with e1 e2 e3
  subst e1
  obtain ⟨b, off, hp, hb, hcell⟩ := hx (by intro e; have := congrArg List.length e; simp at this; subst this; simp at hn)
  refine ⟨b, off, hp, hb, fun i hi => ⟨zs[i], hz _ (List.getElem_mem hi), hcell i _ ?_⟩⟩
  rw [List.getElem?_map, List.getElem?_eq_getElem hi]; rfl
end
section
variable {H : Type} {enc : TypeId × Value → H} {W : World} {base : Nat} {v : Value} {d : DataW H} {ps : List MemPlace}
set_option maxRecDepth 100000 in
theorem opn_u8 (hval : Value.okWide Try.prog W .any base 5 v) (h : DataW.Trod enc Try.prog W 0 (fun _ => true) true 5 v d ps) : ∃ b : Nat, v = .int .u8 (b : Int) ∧ b < 256 := by
  obtain ⟨n, rfl, _, _, wf⟩ := open_int Try.underlying5 hval h
  have hb : 0 ≤ n ∧ n < 256 := by
    simp [Lit.wf, IntKind.min, IntKind.max, IntKind.bits, IntKind.signed] at wf
    omega
  obtain ⟨b, rfl⟩ := Int.eq_ofNat_of_zero_le hb.1
  exact ⟨b, rfl, by omega⟩
end
end Go.Proofs.Ytnpkihioklpnmaa

/- A block of bytes that a call has made; the program's writing and moving of bits. -/
namespace Go.Proofs.Ytnpkihioklpnmaa
open Go.RowKit Bs

/-- Block g holds the bytes l. -/
def Blk (w : World) (g : Nat) (l : List Nat) : Prop := w.heap[g]? = some (.cells (l.map nv).toArray 5 (0, 0))
section
variable {w w' : World} {g : Nat} {l : List Nat}
set_option maxRecDepth 100000 in
theorem Blk.cell (h : Blk w g l) {j : Nat} (hj : j < l.length) : w.cell? ⟨g, j, none⟩ = some (.int .u8 ((l.getD j 0 : Nat) : Int)) := by
  rw [cell_of_row w g j _ _ (0, 0) h]
  rw [List.getElem?_toArray]
  exact nv_at hj
set_option maxRecDepth 100000 in
theorem Blk.frozen (h : Blk w g l) (j : Nat) : w.frozen? ⟨g, j, none⟩ = false := frozen_of_row w g j _ _ h
set_option maxRecDepth 100000 in
theorem Blk.set (h : Blk w g l) (j x : Nat) : Blk (w.setCell ⟨g, j, none⟩ (nv x)) g (l.set j x) := by
  have e := heap_setCell_same w g j _ _ (nv x) h
  unfold Blk
  rw [e]
  congr 2
  rw [List.setIfInBounds_toArray, List.map_set]
set_option maxRecDepth 100000 in
theorem Blk.lt (h : Blk w g l) : g < w.heap.size := (Array.getElem?_eq_some_iff.1 h).1
set_option maxRecDepth 100000 in
theorem Blk.grown {r : Option Nat} (h : Blk w g l) (k : w.grownBy w' r) (hr : some g ≠ r) : Blk w' g l := (k.block g h.lt hr).trans h
set_option maxRecDepth 100000 in
theorem Blk.keep (h : Blk w g l) (k : w.grownBy w' none) : Blk w' g l := h.grown k (by simp)
set_option maxRecDepth 100000 in
theorem Blk.rd (h : Blk w g l) (q : Nat → Prop) (hq : q g) (c : Nat) : Rd w q (.slice (some ⟨g, 0, none⟩) l.length c) (l.map nv) := by
  refine ⟨some ⟨g, 0, none⟩, c, by rw [List.length_map], fun _ => ⟨g, 0, rfl, hq, fun i x hi => ?_⟩⟩
  rw [Nat.zero_add, cell_of_row w g i _ _ (0, 0) h, List.getElem?_toArray]
  exact hi
end
set_option maxRecDepth 100000 in
theorem set_grown {w0 w : World} {g j : Nat} {x : Value} (h : w0.grownBy w (some g)) : w0.grownBy (w.setCell ⟨g, j, none⟩ x) (some g) := grown_trans h (grown_setCell w ⟨g, j, none⟩ x)
set_option maxRecDepth 100000 in
theorem wr_word (x V d k s : Nat) (hx : x < 256) (hV : U64 V) (hs : s + k ≤ 8) :
    bits .or .u8 (x : Int) (IntKind.u8.wrap (IntKind.u8.wrap (bits .and .u64 ((V : Int) / 2 ^ d) (IntKind.u64.wrap (IntKind.u64.wrap (2 ^ k) - 1))) * 2 ^ s)) = ((x ||| (V / 2 ^ d % 2 ^ k * 2 ^ s) : Nat) : Int) := by
  have h1 := p2_le (show k ≤ 8 by omega)
  have h0 : 0 < 2 ^ k := Nat.pow_pos (by decide)
  rw [mask_word k (by omega), shrW, andU _ _ (u64_div _ _ hV) (u64_mk (by omega)), Nat.and_two_pow_sub_one_eq_mod]
  have hm := Nat.mod_lt (V / 2 ^ d) h0
  generalize V / 2 ^ d % 2 ^ k = z at *
  have e1 : IntKind.u8.wrap (z : Int) = (z : Int) := by rw [IntKind.wrap_u8']; omega
  have h2 : 2 ^ (s + k) ≤ 256 := p2_le hs
  have h3 : z * 2 ^ s < 2 ^ (s + k) := by
    rw [Nat.pow_add, Nat.mul_comm (2 ^ s)]
    exact Nat.mul_lt_mul_of_pos_right hm (Nat.pow_pos (by decide))
  rw [e1, powI, show ((z : Int) * ((2 ^ s : Nat) : Int)) = ((z * 2 ^ s : Nat) : Int) by simp]
  generalize z * 2 ^ s = y at *
  have e2 : IntKind.u8.wrap (y : Int) = (y : Int) := by rw [IntKind.wrap_u8']; omega
  rw [e2, u8_or_nat x y hx (by omega)]
set_option maxRecDepth 100000 in
/-- One round of writing: k bits at A, out of n bits that are left. -/
theorem write_step {f : Nat → Bool} {A n N V k s d x : Nat} (hx : (pz f A N).getD (A / 8) 0 = x) (hN : A / 8 < N) (hV : U64 V) (hs : s + k + A % 8 = 8) (hd : d + k = n) (hf : ∀ t, t < k → f (A + t) = V.testBit (n - 1 - t)) :
    bits .or .u8 (x : Int) (IntKind.u8.wrap (IntKind.u8.wrap (bits .and .u64 ((V : Int) / 2 ^ d) (IntKind.u64.wrap (IntKind.u64.wrap (2 ^ k) - 1))) * 2 ^ s)) = ((py f (A + k) (A / 8) : Nat) : Int) := by
  rw [pz_getD f A N _ hN] at hx
  subst hx
  rw [wr_word _ V d k s (py_lt _ _ _) hV (by omega), show d = n - k by omega, num_word V n k A f (by omega) hf, show s = 8 - A % 8 - k by omega, py_or f A k (by omega)]
set_option maxRecDepth 100000 in
theorem write_step1 {f : Nat → Bool} {A N V k s x : Nat} (hx : (pz f A N).getD (A / 8) 0 = x) (hN : A / 8 < N) (hV : U64 V) (hs : s + k + A % 8 = 8) (hf : ∀ t, t < k → f (A + t) = V.testBit (k - 1 - t)) :
    bits .or .u8 (x : Int) (bits .and .u64 (V : Int) (IntKind.u64.wrap (IntKind.u64.wrap (2 ^ k) - 1)) % 256 * 2 ^ s % 256) = ((py f (A + k) (A / 8) : Nat) : Int) := by
  rw [← write_step (d := 0) (n := k) hx hN hV hs (by omega) hf, IntKind.wrap_u8', IntKind.wrap_u8']
  simp
set_option maxRecDepth 100000 in
theorem write_step2 {f : Nat → Bool} {A n N V k d x : Nat} (hx : (pz f A N).getD (A / 8) 0 = x) (hN : A / 8 < N) (hV : U64 V) (hs : k + A % 8 = 8) (hd : d + k = n) (hf : ∀ t, t < k → f (A + t) = V.testBit (n - 1 - t)) :
    bits .or .u8 (x : Int) (bits .and .u64 ((V : Int) / 2 ^ d) (IntKind.u64.wrap (IntKind.u64.wrap (2 ^ k) - 1)) % 256) = ((py f (A + k) (A / 8) : Nat) : Int) := by
  rw [← write_step (s := 0) (n := n) hx hN hV (by omega) hd hf, IntKind.wrap_u8', IntKind.wrap_u8']
  simp
set_option maxRecDepth 100000 in
theorem write_set {f : Nat → Bool} {A k N g : Nat} {w wr : World} (h : Blk wr g (pz f A N)) (hg : w.grownBy wr (some g)) (hk : A % 8 + k ≤ 8) (hN : A / 8 < N) :
    Blk (wr.setCell ⟨g, A / 8, none⟩ (.int .u8 ((py f (A + k) (A / 8) : Nat) : Int))) g (pz f (A + k) N) ∧ w.grownBy (wr.setCell ⟨g, A / 8, none⟩ (.int .u8 ((py f (A + k) (A / 8) : Nat) : Int))) (some g) := by
  refine ⟨?_, set_grown hg⟩
  have := h.set (A / 8) (py f (A + k) (A / 8))
  rw [pz_set f A k N hk hN] at this
  exact this
def WriteRel (f : Nat → Bool) (N g : Nat) (w : World) (A : Nat) (wr : World) : Prop := Blk wr g (pz f A N) ∧ w.grownBy wr (some g)
set_option maxRecDepth 100000 in
theorem writeRel_next {f : Nat → Bool} {N g A k : Nat} {w wr : World} {x : Int} (h : WriteRel f N g w A wr) (hk : A % 8 + k ≤ 8) (hN : A / 8 < N) (hx : x = ((py f (A + k) (A / 8) : Nat) : Int)) :
    WriteRel f N g w (A + k) (wr.setCell ⟨g, A / 8, none⟩ (.int .u8 x)).drew := by
  subst hx
  have k := write_set h.1 h.2 hk hN
  exact ⟨k.1, k.2.os, k.2.tape, k.2.output, k.2.size, k.2.block⟩
set_option maxRecDepth 100000 in
/-- Bits moved: the k bits from place at on are those of the source from place fr on. -/
theorem writeRel_trans {f : Nat → Bool} {N g A B : Nat} {w w1 w2 : World} (h : WriteRel f N g w A w1) (k : WriteRel f N g w1 B w2) : WriteRel f N g w B w2 :=
  ⟨k.1, grown_trans h.2 k.2⟩
end Go.Proofs.Ytnpkihioklpnmaa

/- Valid, of the program and of the reference. -/
namespace Go.Proofs.Ytnpkihioklpnmaa
open Go.RowKit Bs
set_option maxRecDepth 100000 in
theorem qt0 {P : Program} {f : FuncId} {args : Array Value} {w : World} {v : Value} (h : Calls P f args w fun e w' => e = .returned v ∧ w = w') :
    Calls P f args w fun e w'' => e = .returned v ∧ ∃ m, w'' = w.drewN m := h.mono fun _ _ ⟨he, hw⟩ => ⟨he, 0, hw.symm⟩
set_option maxRecDepth 100000 in
theorem qt1 {P : Program} {f : FuncId} {args : Array Value} {w : World} {n : Nat} {v : Value} (h : Calls P f args (w.drewN n) fun e w' => e = .returned v ∧ w.drewN n = w') :
    Calls P f args (w.drewN n) fun e w'' => e = .returned v ∧ ∃ m, w'' = w.drewN m := h.mono fun _ _ ⟨he, hw⟩ => ⟨he, n, hw.symm⟩
set_option maxRecDepth 100000 in
theorem qt2 {P : Program} {f : FuncId} {args : Array Value} {w : World} {a n : Nat} {v : Value} (h : Calls P f args (w.drewN (a + n)) fun e w' => e = .returned v ∧ w.drewN (a + n) = w') :
    Calls P f args (w.drewN (a + n)) fun e w'' => e = .returned v ∧ ∃ m, w'' = w.drewN (a + m) := h.mono fun _ _ ⟨he, hw⟩ => ⟨he, n, hw.symm⟩
/-- A stream is valid. -/
def vs (l : List Nat) (n : Int) : Bool := decide (0 ≤ n ∧ n ≤ 8192 ∧ l.length = (n.toNat + 7) / 8 ∧ ∀ i, i < 8 * l.length → n.toNat ≤ i → bt l i = false)
set_option maxRecDepth 100000 in
theorem vs_iff {l : List Nat} {N : Nat} : vs l (N : Int) = true ↔ N ≤ 8192 ∧ l.length = (N + 7) / 8 ∧ ∀ i, i < 8 * l.length → N ≤ i → bt l i = false := by
  unfold vs
  rw [decide_eq_true_eq, Int.toNat_natCast]
  constructor
  · rintro ⟨_, h1, h2⟩; exact ⟨by omega, h2⟩
  · rintro ⟨h1, h2⟩; exact ⟨by omega, by omega, h2⟩
set_option maxRecDepth 100000 in
theorem vs_neg {l : List Nat} {n : Int} (h : n < 0) : vs l n = false := by
  unfold vs; rw [decide_eq_false_iff_not]; rintro ⟨h1, _⟩; omega
set_option maxRecDepth 100000 in
theorem vs_big {l : List Nat} {n : Int} (h : 8192 < n) : vs l n = false := by
  unfold vs; rw [decide_eq_false_iff_not]; rintro ⟨_, h1, _⟩; omega
set_option maxRecDepth 100000 in
theorem vs_len {l : List Nat} {N : Nat} (h : l.length ≠ (N + 7) / 8) : vs l (N : Int) = false := by
  unfold vs; rw [decide_eq_false_iff_not, Int.toNat_natCast]; rintro ⟨_, _, h1, _⟩; exact h h1
set_option maxRecDepth 100000 in
theorem vs_full {l : List Nat} {N : Nat} (h0 : N ≤ 8192) (h : l.length = (N + 7) / 8) (h8 : N % 8 = 0) : vs l (N : Int) = true := by
  rw [vs_iff]; exact ⟨h0, h, fun i h1 h2 => by omega⟩
set_option maxRecDepth 100000 in
theorem vs_nat {l : List Nat} {n : Int} (h : vs l n = true) : ∃ N : Nat, n = (N : Int) := by
  unfold vs at h; rw [decide_eq_true_eq] at h
  exact ⟨n.toNat, by omega⟩
set_option maxRecDepth 100000 in
theorem vs_last {l : List Nat} {N r x : Nat} (h0 : N ≤ 8192) (h : l.length = (N + 7) / 8) (h8 : r ≠ 0) (hr : N % 8 = r) (hx : l.getD (N / 8) 0 = x) : vs l (N : Int) = decide (x * 2 ^ r % 256 = 0) := by
  have e8 : (256 : Nat) = 2 ^ 8 := rfl
  rw [Bool.eq_iff_iff, vs_iff, decide_eq_true_eq]
  constructor
  · rintro ⟨_, _, h2⟩
    apply Nat.eq_of_testBit_eq
    intro j
    rw [e8, Nat.testBit_mod_two_pow, ← Nat.shiftLeft_eq, Nat.testBit_shiftLeft, Nat.zero_testBit]
    by_cases hj : j < 8
    · by_cases hjr : r ≤ j
      · have := h2 (8 * (N / 8) + (7 - j + r)) (by omega) (by omega)
        unfold bt at this
        rw [show (8 * (N / 8) + (7 - j + r)) / 8 = N / 8 by omega, hx, show 7 - (8 * (N / 8) + (7 - j + r)) % 8 = j - r by omega] at this
        rw [this]; simp
      · simp [hjr]
    · simp [hj]
  · intro h2
    refine ⟨h0, h, fun i h3 h4 => ?_⟩
    have h5 : (x * 2 ^ r % 256).testBit (7 - i % 8 + r) = false := by rw [h2]; exact Nat.zero_testBit _
    rw [e8, Nat.testBit_mod_two_pow, ← Nat.shiftLeft_eq, Nat.testBit_shiftLeft] at h5
    have h6 : 7 - i % 8 + r < 8 := by omega
    have h7 : 7 - i % 8 + r ≥ r := by omega
    rw [Nat.add_sub_cancel] at h5
    simp only [h6, h7, decide_true, Bool.true_and] at h5
    unfold bt
    rw [show i / 8 = N / 8 by omega, hx]; exact h5
set_option maxRecDepth 100000 in
theorem shl_zero (x r : Nat) : ((x : Int) * 2 ^ r % 256 == 0) = decide (x * 2 ^ r % 256 = 0) := by
  rw [powI, show (x : Int) * ((2 ^ r : Nat) : Int) = ((x * 2 ^ r : Nat) : Int) by simp]
  generalize x * 2 ^ r = y
  rw [Bool.eq_iff_iff, beq_iff_eq, decide_eq_true_eq]
  omega
/-- The value of a stream. -/
def sval (p : Option Addr) (k c : Nat) (n : Int) : Value := .agg #[.slice p k c, .int .i64 n]
def ValidPost (l : List Nat) (n : Int) (w : World) (e : Ending) (w' : World) : Prop := e = .returned (.bool (vs l n)) ∧ w.grownBy w' none
set_option maxRecDepth 100000 in
theorem grown_alloc_drewN (w : World) (o : Obj) (n : Nat) : w.grownBy ((w.alloc o).drewN n) none := grown_trans (World.grownBy_alloc w o _) (grown_drewN _ _ _)
set_option maxRecDepth 100000 in
/-- A block of two cells. -/
theorem box2 (w : World) (v0 v1 : Value) (t : TypeId) : (w.alloc (.cells #[v0, v1] t)).cell? ⟨w.heap.size, 0, none⟩ = some v0 ∧ (w.alloc (.cells #[v0, v1] t)).cell? ⟨w.heap.size, 1, none⟩ = some v1 := by
  have hb : (w.alloc (.cells #[v0, v1] t)).heap[w.heap.size]? = some (.cells #[v0, v1] t (0, 0)) := heap_alloc_new w _
  refine ⟨?_, ?_⟩
  · rw [cell_of_row _ _ _ _ _ _ hb]; rfl
  · rw [cell_of_row _ _ _ _ _ _ hb]; rfl
end Go.Proofs.Ytnpkihioklpnmaa

/- Of the reference: one bit, Valid. -/
namespace Go.Proofs.Ytnpkihioklpnmaa
open Go.RowKit Bs
/-- A bit as a word. -/
def bw (b : Bool) : Value := .int .u64 ((b.toNat : Nat) : Int)
set_option maxRecDepth 100000 in
theorem bt_word {l : List Nat} {i x s : Nat} (hx : l.getD (i / 8) 0 = x) (hs : 7 - i % 8 = s) (hx8 : x < 256) : bits .and .u64 (IntKind.u64.wrap ((x : Int) / 2 ^ s)) 1 = (((bt l i).toNat : Nat) : Int) := by
  rw [show IntKind.u64.wrap ((x : Int) / 2 ^ s) = (x : Int) / 2 ^ s by rw [shrW]; exact wrapU _ (u64_div _ _ (u64_mk (by omega))), bitW x s (u64_mk (by omega))]
  unfold bt
  rw [hx, hs, Nat.toNat_testBit]
set_option maxRecDepth 100000 in
set_option maxHeartbeats 800000 in
theorem bitr_any (l : List Nat) (i : Nat) (q : Nat → Prop) (p : Option Addr) (c : Nat) (hl : By l) (hi : i < 8 * l.length) (hi2 : i ≤ 1000000) (w : World) (hR : Rd w q (.slice p l.length c) (l.map nv)) :
    Calls Try.prog 124 #[.slice p l.length c, .int .i64 (i : Int)] w fun e w' => e = .returned (bw (bt l i)) ∧ w = w' := by
  have hK : i / 8 < l.length := by omega
  obtain ⟨g, off, rfl, _, hcell⟩ := hR.at_ (nv_at hK)
  have hx := hl.at_ hK
  generalize hX : l.getD (i / 8) 0 = x at *
  obtain ⟨s, hs⟩ : ∃ s : Nat, 7 - i % 8 = s := ⟨_, rfl⟩
  have hs8 : s ≤ 7 := by omega
  have hsub : 7 - (i : Int) % 8 = (s : Int) := by omega
  have HB := Lib.hid (bt_word hX hs hx)
  clear hs hX hR
  go_enter Try.func124, Try.ntmps124
  go_wp2_with fail
  go_ret
  exact ⟨ret_int HB.out, rfl⟩
set_option maxRecDepth 100000 in
theorem bw_true {b : Bool} (h : b = true) : bw b = .int .u64 1 := by rw [h]; rfl
set_option maxRecDepth 100000 in
theorem bw_false {b : Bool} (h : b = false) : bw b = .int .u64 0 := by rw [h]; rfl
set_option maxRecDepth 100000 in
set_option maxHeartbeats 1600000 in
theorem validr_any (l : List Nat) (n : Int) (q : Nat → Prop) (p : Option Addr) (c : Nat) (hl : By l) (w : World) (hq : ∀ b, q b → b < w.heap.size) (hR : Rd w q (.slice p l.length c) (l.map nv)) :
    Calls Try.prog 123 #[.agg #[.slice p l.length c, .int .i64 n]] w fun e w' => ValidPost l n w e w' := by
  by_cases h1 : n < 0
  · have V := Lib.hid (vs_neg (l := l) h1)
    go_enter Try.func123, Try.ntmps123
    go_wp2_with fail
    go_ret
    exact ⟨ret_bool (by rw [V.out]), World.grownBy_alloc _ _ _⟩
  · by_cases h2 : 8192 < n
    · have V := Lib.hid (vs_big (l := l) h2)
      go_enter Try.func123, Try.ntmps123
      go_wp2_with fail
      go_ret
      exact ⟨ret_bool (by rw [V.out]), World.grownBy_alloc _ _ _⟩
    · obtain ⟨N, rfl⟩ := Int.eq_ofNat_of_zero_le (show 0 ≤ n by omega)
      have hN : N ≤ 8192 := by omega
      obtain ⟨M, hM⟩ : ∃ M : Nat, M = (N + 7) / 8 := ⟨_, rfl⟩
      have hMe : ((N : Int) + 7) / 8 = (M : Int) := by omega
      by_cases h3 : l.length = M
      · have hM2 : M ≤ 1024 := by omega
        subst h3
        have HM := Lib.hid hM
        clear hM
        go_enter Try.func123, Try.ntmps123
        go_wp2_with fail
        obtain ⟨c0, c1⟩ := box2 w (.slice p l.length c) (.int .i64 (N : Int)) 123
        have HG := Lib.hid (World.grownBy_alloc w (.cells #[.slice p l.length c, .int .i64 (N : Int)] 123) none)
        have hR1 := hR.keep HG.out
        generalize w.alloc (.cells #[.slice p l.length c, .int .i64 (N : Int)] 123) = w1 at *
        generalize w.heap.size = b at *
        go_wp2_with fail
        go_loop [3] (fun i => ∃ j : Nat, N ≤ j ∧ i = .int .i64 (j : Int) ∧ (N ≤ 8 * l.length → j ≤ 8 * l.length) ∧ ∀ t, t < j → N ≤ t → t < 8 * l.length → bt l t = false) (fun i => (8 * l.length - (RowKit.intOf i).toNat))
        case atStart => exact ⟨N, Nat.le_refl _, rfl, fun h => h, fun t h1 h2 => by omega⟩
        case round =>
          obtain ⟨j, hj, rfl, hj2, hz⟩ := hrel
          by_cases hlt : j < 8 * l.length
          · have C1 := bitr_any l j q p c hl hlt (by omega) w1 hR1
            have HZ := Lib.hid hz
            have hj9 : j ≤ 9000 := by omega
            by_cases hb : bt l j = true
            · rw [bw_true hb] at C1
              have H1 := Lib.hid C1
              have V : Hid (vs l (N : Int) = false) := by
                show vs l (N : Int) = false
                rw [Bool.eq_false_iff]
                intro h
                have := (vs_iff.1 h).2.2 j hlt hj
                rw [hb] at this; cases this
              clear C1 hz hb
              go_wp2_with (go_at_call 124; refine H1.out.mono ?_; rintro e w' ⟨rfl, rfl⟩)
              go_ret
              exact ⟨ret_bool (by rw [V.out]), HG.out⟩
            · have hb0 : bt l j = false := by simpa using hb
              rw [bw_false hb0] at C1
              have H1 := Lib.hid C1
              have HB := Lib.hid hb0
              clear C1 hz hb hb0
              go_wp2_with (go_at_call 124; refine H1.out.mono ?_; rintro e w' ⟨rfl, rfl⟩)
              go_round
              case rel =>
                refine ⟨j + 1, by omega, by go_num, fun _ => by omega, fun t h1 h2 h3 => ?_⟩
                by_cases e : t = j
                · rw [e]; exact HB.out
                · exact HZ.out t (by omega) h2 h3
              case measure => simp [RowKit.intOf]; omega
          · have V : Hid (vs l (N : Int) = true) := by
              show vs l (N : Int) = true
              exact vs_iff.2 ⟨hN, by have := HM.out; omega, fun i h1 h2 => hz i (by omega) h2 (by omega)⟩
            clear hz
            go_wp2_with fail
            go_ret
            exact ⟨ret_bool (by rw [V.out]), HG.out⟩
      · have V := Lib.hid (vs_len (l := l) (N := N) (by omega))
        have d4 : ¬ ((l.length : Int) = (M : Int)) := by omega
        clear hM
        go_enter Try.func123, Try.ntmps123
        go_wp2_with fail
        go_ret
        exact ⟨ret_bool (by rw [V.out]), World.grownBy_alloc _ _ _⟩
end Go.Proofs.Ytnpkihioklpnmaa

/- Streams as values; the reference's Put. -/
namespace Go.Proofs.Ytnpkihioklpnmaa
open Go.RowKit Bs
/-- v is a stream of n bits with the bytes l. -/
def SR (w : World) (q : Nat → Prop) (v : Value) (l : List Nat) (n : Int) : Prop := ∃ p c, v = .agg #[.slice p l.length c, .int .i64 n] ∧ Rd w q (.slice p l.length c) (l.map nv) ∧ (p = none → c = 0) ∧ By l
/-- A stream whose bytes lie in a row of the call's own. -/
structure Own (w : World) (base : Nat) (p : Option Addr) (c : Nat) (l : List Nat) : Prop where
  own : w.ownsRow base 5 1 (.slice p l.length c) l.length (l.map nv)
  pc : p = none → c = 0
  by_ : By l
def StreamPost (l : List Nat) (n : Int) (w : World) (e : Ending) (w' : World) : Prop := ∃ p c, e = .returned (.agg #[.slice p l.length c, .int .i64 n]) ∧ Own w' w.heap.size p c l ∧ w.grownBy w' none
def StreamErr (l : List Nat) (n err : Int) (w : World) (e : Ending) (w' : World) : Prop := ∃ v, e = .returned (.tuple #[v, .int .i64 err]) ∧ SR w' (w.heap.size ≤ ·) v l n ∧ w.grownBy w' none
set_option maxRecDepth 100000 in
theorem add_plain (b off j : Nat) : (⟨b, off, none⟩ : Addr).add j = ⟨b, off + j, none⟩ := by unfold Addr.add; split <;> simp_all
set_option maxRecDepth 100000 in
theorem nv_one {l : List Nat} : ∀ u ∈ l.map nv, u.oneCell' = true := by
  intro u hu
  obtain ⟨x, _, rfl⟩ := List.mem_map.1 hu
  rfl
set_option maxRecDepth 100000 in
theorem Rd.news {w : World} {q : Nat → Prop} {ad : Addr} {n c : Nat} {r : List Nat} (hR : Rd w q (.slice (some ad) n c) (r.map nv)) : ∀ j u, (r.map nv)[j]? = some u → w.cell? (ad.add j) = some u := by
  obtain ⟨p1, c1, e1, hx⟩ := hR
  injection e1 with a1 a2 a3
  subst a1
  intro j u hj
  obtain ⟨b, off, hp, hq, hc⟩ := hx (by intro e; rw [e] at hj; simp at hj)
  obtain rfl := Option.some.inj hp
  rw [add_plain]; exact hc j u hj
set_option maxRecDepth 100000 in
/-- append of a slice that is read, onto a row of the call's own. -/
theorem wpList_append_rd {w : World} {ops : Array Oper} {rest : List Oper} {o : Oper} {a : Act} {Q : Exit → Act → World → Prop} (hgd : o.guard = none) (s x : Operand)
    (ho : o.op = .call { callee := .builtin .append, args := #[s, x], argTypes := #[99, 99] }) (base : Nat) (v : Value) (n : Nat) (l : List Nat) (hs : a.eval s = v) (hown : w.ownsRow base 5 1 v n (l.map nv))
    (p : Option Addr) (k c : Nat) (r : List Nat) (hx : a.eval x = .slice p k c) (hk : k = r.length) (q : Nat → Prop) (hR : Rd w q (.slice p k c) (r.map nv)) (hpc : p = none → c = 0) (h63 : n + r.length ≤ 100000) (hbase : base ≤ w.heap.size)
    (h : ∀ v' w', w'.ownsRow base 5 1 v' (n + r.length) ((l ++ r).map nv) → w.grownBy w' v.ownBlock → wpList Try.prog ops Q rest (a.put o.dst v') w') : wpList Try.prog ops Q (o :: rest) a w := by
  obtain ⟨i0, hi, hz0, hz1, hz2⟩ := info_parts info_u8
  subst hk
  cases p with
  | none =>
    obtain rfl := hpc rfl
    have hr : r = [] := by
      obtain ⟨p1, c1, e1, hx⟩ := hR
      injection e1 with a1 a2 a3
      subst a1
      cases r with
      | nil => rfl
      | cons y r => obtain ⟨b, off, hp, _⟩ := hx (by simp); cases hp
    subst hr
    refine wpList_append_own_none hgd s x 99 ho base 5 i0 1 Try.underlying99 hi v n (l.map nv) hs hown hx ?_
    refine h v w ?_ (grown_refl _ _)
    rw [List.append_nil]; exact hown
  | some ad =>
    refine wpList_append_own w hgd s x 99 ho base 5 i0 (.int .u8 0) 1 1 Try.underlying99 hi hz0 hz1 hz2 rfl (by decide) v n (l.map nv) hs hown ad r.length c (r.map nv) hx (by simp) hR.news nv_one (by unfold maxLen; omega) (by omega) hbase ?_
    intro v' w' h1 h2 _
    refine h v' w' ?_ h2
    rw [List.map_append]; exact h1
set_option maxRecDepth 100000 in
theorem grown_drew {w w' : World} {r : Option Nat} (h : w.grownBy w' r) : w.grownBy w'.drew r := ⟨h.os, h.tape, h.output, h.size, h.block⟩
set_option maxRecDepth 100000 in
/-- Two blocks laid one behind the other. -/
theorem two_boxes (w : World) (A Z : Array Value) (t u : TypeId) :
    ((w.alloc (.cells A t)).alloc (.cells Z u)).heap[w.heap.size]? = some (.cells A t (0, 0)) ∧ ((w.alloc (.cells A t)).alloc (.cells Z u)).heap[w.heap.size + 1]? = some (.cells Z u (0, 0)) ∧
      w.grownBy ((w.alloc (.cells A t)).alloc (.cells Z u)) none ∧ ((w.alloc (.cells A t)).alloc (.cells Z u)).heap.size = w.heap.size + 2 := by
  have e1 : (w.alloc (.cells A t)).heap.size = w.heap.size + 1 := by simp
  refine ⟨?_, ?_, grown_trans (World.grownBy_alloc w _ _) (World.grownBy_alloc _ _ _), by simp⟩
  · rw [Below.heap_alloc _ _ _ (by omega)]; exact heap_alloc_new w _
  · rw [← e1]; exact heap_alloc_new _ _
set_option maxRecDepth 100000 in
theorem row_cells {w : World} {b : Nat} {x y : Value} {t : TypeId} (h : w.heap[b]? = some (.cells #[x, y] t (0, 0))) : w.cell? ⟨b, 0, none⟩ = some x ∧ w.cell? ⟨b, 1, none⟩ = some y := by
  refine ⟨?_, ?_⟩
  · rw [cell_of_row _ _ _ _ _ _ h]; rfl
  · rw [cell_of_row _ _ _ _ _ _ h]; rfl
set_option maxRecDepth 100000 in
theorem kept_row {w w' : World} {b : Nat} {o : Obj} {r : Option Nat} (h : w.heap[b]? = some o) (g : w.grownBy w' r) (hr : some b ≠ r) : w'.heap[b]? = some o :=
  (g.block b (Array.getElem?_eq_some_iff.1 h).1 hr).trans h
set_option maxRecDepth 100000 in
theorem rd_new (w : World) (cs : Array Value) (t : TypeId) (c : Nat) : Rd (w.alloc (.cells cs t)) (· = w.heap.size) (.slice (some ⟨w.heap.size, 0, none⟩) cs.toList.length c) cs.toList := by
  have hb : (w.alloc (.cells cs t)).heap[w.heap.size]? = some (.cells cs t (0, 0)) := heap_alloc_new w _
  refine ⟨_, c, rfl, fun _ => ⟨w.heap.size, 0, rfl, rfl, fun i x hi => ?_⟩⟩
  rw [Nat.zero_add, cell_of_row _ _ _ _ _ _ hb]
  simpa using hi
/-- What stands behind the copy: the boxes, the row of the call's own. -/
structure PutAt (w : World) (m : Nat) (v0 : Value) (v : Value) (L : List Nat) (wr : World) : Prop where
  b0 : wr.heap[w.heap.size]? = some (.cells #[v0, .int .i64 (m : Int)] 123 (0, 0))
  b1 : wr.heap[w.heap.size + 1]? = some (.cells #[.slice none 0 0, .int .i64 0] 123 (0, 0))
  own : wr.ownsRow (w.heap.size + 2) 5 1 v L.length (L.map nv)
  gr : w.grownBy wr none
  sz : w.heap.size + 2 ≤ wr.heap.size
set_option maxRecDepth 100000 in
theorem own_ne {w : World} {base k n : Nat} {e : TypeId} {v : Value} {xs : List Value} (h : w.ownsRow base e 1 v n xs) (hk : k < base) : some k ≠ v.ownBlock := by
  intro e2
  have := (h.lt k e2.symm).1
  omega
set_option maxRecDepth 100000 in
theorem grown_own {w wr w1 : World} {base n : Nat} {e : TypeId} {v : Value} {xs : List Value} (hg : w.grownBy wr none) (h : wr.ownsRow base e 1 v n xs) (hb : w.heap.size ≤ base) (k : wr.grownBy w1 v.ownBlock) : w.grownBy w1 none :=
  ⟨k.os.trans hg.os, k.tape.trans hg.tape, k.output.trans hg.output, Nat.le_trans hg.size k.size, fun b hb2 _ => (k.block b (Nat.lt_of_lt_of_le hb2 hg.size) (own_ne h (by omega))).trans (hg.block b hb2 (by simp))⟩
set_option maxRecDepth 100000 in
theorem PutAt.next {w wr w1 : World} {m : Nat} {v0 v v' : Value} {L L' : List Nat} {n : Nat} (h : PutAt w m v0 v L wr) (k : wr.grownBy w1 v.ownBlock) (hn : n = L'.length) (hown : w1.ownsRow (w.heap.size + 2) 5 1 v' n (L'.map nv)) : PutAt w m v0 v' L' w1 := by
  subst hn
  exact ⟨kept_row h.b0 k (own_ne h.own (by omega)), kept_row h.b1 k (own_ne h.own (by omega)), hown, grown_own h.gr h.own (by omega) k, Nat.le_trans h.sz k.size⟩
set_option maxRecDepth 100000 in
theorem pz_snoc (f : Nat → Bool) {m N : Nat} (h8 : m % 8 = 0) (hN : N = (m + 7) / 8) : pz f m N ++ [0] = pz f m (m / 8 + 1) := by
  obtain rfl : N = m / 8 := by omega
  unfold pz
  rw [List.range_succ, List.map_append, List.map_singleton, py_zero f (by omega)]
set_option maxRecDepth 100000 in
theorem pz_up (f : Nat → Bool) {m N : Nat} (hf : f m = false) : pz f m N = pz f (m + 1) N := by
  apply pz_congr
  intro i _
  by_cases e : i = m
  · subst e; rw [hf]; simp
  · rw [show decide (i < m) = decide (i < m + 1) by rw [decide_eq_decide]; omega]
set_option maxRecDepth 100000 in
theorem own_form {w : World} {base n : Nat} {e : TypeId} {v : Value} {xs : List Value} (h : w.ownsRow base e 1 v n xs) (hn : 0 < n) : ∃ g cap, v = .slice (some ⟨g, 0, none⟩) n cap ∧ base ≤ g := by
  rcases h.2 with ⟨_, h0⟩ | ⟨g, cap, cur, rfl, hb, _⟩
  · omega
  · exact ⟨g, cap, rfl, hb⟩
set_option maxRecDepth 100000 in
theorem or_bit {f : Nat → Bool} {m x s : Nat} (hf : f m = true) (hx : py f m (m / 8) = x) (hs : 7 - m % 8 = s) : bits .or .u8 (x : Int) (2 ^ s % 256) = ((py f (m + 1) (m / 8) : Nat) : Int) := by
  have h1 := py_lt f m (m / 8)
  have e := py_or f m 1 (by omega)
  rw [hx, show num f m 1 = 1 by simp [num, hf], Nat.one_mul, show 8 - m % 8 - 1 = s by omega] at e
  have h2 : 2 ^ s < 256 := Nat.pow_lt_pow_right (n := 8) (by decide) (by omega)
  rw [powI, ← e]
  generalize 2 ^ s = y at *
  rw [show ((y : Int) % 256) = (y : Int) by omega, u8_or_nat x _ (by omega) h2]
set_option maxRecDepth 100000 in
theorem PutAt.stored {w wr : World} {m : Nat} {v0 : Value} {L L' : List Nat} {g n cap j x : Nat} (h : PutAt w m v0 (.slice (some ⟨g, 0, none⟩) n cap) L wr) (hn : n = L.length) (hg : w.heap.size + 2 ≤ g) (hL : L' = L.set j x) :
    PutAt w m v0 (.slice (some ⟨g, 0, none⟩) n cap) L' (wr.setCell ⟨g, j, none⟩ (nv x)).drew := by
  subst hL
  subst hn
  obtain ⟨k1, k2⟩ := h.own.stored j (nv x)
  have k3 := h.next k2 (L' := L.set j x) (v' := .slice (some ⟨g, 0, none⟩) L.length cap) (by rw [List.length_set]) (by rw [List.map_set]; exact k1)
  exact ⟨k3.b0, k3.b1, k3.own, grown_drew k3.gr, k3.sz⟩
set_option maxRecDepth 100000 in
theorem store2 {w : World} {b : Nat} {x y u z : Value} {t : TypeId} (h : w.heap[b]? = some (.cells #[x, y] t (0, 0))) : ((w.setCell ⟨b, 0, none⟩ u).setCell ⟨b, 1, none⟩ z).heap[b]? = some (.cells #[u, z] t (0, 0)) := by
  have e1 := heap_setCell_same w b 0 _ _ u h
  have e2 := heap_setCell_same _ b 1 _ _ z e1
  rw [e2]; rfl
set_option maxRecDepth 100000 in
theorem grown_store2 (w : World) (b : Nat) (u z : Value) : w.grownBy ((w.setCell ⟨b, 0, none⟩ u).setCell ⟨b, 1, none⟩ z) (some b) := grown_trans (grown_setCell w ⟨b, 0, none⟩ u) (grown_setCell _ ⟨b, 1, none⟩ z)
set_option maxRecDepth 100000 in
/-- What lies behind the call's start may turn. -/
theorem grown_new {w w1 w2 : World} {b : Nat} (h : w.grownBy w1 none) (k : w1.grownBy w2 (some b)) (hb : w.heap.size ≤ b) : w.grownBy w2 none :=
  ⟨k.os.trans h.os, k.tape.trans h.tape, k.output.trans h.output, Nat.le_trans h.size k.size, fun i hi _ => (k.block i (Nat.lt_of_lt_of_le hi h.size) (by intro e; have := Option.some.inj e; omega)).trans (h.block i hi (by simp))⟩
set_option maxRecDepth 100000 in
theorem own_sr {w : World} {base : Nat} {v : Value} {l : List Nat} {n : Int} (h : w.ownsRow base 5 1 v l.length (l.map nv)) (hl : By l) (q : Nat → Prop) (hq : ∀ b, base ≤ b → q b) : SR w q (.agg #[v, .int .i64 n]) l n := by
  have hR := (rd_of_own h).mono hq
  rcases h.2 with ⟨rfl, h0⟩ | ⟨g, cap, cur, rfl, _⟩
  · obtain rfl : l = [] := List.eq_nil_of_length_eq_zero h0
    exact ⟨none, 0, rfl, hR, fun _ => rfl, hl⟩
  · exact ⟨some ⟨g, 0, none⟩, cap, rfl, hR, (by intro e; cases e), hl⟩
set_option maxRecDepth 100000 in
theorem own_parts {w : World} {base n : Nat} {e : TypeId} {v : Value} {xs : List Value} (h : w.ownsRow base e 1 v n xs) : ∃ p c, v = .slice p n c ∧ (p = none → c = 0) := by
  rcases h.2 with ⟨rfl, h0⟩ | ⟨g, cap, cur, rfl, _⟩
  · subst h0; exact ⟨none, 0, rfl, fun _ => rfl⟩
  · exact ⟨some ⟨g, 0, none⟩, cap, rfl, (by intro e; cases e)⟩
set_option maxRecDepth 100000 in
theorem Own.rd {w : World} {base : Nat} {p : Option Addr} {c : Nat} {l : List Nat} (h : Own w base p c l) : Rd w (base ≤ ·) (.slice p l.length c) (l.map nv) := rd_of_own h.own
set_option maxRecDepth 100000 in
theorem Own.keep {w w' : World} {base : Nat} {p : Option Addr} {c : Nat} {l : List Nat} (h : Own w base p c l) (g : w.grownBy w' none) : Own w' base p c l := ⟨h.own.kept g (by cases hv : (Value.slice p l.length c).ownBlock <;> simp), h.pc, h.by_⟩
set_option maxRecDepth 100000 in
theorem Own.other {w w' : World} {base b : Nat} {p : Option Addr} {c : Nat} {l : List Nat} (h : Own w base p c l) (g : w.grownBy w' (some b)) (hb : b < base) : Own w' base p c l :=
  ⟨h.own.kept g (.inr (fun e => by have := h.own.lt _ e; omega)), h.pc, h.by_⟩
set_option maxRecDepth 100000 in
theorem Own.mono {w : World} {base base' : Nat} {p : Option Addr} {c : Nat} {l : List Nat} (h : Own w base p c l) (hb : base' ≤ base) : Own w base' p c l := ⟨h.own.mono hb, h.pc, h.by_⟩
set_option maxRecDepth 100000 in
theorem Own.sr {w : World} {base : Nat} {p : Option Addr} {c : Nat} {l : List Nat} (h : Own w base p c l) (n : Int) (q : Nat → Prop) (hq : ∀ b, base ≤ b → q b) : SR w q (.agg #[.slice p l.length c, .int .i64 n]) l n := ⟨p, c, rfl, h.rd.mono hq, h.pc, h.by_⟩
set_option maxRecDepth 100000 in
theorem PutAt.ends {w wr : World} {m : Nat} {v0 v : Value} {L : List Nat} {n : Int} (h : PutAt w m v0 v L wr) (hl : By L) :
    StreamPost L n w (.returned (.agg #[v, .int .i64 n])) ((wr.setCell ⟨w.heap.size + 1, 0, none⟩ v).setCell ⟨w.heap.size + 1, 1, none⟩ (.int .i64 n)) := by
  have g := grown_store2 wr (w.heap.size + 1) v (.int .i64 n)
  have hown := h.own.kept g (.inr (by
    intro e
    have := h.own.lt _ e
    omega))
  have hgr := grown_new h.gr g (Nat.le_succ _)
  rcases own_parts h.own with ⟨p, c, rfl, hpc⟩
  exact ⟨p, c, rfl, ⟨hown.mono (by omega), hpc, hl⟩, hgr⟩
set_option maxRecDepth 100000 in
theorem stream_size : (Try.prog.info? 123).map (·.size) = some 2 := by kernel_rfl
set_option maxRecDepth 100000 in
theorem PutAt.fin {w wr : World} {m N : Nat} {v0 v : Value} {f : Nat → Bool} (h : PutAt w m v0 v (pz f (m + 1) N) wr) (hN : N = (m + 8) / 8) :
    StreamPost (pz f (m + 1) ((m + 8) / 8)) ((m + 1 : Nat) : Int) w (.returned (.agg #[v, .int .i64 ((m : Int) + 1)])) ((wr.setCell ⟨w.heap.size + 1, 0, none⟩ v).setCell ⟨w.heap.size + 1, 1, none⟩ (.int .i64 ((m : Int) + 1))) := by
  subst hN
  exact h.ends (pz_lt _ _ _)
set_option maxRecDepth 100000 in
/-- A struct comes back out of its block. -/
theorem res_stream {fn : Func} {p : Tmp} (h : fn.results = #[.cell p 123]) (tmps : Array Value) (w : World) (g : Nat) (x y : Value) (hp : tmps.getD p undef = .pointer (some ⟨g, 0, none⟩)) (hg : w.heap[g]? = some (.cells #[x, y] 123 (0, 0))) :
    (results fn tmps).run Try.prog w = .ok (.agg #[x, y]) w := by
  exact results_cell_row h tmps w g _ _ _ _ hp hg Try.underlying123 rfl stream_size
set_option maxRecDepth 100000 in
theorem res_stream_err {fn : Func} {p u : Tmp} (h : fn.results = #[.cell p 123, .tmp u]) (tmps : Array Value) (w : World) (g : Nat) (x y : Value) (hp : tmps.getD p undef = .pointer (some ⟨g, 0, none⟩)) (hg : w.heap[g]? = some (.cells #[x, y] 123 (0, 0))) :
    (results fn tmps).run Try.prog w = .ok (.tuple #[.agg #[x, y], tmps.getD u undef]) w := by
  have hp' : tmps[p]?.getD undef = .pointer (some ⟨g, 0, none⟩) := by simpa using hp
  rw [results_cell_tmp h]
  simp [hp', asAddr, run_loadVar_row w g _ _ _ _ _ hg Try.underlying123 rfl stream_size, Result.andThen]
set_option maxRecDepth 100000 in
set_option maxHeartbeats 1600000 in
theorem put_any (f : Nat → Bool) (m : Nat) (l : List Nat) (q : Nat → Prop) (p : Option Addr) (c : Nat) (hm : m ≤ 9000) (hl : l = pz f m ((m + 7) / 8)) (hpc : p = none → c = 0) (w : World) (hR : Rd w q (.slice p l.length c) (l.map nv)) :
    Calls Try.prog 125 #[.agg #[.slice p l.length c, .int .i64 (m : Int)], bw (f m)] w fun e w' => StreamPost (pz f (m + 1) ((m + 8) / 8)) ((m + 1 : Nat) : Int) w e w' := by
  have hll : l.length = (m + 7) / 8 := by rw [hl, pz_len]
  have HL := Lib.hid hl
  have HLL := Lib.hid hll
  have hl2 : l.length ≤ 2000 := by omega
  clear hl hll
  obtain ⟨i0, hi, hz0, hz1, hz2⟩ := info_parts info_u8
  obtain ⟨k1, k2, k3, k4⟩ := two_boxes w #[.slice p l.length c, .int .i64 (m : Int)] #[.slice none 0 0, .int .i64 0] 123 123
  have K := Lib.hid (And.intro k1 (And.intro k2 (And.intro k3 k4)))
  have hR2 := hR.keep k3
  clear hR k1 k2 k3 k4
  go_enter Try.func125, Try.ntmps125
  go_wp2_with (at_builtin; refine wpList_append_rd rfl _ _ rfl (w.heap.size + 2) _ 0 [] rfl (World.ownsRow_nil _ _ _ _) p l.length c l rfl rfl q hR2 hpc ?c1 ?c2 ?_)
  case c1 => omega
  case c2 => rw [K.out.2.2.2]; exact Nat.le_refl _
  intro v1 w1 hown1 hg1
  have P0 : PutAt w m (.slice p l.length c) v1 l w1 := by
    obtain ⟨k1, k2, k3, k4⟩ := K.out
    exact ⟨kept_row k1 hg1 (by exact nofun), kept_row k2 hg1 (by exact nofun), hown1, grown_trans k3 hg1, by rw [← k4]; exact hg1.size⟩
  clear hown1 hg1 hR2 K
  by_cases h8 : m % 8 = 0
  · have z8 : (m : Int) % 8 = 0 := by omega
    obtain ⟨c0, c1⟩ := row_cells P0.b0
    have H0 := Lib.hid P0
    have hown := P0.own
    have hbs : w.heap.size + 2 ≤ (w1.alloc (.cells #[nv 0] 5)).heap.size := by have := P0.sz; simp; omega
    clear P0
    go_wp2_with (at_builtin; refine wpList_append_rd rfl _ _ rfl (w.heap.size + 2) v1 l.length l rfl (hown.alloc _) (some ⟨w1.heap.size, 0, none⟩) 1 1 [0] rfl rfl _ (rd_new w1 #[nv 0] 5 1) (by exact nofun) ?c3 ?c4 ?_)
    case c3 => simp; omega
    case c4 => exact hbs
    intro v2 w2 hown2 hg2
    have P1 : PutAt w m (.slice p l.length c) v2 (pz f m (m / 8 + 1)) w2 := by
      refine PutAt.next ⟨(H0.out).b0, H0.out.b1, H0.out.own, H0.out.gr, H0.out.sz⟩ (grown_trans (World.grownBy_alloc w1 _ _) hg2) (n := l.length + 1) ?_ ?_
      · rw [pz_len]; have := HLL.out; omega
      · rw [← pz_snoc f h8 (N := l.length) (by have := HLL.out; omega)]
        have := HL.out
        rw [show pz f m l.length = l by rw [HLL.out]; exact this.symm]
        rw [List.map_append]; exact hown2
    clear hown2 hg2 hown H0 c0 c1
    obtain ⟨c0, c1⟩ := row_cells P1.b0
    by_cases hf : f m = true
    · skip
      obtain ⟨g, cap, rfl, hgb⟩ := own_form P1.own (by rw [pz_len]; omega)
      rw [pz_len]
      have hcell : w2.cell? ⟨g, m / 8, none⟩ = some (.int .u8 ((py f m (m / 8) : Nat) : Int)) := by
        rw [P1.own.cellAt (m / 8) (by rw [pz_len]; omega), List.getElem?_map, pz_at _ _ _ _ (by omega)]; rfl
      have hfz := P1.own.frozenAt (m / 8)
      have hx8 := py_lt f m (m / 8)
      obtain ⟨s, hs⟩ : ∃ s : Nat, 7 - m % 8 = s := ⟨_, rfl⟩
      have hs8 : s ≤ 7 := by omega
      have hsub : 7 - (m : Int) % 8 = (s : Int) := by omega
      obtain rfl : s = 7 := by omega
      have O0 := or_bit hf rfl hs
      rw [show ((2 : Int) ^ 7 % 256) = 128 from rfl] at O0
      have O := Lib.hid O0
      clear O0
      have P2 := P1.stored (x := py f (m + 1) (m / 8)) (j := m / 8) rfl hgb (pz_set f m 1 (m / 8 + 1) (by omega) (by omega)).symm
      rw [pz_len] at P2
      have H2 := Lib.hid P2
      clear P1 P2 hs
      generalize py f m (m / 8) = x at *
      generalize py f (m + 1) (m / 8) = y at *
      rw [bw_true hf]
      go_wp2_with fail
      go_region
      rw [O.out]
      have HB1 := H2.out.b1
      obtain ⟨d0, d1⟩ := row_cells H2.out.b0
      obtain ⟨e0, e1⟩ := row_cells HB1
      have f0 := frozen_of_row _ _ 0 _ _ HB1
      have f1 := frozen_of_row _ _ 1 _ _ HB1
      have HB := Lib.hid HB1
      clear HB1 c0 c1
      change Exit.then _ _ _ _ ((w2.setCell _ (nv y)).drew)
      generalize (w2.setCell ⟨g, m / 8, none⟩ (nv y)).drew = w3 at *
      go_wp2_with fail
      refine bodyPost_ret (res_stream rfl _ _ (w.heap.size + 1) _ _ rfl (store2 HB.out)) rfl ?_
      exact H2.out.fin (by omega)
    · skip
      have hf0 : f m = false := by simpa using hf
      obtain ⟨g, cap, rfl, hgb⟩ := own_form P1.own (by rw [pz_len]; omega)
      rw [pz_len] at P1 ⊢
      have P2 : PutAt w m (.slice p l.length c) (.slice (some ⟨g, 0, none⟩) (m / 8 + 1) cap) (pz f (m + 1) (m / 8 + 1)) w2 := by rw [← pz_up f hf0]; exact P1
      have H2 := Lib.hid P2
      have HB1 := H2.out.b1
      obtain ⟨e0, e1⟩ := row_cells HB1
      have f0 := frozen_of_row _ _ 0 _ _ HB1
      have f1 := frozen_of_row _ _ 1 _ _ HB1
      have HB := Lib.hid HB1
      clear HB1 P1 P2
      rw [bw_false hf0]
      go_wp2_with fail
      refine bodyPost_ret (res_stream rfl _ _ (w.heap.size + 1) _ _ rfl (store2 HB.out)) rfl ?_
      exact H2.out.fin (by omega)
  · have z8 : ¬ ((m : Int) % 8 = 0) := by omega
    have P1 : PutAt w m (.slice p l.length c) v1 (pz f m (m / 8 + 1)) w1 := by
      rw [show m / 8 + 1 = (m + 7) / 8 by omega, ← HL.out]
      exact P0
    clear P0
    obtain ⟨c0, c1⟩ := row_cells P1.b0
    by_cases hf : f m = true
    · skip
      obtain ⟨g, cap, rfl, hgb⟩ := own_form P1.own (by rw [pz_len]; omega)
      rw [pz_len]
      have hcell : w1.cell? ⟨g, m / 8, none⟩ = some (.int .u8 ((py f m (m / 8) : Nat) : Int)) := by
        rw [P1.own.cellAt (m / 8) (by rw [pz_len]; omega), List.getElem?_map, pz_at _ _ _ _ (by omega)]; rfl
      have hfz := P1.own.frozenAt (m / 8)
      have hx8 := py_lt f m (m / 8)
      obtain ⟨s, hs⟩ : ∃ s : Nat, 7 - m % 8 = s := ⟨_, rfl⟩
      have hs8 : s ≤ 7 := by omega
      have hsub : 7 - (m : Int) % 8 = (s : Int) := by omega
      have z9 : ((m : Int) % 8 == 0) = false := by simp; omega
      have O0 := or_bit hf rfl hs
      have O := Lib.hid O0
      clear O0
      have P2 := P1.stored (x := py f (m + 1) (m / 8)) (j := m / 8) rfl hgb (pz_set f m 1 (m / 8 + 1) (by omega) (by omega)).symm
      rw [pz_len] at P2
      have H2 := Lib.hid P2
      clear P1 P2 hs
      generalize py f m (m / 8) = x at *
      generalize py f (m + 1) (m / 8) = y at *
      rw [bw_true hf]
      go_wp2_with fail
      go_region
      rw [O.out]
      have HB1 := H2.out.b1
      obtain ⟨d0, d1⟩ := row_cells H2.out.b0
      obtain ⟨e0, e1⟩ := row_cells HB1
      have f0 := frozen_of_row _ _ 0 _ _ HB1
      have f1 := frozen_of_row _ _ 1 _ _ HB1
      have HB := Lib.hid HB1
      clear HB1 c0 c1
      change Exit.then _ _ _ _ ((w1.setCell _ (nv y)).drew)
      generalize (w1.setCell ⟨g, m / 8, none⟩ (nv y)).drew = w3 at *
      go_wp2_with fail
      refine bodyPost_ret (res_stream rfl _ _ (w.heap.size + 1) _ _ rfl (store2 HB.out)) rfl ?_
      exact H2.out.fin (by omega)
    · skip
      have hf0 : f m = false := by simpa using hf
      obtain ⟨g, cap, rfl, hgb⟩ := own_form P1.own (by rw [pz_len]; omega)
      rw [pz_len] at P1 ⊢
      have P2 : PutAt w m (.slice p l.length c) (.slice (some ⟨g, 0, none⟩) (m / 8 + 1) cap) (pz f (m + 1) (m / 8 + 1)) w1 := by rw [← pz_up f hf0]; exact P1
      have H2 := Lib.hid P2
      have HB1 := H2.out.b1
      obtain ⟨e0, e1⟩ := row_cells HB1
      have f0 := frozen_of_row _ _ 0 _ _ HB1
      have f1 := frozen_of_row _ _ 1 _ _ HB1
      have HB := Lib.hid HB1
      clear HB1 P1 P2
      rw [bw_false hf0]
      go_wp2_with fail
      refine bodyPost_ret (res_stream rfl _ _ (w.heap.size + 1) _ _ rfl (store2 HB.out)) rfl ?_
      exact H2.out.fin (by omega)
end Go.Proofs.Ytnpkihioklpnmaa
