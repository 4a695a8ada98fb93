/- Parts of the proof, packed: TaTpM, TaTap, MaPln, MaLay, MaSrt, MaAll, MaAwk, MaMsk, MaUsM, TaBnM. -/
import Derived.Test.YtgofadmncgmhoaaGreatAl20
import Derived.Test.YtgofadmncgmhoaaGreatAl21
import Derived.Test.YtgofadmncgmhoaaGreatAl7
import Derived.Test.YtgofadmncgmhoaaGreatAl13
import Derived.Shelf.SlIterI.Sorted
import Derived.Shelf.SlLaysM
import Derived.Shelf.SortM.Plain
import Derived.Shelf.SortM.SortNone
import Derived.Deep.AppendLies
import Derived.Laws.StructEq
import Derived.Test.YtgofadmncgmhoaaGreatAl19
import Derived.Test.YtgofadmncgmhoaaGreatAl1
import Derived.Test.YtgofadmncgmhoaaGreatAl18
/- tables: what the tape's Table keeps in memory. -/
namespace Go.Proofs.YtgofadmncgmhoaaGreat
open Go.RowKit Bs
set_option maxRecDepth 100000 in
theorem tg_of_ownT {w : World} {base : Nat} {vR vL : Value} {R : List Rt} {L : List Lk} (hR : w.ownsRow base 105 2 vR R.length (R.flatMap rtC)) (hL : w.ownsRow base 107 5 vL L.length (L.flatMap lkC)) :
    ∃ pR cR pL cL, vR = .slice pR R.length cR ∧ vL = .slice pL L.length cL ∧ TgOk w (fun b => base ≤ b ∧ b < w.heap.size) ⟨R, L, pR, cR, pL, cL⟩ := by
  obtain ⟨pR, cR, rfl, h1, h2⟩ := own_shape hR
  obtain ⟨pL, cL, rfl, h3, h4⟩ := own_shape hL
  exact ⟨pR, cR, pL, cL, rfl, rfl, rdf_of_own2 hR, rdf_of_own2 hL, ⟨h1, h2⟩, ⟨h3, h4⟩⟩
/-- The topology is there. -/
structure TT (a : Nat) (W : World) (B : Nat) (T : Tg) (w : World) : Prop where
  rs : w.heap[W.heap.size]? = some (.cells #[.int .i64 0, .int .i64 0, .int .i64 0, .slice none 0 0] 25 (0, 0))
  bT : w.heap[B]? = some (.cells #[.slice T.pR T.R.length T.cR, .slice T.pL T.L.length T.cL] 45 (0, 0))
  t : TgOk w (fun b => W.heap.size + 1 ≤ b ∧ b < B) T
  st : St a W w
  lo : W.heap.size + 1 ≤ B ∧ B < w.heap.size
set_option maxRecDepth 100000 in
theorem TT.keep {a : Nat} {W : World} {B : Nat} {T : Tg} {w w1 : World} (h : TT a W B T w) (g : w.grownBy w1 none) : TT a W B T w1 :=
  ⟨kept_row h.rs g (by simp), kept_row h.bT g (by simp), h.t.keep g, h.st.none_ g, h.lo.1, Nat.lt_of_lt_of_le h.lo.2 g.size⟩
set_option maxRecDepth 100000 in
theorem TT.tape {a : Nat} {W : World} {B : Nat} {T : Tg} {w w1 : World} (h : TT a W B T w) (ha : a < W.heap.size) (k : St a w w1) : TT a W B T w1 := by
  have hlo := h.lo
  have hn : ∀ b, W.heap.size ≤ b → some b ≠ some a := fun b hb e => by have := Option.some.inj e; omega
  exact ⟨kept_row h.rs k.1 (hn _ (Nat.le_refl _)), kept_row h.bT k.1 (hn _ (by omega)), h.t.grown k.1 (fun b hb => hn _ (by omega)), h.st.trans k, h.lo.1, Nat.lt_of_lt_of_le h.lo.2 k.1.size⟩
/-- The tables are there. -/
structure TW (a : Nat) (W : World) (C : Nat) (v : Value) (Ts : List Tb) (w : World) : Prop where
  rs : w.heap[W.heap.size]? = some (.cells #[.int .i64 0, .int .i64 0, .int .i64 0, .slice none 0 0] 25 (0, 0))
  own : w.ownsRow C 25 4 v Ts.length (Ts.flatMap tbC)
  tabs : ∀ x ∈ Ts, TbX C w v x
  st : St a W w
  lo : W.heap.size + 1 ≤ C ∧ C ≤ w.heap.size
set_option maxRecDepth 100000 in
theorem TbX.tape {a lo : Nat} {w w1 : World} {v : Value} {x : Tb} (h : TbX lo w v x) (hl : a < lo) (g : w.grownBy w1 (some a)) : TbX lo w1 v x := h.over g (fun b hb e => by omega)
set_option maxRecDepth 100000 in
theorem TW.tape {a : Nat} {W : World} {C : Nat} {v : Value} {Ts : List Tb} {w w1 : World} (h : TW a W C v Ts w) (ha : a < W.heap.size) (k : St a w w1) : TW a W C v Ts w1 := by
  have hlo := h.lo
  exact ⟨kept_row h.rs k.1 (fun e => by have := Option.some.inj e; omega), own_otherL h.own k.1 (by omega), fun x hx => (h.tabs x hx).tape (by omega) k.1, h.st.trans k, h.lo.1, Nat.le_trans h.lo.2 k.1.size⟩
/-- What the tape's Table gives: any table that can be read. -/
def TabPost (a : Nat) (w : World) (e : Ending) (w' : World) : Prop :=
  ∃ (r s n : Int) (L : List Rw) (p : Option Addr) (c : Nat), e = .returned (.agg #[.int .i64 r, .int .i64 s, .int .i64 n, .slice p L.length c]) ∧ RdW w' (fun b => w.heap.size ≤ b ∧ b < w'.heap.size) p c L ∧ (p = none → c = 0) ∧ (L.length ≤ c ∧ c ≤ 9223372036854775807) ∧ (∀ y ∈ L, y.p = none → y.c = 0) ∧ I64 r ∧ L.length ≤ 200 ∧ (∀ y ∈ L, y.nx.length ≤ 200) ∧ St a w w'
set_option maxRecDepth 100000 in
theorem rows_len {s n : Int} {E : List Ed} (h : vPl s n E = true) : E.length ≤ 24 := by
  unfold vPl at h
  simp only [Bool.and_eq_true, decide_eq_true_eq] at h
  omega
end Go.Proofs.YtgofadmncgmhoaaGreat

/- tables: the tape's Table without mistakes. -/
namespace Go.Proofs.YtgofadmncgmhoaaGreat
open Go.RowKit Bs
end Go.Proofs.YtgofadmncgmhoaaGreat

/- masks: Planes. -/
namespace Go.Proofs.YtgofadmncgmhoaaGreat
open Go.RowKit Go.Maps Bs
end Go.Proofs.YtgofadmncgmhoaaGreat

/- The library's contracts on maps.Keys, slices.Sorted and slices.Sort, laid at this program. -/
namespace Go.Proofs.YtgofadmncgmhoaaGreat
open Go.Shelf
def keysU_ren : Go.Shelf.Ren := ⟨fun | 7 => 113 | 10 => 146 | n => n, fun | 23 => 132 | 26 => 3 | 3 => 81 | 28 => 136 | 0 => 0 | 27 => 135 | 33 => 51 | 4 => 4 | n => n, fun | n => n⟩
set_option maxRecDepth 100000 in
theorem keysU : Go.Proofs.SlLaysZI.n7 Tryz.prog keysU_ren where
  mixed := by kernel_rfl
  f7 := ⟨ "maps.Keys[map[int]uint64,int,uint64]", by decide, Tryz.func113.trans (congrArg some (by kernel_rfl))⟩
  f10 := ⟨ "maps.Keys[map[int]uint64,int,uint64]$1", by decide, Tryz.func146.trans (congrArg some (by kernel_rfl))⟩
  t0 := Tryz.underlying0
  a0 := Tryz.isAgg0
  z0 := Tryz.sizeOf0
  v0 := Tryz.zeroValue0
  t4 := Tryz.underlying4
  a4 := Tryz.isAgg4
  z4 := Tryz.sizeOf4
  v4 := Tryz.zeroValue4
  t23 := Tryz.underlying132
  a23 := Tryz.isAgg132
  z23 := Tryz.sizeOf132
  v23 := Tryz.zeroValue132
  t26 := Tryz.underlying3
  a26 := Tryz.isAgg3
  z26 := Tryz.sizeOf3
  v26 := Tryz.zeroValue3
  t27 := Tryz.underlying135
  a27 := Tryz.isAgg135
  z27 := Tryz.sizeOf135
  v27 := Tryz.zeroValue135
  t28 := Tryz.underlying136
  a28 := Tryz.isAgg136
  z28 := Tryz.sizeOf136
  v28 := Tryz.zeroValue136
  t33 := Tryz.underlying51
  a33 := Tryz.isAgg51
  z33 := Tryz.sizeOf51
  v33 := Tryz.zeroValue51
def sortedU_ren : Go.Shelf.Ren := ⟨fun | 6 => 112 | 8 => 145 | 9 => 89 | 11 => 180 | 13 => 128 | 12 => 127 | 23 => 159 | 24 => 160 | 14 => 150 | 15 => 151 | 16 => 152 | 17 => 153 | 18 => 154 | 19 => 155 | 20 => 156 | 21 => 157 | 22 => 158 | 25 => 182 | 26 => 183 | 27 => 184 | 28 => 185 | 29 => 186 | 30 => 187 | 31 => 194 | n => n, fun | 26 => 3 | 28 => 136 | 24 => 22 | 0 => 0 | 3 => 3 | 37 => 148 | 48 => 167 | 50 => 81 | 4 => 4 | 40 => 162 | 39 => 161 | 45 => 75 | 5 => 5 | 9 => 9 | 51 => 184 | 55 => 188 | 57 => 194 | 58 => 195 | 33 => 51 | n => n, fun | n => n⟩
set_option maxRecDepth 100000 in
theorem sortedU : Go.Proofs.SlLaysZI.n6 Tryz.prog sortedU_ren where
  mixed := by kernel_rfl
  f6 := ⟨ "slices.Sorted[int]", by decide, Tryz.func112.trans (congrArg some (by kernel_rfl))⟩
  f8 := ⟨ "slices.Collect[int]", by decide, Tryz.func145.trans (congrArg some (by kernel_rfl))⟩
  f11 := ⟨ "slices.AppendSeq[[]int,int]", by decide, Tryz.func180.trans (congrArg some (by kernel_rfl))⟩
  t0 := Tryz.underlying0
  a0 := Tryz.isAgg0
  z0 := Tryz.sizeOf0
  v0 := Tryz.zeroValue0
  t24 := Tryz.underlying22
  a24 := Tryz.isAgg22
  z24 := Tryz.sizeOf22
  v24 := Tryz.zeroValue22
  t26 := Tryz.underlying3
  a26 := Tryz.isAgg3
  z26 := Tryz.sizeOf3
  v26 := Tryz.zeroValue3
  t28 := Tryz.underlying136
  a28 := Tryz.isAgg136
  z28 := Tryz.sizeOf136
  v28 := Tryz.zeroValue136
  i26 := by kernel_rfl
def sortU_ren : Go.Shelf.Ren := ⟨fun | 5 => 89 | 8 => 128 | 7 => 127 | 19 => 159 | 20 => 160 | 10 => 150 | 11 => 151 | 12 => 152 | 13 => 153 | 14 => 154 | 15 => 155 | 16 => 156 | 17 => 157 | 18 => 158 | 30 => 182 | 31 => 183 | 32 => 184 | 33 => 185 | 34 => 186 | 35 => 187 | 40 => 194 | n => n, fun | 23 => 22 | 25 => 3 | 3 => 3 | 32 => 148 | 22 => 22 | 0 => 0 | 44 => 167 | 46 => 81 | 4 => 4 | 36 => 162 | 35 => 161 | 41 => 75 | 5 => 5 | 9 => 9 | 53 => 184 | 57 => 188 | 63 => 194 | 64 => 195 | n => n, fun | n => n⟩
set_option maxRecDepth 100000 in
theorem sortU : Go.Proofs.SlLaysM.n5 Tryz.prog sortU_ren where
  mixed := by kernel_rfl
  f5 := ⟨ "slices.Sort[[]int,int]", by decide, Tryz.func89.trans (congrArg some (by kernel_rfl))⟩
  f7 := ⟨ "slices.pdqsortOrdered[int]", by decide, Tryz.func127.trans (congrArg some (by kernel_rfl))⟩
  f8 := Tryz.func128.trans (congrArg some (by kernel_rfl))
  f10 := ⟨ "slices.insertionSortOrdered[int]", by decide, Tryz.func150.trans (congrArg some (by kernel_rfl))⟩
  f11 := ⟨ "slices.heapSortOrdered[int]", by decide, Tryz.func151.trans (congrArg some (by kernel_rfl))⟩
  f12 := ⟨ "slices.breakPatternsOrdered[int]", by decide, Tryz.func152.trans (congrArg some (by kernel_rfl))⟩
  f13 := ⟨ "slices.choosePivotOrdered[int]", by decide, Tryz.func153.trans (congrArg some (by kernel_rfl))⟩
  f14 := ⟨ "slices.reverseRangeOrdered[int]", by decide, Tryz.func154.trans (congrArg some (by kernel_rfl))⟩
  f15 := ⟨ "slices.partialInsertionSortOrdered[int]", by decide, Tryz.func155.trans (congrArg some (by kernel_rfl))⟩
  f16 := ⟨ "cmp.Less[int]", by decide, Tryz.func156.trans (congrArg some (by kernel_rfl))⟩
  f17 := ⟨ "slices.partitionEqualOrdered[int]", by decide, Tryz.func157.trans (congrArg some (by kernel_rfl))⟩
  f18 := ⟨ "slices.partitionOrdered[int]", by decide, Tryz.func158.trans (congrArg some (by kernel_rfl))⟩
  f19 := Tryz.func159.trans (congrArg some (by kernel_rfl))
  f20 := Tryz.func160.trans (congrArg some (by kernel_rfl))
  f30 := ⟨ "slices.siftDownOrdered[int]", by decide, Tryz.func182.trans (congrArg some (by kernel_rfl))⟩
  f31 := Tryz.func183.trans (congrArg some (by kernel_rfl))
  f32 := Tryz.func184.trans (congrArg some (by kernel_rfl))
  f33 := ⟨ "slices.medianAdjacentOrdered[int]", by decide, Tryz.func185.trans (congrArg some (by kernel_rfl))⟩
  f34 := ⟨ "slices.medianOrdered[int]", by decide, Tryz.func186.trans (congrArg some (by kernel_rfl))⟩
  f35 := ⟨ "cmp.isNaN[int]", by decide, Tryz.func187.trans (congrArg some (by kernel_rfl))⟩
  f40 := ⟨ "slices.order2Ordered[int]", by decide, Tryz.func194.trans (congrArg some (by kernel_rfl))⟩
  t0 := Tryz.underlying0
  a0 := Tryz.isAgg0
  z0 := Tryz.sizeOf0
  v0 := Tryz.zeroValue0
  t3 := Tryz.underlying3
  a3 := Tryz.isAgg3
  z3 := Tryz.sizeOf3
  v3 := Tryz.zeroValue3
  t4 := Tryz.underlying4
  a4 := Tryz.isAgg4
  z4 := Tryz.sizeOf4
  v4 := Tryz.zeroValue4
  t5 := Tryz.underlying5
  a5 := Tryz.isAgg5
  z5 := Tryz.sizeOf5
  v5 := Tryz.zeroValue5
  t9 := Tryz.underlying9
  a9 := Tryz.isAgg9
  z9 := Tryz.sizeOf9
  v9 := Tryz.zeroValue9
  t22 := Tryz.underlying22
  a22 := Tryz.isAgg22
  z22 := Tryz.sizeOf22
  v22 := Tryz.zeroValue22
  t23 := Tryz.underlying22
  a23 := Tryz.isAgg22
  z23 := Tryz.sizeOf22
  v23 := Tryz.zeroValue22
  t25 := Tryz.underlying3
  a25 := Tryz.isAgg3
  z25 := Tryz.sizeOf3
  v25 := Tryz.zeroValue3
  t32 := Tryz.underlying148
  a32 := Tryz.isAgg148
  z32 := Tryz.sizeOf148
  v32 := Tryz.zeroValue148
  t35 := Tryz.underlying161
  a35 := Tryz.isAgg161
  z35 := Tryz.sizeOf161
  v35 := Tryz.zeroValue161
  t36 := Tryz.underlying162
  a36 := Tryz.isAgg162
  z36 := Tryz.sizeOf162
  v36 := Tryz.zeroValue162
  t41 := Tryz.underlying75
  a41 := Tryz.isAgg75
  z41 := Tryz.sizeOf75
  v41 := Tryz.zeroValue75
  t44 := Tryz.underlying167
  a44 := Tryz.isAgg167
  z44 := Tryz.sizeOf167
  v44 := Tryz.zeroValue167
  t46 := Tryz.underlying81
  a46 := Tryz.isAgg81
  z46 := Tryz.sizeOf81
  v46 := Tryz.zeroValue81
  t53 := Tryz.underlying184
  a53 := Tryz.isAgg184
  z53 := Tryz.sizeOf184
  v53 := Tryz.zeroValue184
  t57 := Tryz.underlying188
  a57 := Tryz.isAgg188
  z57 := Tryz.sizeOf188
  v57 := Tryz.zeroValue188
  t63 := Tryz.underlying194
  a63 := Tryz.isAgg194
  z63 := Tryz.sizeOf194
  v63 := Tryz.zeroValue194
  t64 := Tryz.underlying195
  a64 := Tryz.isAgg195
  z64 := Tryz.sizeOf195
  v64 := Tryz.zeroValue195
end Go.Proofs.YtgofadmncgmhoaaGreat

/- slices.Sorted(maps.Keys(masks)). -/
namespace Go.Proofs.YtgofadmncgmhoaaGreat
open Go.RowKit Go.Maps Bs
set_option maxRecDepth 100000 in
theorem sortsU (m : Nat) : AnyZI.SortsIn Tryz.prog sortedU_ren Fence.wide m :=
  ⟨fun blk off cap ss W hH hblk hsz => callsIn_wide.2 (AnyM.slices_Sort_int sortU blk off cap ss W hH hblk hsz),
   fun p cap W => callsIn_wide.2 (AnyM.slices_Sort_int_none sortU p cap W)⟩
/-- The keys of a table, ascending. -/
structure AscM (f : Int → Option Nat) (ts : List Int) : Prop where
  asc : ts.Pairwise (· < ·)
  mem : ∀ x, x ∈ ts ↔ (f x).isSome = true
set_option maxRecDepth 100000 in
theorem ascM_of {ss : List Int} (h : ss.Nodup) : (ss.mergeSort (fun x y => decide (x ≤ y))).Pairwise (· < ·) := by
  have h1 : (ss.mergeSort (fun x y => decide (x ≤ y))).Pairwise (fun x y => decide (x ≤ y) = true) :=
    List.pairwise_mergeSort (fun a b c h1 h2 => by have := of_decide_eq_true h1; have := of_decide_eq_true h2; exact decide_eq_true (by omega)) (fun a b => by
      by_cases hab : a ≤ b
      · simp [hab]
      · have : b ≤ a := by omega
        simp [this]) ss
  have h2 : (ss.mergeSort (fun x y => decide (x ≤ y))).Nodup := (List.mergeSort_perm ss _).nodup_iff.2 h
  have h3 := List.Pairwise.and h1 h2
  exact h3.imp (fun {a b} h => by have := of_decide_eq_true h.1; have := h.2; omega)
set_option maxRecDepth 100000 in
theorem below_grownU {w w' : World} (h : Go.RowKit.Below w.heap.size w w') : w.grownBy w' none := ⟨h.os, h.tape, h.output, h.size, fun b hb _ => h.block b hb⟩
set_option maxRecDepth 100000 in
theorem mkeys_any (mb : Option Nat) (w : World) :
    Calls Tryz.prog 113 #[.map mb] w fun e w' => e = .returned (.func (.func 146) #[] #[.pointer (some ⟨w.heap.size, 0, none⟩)]) ∧ w' = w.alloc (.cells #[.map mb] 132) :=
  callsIn_wide.1 (AnyZI.keys_in keysU Fence.wide 5 trivial rfl mb w)
set_option maxRecDepth 100000 in
set_option maxHeartbeats 1600000 in
theorem mkz_any (f : Int → Option Nat) (b n : Nat) (hn : n ≤ 1000000) (Bk : Nat) (w : World) (hk : w.cell? ⟨Bk, 0, none⟩ = some (.map (some b))) (hBk : Bk < w.heap.size) (hm : OMu w b n f) :
    Calls Tryz.prog 112 #[.func (.func 146) #[] #[.pointer (some ⟨Bk, 0, none⟩)]] w fun e w' =>
      ∃ v ts, e = .returned v ∧ AscM f ts ∧ w'.ownsRow w.heap.size 3 1 v ts.length (ts.map tv) ∧ w.grownBy w' none := by
  obtain ⟨D, hown, hmf⟩ := hm
  have hsz := hown.size_le
  have hseq := AnyZI.keys_gives (ρ := keysU_ren) { keysU with } Fence.wide 2 trivial rfl (by omega) Bk b n D w hBk hk hown
  have cS := callsIn_wide.1 (AnyZI.sorted_in sortedU Fence.wide 5 trivial trivial trivial trivial rfl (by omega) (sortsU _) (enters_of Tryz.func89 (by kernel_rfl) rfl) 146 #[.pointer (some ⟨Bk, 0, none⟩)] trivial (enters_of Tryz.func146 (by kernel_rfl) rfl) _ (Maps.size D) (by unfold maxLen; omega) (by omega) w hseq)
  change Calls Tryz.prog 112 _ _ _ at cS
  refine cS.mono ?_
  rintro e w1 ⟨v, ss, rfl, hS, hrow, hnil, hb⟩
  obtain ⟨hnd, hmem⟩ := OMu.keys hown hmf hS
  refine ⟨v, ss.mergeSort (fun x y => decide (x ≤ y)), rfl, ⟨ascM_of hnd, fun x => ?_⟩, ?_, below_grownU hb⟩
  · rw [(List.mergeSort_perm ss _).mem_iff]
    exact hmem x
  · rw [List.length_mergeSort]
    exact hrow
end Go.Proofs.YtgofadmncgmhoaaGreat

/- masks: All, Mask, Local. -/
namespace Go.Proofs.YtgofadmncgmhoaaGreat
open Go.RowKit Go.Maps Bs
/-- A neighbour with its bits. -/
structure Md where
  x : Int
  b : Nat
def mdC (m : Md) : List Value := [.int .i64 m.x, .int .u64 (m.b : Int)]
set_option maxRecDepth 100000 in
theorem md_one (m : Md) : ∀ u ∈ mdC m, u.oneCell' = true := by
  intro u hu
  simp [mdC] at hu
  rcases hu with rfl | rfl <;> rfl
/-- The neighbours of a list with their bits. -/
def mdL (f : Int → Option Nat) (ts : List Int) : List Md := ts.map fun x => ⟨x, (f x).getD 0⟩
def mdK (f : Int → Option Nat) (ts : List Int) (k : Nat) : List Md := mdL f (ts.take k)
set_option maxRecDepth 100000 in
theorem mdK_next {f : Int → Option Nat} {ts : List Int} {k : Nat} {x : Int} (h : ts[k]? = some x) : mdK f ts (k + 1) = mdK f ts k ++ [⟨x, (f x).getD 0⟩] := by
  unfold mdK mdL
  rw [List.take_add_one, h, List.map_append]; rfl
set_option maxRecDepth 100000 in
theorem mdK_end (f : Int → Option Nat) (ts : List Int) : mdK f ts ts.length = mdL f ts := by unfold mdK; rw [List.take_length]
set_option maxRecDepth 100000 in
theorem mdK_len (f : Int → Option Nat) (ts : List Int) (k : Nat) : (mdK f ts k).length ≤ ts.length := by unfold mdK mdL; rw [List.length_map, List.length_take]; omega
set_option maxRecDepth 100000 in
theorem mdL_len (f : Int → Option Nat) (ts : List Int) : (mdL f ts).length = ts.length := by unfold mdL; rw [List.length_map]
set_option maxRecDepth 100000 in
theorem asc_len99 : ∀ (ts : List Int) (lo : Int), ts.Pairwise (· < ·) → (∀ x ∈ ts, lo < x ∧ x ≤ 99) → lo ≤ 99 → (ts.length : Int) + lo ≤ 99
  | [], lo, _, _, h => by simpa using h
  | a :: t, lo, hp, hr, h => by
    obtain ⟨h1, h2⟩ := List.pairwise_cons.1 hp
    have ha := hr a (List.mem_cons_self ..)
    have := asc_len99 t a h2 (fun x hx => ⟨h1 x hx, (hr x (List.mem_cons_of_mem _ hx)).2⟩) ha.2
    simp only [List.length_cons]
    omega
set_option maxRecDepth 100000 in
theorem ascM_len {f : Int → Option Nat} {ts : List Int} (h : AscM f ts) (ho : ColOk f) : ts.length ≤ 99 := by
  have := asc_len99 ts 0 h.asc (fun x hx => by
    obtain ⟨d, hd⟩ := Option.isSome_iff_exists.1 ((h.mem x).1 hx)
    have := (ho.u x d hd).2
    omega) (by omega)
  omega
set_option maxRecDepth 100000 in
theorem info_md : (Tryz.prog.info? 90).map (fun i => (i.zero, i.size, i.bytes)) = some (some (.agg #[.int .i64 0, .int .u64 0]), 2, 16) := by kernel_rfl
set_option maxRecDepth 100000 in
theorem md_row (w : World) (x : Int) (b : Nat) (t : TypeId) : ∀ j u, [Value.int .i64 x, .int .u64 (b : Int)][j]? = some u → (w.alloc (.cells #[.int .i64 x, .int .u64 (b : Int)] t)).cell? ((⟨w.heap.size, 0, none⟩ : Addr).add j) = some u := by
  intro j u hu
  rw [add_plain]
  have hb := heap_alloc_new w (.cells #[.int .i64 x, .int .u64 (b : Int)] t)
  rcases j with _ | _ | j
  · cases hu; exact cell_of_row _ _ _ _ _ _ hb
  · cases hu; exact cell_of_row _ _ _ _ _ _ hb
  · simp at hu
/-- While the neighbours come. -/
structure AL (W : World) (Mb N : Nat) (f : Int → Option Nat) (ts : List Int) (ps : Option Addr) (cs C : Nat) (v : Value) (M : List Md) (w : World) : Prop where
  mp : OMu w Mb N f
  rt : Rd w (fun b => b < C) (.slice ps ts.length cs) (ts.map tv)
  own : w.ownsRow C 90 2 v M.length (M.flatMap mdC)
  gr : W.grownBy w none
  lo : Mb < C ∧ C ≤ w.heap.size ∧ W.heap.size ≤ C
set_option maxRecDepth 100000 in
theorem AL.keep {W w w1 : World} {Mb N : Nat} {f : Int → Option Nat} {ts : List Int} {ps : Option Addr} {cs C : Nat} {v : Value} {M : List Md} (h : AL W Mb N f ts ps cs C v M w) (g : w.grownBy w1 none) : AL W Mb N f ts ps cs C v M w1 :=
  ⟨h.mp.kept g (by simp), h.rt.keep g, h.own.kept g (by cases v.ownBlock <;> simp), grown_trans h.gr g, h.lo.1, Nat.le_trans h.lo.2.1 g.size, h.lo.2.2⟩
set_option maxRecDepth 100000 in
theorem AL.put {W w w1 : World} {Mb N : Nat} {f : Int → Option Nat} {ts : List Int} {ps : Option Addr} {cs C : Nat} {v v' : Value} {M M2 : List Md} (h : AL W Mb N f ts ps cs C v M w) (hown : w1.ownsRow C 90 2 v' M2.length (M2.flatMap mdC)) (g : w.grownBy w1 v.ownBlock) : AL W Mb N f ts ps cs C v' M2 w1 := by
  have hlo := h.lo
  have hne : ∀ b, b < C → some b ≠ v.ownBlock := fun b hb e => by have := (h.own.lt b e.symm).1; omega
  exact ⟨h.mp.kept g (hne _ hlo.1), h.rt.grown g hne, hown, grown_any h.gr g (fun b hb => hne b (by omega)), h.lo.1, Nat.le_trans h.lo.2.1 g.size, h.lo.2.2⟩
/-- What All returns. -/
def AllPost (r s n : Int) (L : List Rw) (pl set : Int) (w : World) (e : Ending) (w' : World) : Prop :=
  ∃ (ts : List Int) (p : Option Addr) (c : Nat), e = .returned (.slice p (mdL (coF r s n L pl set) ts).length c) ∧ AscM (coF r s n L pl set) ts ∧ w'.ownsRow w.heap.size 90 2 (.slice p (mdL (coF r s n L pl set) ts).length c) (mdL (coF r s n L pl set) ts).length ((mdL (coF r s n L pl set) ts).flatMap mdC) ∧ w.grownBy w' none
set_option maxRecDepth 100000 in
set_option maxHeartbeats 6400000 in
theorem mall_any (r s n : Int) (p : Option Addr) (c : Nat) (L : List Rw) (pl set : Int) (w : World) (hR : RdW w (· < w.heap.size) p c L) (hm : L.length ≤ 9223372036854775807) :
    Calls Tryz.prog 51 #[.agg #[.int .i64 r, .int .i64 s, .int .i64 n, .slice p L.length c], .int .i64 pl, .int .i64 set] w fun e w' => AllPost r s n L pl set w e w' := by
  obtain ⟨ie, hie, he0, he1, he2⟩ := info_parts info_md
  obtain ⟨k1, k2⟩ := tone_box w #[.int .i64 r, .int .i64 s, .int .i64 n, .slice p L.length c] 25
  have H0 := Lib.hid (And.intro k1 (And.intro k2 (And.intro ((hR.keep k2).mono (q' := (· < (w.alloc (.cells #[.int .i64 r, .int .i64 s, .int .i64 n, .slice p L.length c] 25)).heap.size)) (fun b (hb : b < w.heap.size) => by show b < _; simp; omega)) (show w.heap.size < (w.alloc (.cells #[.int .i64 r, .int .i64 s, .int .i64 n, .slice p L.length c] 25)).heap.size by simp))))
  clear k1 k2 hR
  go_enter Tryz.func51, Tryz.ntmps51
  go_upto_region 1 with fail
  generalize w.alloc _ = w1 at *
  obtain ⟨d0, d1, d2, d3⟩ := row4T H0.out.1
  go_wp2_with fail
  refine (mcollect_any r s n p c L pl set w1 H0.out.2.2.1 hm).mono ?_
  rintro e w2 ⟨rfl, ⟨N, hN, hmp⟩, hg⟩
  have H2 := Lib.hid (And.intro hmp (grown_trans H0.out.2.1 hg))
  have hzz : w.heap.size < w1.heap.size := H0.out.2.2.2
  clear hmp hg H0 d0 d1 d2 d3
  obtain ⟨f, hf⟩ : ∃ f, coF r s n L pl set = f := ⟨_, rfl⟩
  have HF := Lib.hid hf
  have HOK : Hid (ColOk f) := Lib.hid (by rw [← hf]; exact coF_ok r s n L pl set)
  rw [hf] at H2
  clear hf
  generalize w1.heap.size + 1 = Mb at *
  go_wp2_with fail
  refine (mkeys_any (some Mb) w2).mono ?_
  rintro e w4 ⟨rfl, hw4⟩
  have hb4 := heap_alloc_new w2 (.cells #[.map (some Mb)] 132)
  have hg4 := World.grownBy_alloc w2 (.cells #[.map (some Mb)] 132) none
  rw [← hw4] at hb4 hg4
  have hz4 : w2.heap.size < w4.heap.size := by rw [hw4]; simp
  have HW4 := Lib.hid (And.intro hb4 (And.intro hg4 hz4))
  clear hw4 hb4 hg4 hz4
  go_wp2_with fail
  refine (mkz_any f Mb N (by omega) w2.heap.size w4 (by rw [cell_of_row _ _ _ _ _ _ HW4.out.1]; rfl) HW4.out.2.2 (H2.out.1.kept HW4.out.2.1 (by simp))).mono ?_
  rintro e w5 ⟨vs, ts, rfl, hS, hrow, hg5⟩
  obtain ⟨ps, cs, rfl, hcs1, hcs2⟩ := own_shape hrow
  have hlen := ascM_len hS HOK.out
  have HTS := Lib.hid hS
  have g25 := grown_trans HW4.out.2.1 hg5
  have A0 : Hid (AL w Mb N f ts ps cs w5.heap.size (.slice none 0 0) (mdK f ts 0) w5) := Lib.hid ⟨H2.out.1.kept g25 (by simp), (rd_of_own hrow).old, World.ownsRow_nil _ _ _ _, grown_trans H2.out.2 g25, Nat.lt_of_lt_of_le H2.out.1.lt g25.size, Nat.le_refl _, Nat.le_trans H2.out.2.size g25.size⟩
  clear hS hrow hg5 HW4 H2 g25
  generalize w5.heap.size = C at *
  go_wp2_with fail
  go_loopw [8, 19] (fun vo a wr => ∃ (k : Nat) (po : Option Addr) (co : Nat), k ≤ ts.length ∧ a = .int .i64 (k : Int) ∧ vo = .slice po (mdK f ts k).length co ∧ Hid (AL w Mb N f ts ps cs C (.slice po (mdK f ts k).length co) (mdK f ts k) wr)) (fun _ a _ => ts.length - (RowKit.intOf a).toNat)
  case atStart => exact ⟨0, none, 0, Nat.zero_le _, rfl, rfl, A0⟩
  case round =>
  clear A0
  obtain ⟨k, po, co, hk, rfl, rfl, A1⟩ := hrel
  obtain ⟨w6, hw6⟩ : ∃ w6, w6 = wr := ⟨_, rfl⟩
  rw [← hw6] at A1 ⊢
  clear hw6
  by_cases hlt : k < ts.length
  case neg =>
    obtain rfl : k = ts.length := by omega
    have hnl : ¬ (ts.length : Int) < (ts.length : Int) := by omega
    rw [mdK_end] at A1 ⊢
    go_wp2_with fail
    go_ret
    exact ⟨ts, po, co, by rw [HF.out]; rfl, by rw [HF.out]; exact HTS.out, by rw [HF.out]; exact A1.out.own.mono A1.out.lo.2.2, A1.out.gr⟩
  case pos =>
  have hlt' : (k : Int) < (ts.length : Int) := by omega
  obtain ⟨x, hx⟩ : ∃ x, ts[k]? = some x := ⟨_, List.getElem?_eq_getElem hlt⟩
  obtain ⟨-, b, off, rfl, hq, hc⟩ := tvT_at A1.out.rt hx
  have d0 := hc k x hx
  obtain ⟨d, hd⟩ := Option.isSome_iff_exists.1 ((HTS.out.mem x).1 (List.mem_of_getElem? hx))
  have hdb := HOK.out.u x d hd
  have hx1 := hdb.2
  have q1 := (A1.out.mp.look (x := x) (by unfold I64; omega)).1
  rw [hd] at q1
  simp only [Option.getD_some] at q1
  have HS : Hid (mdK f ts (k + 1) = mdK f ts k ++ [⟨x, d⟩]) := Lib.hid (by have := mdK_next (f := f) hx; rw [hd] at this; exact this)
  have hMl := mdK_len f ts k
  obtain ⟨M, hM⟩ : ∃ M, mdK f ts k = M := ⟨_, rfl⟩
  obtain ⟨M2, hM2⟩ : ∃ M2, mdK f ts (k + 1) = M2 := ⟨_, rfl⟩
  rw [hM] at A1 HS hMl ⊢
  rw [hM2] at HS
  have HM2 := Lib.hid hM2
  have HO2 := Lib.hid A1.out.own
  have hsz : C ≤ w6.heap.size := A1.out.lo.2.1
  clear hc hx hd hM hM2 hdb hx1
  go_wp2_with (at_builtin; refine hold_on ?_)
  refine Lib.hid ?_
  refine wpList_append_lies _ rfl _ _ 86 rfl C 90 ie (.agg #[.int .i64 0, .int .u64 0]) 2 16 Tryz.underlying86 hie he0 he1 he2 rfl (by decide) (.slice po M.length co) M.length (M.flatMap mdC) rfl (HO2.out.alloc _) ⟨w6.heap.size, 0, none⟩ 1 1 [.int .i64 x, .int .u64 (d : Int)] rfl rfl (md_row w6 x d _) (md_one ⟨x, d⟩) (by decide) (by unfold maxLen; omega) (by omega) (by simp; omega) _ rfl ?_
  intro g cap w8 hown hgrow hat hlt8
  have A2 := Lib.hid ((A1.out.keep (World.grownBy_alloc _ _ none)).put (M2 := M ++ [(⟨x, d⟩ : Md)]) (by rw [List.length_append, List.flatMap_append]; simpa [mdC] using hown) hgrow)
  rw [← HS.out] at A2
  have HL : Hid (M.length + 1 = M2.length) := Lib.hid (by rw [HS.out, List.length_append]; rfl)
  rw [HL.out] at A2 ⊢
  clear hown hgrow hat hlt8 HO2 A1 hsz HL HS q1 d0 hMl
  go_wp2_with fail
  exact ⟨⟨k + 1, some ⟨g, 0, none⟩, cap, by omega, congrArg _ (by omega), by rw [HM2.out], by rw [HM2.out]; exact A2⟩, by simp only [RowKit.intOf]; omega⟩
end Go.Proofs.YtgofadmncgmhoaaGreat

/- masks: the laws' example. -/
namespace Go.Proofs.YtgofadmncgmhoaaGreat
open Go.RowKit Go.Maps Bs
set_option maxRecDepth 100000 in
theorem asc_same : ∀ {l m : List Int}, l.Pairwise (· < ·) → m.Pairwise (· < ·) → (∀ x, x ∈ l ↔ x ∈ m) → l = m
  | [], [], _, _, _ => rfl
  | [], b :: m, _, _, h => by have := (h b).2 (by simp); cases this
  | a :: l, [], _, _, h => by have := (h a).1 (by simp); cases this
  | a :: l, b :: m, hl, hm, h => by
    obtain ⟨h1, h2⟩ := List.pairwise_cons.1 hl
    obtain ⟨h3, h4⟩ := List.pairwise_cons.1 hm
    have e : a = b := by
      rcases List.mem_cons.1 ((h a).1 (by simp)) with e | e
      · exact e
      · rcases List.mem_cons.1 ((h b).2 (by simp)) with e2 | e2
        · exact e2.symm
        · have := h1 b e2; have := h3 a e; omega
    subst e
    refine congrArg _ (asc_same h2 h4 fun x => ⟨fun hx => ?_, fun hx => ?_⟩)
    · rcases List.mem_cons.1 ((h x).1 (List.mem_cons_of_mem _ hx)) with e | e
      · have := h1 x hx; omega
      · exact e
    · rcases List.mem_cons.1 ((h x).2 (List.mem_cons_of_mem _ hx)) with e | e
      · have := h3 x hx; omega
      · exact e
def exT (p1 p2 : Option Addr) : List Rw := [⟨1, [2, 3], p1, 2⟩, ⟨2, [3], p2, 1⟩]
set_option maxRecDepth 100000 in
theorem ex_ck (p1 p2 : Option Addr) : ckT 1 0 8 (exT p1 p2) = 0 := by kernel_rfl
set_option maxRecDepth 100000 in
theorem ex_pl : plS 1 8 = 0 ∧ plS 2 8 = 0 := ⟨by kernel_rfl, by kernel_rfl⟩
set_option maxRecDepth 100000 in
theorem ex_nx : nxI [2, 3] 0 = 2 ∧ nxI [3] 0 = 3 ∧ nxI [2, 3] 1 = 3 ∧ nxI [3] 1 = 3 := ⟨by kernel_rfl, by kernel_rfl, by kernel_rfl, by kernel_rfl⟩
set_option maxRecDepth 100000 in
theorem ex_co0 (p1 p2 : Option Addr) : coF 1 0 8 (exT p1 p2) 0 0 = colL 8 0 0 (exT p1 p2) := by
  unfold coF
  rw [if_pos ⟨⟨by decide, by decide⟩, ex_ck p1 p2⟩]; rfl
set_option maxRecDepth 100000 in
theorem ex_co1 (p1 p2 : Option Addr) : coF 1 0 8 (exT p1 p2) 1 0 = colL 8 0 1 (exT p1 p2) := by
  unfold coF
  rw [if_pos ⟨⟨by decide, by decide⟩, ex_ck p1 p2⟩]; rfl
set_option maxRecDepth 100000 in
theorem ex_v0 (p1 p2 : Option Addr) : colL 8 0 0 (exT p1 p2) 2 = some 1 ∧ colL 8 0 0 (exT p1 p2) 3 = some 2 := ⟨by kernel_rfl, by kernel_rfl⟩
set_option maxRecDepth 100000 in
theorem ex_v1 (p1 p2 : Option Addr) : colL 8 0 1 (exT p1 p2) 3 = some 3 := by kernel_rfl
set_option maxRecDepth 100000 in
theorem ex_all0 {p1 p2 : Option Addr} {ts : List Int} (h : AscM (coF 1 0 8 (exT p1 p2) 0 0) ts) : mdL (coF 1 0 8 (exT p1 p2) 0 0) ts = [⟨2, 1⟩, ⟨3, 2⟩] := by
  rw [ex_co0] at h ⊢
  have e : ts = [2, 3] := asc_same h.asc (by decide) fun x => by
    rw [h.mem x, colL_some]
    unfold exT
    simp [ex_pl.1, ex_pl.2, ex_nx.1, ex_nx.2.1]
    omega
  subst e
  unfold mdL
  simp [(ex_v0 p1 p2).1, (ex_v0 p1 p2).2]
set_option maxRecDepth 100000 in
theorem ex_all1 {p1 p2 : Option Addr} {ts : List Int} (h : AscM (coF 1 0 8 (exT p1 p2) 1 0) ts) : mdL (coF 1 0 8 (exT p1 p2) 1 0) ts = [⟨3, 3⟩] := by
  rw [ex_co1] at h ⊢
  have e : ts = [3] := asc_same h.asc (by decide) fun x => by
    rw [h.mem x, colL_some]
    unfold exT
    simp [ex_pl.1, ex_pl.2, ex_nx.2.2.1, ex_nx.2.2.2]
    constructor
    · rintro ⟨h, -⟩
      exact h.symm
    · rintro h
      exact ⟨h.symm, by omega⟩
  subst e
  unfold mdL
  simp [ex_v1 p1 p2]
/-- The example's table. -/
structure EX (w : World) (B : Nat) (p1 p2 p8 : Option Addr) (u : World) : Prop where
  box : u.heap[B]? = some (.cells #[.int .i64 1, .int .i64 0, .int .i64 8, .slice p8 2 2] 25)
  rd : RdW u (· < B) p8 2 (exT p1 p2)
  gr : w.grownBy u none
set_option maxRecDepth 100000 in
theorem EX.keep {w : World} {B : Nat} {p1 p2 p8 : Option Addr} {u u1 : World} (h : EX w B p1 p2 p8 u) (g : u.grownBy u1 none) : EX w B p1 p2 p8 u1 := ⟨kept_row h.box g (by simp), h.rd.keep g, grown_trans h.gr g⟩
set_option maxRecDepth 100000 in
theorem EX.all {w : World} {B : Nat} {p1 p2 p8 : Option Addr} {u : World} (h : EX w B p1 p2 p8 u) : RdW u (· < u.heap.size) p8 2 (exT p1 p2) := by
  refine h.rd.mono fun b hb => ?_
  have hz : B < u.heap.size := by
    by_cases hz : B < u.heap.size
    · exact hz
    · have := h.box
      rw [Array.getElem?_eq_none (by omega)] at this; cases this
  exact Nat.lt_trans hb hz
set_option maxRecDepth 100000 in
theorem ex_start (w : World) : EX w (w.heap.size + 1 + 1 + 1) (some ⟨w.heap.size, 0, none⟩) (some ⟨w.heap.size + 1, 0, none⟩) (some ⟨w.heap.size + 1 + 1, 0, none⟩)
    ((((w.alloc (.cells #[.int .i64 2, .int .i64 3] 3)).alloc (.cells #[.int .i64 3] 3)).alloc (.cells #[.int .i64 1, .slice (some ⟨w.heap.size, 0, none⟩) 2 2, .int .i64 2, .slice (some ⟨w.heap.size + 1, 0, none⟩) 1 1] 36)).alloc (.cells #[.int .i64 1, .int .i64 0, .int .i64 8, .slice (some ⟨w.heap.size + 1 + 1, 0, none⟩) 2 2] 25)) := by
  obtain ⟨w1, h1⟩ : ∃ w1, w1 = w.alloc (.cells #[.int .i64 2, .int .i64 3] 3) := ⟨_, rfl⟩
  have a1 := heap_alloc_new w (.cells #[.int .i64 2, .int .i64 3] 3)
  have g1 := World.grownBy_alloc w (.cells #[.int .i64 2, .int .i64 3] 3) none
  have z1 : w1.heap.size = w.heap.size + 1 := by rw [h1]; simp
  rw [← h1] at a1 g1 ⊢
  clear h1
  obtain ⟨w2, h2⟩ : ∃ w2, w2 = w1.alloc (.cells #[.int .i64 3] 3) := ⟨_, rfl⟩
  have a2 := heap_alloc_new w1 (.cells #[.int .i64 3] 3)
  have g2 := World.grownBy_alloc w1 (.cells #[.int .i64 3] 3) none
  have z2 : w2.heap.size = w.heap.size + 1 + 1 := by rw [h2, ← z1]; simp
  rw [← h2] at a2 g2 ⊢
  rw [z1] at a2
  clear h2
  obtain ⟨w3, h3⟩ : ∃ w3, w3 = w2.alloc (.cells #[.int .i64 1, .slice (some ⟨w.heap.size, 0, none⟩) 2 2, .int .i64 2, .slice (some ⟨w.heap.size + 1, 0, none⟩) 1 1] 36) := ⟨_, rfl⟩
  have a3 := heap_alloc_new w2 (.cells #[.int .i64 1, .slice (some ⟨w.heap.size, 0, none⟩) 2 2, .int .i64 2, .slice (some ⟨w.heap.size + 1, 0, none⟩) 1 1] 36)
  have g3 := World.grownBy_alloc w2 (.cells #[.int .i64 1, .slice (some ⟨w.heap.size, 0, none⟩) 2 2, .int .i64 2, .slice (some ⟨w.heap.size + 1, 0, none⟩) 1 1] 36) none
  have z3 : w3.heap.size = w.heap.size + 1 + 1 + 1 := by rw [h3, ← z2]; simp
  rw [← h3] at a3 g3 ⊢
  rw [z2] at a3
  clear h3
  have a4 := heap_alloc_new w3 (.cells #[.int .i64 1, .int .i64 0, .int .i64 8, .slice (some ⟨w.heap.size + 1 + 1, 0, none⟩) 2 2] 25)
  have g4 := World.grownBy_alloc w3 (.cells #[.int .i64 1, .int .i64 0, .int .i64 8, .slice (some ⟨w.heap.size + 1 + 1, 0, none⟩) 2 2] 25) none
  rw [z3] at a4
  generalize w3.alloc _ = w4 at *
  have b3 := kept_row a3 g4 (by simp)
  have b2 := kept_row (kept_row a2 g3 (by simp)) g4 (by simp)
  have b1 := kept_row (kept_row (kept_row a1 g2 (by simp)) g3 (by simp)) g4 (by simp)
  refine ⟨a4, ⟨⟨_, 2, rfl, fun _ => ⟨_, _, rfl, by omega, fun i u hi => ?_⟩⟩, fun x hx => ?_⟩, grown_trans (grown_trans (grown_trans g1 g2) g3) g4⟩
  · rw [Nat.zero_add, cell_of_row _ _ _ _ _ _ b3]
    simpa [exT, rwC] using hi
  · unfold exT at hx
    simp only [List.mem_cons, List.not_mem_nil, or_false] at hx
    rcases hx with rfl | rfl
    · refine ⟨⟨_, 2, rfl, fun _ => ⟨_, _, rfl, by omega, fun i u hi => ?_⟩⟩, ⟨by show 2 ≤ 2; decide, by show 2 ≤ 9223372036854775807; decide⟩⟩
      rw [Nat.zero_add, cell_of_row _ _ _ _ _ _ b1]
      simpa [tv] using hi
    · refine ⟨⟨_, 1, rfl, fun _ => ⟨_, _, rfl, by omega, fun i u hi => ?_⟩⟩, ⟨by show 1 ≤ 1; decide, by show 1 ≤ 9223372036854775807; decide⟩⟩
      rw [Nat.zero_add, cell_of_row _ _ _ _ _ _ b2]
      simpa [tv] using hi
set_option maxRecDepth 100000 in
set_option maxHeartbeats 6400000 in
theorem mawake_any (w : World) :
    Calls Tryz.prog 50 #[] w fun e w' => e = .returned (.bool true) ∧ w.grownBy w' none := by
  have H0 := Lib.hid (ex_start w)
  go_enter Tryz.func50, Tryz.ntmps50
  go_upto_region 2 with fail
  generalize (((w.alloc _).alloc _).alloc _).alloc _ = w4 at *
  generalize (some (⟨w.heap.size, 0, none⟩ : Addr)) = p1 at *
  generalize (some (⟨w.heap.size + 1, 0, none⟩ : Addr)) = p2 at *
  generalize w.heap.size + 1 + 1 + 1 = B at *
  generalize (some (⟨w.heap.size + 1 + 1, 0, none⟩ : Addr)) = p8 at *
  refine wp_region_held_drew (S := fun w' => Hid (EX w B p1 p2 p8 w')) (by kernel_rfl) (Lib.hid (H0.out.keep (grown_drew (grown_refl _ none)))) (fun hHeld => ?_)
  refine wpAnyH_take (i := 0) (oi := { dst := some 10, op := Op.load 25 (Operand.tmp 1), type := 25, pos := "law.go:18", after := #[], guard := none }) (v := ?_) rfl (by kernel_rfl) (by kernel_rfl) (by kernel_rfl) (fun _ _ _ h => h) (Or.inl ⟨by rfl, ?_⟩) hHeld ?_
  rotate_left 1
  · intro u hSu
    obtain ⟨d0, d1, d2, d3⟩ := row4T hSu.out.box
    go_simp
    first | done | with_reducible rfl
  (try simp only [Act.put, List.setIfInBounds_toArray, List.set_cons_zero, List.set_cons_succ])
  refine wpAnyH_take (i := 2) (oi := { dst := some 12, op := Op.load 25 (Operand.tmp 1), type := 25, pos := "law.go:18", after := #[], guard := none }) (v := ?_) rfl (by kernel_rfl) (by kernel_rfl) (by kernel_rfl) (fun _ _ _ h => h) (Or.inl ⟨by rfl, ?_⟩) hHeld ?_
  rotate_left 1
  · intro u hSu
    obtain ⟨d0, d1, d2, d3⟩ := row4T hSu.out.box
    go_simp
    first | done | with_reducible rfl
  (try simp only [Act.put, List.setIfInBounds_toArray, List.set_cons_zero, List.set_cons_succ])
  refine wpAnyH_ready (rs := [1]) (by kernel_rfl) (by simp) ?_
  refine AllReadyH.cons (o := { dst := some 11, op := Op.call { callee := Callee.value (Operand.func 51), args := #[Operand.tmp 10, Operand.const (Value.int IntKind.i64 0), Operand.const (Value.int IntKind.i64 0)], argTypes := #[25, 3, 3] }, type := 86, pos := "law.go:18", after := #[{ on := 0, ground := Ground.data }], guard := none }) rfl (fun Kz hK => ?_) AllReadyH.nil
  go_simp
  go_at_call 51
  refine (mall_any 1 0 8 p8 2 (exT p1 p2) 0 0 _ hHeld.out.all (by show 2 ≤ 9223372036854775807; decide)).mono ?_
  rintro e w5 ⟨ts, q5, r5, rfl, hA, ho, hg⟩
  rw [ex_all0 hA] at ho ⊢
  have HN := Lib.hid (hHeld.out.keep hg)
  have HR5 := Lib.hid (rdf_of_own ho)
  clear hA ho hg
  refine hK.out _ _ (HN) (fun hH2 => ?_)
  clear hK Kz hHeld
  have hHeld := hH2
  clear hH2
  (try simp only [Act.put, List.setIfInBounds_toArray, List.set_cons_zero, List.set_cons_succ])
  refine wpAnyH_ready (rs := [3]) (by kernel_rfl) (by simp) ?_
  refine AllReadyH.cons (o := { dst := some 13, op := Op.call { callee := Callee.value (Operand.func 51), args := #[Operand.tmp 12, Operand.const (Value.int IntKind.i64 1), Operand.const (Value.int IntKind.i64 0)], argTypes := #[25, 3, 3] }, type := 86, pos := "law.go:18", after := #[{ on := 2, ground := Ground.data }, { on := 1, ground := Ground.chain }], guard := none }) rfl (fun Kz hK => ?_) AllReadyH.nil
  go_simp
  go_at_call 51
  refine (mall_any 1 0 8 p8 2 (exT p1 p2) 1 0 _ hHeld.out.all (by show 2 ≤ 9223372036854775807; decide)).mono ?_
  rintro e w6 ⟨ts, q6, r6, rfl, hA, ho, hg⟩
  rw [ex_all1 hA] at ho ⊢
  have HN := Lib.hid (hHeld.out.keep hg)
  have HP := Lib.hid (HR5.out.keep hg)
  have HR6 := Lib.hid (rdf_of_own ho)
  clear hA ho hg
  refine hK.out _ _ (HN) (fun hH2 => ?_)
  clear hK Kz hHeld
  have hHeld := hH2
  clear hH2
  (try simp only [Act.put, List.setIfInBounds_toArray, List.set_cons_zero, List.set_cons_succ])
  refine wpAnyH_take (i := 4) (oi := { dst := some 2, op := Op.assign (Operand.tmp 11), type := 86, pos := "law.go:18", after := #[{ on := 1, ground := Ground.data }, { on := 3, ground := Ground.chain }, { on := 0, ground := Ground.phase }, { on := 1, ground := Ground.phase }, { on := 2, ground := Ground.textOnly Departure.lateStores }, { on := 3, ground := Ground.textOnly Departure.lateStoresUnsure }], guard := none }) (v := ?_) rfl (by kernel_rfl) (by kernel_rfl) (by kernel_rfl) (fun _ _ _ h => h) (Or.inl ⟨by rfl, ?_⟩) hHeld ?_
  rotate_left 1
  · intro u hSu
    obtain ⟨d0, d1, d2, d3⟩ := row4T hSu.out.box
    go_simp
    first | done | with_reducible rfl
  (try simp only [Act.put, List.setIfInBounds_toArray, List.set_cons_zero, List.set_cons_succ])
  refine wpAnyH_take (i := 5) (oi := { dst := some 3, op := Op.assign (Operand.tmp 13), type := 86, pos := "law.go:18", after := #[{ on := 3, ground := Ground.data }, { on := 4, ground := Ground.chain }, { on := 0, ground := Ground.phase }, { on := 1, ground := Ground.phase }, { on := 2, ground := Ground.phase }, { on := 3, ground := Ground.phase }, { on := 4, ground := Ground.phase }], guard := none }) (v := ?_) rfl (by kernel_rfl) (by kernel_rfl) (by kernel_rfl) (fun _ _ _ h => h) (Or.inl ⟨by rfl, ?_⟩) hHeld ?_
  rotate_left 1
  · intro u hSu
    obtain ⟨d0, d1, d2, d3⟩ := row4T hSu.out.box
    go_simp
    first | done | with_reducible rfl
  (try simp only [Act.put, List.setIfInBounds_toArray, List.set_cons_zero, List.set_cons_succ])
  refine wpAnyH_done (by kernel_rfl) ?_ _
  clear H0
  obtain ⟨-, g1, o1, rfl, -, hE⟩ := RdF.cells (f := mdC) (k := 2) (fun _ => rfl) (by decide) HP.out (by decide)
  obtain ⟨-, g2, o2, rfl, -, hO⟩ := RdF.cells (f := mdC) (k := 2) (fun _ => rfl) (by decide) HR6.out (by decide)
  have e0 : w6.cell? ⟨g1, o1, none⟩ = some (.int .i64 2) := hE 0 _ rfl 0 _ rfl
  have e1 : w6.cell? ⟨g1, o1 + 1, none⟩ = some (.int .u64 1) := hE 0 _ rfl 1 _ rfl
  have e2 : w6.cell? ⟨g1, o1 + 2, none⟩ = some (.int .i64 3) := hE 1 _ rfl 0 _ rfl
  have e3 : w6.cell? ⟨g1, o1 + 2 + 1, none⟩ = some (.int .u64 2) := hE 1 _ rfl 1 _ rfl
  have f0 : w6.cell? ⟨g2, o2, none⟩ = some (.int .i64 3) := hO 0 _ rfl 0 _ rfl
  have f1 : w6.cell? ⟨g2, o2 + 1, none⟩ = some (.int .u64 3) := hO 0 _ rfl 1 _ rfl
  clear hE hO HP HR6 HR5
  go_wp2_with fail
  go_ret
  exact ⟨rfl, hHeld.out.gr⟩
end Go.Proofs.YtgofadmncgmhoaaGreat

/- masks: Mask, Local. -/
namespace Go.Proofs.YtgofadmncgmhoaaGreat
open Go.RowKit Go.Maps Bs
set_option maxRecDepth 100000 in
set_option maxHeartbeats 1600000 in
theorem mmask_any (r s n : Int) (p : Option Addr) (c : Nat) (L : List Rw) (pl set u : Int) (hu : I64 u) (w : World) (hR : RdW w (· < w.heap.size) p c L) (hm : L.length ≤ 9223372036854775807) :
    Calls Tryz.prog 48 #[.agg #[.int .i64 r, .int .i64 s, .int .i64 n, .slice p L.length c], .int .i64 pl, .int .i64 set, .int .i64 u] w fun e w' => e = .returned (.int .u64 (((coF r s n L pl set u).getD 0 : Nat) : Int)) ∧ w.grownBy w' none := by
  obtain ⟨k1, k2⟩ := tone_box w #[.int .i64 r, .int .i64 s, .int .i64 n, .slice p L.length c] 25
  have H0 := Lib.hid (And.intro k1 (And.intro k2 (And.intro ((hR.keep k2).mono (q' := (· < (w.alloc (.cells #[.int .i64 r, .int .i64 s, .int .i64 n, .slice p L.length c] 25)).heap.size)) (fun b (hb : b < w.heap.size) => by show b < _; simp; omega)) (show w.heap.size < (w.alloc (.cells #[.int .i64 r, .int .i64 s, .int .i64 n, .slice p L.length c] 25)).heap.size by simp))))
  clear k1 k2 hR
  go_enter Tryz.func48, Tryz.ntmps48
  go_upto_region 1 with fail
  generalize w.alloc _ = w1 at *
  obtain ⟨d0, d1, d2, d3⟩ := row4T H0.out.1
  go_wp2_with fail
  refine (mcollect_any r s n p c L pl set w1 H0.out.2.2.1 hm).mono ?_
  rintro e w2 ⟨rfl, ⟨N, hN, hmp⟩, hg⟩
  have q1 := (hmp.look (x := u) hu).1
  have HG := Lib.hid (grown_trans H0.out.2.1 hg)
  clear hg H0 d0 d1 d2 d3
  go_wp2_with fail
  go_ret
  exact ⟨rfl, HG.out⟩
set_option maxRecDepth 100000 in
set_option maxHeartbeats 1600000 in
theorem mlocal_any (r s n : Int) (hr : I64 r) (p : Option Addr) (c : Nat) (L : List Rw) (set : Int) (w : World) (hR : RdW w (· < w.heap.size) p c L) (hm : L.length ≤ 9223372036854775807) :
    Calls Tryz.prog 53 #[.agg #[.int .i64 r, .int .i64 s, .int .i64 n, .slice p L.length c], .int .i64 set] w fun e w' => e = .returned (.int .u64 (((coF r s n L 0 set r).getD 0 : Nat) : Int)) ∧ w.grownBy w' none := by
  obtain ⟨k1, k2⟩ := tone_box w #[.int .i64 r, .int .i64 s, .int .i64 n, .slice p L.length c] 25
  have H0 := Lib.hid (And.intro k1 (And.intro k2 ((hR.keep k2).mono (q' := (· < (w.alloc (.cells #[.int .i64 r, .int .i64 s, .int .i64 n, .slice p L.length c] 25)).heap.size)) (fun b (hb : b < w.heap.size) => by show b < _; simp; omega))))
  clear k1 k2 hR
  go_enter Tryz.func53, Tryz.ntmps53
  go_upto_region 1 with fail
  generalize w.alloc _ = wa at *
  obtain ⟨d0, d1, d2, d3⟩ := row4T H0.out.1
  go_wp2_with fail
  refine (mmask_any r s n p c L 0 set r hr wa H0.out.2.2 hm).mono ?_
  rintro e w1 ⟨rfl, hg⟩
  have G := Lib.hid (grown_trans H0.out.2.1 hg)
  clear hg H0 d0 d1 d2 d3
  go_wp2_with fail
  go_ret
  exact ⟨rfl, G.out⟩
end Go.Proofs.YtgofadmncgmhoaaGreat

/- masks: what the laws over the tape's tables share. -/
namespace Go.Proofs.YtgofadmncgmhoaaGreat
open Go.RowKit Bs
set_option maxRecDepth 100000 in
theorem own_rdw {lo : Nat} {w : World} {L : List Rw} {p : Option Addr} {c : Nat} (h : OwnT lo w (.slice p L.length c) L) : RdW w (· < w.heap.size) p c L ∧ (p = none → c = 0) ∧ (L.length ≤ c ∧ c ≤ 9223372036854775807) ∧ ∀ y ∈ L, y.p = none → y.c = 0 := by
  refine ⟨⟨(rdf_of_own2 h.own).mono (fun b hb => hb.2), fun x hx => ⟨(rd_of_own (h.nx x hx)).old, ?_⟩⟩, ?_, ?_, fun y hy hp => ?_⟩
  · rcases own_formF (h.nx x hx) with ⟨e, h0⟩ | ⟨g, cap, e, h1, h2⟩
    · unfold Rw.v at e; injection e with e1 e2 e3; exact ⟨by omega, by omega⟩
    · unfold Rw.v at e; injection e with e1 e2 e3; exact ⟨by omega, by omega⟩
  · intro hp
    rcases own_formF h.own with ⟨e, h0⟩ | ⟨g, cap, e, -⟩
    · injection e
    · injection e with e1; subst hp; cases e1
  · rcases own_formF h.own with ⟨e, h0⟩ | ⟨g, cap, e, h1, h2⟩
    · injection e with e1 e2 e3; subst e3; exact ⟨by omega, by omega⟩
    · injection e with e1 e2 e3; subst e3; exact ⟨h1, h2⟩
  · rcases own_formF (h.nx y hy) with ⟨e, h0⟩ | ⟨g, cap, e, -⟩
    · unfold Rw.v at e; injection e
    · unfold Rw.v at e; injection e with e1; rw [hp] at e1; cases e1
set_option maxRecDepth 100000 in
theorem own_rdw2 {lo : Nat} {w : World} {L : List Rw} {p : Option Addr} {c : Nat} (h : OwnT lo w (.slice p L.length c) L) : RdW w (fun b => lo ≤ b ∧ b < w.heap.size) p c L :=
  ⟨rdf_of_own2 h.own, fun x hx => ⟨(rd_and (rd_of_own (h.nx x hx))), ((own_rdw h).1.ok x hx).hc⟩⟩
set_option maxRecDepth 100000 in
theorem asc_ltI : ∀ E : List Int, ascB ltI E = true → E.Pairwise (· < ·)
  | [], _ => List.Pairwise.nil
  | [a], _ => List.pairwise_singleton _ _
  | a :: b :: t, h => by
    rw [ascB, Bool.and_eq_true] at h
    have ih := asc_ltI (b :: t) h.2
    have hab : a < b := of_decide_eq_true h.1
    refine List.pairwise_cons.2 ⟨fun y hy => ?_, ih⟩
    rcases List.mem_cons.1 hy with rfl | hy
    · exact hab
    · have := (List.pairwise_cons.1 ih).1 y hy; omega
set_option maxRecDepth 100000 in
theorem row_asc {r s n : Int} {L : List Rw} (h : ckT r s n L = 0) {x : Rw} (hx : x ∈ L) : x.nx.Pairwise (· < ·) ∧ x.nx.length ≤ 24 ∧ (∀ y ∈ x.nx, 1 ≤ y ∧ y ≤ 99) ∧ (1 ≤ x.id ∧ x.id ≤ 256) ∧ (1 < x.nx.length → r ∉ x.nx) := by
  obtain ⟨-, h2, -, h4, -, h6, h7⟩ := ck_ok h
  have a2 := List.any_eq_false.1 h2 x hx
  have a4 := List.any_eq_false.1 h4 x hx
  have a6 := List.any_eq_false.1 h6 x hx
  have a7 := List.any_eq_false.1 h7 x hx
  unfold wrW at a2
  simp only [Bool.not_eq_true, Bool.or_eq_false_iff, Bool.not_eq_false'] at a2
  unfold lgW at a4
  unfold dsW at a6
  simp only [Bool.not_eq_true, Bool.not_eq_false'] at a6
  unfold cfW at a7
  simp only [Bool.and_eq_true, decide_eq_true_eq, List.any_eq_true, not_and, not_exists] at a7
  simp only [decide_eq_true_eq] at a4
  refine ⟨asc_ltI x.nx a6, by omega, fun y hy => ?_, by have := a2.1; unfold inV at this; simpa using this, fun h1 hm => a7 h1 r hm rfl⟩
  have := List.any_eq_false.1 a2.2 y hy
  unfold inV at this
  simpa using this
end Go.Proofs.YtgofadmncgmhoaaGreat

/- tables: a row that gets other next hops. -/
namespace Go.Proofs.YtgofadmncgmhoaaGreat
open Go.RowKit Bs
set_option maxRecDepth 100000 in
theorem flat_setW : ∀ (M : List Rw) (k : Nat) (y x : Rw), M[k]? = some y → x.id = y.id → (M.flatMap rwC).set (k * 2 + 1) x.v = (M.set k x).flatMap rwC
  | [], k, _, _, h, _ => by simp at h
  | a :: t, 0, y, x, h, hi => by
    obtain rfl : a = y := by simpa using h
    simp [rwC, Rw.v, hi]
  | a :: t, k + 1, y, x, h, hi => by
    have ih := flat_setW t k y x (by simpa using h) hi
    rw [List.flatMap_cons, List.set_cons_succ, List.flatMap_cons, ← ih]
    rw [show rwC a = [Value.int .i64 a.id, .slice a.p a.nx.length a.c] from rfl]
    rw [show (k + 1) * 2 + 1 = k * 2 + 1 + 1 + 1 by omega]
    rfl
/-- Blocks that rows lie in. -/
def InB (v : Value) (M : List Rw) (b : Nat) : Prop := v.ownBlock = some b ∨ ∃ y ∈ M, y.v.ownBlock = some b
set_option maxRecDepth 100000 in
theorem OwnT.ne {lo r : Nat} {w w1 : World} {v : Value} {M : List Rw} (h : OwnT lo w v M) (g : w.grownBy w1 (some r)) (hr : ¬ InB v M r) : OwnT lo w1 v M := by
  refine ⟨h.own.kept g ?_, fun x hx => (h.nx x hx).kept g ?_, h.ap, h.pw⟩
  · cases hv : v.ownBlock with
    | none => exact .inl rfl
    | some b => exact .inr (fun e => hr (Or.inl (hv.trans e)))
  · cases hv : x.v.ownBlock with
    | none => exact .inl rfl
    | some b => exact .inr (fun e => hr (Or.inr ⟨x, hx, hv.trans e⟩))
set_option maxRecDepth 100000 in
theorem OwnT.lt {lo : Nat} {w : World} {v : Value} {M : List Rw} (h : OwnT lo w v M) {b : Nat} (hb : InB v M b) : lo ≤ b ∧ b < w.heap.size := by
  rcases hb with hb | ⟨y, hy, hb⟩
  · exact h.own.lt b hb
  · exact (h.nx y hy).lt b hb
set_option maxRecDepth 100000 in
/-- A row gets other next hops. -/
theorem OwnT.setR {lo k : Nat} {w w1 : World} {g c : Nat} {M : List Rw} {y x : Rw} (h : OwnT lo w (.slice (some ⟨g, 0, none⟩) M.length c) M) (hy : M[k]? = some y) (hi : x.id = y.id) (g1 : w.grownBy w1 y.v.ownBlock) (hx : w1.ownsRow lo 3 1 x.v x.nx.length (x.nx.map tv)) (hn : ∀ b, x.v.ownBlock = some b → y.v.ownBlock = some b ∨ w.heap.size ≤ b) :
    OwnT lo (w1.setCell ⟨g, k * 2 + 1, none⟩ x.v) (.slice (some ⟨g, 0, none⟩) M.length c) (M.set k x) := by
  have hk : k < M.length := (List.getElem?_eq_some_iff.1 hy).1
  have hym : y ∈ M := List.mem_of_getElem? hy
  have g2 : w1.grownBy (w1.setCell ⟨g, k * 2 + 1, none⟩ x.v) (some g) := grown_setCell _ _ _
  have hgo : (Value.slice (some ⟨g, 0, none⟩) M.length c).ownBlock = some g := rfl
  have hgl := (h.own.lt g hgo).2
  have hyl : ∀ z ∈ M, ∀ b, z.v.ownBlock = some b → b < w.heap.size := fun z hz b e => ((h.nx z hz).lt b e).2
  have hother : ∀ (j : Nat) (z : Rw), M[j]? = some z → j ≠ k → ∀ b, z.v.ownBlock = some b → y.v.ownBlock ≠ some b := fun j z hz hne b hb e => by
    obtain ⟨hj, hz2⟩ := List.getElem?_eq_some_iff.1 hz
    obtain ⟨hk2, hy2⟩ := List.getElem?_eq_some_iff.1 hy
    rcases Nat.lt_or_gt_of_ne hne with hlt | hlt
    · have := List.pairwise_iff_getElem.1 h.pw j k hj hk hlt b (by rw [hz2]; exact hb)
      rw [hy2] at this; exact this e
    · have := List.pairwise_iff_getElem.1 h.pw k j hk hj hlt b (by rw [hy2]; exact e)
      rw [hz2] at this; exact this hb
  have hxg : ∀ b, x.v.ownBlock = some b → b ≠ g := fun b hb e => by
    subst e
    rcases hn b hb with h1 | h1
    · exact h.ap y hym b h1 hgo
    · omega
  have hget : ∀ (j : Nat) (z : Rw), (M.set k x)[j]? = some z → (j = k ∧ z = x) ∨ (j ≠ k ∧ M[j]? = some z) := fun j z hz => by
    rw [List.getElem?_set] at hz
    by_cases e : k = j
    · subst e
      rw [if_pos rfl, if_pos hk] at hz
      exact Or.inl ⟨rfl, (Option.some.inj hz).symm⟩
    · rw [if_neg e] at hz
      exact Or.inr ⟨fun h => e h.symm, hz⟩
  have hown1 : w1.ownsRow lo 36 2 (.slice (some ⟨g, 0, none⟩) M.length c) M.length (M.flatMap rwC) := own_keptV h.own g1 (fun b hb e => h.ap y hym b e hb)
  refine ⟨?_, fun z hz => ?_, fun z hz b hb e => ?_, List.pairwise_iff_getElem.2 fun i j hi2 hj2 hij b hb e => ?_⟩
  · have := (hown1.stored (k * 2 + 1) x.v).1
    rw [flat_setW M k y x hy hi] at this
    rw [List.length_set]
    exact this
  · obtain ⟨j, hj, hz2⟩ := List.getElem_of_mem hz
    rcases hget j z (by rw [List.getElem?_eq_getElem hj, hz2]) with ⟨-, rfl⟩ | ⟨hne, hz3⟩
    · exact hx.kept g2 (by
        cases hv : z.v.ownBlock with
        | none => exact .inl rfl
        | some b => exact .inr (fun e => hxg b hv (Option.some.inj e)))
    · have hzm := List.mem_of_getElem? hz3
      exact (own_keptV (h.nx z hzm) g1 (hother j z hz3 hne)).kept g2 (by
        cases hv : z.v.ownBlock with
        | none => exact .inl rfl
        | some b => exact .inr (fun e => h.ap z hzm b hv (by rw [hgo, Option.some.inj e])))
  · obtain ⟨j, hj, hz2⟩ := List.getElem_of_mem hz
    have hbg : g = b := Option.some.inj e
    rcases hget j z (by rw [List.getElem?_eq_getElem hj, hz2]) with ⟨-, rfl⟩ | ⟨hne, hz3⟩
    · exact hxg b hb hbg.symm
    · exact h.ap z (List.mem_of_getElem? hz3) b hb (by rw [hgo, hbg])
  · have h1 := hget i _ (List.getElem?_eq_getElem hi2)
    have h2 := hget j _ (List.getElem?_eq_getElem hj2)
    rcases h1 with ⟨e1, e2⟩ | ⟨n1, m1⟩
    · rcases h2 with ⟨e3, -⟩ | ⟨n2, m2⟩
      · omega
      · rw [e2] at hb
        rcases hn b hb with h3 | h3
        · exact hother j _ m2 n2 b e h3
        · have := hyl _ (List.mem_of_getElem? m2) b e; omega
    · rcases h2 with ⟨e3, e4⟩ | ⟨n2, m2⟩
      · rw [e4] at e
        rcases hn b e with h3 | h3
        · exact hother i _ m1 n1 b hb h3
        · have := hyl _ (List.mem_of_getElem? m1) b hb; omega
      · obtain ⟨q1, z1⟩ := List.getElem?_eq_some_iff.1 m1
        obtain ⟨q2, z2⟩ := List.getElem?_eq_some_iff.1 m2
        exact List.pairwise_iff_getElem.1 h.pw i j q1 q2 hij b (by rw [z1]; exact hb) (by rw [z2]; exact e)
set_option maxRecDepth 100000 in
theorem inB_set {v : Value} {M : List Rw} {k b : Nat} {x : Rw} (h : InB v (M.set k x) b) : InB v M b ∨ x.v.ownBlock = some b := by
  rcases h with h | ⟨z, hz, h⟩
  · exact Or.inl (Or.inl h)
  · rcases List.mem_or_eq_of_mem_set hz with hz | rfl
    · exact Or.inl (Or.inr ⟨z, hz, h⟩)
    · exact Or.inr h
/-- What bend keeps in memory. -/
structure BN (a : Nat) (W : World) (lo C D : Nat) (od : Obj) (r s n : Int) (v : Value) (M : List Rw) (w : World) : Prop where
  bx : w.heap[C]? = some (.cells #[.int .i64 r, .int .i64 s, .int .i64 n, v] 25 (0, 0))
  rs : w.heap[C + 1]? = some (.cells #[.int .i64 0, .int .i64 0, .int .i64 0, .slice none 0 0] 25 (0, 0))
  own : OwnT lo w v M
  nb : ∀ b, InB v M b → b ≠ C ∧ b ≠ C + 1 ∧ b ≠ D
  ft : w.heap[D]? = some od
  dl : W.heap.size ≤ D ∧ D < C
  st : St a W w
  lo : a < W.heap.size ∧ W.heap.size ≤ lo ∧ lo ≤ C ∧ C + 1 < w.heap.size
set_option maxRecDepth 100000 in
theorem BN.keep {a lo C D : Nat} {od : Obj} {W : World} {r s n : Int} {v : Value} {M : List Rw} {w w1 : World} (h : BN a W lo C D od r s n v M w) (g : w.grownBy w1 none) : BN a W lo C D od r s n v M w1 :=
  ⟨kept_row h.bx g (by simp), kept_row h.rs g (by simp), h.own.keep g, h.nb, kept_row h.ft g (by simp), h.dl, h.st.none_ g, h.lo.1, h.lo.2.1, h.lo.2.2.1, Nat.lt_of_lt_of_le h.lo.2.2.2 g.size⟩
set_option maxRecDepth 100000 in
theorem BN.tape {a lo C D : Nat} {od : Obj} {W : World} {r s n : Int} {v : Value} {M : List Rw} {w w1 : World} (h : BN a W lo C D od r s n v M w) (k : St a w w1) : BN a W lo C D od r s n v M w1 := by
  have hl := h.lo
  have hd := h.dl
  exact ⟨kept_row h.bx k.1 (fun e => by have := Option.some.inj e; omega), kept_row h.rs k.1 (fun e => by have := Option.some.inj e; omega), h.own.over k.1 (by omega), h.nb, kept_row h.ft k.1 (fun e => by have := Option.some.inj e; omega), h.dl, h.st.trans k, hl.1, hl.2.1, hl.2.2.1, Nat.lt_of_lt_of_le hl.2.2.2 k.1.size⟩
set_option maxRecDepth 100000 in
/-- A store into the box. -/
theorem BN.box {a lo C D : Nat} {od : Obj} {W : World} {r s n r2 s2 n2 : Int} {v : Value} {M : List Rw} {w w1 : World} (h : BN a W lo C D od r s n v M w) (g : w.grownBy w1 (some C)) (hb : w1.heap[C]? = some (.cells #[.int .i64 r2, .int .i64 s2, .int .i64 n2, v] 25 (0, 0))) : BN a W lo C D od r2 s2 n2 v M w1 := by
  have hl := h.lo
  have hd := h.dl
  exact ⟨hb, kept_row h.rs g (fun e => by have := Option.some.inj e; omega), h.own.ne g (fun hi => (h.nb C hi).1 rfl), h.nb, kept_row h.ft g (fun e => by have := Option.some.inj e; omega), h.dl, h.st.storeT g (by omega) hl.1, hl.1, hl.2.1, hl.2.2.1, Nat.lt_of_lt_of_le hl.2.2.2 g.size⟩
end Go.Proofs.YtgofadmncgmhoaaGreat
