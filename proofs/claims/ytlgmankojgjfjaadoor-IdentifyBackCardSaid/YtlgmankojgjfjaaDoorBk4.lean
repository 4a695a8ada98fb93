/- Parts of the proof, packed: IdLen, IdLay, IdSrt, IdEdg, IdRes, IdRsW, IdRtw. -/
import Derived.Test.YtlgmankojgjfjaaDoorBk3
import Derived.Shelf.SlSortCmp.WholeK
import Derived.Shelf.SlSortCmp.NoneTotal
import Derived.Test.YtlgmankojgjfjaaDoorBk2
import Derived.Lib.SliceRun
/- identify: Length, Free. -/
namespace Go.Proofs.YtlgmankojgjfjaaDoor
open Go.RowKit Bs
set_option maxRecDepth 100000 in
set_option maxHeartbeats 6400000 in
theorem ilen_any (l : List Od) (p : Option Addr) (c : Nat) (sub : Int) (q : Nat → Prop) (w : World) (hR : RdF w q (.slice p l.length c) l.length (l.flatMap odC)) (hm : l.length ≤ 9223372036854775807) :
    Calls Tryd.prog 64 #[.slice p l.length c, .int .i64 sub] w fun e w' => e = .returned (.int .i64 (lnO l sub)) ∧ w.grownBy w' none := by
  have HR := Lib.hid hR
  clear hR
  go_enter Tryd.func64, Tryd.ntmps64
  go_wp2_with fail
  refine (icheck_any l p c _ w HR.out hm).mono ?_
  rintro e w1 ⟨rfl, hg⟩
  have G1 := Lib.hid hg
  clear hg
  by_cases h0 : ckO l = 0
  case neg =>
    have h0' : (ckO l != 0) = true := by simpa using h0
    have HC : Hid (lnO l sub = 0) := Lib.hid (if_neg h0)
    clear h0
    go_wp2_with fail
    go_ret
    rw [HC.out]
    exact ⟨rfl, G1.out⟩
  have HC : Hid (lnO l sub = lnK l sub) := Lib.hid (if_pos h0)
  obtain ⟨hl, -, -⟩ := ck_any h0
  rw [h0]
  clear h0
  go_wp2_with fail
  go_loopw [5, 13] (fun v a wr => ∃ k : Nat, k ≤ l.length ∧ a = .int .i64 (k : Int) ∧ v = .int .i64 (lnK (l.take k) sub) ∧ Hid (w.grownBy wr none)) (fun _ a _ => l.length - (RowKit.intOf a).toNat)
  case atStart => exact ⟨0, by omega, rfl, rfl, G1⟩
  case round =>
    obtain ⟨w2, rfl⟩ : ∃ w2, w2 = wr := ⟨_, rfl⟩
    obtain ⟨k, hk, rfl, rfl, N⟩ := hrel
    clear G1
    by_cases hlt : k < l.length
    · obtain ⟨-, b, off, rfl, -, hc⟩ := od_cells (HR.out.keep N.out) (by omega)
      obtain ⟨x, hx⟩ : ∃ x, l[k]? = some x := ⟨_, List.getElem?_eq_getElem hlt⟩
      obtain ⟨a0, a1, a2, a3⟩ := hc k x hx
      have HS := Lib.hid (lnK_take hx sub)
      have HB := Lib.hid (heap_alloc_new w2 (.cells #[.int .i64 x.r, .int .i64 x.s, .int .i64 x.i, .int .i64 x.l] 79))
      have HG := Lib.hid (World.grownBy_alloc w2 (.cells #[.int .i64 x.r, .int .i64 x.s, .int .i64 x.i, .int .i64 x.l] 79) none)
      clear hc hx
      go_upto_region 7 with fail
      clear a0 a1 a2 a3
      generalize w2.alloc _ = w3 at *
      have N1 := Lib.hid (grown_trans N.out HG.out)
      obtain ⟨d0, d1, d2, d3⟩ := row4i HB.out
      obtain ⟨n, hn⟩ : ∃ n, lnK (l.take k) sub = n := ⟨_, rfl⟩
      rw [hn] at HS ⊢
      clear hn N HG
      by_cases h1 : x.s = sub
      · have h1' : (x.s == sub) = true := by simpa using h1
        by_cases h2 : n = 0
        · have h2' : (n == 0) = true := by simpa using h2
          have HE : Hid (lnK (l.take (k + 1)) sub = x.l) := Lib.hid (by rw [HS.out]; unfold lnS; rw [if_pos ⟨h1, Or.inl h2⟩])
          clear HS h1 h2
          go_wp2_with fail
          exact ⟨⟨k + 1, by omega, congrArg _ (by omega), by rw [HE.out], N1⟩, by simp only [RowKit.intOf]; omega⟩
        · have h2' : (n == 0) = false := by simpa using h2
          by_cases h3 : x.l < n
          · have HE : Hid (lnK (l.take (k + 1)) sub = x.l) := Lib.hid (by rw [HS.out]; unfold lnS; rw [if_pos ⟨h1, Or.inr h3⟩])
            clear HS h1 h2
            go_wp2_with fail
            exact ⟨⟨k + 1, by omega, congrArg _ (by omega), by rw [HE.out], N1⟩, by simp only [RowKit.intOf]; omega⟩
          · have HE : Hid (lnK (l.take (k + 1)) sub = n) := Lib.hid (by rw [HS.out]; unfold lnS; rw [if_neg (fun h => by have := h.2; omega)])
            clear HS h1 h2
            go_wp2_with fail
            exact ⟨⟨k + 1, by omega, congrArg _ (by omega), by rw [HE.out], N1⟩, by simp only [RowKit.intOf]; omega⟩
      · have h1' : (x.s == sub) = false := by simpa using h1
        have HE : Hid (lnK (l.take (k + 1)) sub = n) := Lib.hid (by rw [HS.out]; unfold lnS; rw [if_neg (fun h => h1 h.1)])
        clear HS h1
        go_wp2_with fail
        exact ⟨⟨k + 1, by omega, congrArg _ (by omega), by rw [HE.out], N1⟩, by simp only [RowKit.intOf]; omega⟩
    · obtain rfl : k = l.length := by omega
      have HE : Hid (lnK (l.take l.length) sub = lnK l sub) := Lib.hid (by rw [List.take_length])
      go_wp2_with fail
      go_ret
      rw [HC.out, HE.out]
      exact ⟨rfl, N.out⟩
end Go.Proofs.YtlgmankojgjfjaaDoor

/- The library's contract on slices.SortFunc, laid at this program. -/
namespace Go.Proofs.YtlgmankojgjfjaaDoor
open Go.Shelf
def sortE_ren : Go.Shelf.Ren := ⟨fun | 6 => 77 | 15 => 81 | 14 => 80 | 28 => 90 | 29 => 91 | 20 => 82 | 21 => 83 | 22 => 84 | 23 => 85 | 24 => 86 | 25 => 87 | 26 => 88 | 27 => 89 | 46 => 92 | 47 => 93 | 48 => 94 | 49 => 95 | 50 => 96 | 57 => 97 | n => n, fun | 22 => 28 | 24 => 39 | 25 => 89 | 3 => 3 | 39 => 72 | 0 => 0 | 53 => 127 | 55 => 23 | 4 => 4 | 46 => 121 | 45 => 120 | 50 => 74 | 5 => 5 | 9 => 9 | 66 => 128 | 70 => 132 | 76 => 134 | 77 => 135 | n => n, fun | n => n⟩
set_option maxRecDepth 100000 in
theorem sortE : Go.Proofs.SlLaysF0.n6 Tryd.prog sortE_ren where
  mixed := by kernel_rfl
  f6 := ⟨ "slices.SortFunc[[]bitcast/api.Edge,bitcast/api.Edge]", by decide, Tryd.func77.trans (congrArg some (by kernel_rfl))⟩
  f14 := ⟨ "slices.pdqsortCmpFunc[bitcast/api.Edge]", by decide, Tryd.func80.trans (congrArg some (by kernel_rfl))⟩
  f15 := Tryd.func81.trans (congrArg some (by kernel_rfl))
  f20 := ⟨ "slices.insertionSortCmpFunc[bitcast/api.Edge]", by decide, Tryd.func82.trans (congrArg some (by kernel_rfl))⟩
  f21 := ⟨ "slices.heapSortCmpFunc[bitcast/api.Edge]", by decide, Tryd.func83.trans (congrArg some (by kernel_rfl))⟩
  f22 := ⟨ "slices.breakPatternsCmpFunc[bitcast/api.Edge]", by decide, Tryd.func84.trans (congrArg some (by kernel_rfl))⟩
  f23 := ⟨ "slices.choosePivotCmpFunc[bitcast/api.Edge]", by decide, Tryd.func85.trans (congrArg some (by kernel_rfl))⟩
  f24 := ⟨ "slices.reverseRangeCmpFunc[bitcast/api.Edge]", by decide, Tryd.func86.trans (congrArg some (by kernel_rfl))⟩
  f25 := ⟨ "slices.partialInsertionSortCmpFunc[bitcast/api.Edge]", by decide, Tryd.func87.trans (congrArg some (by kernel_rfl))⟩
  f26 := ⟨ "slices.partitionEqualCmpFunc[bitcast/api.Edge]", by decide, Tryd.func88.trans (congrArg some (by kernel_rfl))⟩
  f27 := ⟨ "slices.partitionCmpFunc[bitcast/api.Edge]", by decide, Tryd.func89.trans (congrArg some (by kernel_rfl))⟩
  f28 := Tryd.func90.trans (congrArg some (by kernel_rfl))
  f29 := Tryd.func91.trans (congrArg some (by kernel_rfl))
  f46 := ⟨ "slices.siftDownCmpFunc[bitcast/api.Edge]", by decide, Tryd.func92.trans (congrArg some (by kernel_rfl))⟩
  f47 := Tryd.func93.trans (congrArg some (by kernel_rfl))
  f48 := Tryd.func94.trans (congrArg some (by kernel_rfl))
  f49 := ⟨ "slices.medianAdjacentCmpFunc[bitcast/api.Edge]", by decide, Tryd.func95.trans (congrArg some (by kernel_rfl))⟩
  f50 := ⟨ "slices.medianCmpFunc[bitcast/api.Edge]", by decide, Tryd.func96.trans (congrArg some (by kernel_rfl))⟩
  f57 := ⟨ "slices.order2CmpFunc[bitcast/api.Edge]", by decide, Tryd.func97.trans (congrArg some (by kernel_rfl))⟩
  t0 := Tryd.underlying0
  a0 := Tryd.isAgg0
  z0 := Tryd.sizeOf0
  v0 := Tryd.zeroValue0
  t3 := Tryd.underlying3
  a3 := Tryd.isAgg3
  z3 := Tryd.sizeOf3
  v3 := Tryd.zeroValue3
  t4 := Tryd.underlying4
  a4 := Tryd.isAgg4
  z4 := Tryd.sizeOf4
  v4 := Tryd.zeroValue4
  t5 := Tryd.underlying5
  a5 := Tryd.isAgg5
  z5 := Tryd.sizeOf5
  v5 := Tryd.zeroValue5
  t9 := Tryd.underlying9
  a9 := Tryd.isAgg9
  z9 := Tryd.sizeOf9
  v9 := Tryd.zeroValue9
  t22 := Tryd.underlying28
  a22 := Tryd.isAgg28
  z22 := Tryd.sizeOf28
  v22 := Tryd.zeroValue28
  t25 := Tryd.underlying89
  a25 := Tryd.isAgg89
  z25 := Tryd.sizeOf89
  v25 := Tryd.zeroValue89
  t39 := Tryd.underlying72
  a39 := Tryd.isAgg72
  z39 := Tryd.sizeOf72
  v39 := Tryd.zeroValue72
  t45 := Tryd.underlying120
  a45 := Tryd.isAgg120
  z45 := Tryd.sizeOf120
  v45 := Tryd.zeroValue120
  t46 := Tryd.underlying121
  a46 := Tryd.isAgg121
  z46 := Tryd.sizeOf121
  v46 := Tryd.zeroValue121
  t50 := Tryd.underlying74
  a50 := Tryd.isAgg74
  z50 := Tryd.sizeOf74
  v50 := Tryd.zeroValue74
  t53 := Tryd.underlying127
  a53 := Tryd.isAgg127
  z53 := Tryd.sizeOf127
  v53 := Tryd.zeroValue127
  t55 := Tryd.underlying23
  a55 := Tryd.isAgg23
  z55 := Tryd.sizeOf23
  v55 := Tryd.zeroValue23
  t66 := Tryd.underlying128
  a66 := Tryd.isAgg128
  z66 := Tryd.sizeOf128
  v66 := Tryd.zeroValue128
  t70 := Tryd.underlying132
  a70 := Tryd.isAgg132
  z70 := Tryd.sizeOf132
  v70 := Tryd.zeroValue132
  t76 := Tryd.underlying134
  a76 := Tryd.isAgg134
  z76 := Tryd.sizeOf134
  v76 := Tryd.zeroValue134
  t77 := Tryd.underlying135
  a77 := Tryd.isAgg135
  z77 := Tryd.sizeOf135
  v77 := Tryd.zeroValue135
end Go.Proofs.YtlgmankojgjfjaaDoor

/- slices.SortFunc at edges. -/
namespace Go.Proofs.YtlgmankojgjfjaaDoor
open Go.RowKit Go.Proofs Bs
open Go.Sort (flatK get_flatK size_flatK HoldsK putRowK size_putRowK)
instance : Inhabited Ed := ⟨⟨0, 0⟩⟩
def cfE (x y : Ed) : Int := cmpV x.i y.i
set_option maxRecDepth 100000 in
theorem lt_cfE (x y : Ed) : ltOf cfE x y = decide (x.i < y.i) := by
  unfold ltOf cfE
  exact decide_eq_decide.2 cmpV_lt
set_option maxRecDepth 100000 in
theorem swoE : Go.Sort.SWO (ltOf cfE) := by
  refine ⟨fun x => by rw [lt_cfE]; simp, fun x y z h1 h2 => ?_, fun x y z h1 h2 => ?_⟩
  · rw [lt_cfE] at h1 h2 ⊢
    have := of_decide_eq_true h1
    have := of_decide_eq_true h2
    exact decide_eq_true (by omega)
  · rw [lt_cfE] at h1 h2 ⊢
    have := of_decide_eq_false h1
    have := of_decide_eq_false h2
    exact decide_eq_false (by omega)
set_option maxRecDepth 100000 in
theorem flatK_at (d : Array Ed) (t : Nat) (h : t < d.size * 2) : (flatK edC 2 d)[t]! = (d.toList.flatMap edC)[t]?.getD default := by
  rw [get_flatK _ _ _ _ h]
  have h1 : t / 2 < d.size := by omega
  have h2 : t % 2 < 2 := Nat.mod_lt _ (by decide)
  have h3 := flat_at edC 2 (fun _ => rfl) d.toList (t / 2) (t % 2) d[t / 2] (by rw [Array.getElem?_toList, Array.getElem?_eq_getElem h1]) h2
  rw [show t / 2 * 2 + t % 2 = t by omega] at h3
  rw [h3, getElem!_pos d (t / 2) h1]
  rw [List.getElem!_eq_getElem?_getD]
set_option maxRecDepth 100000 in
theorem holdsE {w : World} {g : Nat} {cur : Array Value} {e : TypeId} {E : List Ed} (hb : w.heap[g]? = some (.cells cur e (0, 0))) (ht : cur.toList.take (E.length * 2) = E.flatMap edC) : HoldsK edC 2 w g 0 E.toArray := by
  intro j hj
  rw [size_flatK] at hj
  have hj' : j < E.length * 2 := by simpa using hj
  refine ⟨?_, by simp [World.frozen?, hb]⟩
  rw [flatK_at _ _ (by simpa using hj'), Nat.zero_add, cell_of_row _ _ _ _ _ _ hb]
  have h1 : (cur.toList.take (E.length * 2))[j]? = (E.flatMap edC)[j]? := by rw [ht]
  rw [List.getElem?_take_of_lt hj'] at h1
  show cur[j]? = some (id _)
  rw [← Array.getElem?_toList, h1]
  have h2 : j < (E.flatMap edC).length := by rw [flat_len edC 2 (fun _ => rfl)]; exact hj'
  rw [List.getElem?_eq_getElem h2]
  simp
set_option maxRecDepth 100000 in
theorem take_putE (cur : Array Value) (F : List Ed) (h : F.length * 2 ≤ cur.size) : (Go.Sort.putCells id 0 (flatK edC 2 F.toArray) cur).toList.take (F.length * 2) = F.flatMap edC := by
  apply List.ext_getElem?
  intro j
  have hl : (F.flatMap edC).length = F.length * 2 := flat_len edC 2 (fun _ => rfl) F
  by_cases hj : j < F.length * 2
  · rw [List.getElem?_take_of_lt hj, Array.getElem?_toList]
    have h1 := flatK_at F.toArray j (by simpa using hj)
    have hj2 : j < (F.flatMap edC).length := by omega
    have hcs : j < cur.size := by omega
    unfold Go.Sort.putCells
    rw [Array.getElem?_mapIdx, Array.getElem?_eq_getElem hcs]
    simp only [Option.map_some]
    rw [if_pos ⟨Nat.zero_le _, by rw [size_flatK]; simpa using hj⟩, Nat.sub_zero]
    show some ((flatK edC 2 F.toArray)[j]!) = _
    rw [h1, show F.toArray.toList = F from rfl, List.getElem?_eq_getElem hj2]
    rfl
  · rw [List.getElem?_take_eq_none (by omega), List.getElem?_eq_none (by omega)]
set_option maxRecDepth 100000 in
theorem heap_sortE {w : World} {g n : Nat} {os : Array Obj} {cur : Array Value} {e : TypeId} {fr : Nat × Nat} (d : Array Ed) (hb : w.heap[g]? = some (.cells cur e fr)) :
    (sortWorldK edC 2 w g 0 n d os).heap[g]? = some (.cells (Go.Sort.putCells id 0 (flatK edC 2 d) cur) e fr) := by
  have hg : g < w.heap.size := (Array.getElem?_eq_some_iff.1 hb).1
  unfold sortWorldK
  rw [Go.Sort.heap_grow_old _ _ (by rw [size_putRowK]; exact hg)]
  simp [putRowK, Go.Sort.putRow, Go.Sort.mapBlock, Go.Sort.ahead, Array.getElem?_modify, hb, Go.Sort.onCells]
set_option maxRecDepth 100000 in
theorem grown_sortE (w : World) (g n : Nat) (d : Array Ed) (os : Array Obj) : w.grownBy (sortWorldK edC 2 w g 0 n d os) (some g) := by
  refine ⟨rfl, rfl, rfl, by simp [sortWorldK, Go.Sort.grow, putRowK, Go.Sort.putRow, Go.Sort.mapBlock, Go.Sort.ahead], fun k hk hne => ?_⟩
  unfold sortWorldK
  rw [Go.Sort.heap_grow_old _ _ (by rw [size_putRowK]; exact hk)]
  have : g ≠ k := fun e => hne (by rw [e])
  simp [putRowK, Go.Sort.putRow, Go.Sort.mapBlock, Go.Sort.ahead, Array.getElem?_modify, this]
set_option maxRecDepth 100000 in
theorem cmpLaysE (blk off size : Nat) (w : World) : CmpLays Tryd.prog 49 #[] edC 2 cfE blk off size w := fun m os dk hs x y => by
  refine (icmpe_any x y _).mono ?_
  rintro e w' ⟨rfl, rfl⟩
  exact ⟨rfl, 0, _, by rw [Go.Sort.alloc_eq_grow, Go.Sort.alloc_eq_grow, Go.Sort.grow_grow]; rfl⟩
/-- What SortFunc leaves: the same edges, by ID; the row is the same. -/
def SrtPost (base : Nat) (E : List Ed) (p : Option Addr) (c : Nat) (w : World) (e : Ending) (w' : World) : Prop :=
  ∃ F : List Ed, e = .returned (.tuple #[]) ∧ F.Perm E ∧ F.Pairwise (fun x y => x.i ≤ y.i) ∧ w'.ownsRow base 39 2 (.slice p F.length c) F.length (F.flatMap edC) ∧ w.grownBy w' (Value.slice p E.length c).ownBlock
set_option maxRecDepth 100000 in
theorem isort_any (base : Nat) (E : List Ed) (p : Option Addr) (c : Nat) (w : World) (hO : w.ownsRow base 39 2 (.slice p E.length c) E.length (E.flatMap edC)) (hn : E.length ≤ 100000) :
    Calls Tryd.prog 77 #[.slice p E.length c, .func (.func 49) #[] #[]] w fun e w' => SrtPost base E p c w e w' := by
  have hO0 := hO
  rcases hO.2 with ⟨e1, h0⟩ | ⟨g, cap, cur, e1, hbase, hb, r1, r2, r3, r4⟩
  · injection e1 with a1 a2 a3
    subst a1
    subst a3
    rw [h0]
    have cS := AnyF.slices_SortFunc_none (P := Tryd.prog) (ρ := sortE_ren) { sortE with } none 0 (.func (.func 49) #[] #[]) w
    change Calls Tryd.prog 77 _ _ _ at cS
    refine cS.mono ?_
    rintro e w' ⟨rfl, rfl⟩
    obtain rfl : E = [] := List.eq_nil_of_length_eq_zero h0
    exact ⟨[], rfl, List.Perm.refl _, List.Pairwise.nil, hO0, grown_refl _ _⟩
  · injection e1 with a1 a2 a3
    subst a1
    subst a3
    have hg : g < w.heap.size := (Array.getElem?_eq_some_iff.1 hb).1
    have eg : EnterF 49 := enters_of Tryd.func49 (by kernel_rfl) rfl
    have cS := AnyQ.slices_SortFunc sortE 2 Tryd.isAgg39 Tryd.sizeOf39 edC (fun _ => rfl) ed_one cfE swoE 49 #[] g 0 c E.toArray w eg (cmpLaysE _ _ _ _) (holdsE hb r4) hg (by simp; omega)
    change Calls Tryd.prog 77 _ _ _ at cS
    rw [show E.toArray.size = E.length by simp] at cS
    refine cS.mono ?_
    rintro e w' ⟨rfl, d', n, os, hp, hs, rfl⟩
    obtain ⟨p1, -, p3⟩ := hp
    have hsz : d'.size = E.length := by simpa using p1
    have hpm : d'.toList.Perm E := by
      have e1 : d'.extract 0 E.length = d' := by rw [← hsz, Array.extract_size]
      have e2 : E.toArray.extract 0 E.length = E.toArray := by rw [show E.length = E.toArray.size by simp, Array.extract_size]
      rw [e1, e2] at p3
      exact p3
    have hlen : d'.toList.length = E.length := hpm.length_eq
    refine ⟨d'.toList, rfl, hpm, ?_, ?_, ?_⟩
    · rw [List.pairwise_iff_getElem]
      intro i j hi hj hij
      have h1 := hs i j (Nat.zero_le _) hij (by omega)
      rw [lt_cfE, getElem!_pos d' j (by omega), getElem!_pos d' i (by omega)] at h1
      have := of_decide_eq_false h1
      simp only [Array.getElem_toList]
      omega
    · refine ⟨by rw [flat_len edC 2 (fun _ => rfl)], .inr ⟨g, c, _, rfl, hbase, heap_sortE _ hb, by omega, r2, by simp [Go.Sort.putCells, r3], ?_⟩⟩
      have h5 := take_putE cur d'.toList (by rw [hlen, r3]; exact Nat.mul_le_mul_right _ r1)
      rw [Array.toArray_toList] at h5
      exact h5
    · exact grown_sortE w g n d' os
end Go.Proofs.YtlgmankojgjfjaaDoor

/- identify: the edges of a subdomain. -/
namespace Go.Proofs.YtlgmankojgjfjaaDoor
open Go.RowKit Bs
set_option maxRecDepth 100000 in
theorem info_ed : (Tryd.prog.info? 39).map (fun i => (i.zero, i.size, i.bytes)) = some (some (.agg #[.int .i64 0, .int .i64 0]), 2, 16) := by kernel_rfl
set_option maxRecDepth 100000 in
theorem ed_row (w : World) (x : Ed) (t : TypeId) (j : Nat) (u : Value) (hu : ([x].flatMap edC)[j]? = some u) : (w.alloc (.cells #[.int .i64 x.r, .int .i64 x.i] t)).cell? ((⟨w.heap.size, 0, none⟩ : Addr).add j) = some u := by
  rw [add_plain]
  have hb := heap_alloc_new w (.cells #[.int .i64 x.r, .int .i64 x.i] t)
  rcases j with _ | _ | j
  · cases hu; exact cell_of_row _ _ _ _ _ _ hb
  · cases hu; exact cell_of_row _ _ _ _ _ _ hb
  · simp [edC] at hu
set_option maxRecDepth 100000 in
theorem own_low {w : World} {b1 b2 size n : Nat} {e : TypeId} {v : Value} {xs : List Value} (h : w.ownsRow b1 e size v n xs) (hb : b2 ≤ b1) : w.ownsRow b2 e size v n xs := by
  refine ⟨h.1, ?_⟩
  rcases h.2 with h1 | ⟨g, cap, cur, h1, h2, h3⟩
  · exact .inl h1
  · exact .inr ⟨g, cap, cur, h1, Nat.le_trans hb h2, h3⟩
/-- While edges are collected: the counts lie in the block B. -/
structure EG (W : World) (q : Nat → Prop) (l : List Od) (p : Option Addr) (c : Nat) (sub : Int) (B : Nat) (v : Value) (M : List Ed) (w : World) : Prop where
  cb : w.heap[B]? = some (.cells (arrV 257 (ivN fun k => cntO l sub k)) 103 (0, 0))
  rd : RdF w (· < W.heap.size) (.slice p l.length c) l.length (l.flatMap odC)
  own : w.ownsRow (B + 1) 39 2 v M.length (M.flatMap edC)
  gr : W.grownBy w none
  lo : W.heap.size ≤ B ∧ B < w.heap.size
section
variable {W w w1 : World} {q : Nat → Prop} {l : List Od} {p : Option Addr} {c B : Nat} {sub : Int} {v v' : Value} {M N : List Ed}
set_option maxRecDepth 100000 in
theorem EG.keep (h : EG W q l p c sub B v M w) (g : w.grownBy w1 none) : EG W q l p c sub B v M w1 :=
  ⟨kept_row h.cb g (by simp), h.rd.keep g, h.own.kept g (by cases v.ownBlock <;> simp), grown_trans h.gr g, h.lo.1, Nat.lt_of_lt_of_le h.lo.2 g.size⟩
set_option maxRecDepth 100000 in
theorem EG.app {o : Obj} (h : EG W q l p c sub B v M w) (hown : w1.ownsRow (B + 1) 39 2 v' N.length (N.flatMap edC)) (hg : (w.alloc o).grownBy w1 v.ownBlock) : EG W q l p c sub B v' N w1 := by
  have h1 := h.keep (World.grownBy_alloc w o none)
  have hne : ∀ b, b ≤ B → some b ≠ v.ownBlock := fun b hb e => by have := (h.own.lt b e.symm).1; omega
  exact ⟨kept_row h1.cb hg (hne B (Nat.le_refl _)), h1.rd.grown hg (fun b hb => hne b (by have := h.lo.1; omega)), hown, grown_any h1.gr hg (fun b hb => hne b (by have := h.lo.1; omega)), h.lo.1, Nat.lt_of_lt_of_le h1.lo.2 hg.size⟩
end
set_option maxRecDepth 100000 in
theorem e1_len (l m : List Od) (sub : Int) : (e1K l m sub).length ≤ m.length := by
  unfold e1K
  rw [List.length_map]
  exact List.length_filter_le _ _
/-- What edges returns: the edges by ID. -/
def EdgPost (l : List Od) (sub : Int) (w : World) (e : Ending) (w' : World) : Prop :=
  ∃ p c, e = .returned (.slice p (e2K l sub 257).length c) ∧ w'.ownsRow w.heap.size 39 2 (.slice p (e2K l sub 257).length c) (e2K l sub 257).length ((e2K l sub 257).flatMap edC) ∧ w.grownBy w' none
set_option maxRecDepth 100000 in
set_option maxHeartbeats 6400000 in
theorem iedges_any (l : List Od) (p : Option Addr) (c : Nat) (sub : Int) (q : Nat → Prop) (w : World) (hR : RdF w q (.slice p l.length c) l.length (l.flatMap odC)) (h0 : ckO l = 0) :
    Calls Tryd.prog 65 #[.slice p l.length c, .int .i64 sub] w fun e w' => EdgPost l sub w e w' := by
  have HZ := (zero_of_info info_cs).1
  obtain ⟨ie, hie, he0, he1, he2⟩ := info_parts info_ed
  have HR := Lib.hid hR.old
  have H0 := Lib.hid h0
  have hl := (ck_any h0).1
  clear hR h0
  go_enter Tryd.func65, Tryd.ntmps65
  go_wp2_with fail
  refine (icount_any l p c sub _ w HR.out (by omega) (fun x hx => ck_id H0.out hx)).mono ?_
  rintro e w1 ⟨rfl, hg⟩
  have G1 := Lib.hid hg
  clear hg
  obtain ⟨F, hF⟩ : ∃ F, arrV 257 (ivN fun k => cntO l sub k) = F := ⟨_, rfl⟩
  have hFs : F.size = 257 := by rw [← hF, arr_size]
  have hst := run_storeCells_new (P := Tryd.prog) w1 103 (arrV 257 (ivN fun _ => 0)) F (by rw [hFs]; exact (zero_of_info info_cs).2) (by rw [hFs, arr_size]) (by rw [← hF]; exact arr_one fun _ => rfl)
  have HST := Lib.hid hst
  have HFF := Lib.hid hF
  rw [hF]
  clear hst hF
  go_wp2_with fail
  rw [HST.out, Result.andThen_ok, Oper.upon_skip]
  have E0 : Hid (EG w q l p c sub w1.heap.size (.slice none 0 0) (e1K l (l.take 0) sub) (w1.alloc (.cells F 103))) := Lib.hid ⟨by rw [HFF.out]; exact heap_alloc_new _ _, (HR.out.keep G1.out).keep (World.grownBy_alloc w1 _ _), World.ownsRow_nil _ _ _ _, grown_trans G1.out (World.grownBy_alloc w1 _ _), G1.out.size, by simp⟩
  go_upto_region 2 with fail
  generalize w1.alloc _ = w2 at *
  generalize w1.heap.size = B at *
  clear G1 HST HFF hFs HZ
  go_wp2_with fail
  go_loopw [6, 14] (fun v a wr => ∃ k : Nat, k ≤ l.length ∧ a = .int .i64 (k : Int) ∧ (∃ pv nv cv, v = .slice pv nv cv) ∧ Hid (EG w q l p c sub B v (e1K l (l.take k) sub) wr)) (fun _ a _ => l.length - (RowKit.intOf a).toNat)
  case atStart => exact ⟨0, by omega, rfl, ⟨_, _, _, rfl⟩, E0⟩
  case round =>
    obtain ⟨w3, rfl⟩ : ∃ w3, w3 = wr := ⟨_, rfl⟩
    obtain ⟨k, hk, rfl, ⟨pv, nv, cv, rfl⟩, N⟩ := hrel
    clear E0
    by_cases hlt : k < l.length
    · obtain ⟨-, b, off, rfl, -, hc⟩ := od_cells N.out.rd (by omega)
      obtain ⟨x, hx⟩ : ∃ x, l[k]? = some x := ⟨_, List.getElem?_eq_getElem hlt⟩
      obtain ⟨a0, a1, a2, a3⟩ := hc k x hx
      obtain ⟨m, hm1⟩ : ∃ m : Nat, x.i = (m : Int) := ⟨x.i.toNat, by have := ck_id H0.out (List.mem_of_getElem? hx); omega⟩
      have hm2 : m < 257 := by have := ck_id H0.out (List.mem_of_getElem? hx); omega
      have HY : Hid (x.s = sub ∧ cntO l sub x.i = 1 → e1K l (l.take (k + 1)) sub = e1K l (l.take k) sub ++ [edOf x]) := Lib.hid (e1K_yes hx)
      have HN : Hid (¬ (x.s = sub ∧ cntO l sub x.i = 1) → e1K l (l.take (k + 1)) sub = e1K l (l.take k) sub) := Lib.hid (e1K_no hx)
      have hlen := e1_len l (l.take k) sub
      have hlen2 := List.length_take_le k l
      obtain ⟨M, hM⟩ : ∃ M, e1K l (l.take k) sub = M := ⟨_, rfl⟩
      rw [hM] at N HY HN hlen
      clear hM
      have HB := Lib.hid (heap_alloc_new w3 (.cells #[.int .i64 x.r, .int .i64 x.s, .int .i64 x.i, .int .i64 x.l] 79))
      have HG := Lib.hid (World.grownBy_alloc w3 (.cells #[.int .i64 x.r, .int .i64 x.s, .int .i64 x.i, .int .i64 x.l] 79) none)
      have HM1 := Lib.hid hm1
      clear hc hx hm1
      go_upto_region 6 with fail
      clear a0 a1 a2 a3
      generalize w3.alloc _ = w4 at *
      have N1 := Lib.hid (N.out.keep HG.out)
      rw [HM1.out] at HB HY HN
      obtain ⟨d0, d1, d2, d3⟩ := row4i HB.out
      obtain ⟨n, hn⟩ : ∃ n : Nat, cntO l sub m = n := ⟨_, rfl⟩
      have e1 : w4.cell? ⟨B, m, none⟩ = some (.int .i64 (n : Int)) := by rw [← hn]; exact arr_row N1.out.cb hm2
      rw [hn] at HY HN
      obtain rfl : nv = M.length := by
        obtain ⟨p', c', e, _⟩ := own_shape N.out.own
        injection e
      have HO := Lib.hid N1.out.own
      have hbs : B < w4.heap.size := N1.out.lo.2
      clear hn N HG
      by_cases h1 : x.s = sub
      · have h1' : (x.s == sub) = true := by simpa using h1
        by_cases h2 : n = 1
        · have h2' : ((n : Int) == 1) = true := by subst h2; rfl
          have HE : Hid (e1K l (l.take (k + 1)) sub = M ++ [edOf x]) := Lib.hid (HY.out ⟨h1, h2⟩)
          have hed : edOf x = ⟨x.r, (m : Int)⟩ := by unfold edOf; rw [HM1.out]
          rw [hed] at HE
          clear HY HN h1 h2 hed
          go_wp2_with (at_builtin; refine wpList_append_f edC 2 16 (by decide) (fun _ => rfl) ed_one 39 28 ie _ Tryd.underlying28 hie he0 he1 he2 rfl (by decide) rfl _ _ rfl (B + 1) _ M _ ?c0 rfl (HO.out.alloc _) (some ⟨w4.heap.size, 0, none⟩) 1 1 [⟨x.r, (m : Int)⟩] rfl rfl (by simp) (fun _ => True) (rdf_one _ trivial (fun j u hu => ed_row _ _ _ _ _ hu) 1) (by decide) (by simp; omega) (by simp; omega) ?_)
          try (case c0 => rfl)
          intro v' w5 hown' hg
          have N2 : Hid (EG w q l (some ⟨b, off, none⟩) c sub B v' (e1K l (l.take (k + 1)) sub) w5) := Lib.hid (by rw [HE.out]; exact N1.out.app (by simpa using hown') hg)
          obtain ⟨p1, c1, rfl, -, -⟩ := own_shape hown'
          clear hown' hg HO HE d0 d1 d2 d3 e1
          go_wp2_with fail
          exact ⟨⟨k + 1, by omega, congrArg _ (by omega), ⟨_, _, _, rfl⟩, N2⟩, by simp only [RowKit.intOf]; omega⟩
        · have h2' : ((n : Int) == 1) = false := by
            have : (n : Int) ≠ 1 := by omega
            simpa using this
          have N2 : Hid (EG w q l (some ⟨b, off, none⟩) c sub B _ (e1K l (l.take (k + 1)) sub) w4) := Lib.hid (by rw [HN.out (fun h => h2 h.2)]; exact N1.out)
          clear HY HN h1 h2
          go_wp2_with fail
          exact ⟨⟨k + 1, by omega, congrArg _ (by omega), ⟨_, _, _, rfl⟩, N2⟩, by simp only [RowKit.intOf]; omega⟩
      · have h1' : (x.s == sub) = false := by simpa using h1
        have N2 : Hid (EG w q l (some ⟨b, off, none⟩) c sub B _ (e1K l (l.take (k + 1)) sub) w4) := Lib.hid (by rw [HN.out (fun h => h1 h.1)]; exact N1.out)
        clear HY HN h1
        go_wp2_with fail
        exact ⟨⟨k + 1, by omega, congrArg _ (by omega), ⟨_, _, _, rfl⟩, N2⟩, by simp only [RowKit.intOf]; omega⟩
    · obtain rfl : k = l.length := by omega
      rw [List.take_length] at N
      have hlen := e1_len l l sub
      obtain rfl : nv = (e1K l l sub).length := by
        obtain ⟨p', c', e, _⟩ := own_shape N.out.own
        injection e
      go_wp2_with fail
      refine (isort_any (B + 1) (e1K l l sub) pv cv w3 N.out.own (by omega)).mono ?_
      rintro e w4 ⟨F, rfl, hp, hs, ho, hg⟩
      have hF := edges_eq H0.out sub hp hs
      have hFl : (e1K l l sub).length = F.length := hp.length_eq.symm
      subst hF
      have HF : Hid (EdgPost l sub w (.returned (.slice pv (e2K l sub 257).length cv)) w4) := Lib.hid ⟨_, _, rfl, own_low ho (by have := N.out.lo.1; omega), grown_any N.out.gr hg (fun b hb e => by have := (N.out.own.lt b e.symm).1; have := N.out.lo.1; omega)⟩
      rw [hFl]
      clear hp hs ho hg N hFl
      go_wp2_with fail
      go_ret
      exact HF.out
end Go.Proofs.YtlgmankojgjfjaaDoor

/- identify: Resolve. -/
namespace Go.Proofs.YtlgmankojgjfjaaDoor
open Go.RowKit Bs
set_option maxRecDepth 100000 in
theorem info_od : (Tryd.prog.info? 79).map (fun i => (i.zero, i.size, i.bytes)) = some (some (.agg #[.int .i64 0, .int .i64 0, .int .i64 0, .int .i64 0]), 4, 32) := by kernel_rfl
set_option maxRecDepth 100000 in
theorem info_bs : (Tryd.prog.info? 105).map (fun i => (i.zero, i.size)) = some (some (.agg (arrV 257 (bvN fun _ => false))), 257) := by kernel_rfl
set_option maxRecDepth 100000 in
set_option maxHeartbeats 1600000 in
theorem icln_any (C : List Od) (p : Option Addr) (c : Nat) (q : Nat → Prop) (w : World) (hR : RdF w q (.slice p C.length c) C.length (C.flatMap odC)) (hn : p = none → c = 0) (hc : C.length ≤ c ∧ c ≤ 9223372036854775807) (hm : C.length ≤ 1000) :
    Calls Tryd.prog 66 #[.slice p C.length c] w fun e w' => ∃ v, e = .returned v ∧ w'.ownsRow w.heap.size 79 4 v C.length (C.flatMap odC) ∧ w.grownBy w' none := by
  obtain ⟨ii, hii, hi0, hi1, hi2⟩ := info_parts info_od
  cases p with
  | none =>
    obtain rfl := hn rfl
    have h0 : C.length = 0 := by omega
    obtain rfl := List.eq_nil_of_length_eq_zero h0
    clear hR
    have heq : ∀ w : World, (binOp .eql 81 (.slice none 0 0) (.slice none 0 0)).run Tryd.prog w = .ok (.bool true) w := fun w => Lib.run_eql_slice_nil w _ _ none 0 0 0 0 Tryd.underlying81
    go_enter Tryd.func66, Tryd.ntmps66
    go_wp2_with fail
    go_ret
    exact ⟨_, rfl, World.ownsRow_nil _ _ _ _, grown_refl _ _⟩
  | some ad =>
    have k0 := World.grownBy_alloc w (.cells #[] 79) none
    have hlit : (w.alloc (.cells #[] 79)).ownsRow w.heap.size 79 4 (.slice (some ⟨w.heap.size, 0, none⟩) 0 0) 0 (([] : List Od).flatMap odC) := World.ownsRow_lit w #[] 0 (Nat.le_refl _) (by decide) rfl
    have HL := Lib.hid (And.intro hlit (And.intro k0 (hR.grown k0 (fun _ _ => by simp))))
    clear hlit k0 hR
    have heq : ∀ w : World, (binOp .eql 81 (.slice (some ad) C.length c) (.slice none 0 0)).run Tryd.prog w = .ok (.bool false) w := fun w => Lib.run_eql_slice_nil w _ _ (some ad) C.length c 0 0 Tryd.underlying81
    go_enter Tryd.func66, Tryd.ntmps66
    go_wp2_with (at_builtin; refine hold_on ?_)
    refine Lib.hid ?_
    refine wpList_append_f odC 4 32 (by decide) (fun _ => rfl) od_one 79 81 ii _ Tryd.underlying81 hii hi0 hi1 hi2 rfl (by decide) rfl _ _ rfl w.heap.size _ [] 0 rfl rfl HL.out.1 _ _ _ C rfl rfl (fun h => by cases h) q HL.out.2.2 hc.1 (by omega) (by simp) ?_
    intro v' w1 hown hg
    rw [List.nil_append] at hown
    have HO := Lib.hid (And.intro hown (old_grow HL.out.2.1 HL.out.1 (Nat.le_refl _) hg))
    clear hown hg
    go_wp2_with fail
    go_ret
    exact ⟨v', rfl, HO.out.1, HO.out.2⟩
set_option maxRecDepth 100000 in
/-- One cell of a row of the call's own is written. -/
theorem own_odset {w : World} {base g n cap k : Nat} {M : List Od} {x : Od} (h : w.ownsRow base 79 4 (.slice (some ⟨g, 0, none⟩) n cap) M.length (M.flatMap odC)) (hx : M[k]? = some x) (v : Int) :
    (w.setCell ⟨g, k * 4 + 2, none⟩ (.int .i64 v)).ownsRow base 79 4 (.slice (some ⟨g, 0, none⟩) n cap) (M.set k { x with i := v }).length ((M.set k { x with i := v }).flatMap odC) := by
  have hk := (List.getElem?_eq_some_iff.1 hx).1
  rcases h.2 with ⟨e, _⟩ | ⟨g', cap', cur, e, hb, hg, r1, r2, r3, r4⟩
  · cases e
  · injection e with e1 e2 e3
    injection e1 with e1
    injection e1 with e1
    subst e1
    subst e2
    subst e3
    rw [List.length_set]
    refine ⟨by rw [flat_len odC 4 (fun _ => rfl), List.length_set], .inr ⟨g, cap, _, rfl, hb, heap_setCell_same w g _ _ _ _ hg, r1, r2, by simp [r3], ?_⟩⟩
    rw [← od_set M k v x hx, ← r4]
    simp only [Array.toList_setIfInBounds]
    rw [List.take_set]
/-- While conflicts are settled: the list, the counts in B1, what is kept in B2. -/
structure RV (W : World) (l : List Od) (p : Option Addr) (c : Nat) (B1 B2 : Nat) (v : Value) (M : List Od) (f : Nat → Nat) (kf : Nat → Bool) (w : World) : Prop where
  own : w.ownsRow W.heap.size 79 4 v M.length (M.flatMap odC)
  ob : ∀ g, v.ownBlock = some g → g < B1
  cb : w.heap[B1]? = some (.cells (arrV 257 (ivN f)) 103 (0, 0))
  kb : w.heap[B2]? = some (.cells (arrV 257 (bvN kf)) 105 (0, 0))
  rd : RdF w (· < W.heap.size) (.slice p l.length c) l.length (l.flatMap odC)
  gr : W.grownBy w none
  lo : W.heap.size ≤ B1 ∧ B1 < B2
section
variable {W w w1 : World} {l : List Od} {p : Option Addr} {c B1 B2 : Nat} {v : Value} {M : List Od} {f : Nat → Nat} {kf : Nat → Bool}
set_option maxRecDepth 100000 in
theorem RV.keep (h : RV W l p c B1 B2 v M f kf w) (g : w.grownBy w1 none) : RV W l p c B1 B2 v M f kf w1 :=
  ⟨h.own.kept g (by cases v.ownBlock <;> simp), h.ob, kept_row h.cb g (by simp), kept_row h.kb g (by simp), h.rd.keep g, grown_trans h.gr g, h.lo⟩
set_option maxRecDepth 100000 in
theorem RV.putK (h : RV W l p c B1 B2 v M f kf w) {m : Nat} (hm : m < 257) : RV W l p c B1 B2 v M f (fun j => if j = m then true else kf j) (w.setCell ⟨B2, m, none⟩ (.bool true)) := by
  obtain ⟨h1, h2⟩ := arr_put (.bool true) h.kb hm
  have hlo := h.lo
  refine ⟨h.own.kept h2 ?_, h.ob, kept_row h.cb h2 (fun e => by have := Option.some.inj e; omega), ?_, h.rd.grown h2 (fun b hb e => by have := Option.some.inj e; omega), grown_new h.gr h2 (by omega), hlo⟩
  · cases hv : v.ownBlock with
    | none => exact .inl rfl
    | some x => exact .inr fun e => by have := h.ob x hv; have := Option.some.inj e; omega
  · rw [h1]
    congr 2
    refine arr_congr fun j _ => ?_
    unfold bvN
    show (if j = m then _ else _) = Value.bool (if j = m then true else kf j)
    split <;> rfl
set_option maxRecDepth 100000 in
theorem RV.putC (h : RV W l p c B1 B2 v M f kf w) {m : Nat} (hm : m < 257) (n : Nat) : RV W l p c B1 B2 v M (fun j => if j = m then n else f j) kf (w.setCell ⟨B1, m, none⟩ (.int .i64 (n : Int))) := by
  obtain ⟨h1, h2⟩ := arr_put (.int .i64 (n : Int)) h.cb hm
  have hlo := h.lo
  refine ⟨h.own.kept h2 ?_, h.ob, ?_, kept_row h.kb h2 (fun e => by have := Option.some.inj e; omega), h.rd.grown h2 (fun b hb e => by have := Option.some.inj e; omega), grown_new h.gr h2 (by omega), hlo⟩
  · cases hv : v.ownBlock with
    | none => exact .inl rfl
    | some x => exact .inr fun e => by have := h.ob x hv; have := Option.some.inj e; omega
  · rw [h1]
    congr 2
    refine arr_congr fun j _ => ?_
    unfold ivN
    show (if j = m then _ else _) = Value.int .i64 (((if j = m then n else f j : Nat)) : Int)
    split <;> rfl
set_option maxRecDepth 100000 in
theorem RV.putL {g n cap k : Nat} {x : Od} (h : RV W l p c B1 B2 (.slice (some ⟨g, 0, none⟩) n cap) M f kf w) (hx : M[k]? = some x) (i : Int) : RV W l p c B1 B2 (.slice (some ⟨g, 0, none⟩) n cap) (M.set k { x with i := i }) f kf (w.setCell ⟨g, k * 4 + 2, none⟩ (.int .i64 i)) := by
  have h2 := grown_setCell w ⟨g, k * 4 + 2, none⟩ (.int .i64 i)
  have hg := h.ob g rfl
  have hlo := h.lo
  have hge := (h.own.lt g rfl).1
  exact ⟨own_odset h.own hx i, h.ob, kept_row h.cb h2 (fun e => by have : B1 = g := Option.some.inj e; omega), kept_row h.kb h2 (fun e => by have : B2 = g := Option.some.inj e; omega), h.rd.grown h2 (fun b hb e => by have : b = g := Option.some.inj e; omega), grown_new h.gr h2 hge, hlo⟩
end
/-- What Resolve returns. -/
def ResPost (l : List Od) (sub : Int) (w : World) (e : Ending) (w' : World) : Prop :=
  ∃ p c, e = .returned (.tuple #[.slice p (rsO l sub).length c, .int .i64 (rsX l sub)]) ∧ w'.ownsRow w.heap.size 79 4 (.slice p (rsO l sub).length c) (rsO l sub).length ((rsO l sub).flatMap odC) ∧ w.grownBy w' none
set_option maxRecDepth 100000 in
theorem res_no {l : List Od} {sub x : Int} (h : rsX l sub = x) (h2 : rsO l sub = []) {w w' : World} (g : w.grownBy w' none) : ResPost l sub w (.returned (.tuple #[.slice none 0 0, .int .i64 x])) w' := by
  refine ⟨none, 0, by rw [h, h2]; rfl, ?_, g⟩
  rw [h2]
  exact World.ownsRow_nil _ _ _ _
end Go.Proofs.YtlgmankojgjfjaaDoor

/- identify: Resolve, its walk. -/
namespace Go.Proofs.YtlgmankojgjfjaaDoor
open Go.RowKit Bs
set_option maxRecDepth 100000 in
theorem mid_at {l out : List Od} {k : Nat} {x : Od} (hl : out.length = k) (hx : l[k]? = some x) : (out ++ l.drop k)[k]? = some x := by
  rw [List.getElem?_append_right (by omega), List.getElem?_drop, hl]
  simpa using hx
set_option maxRecDepth 100000 in
theorem mid_keep {l out : List Od} {k : Nat} {x : Od} (hx : l[k]? = some x) : out ++ l.drop k = (out ++ [x]) ++ l.drop (k + 1) := by
  have hk := (List.getElem?_eq_some_iff.1 hx).1
  have h2 := (List.getElem?_eq_some_iff.1 hx).2
  rw [List.drop_eq_getElem_cons hk, h2, List.append_assoc]; rfl
set_option maxRecDepth 100000 in
theorem mid_set {l out : List Od} {k : Nat} {x y : Od} (hl : out.length = k) (hx : l[k]? = some x) : (out ++ l.drop k).set k y = (out ++ [y]) ++ l.drop (k + 1) := by
  have hk := (List.getElem?_eq_some_iff.1 hx).1
  rw [List.set_append_right _ _ (by omega), hl, Nat.sub_self, List.drop_eq_getElem_cons hk, List.set_cons_zero, List.append_assoc]; rfl
set_option maxRecDepth 100000 in
set_option maxHeartbeats 12800000 in
theorem ires_any (l : List Od) (p : Option Addr) (c : Nat) (sub : Int) (q : Nat → Prop) (w : World) (hR : RdF w q (.slice p l.length c) l.length (l.flatMap odC)) (hnil : p = none → c = 0) (hc : l.length ≤ c ∧ c ≤ 9223372036854775807) :
    Calls Tryd.prog 43 #[.slice p l.length c, .int .i64 sub] w fun e w' => ResPost l sub w e w' := by
  have HZ := (zero_of_info info_cs).1
  have HZ2 := (zero_of_info info_bs).1
  have HR := Lib.hid hR.old
  clear hR
  go_enter Tryd.func43, Tryd.ntmps43
  go_wp2_with fail
  refine (icheck_any l p c _ w HR.out (by omega)).mono ?_
  rintro e w1 ⟨rfl, hg⟩
  have G1 := Lib.hid hg
  clear hg
  by_cases h0 : ckO l = 0
  case neg =>
    have h0' : (ckO l != 0) = true := by simpa using h0
    have HX : Hid (rsX l sub = ckO l ∧ rsO l sub = []) := Lib.hid ⟨by unfold rsX; rw [if_pos h0], by unfold rsO; rw [if_pos h0]⟩
    clear h0
    go_wp2_with fail
    go_ret2
    exact res_no HX.out.1 HX.out.2 G1.out
  have H0 := Lib.hid h0
  have hl := (ck_any h0).1
  rw [h0]
  clear h0
  go_wp2_with fail
  refine (icln_any l p c _ w1 (HR.out.keep G1.out) hnil hc (by omega)).mono ?_
  rintro e w2 ⟨v, rfl, ho, hg⟩
  obtain ⟨pl, cl, rfl, -, -⟩ := own_shape ho
  have H2 := Lib.hid (And.intro (own_low ho G1.out.size) (And.intro (grown_trans G1.out hg) (fun g (hgb : (Value.slice pl l.length cl).ownBlock = some g) => (ho.lt g hgb).2)))
  clear ho hg G1
  go_wp2_with fail
  refine (icount_any l p c sub _ w2 (HR.out.keep H2.out.2.1) (by omega) (fun x hx => ck_id H0.out hx)).mono ?_
  rintro e w3 ⟨rfl, hg⟩
  have H3 := Lib.hid (And.intro (H2.out.1.kept hg (by cases (Value.slice pl l.length cl).ownBlock <;> simp)) (And.intro (grown_trans H2.out.2.1 hg) (fun g (hgb : (Value.slice pl l.length cl).ownBlock = some g) => Nat.lt_of_lt_of_le (H2.out.2.2 g hgb) hg.size)))
  clear hg H2
  obtain ⟨F, hF⟩ : ∃ F, arrV 257 (ivN fun k => cntO l sub k) = F := ⟨_, rfl⟩
  have hFs : F.size = 257 := by rw [← hF, arr_size]
  have hst := run_storeCells_new (P := Tryd.prog) w3 103 (arrV 257 (ivN fun _ => 0)) F (by rw [hFs]; exact (zero_of_info info_cs).2) (by rw [hFs, arr_size]) (by rw [← hF]; exact arr_one fun _ => rfl)
  have HST := Lib.hid hst
  have HFF := Lib.hid hF
  rw [hF]
  clear hst hF
  go_wp2_with fail
  rw [HST.out, Result.andThen_ok, Oper.upon_skip]
  obtain ⟨n1, n2⟩ := tone_box w3 F 103
  obtain ⟨m1, m2⟩ := tone_box (w3.alloc (.cells F 103)) (arrV 257 (bvN fun _ => false)) 105
  have hsz : (w3.alloc (.cells F 103)).heap.size = w3.heap.size + 1 := by simp
  have E0 : Hid (RV w l p c w3.heap.size (w3.alloc (.cells F 103)).heap.size (.slice pl l.length cl) ([] ++ l.drop 0) (cgv l sub []) (fun j => decide (0 < cntO (l.take 0) sub (j : Int))) _) := Lib.hid ⟨by
      rw [List.nil_append, List.drop_zero]
      exact (H3.out.1.kept n2 (by cases (Value.slice pl l.length cl).ownBlock <;> simp)).kept m2 (by cases (Value.slice pl l.length cl).ownBlock <;> simp), H3.out.2.2, kept_row (by rw [n1]; congr 2; rw [← HFF.out]; exact arr_congr fun j _ => by unfold ivN cgv; simp) m2 (by simp), by rw [m1]; congr 2, ((HR.out.keep H3.out.2.1).keep n2).keep m2, grown_trans (grown_trans H3.out.2.1 n2) m2, ⟨H3.out.2.1.size, by omega⟩⟩
  rw [hsz] at E0
  clear n1 n2 m1 m2 hsz HST HFF hFs H3 HZ
  go_upto_region 6 with fail
  generalize (w3.alloc _).alloc _ = w4 at *
  generalize w3.heap.size = B1 at *
  generalize hB2 : B1 + 1 = B2 at *
  clear HZ2 hB2
  have R0 : Hid (rsv l sub 0 = some ([], [])) := Lib.hid rfl
  go_wp2_with fail
  go_loopw [26] (fun a wr => ∃ (k : Nat) (out : List Od) (giv : List Nat), k ≤ l.length ∧ a = .int .i64 (k : Int) ∧ Hid (rsv l sub k = some (out, giv)) ∧ Hid (RV w l p c B1 B2 (.slice pl l.length cl) (out ++ l.drop k) (cgv l sub giv) (fun j => decide (0 < cntO (l.take k) sub (j : Int))) wr)) (fun a _ => l.length - (RowKit.intOf a).toNat)
  case atStart => exact ⟨0, [], [], by omega, rfl, R0, E0⟩
  case round =>
    obtain ⟨w5, rfl⟩ : ∃ w5, w5 = wr := ⟨_, rfl⟩
    obtain ⟨k, out, giv, hk, rfl, HRS, N⟩ := hrel
    clear E0 R0
    by_cases hlt : k < l.length
    · obtain ⟨-, b, off, rfl, -, hcc⟩ := od_cells N.out.rd (by omega)
      obtain ⟨x, hx⟩ : ∃ x, l[k]? = some x := ⟨_, List.getElem?_eq_getElem hlt⟩
      obtain ⟨a0, a1, a2, a3⟩ := hcc k x hx
      obtain ⟨m, hm1⟩ : ∃ m : Nat, x.i = (m : Int) := ⟨x.i.toNat, by have := ck_id H0.out (List.mem_of_getElem? hx); omega⟩
      have hm2 : m < 257 := by have := ck_id H0.out (List.mem_of_getElem? hx); omega
      have hol := (rsv_len hk HRS.out).1
      have hgl := (rsv_len hk HRS.out).2
      have HX := Lib.hid (And.intro hx (And.intro hol hgl))
      have HB := Lib.hid (heap_alloc_new w5 (.cells #[.int .i64 x.r, .int .i64 x.s, .int .i64 x.i, .int .i64 x.l] 79))
      have HG := Lib.hid (World.grownBy_alloc w5 (.cells #[.int .i64 x.r, .int .i64 x.s, .int .i64 x.i, .int .i64 x.l] 79) none)
      have HM1 := Lib.hid hm1
      clear hcc hx hm1 hol hgl
      go_upto_region 9 with fail
      clear a0 a1 a2 a3
      generalize w5.alloc _ = w6 at *
      have N1 := Lib.hid (N.out.keep HG.out)
      rw [HM1.out] at HB
      obtain ⟨d0, d1, d2, d3⟩ := row4i HB.out
      obtain ⟨kb, hkb⟩ : ∃ b : Bool, decide (0 < cntO (l.take k) sub (m : Int)) = b := ⟨_, rfl⟩
      have e1 : w6.cell? ⟨B2, m, none⟩ = some (.bool kb) := by rw [← hkb]; exact arr_row N1.out.kb hm2
      have f1 := frozen_of_row _ _ m _ _ N1.out.kb
      have HKB := Lib.hid hkb
      clear hkb N HG
      by_cases h1 : x.s = sub
      · have h1' : (x.s != sub) = false := by simpa using h1
        have H1 := Lib.hid h1
        clear h1
        cases kb with
        | false =>
          have N2 := N1.out.putK hm2
          have NK : Hid (rsv l sub (k + 1) = some (out ++ [x], giv)) := Lib.hid (rsv_keep HRS.out HX.out.1 (by
            unfold erl
            rw [decide_eq_false_iff_not]
            rintro ⟨-, h⟩
            rw [HM1.out] at h
            exact of_decide_eq_false HKB.out h))
          have HKF : (fun j : Nat => if j = m then true else decide (0 < cntO (l.take k) sub (j : Int))) = fun j : Nat => decide (0 < cntO (l.take (k + 1)) sub (j : Int)) := by
            funext j
            rw [cnt_take HX.out.1]
            by_cases hj : j = m
            · subst hj
              rw [if_pos rfl, if_pos ⟨H1.out, HM1.out⟩]
              exact (decide_eq_true (by omega)).symm
            · rw [if_neg hj, if_neg (fun e => hj (by have := e.2; have := HM1.out; omega))]; rfl
          rw [HKF, mid_keep HX.out.1] at N2
          have N3 := Lib.hid N2
          clear N2 HKF N1
          go_wp2_with fail
          exact ⟨⟨k + 1, _, _, by omega, congrArg _ (by omega), NK, N3⟩, by simp only [RowKit.intOf]; omega⟩
        | true =>
          have HEL : Hid (erl l sub k x = true) := Lib.hid (decide_eq_true ⟨H1.out, by rw [HM1.out]; exact of_decide_eq_true HKB.out⟩)
          have hsz1 : (Tryd.prog.info? 103).map (·.size) = some 257 := (zero_of_info info_cs).2
          have hus := Tryd.underlying103
          have HSZ := Lib.hid hsz1
          have HU := Lib.hid hus
          clear hsz1 hus
          go_wp2_with fail
          refine wp_load_row 103 (.tmp 8) rfl B1 rfl _ (arrV 257 (ivN (cgv l sub giv))) _ _ N1.out.cb HU.out rfl (by rw [arr_size]; exact HSZ.out) ?_
          go_wp2_with fail
          refine (ifree_any (cgv l sub giv) w6).mono ?_
          rintro e w7 ⟨n, ok, rfl, hf, hg⟩
          have N2 := Lib.hid (N1.out.keep hg)
          rcases frL_is hf with ⟨rfl, i, rfl, hi1, hi2, hi0, hfr⟩ | ⟨rfl, hfr⟩
          · have NK : Hid (rsv l sub (k + 1) = some (out ++ [{ x with i := (i : Int) }], giv ++ [i])) := Lib.hid (rsv_new HRS.out HX.out.1 HEL.out hfr)
            have HCT : Hid (cntO (l.take (k + 1)) sub = fun j => cntO (l.take k) sub j + if x.s = sub ∧ x.i = j then 1 else 0) := Lib.hid (by funext j; exact cnt_take HX.out.1 sub j)
            have HKF : Hid ((fun j : Nat => decide (0 < cntO (l.take k) sub (j : Int))) = fun j : Nat => decide (0 < cntO (l.take (k + 1)) sub (j : Int))) := Lib.hid (by
              funext j
              rw [congrFun HCT.out (j : Int)]
              by_cases hj : x.s = sub ∧ x.i = (j : Int)
              · have hjm : (j : Int) = (m : Int) := hj.2.symm.trans HM1.out
                rw [if_pos hj, hjm]
                have := of_decide_eq_true HKB.out
                rw [decide_eq_true this]
                exact (decide_eq_true (by omega)).symm
              · rw [if_neg hj]; rfl)
            have hat := mid_at (l := l) HX.out.2.1 HX.out.1
            have hgb : ∃ g, pl = some ⟨g, 0, none⟩ := by
              rcases N2.out.own.2 with ⟨e, _⟩ | ⟨g, cap, cur, e, _⟩
              · have h5 := congrArg Value.ownBlock e
                injection e with e1 e2 e3
                omega
              · injection e with e1 e2 e3
                exact ⟨g, e1⟩
            obtain ⟨g, rfl⟩ := hgb
            have N3 := N2.out.putL hat (i : Int)
            rw [mid_set HX.out.2.1 HX.out.1] at N3
            have hrow : ∃ cur : Array Value, w7.heap[g]? = some (.cells cur 79 (0, 0)) ∧ k * 4 + 2 < cur.size := by
              rcases N2.out.own.2 with ⟨e, _⟩ | ⟨g', cap, cur, e, _, h1, h2, _, h3, _⟩
              · cases e
              · injection e with e1 e2 e3
                injection e1 with e1
                injection e1 with e1
                subst e1
                refine ⟨cur, h1, ?_⟩
                have : (out ++ l.drop k).length = l.length := by rw [List.length_append, List.length_drop, HX.out.2.1]; omega
                omega
            obtain ⟨cur, hc1, hc2⟩ := hrow
            have g2 := frozen_of_row _ _ (k * 4 + 2) _ _ hc1
            have g1 : w7.cell? ⟨g, k * 4 + 2, none⟩ = some (cur[k * 4 + 2]) := by rw [cell_of_row _ _ _ _ _ _ hc1]; exact Array.getElem?_eq_getElem hc2
            obtain ⟨u9, hu9⟩ : ∃ u9, cur[k * 4 + 2] = u9 := ⟨_, rfl⟩
            rw [hu9] at g1
            have hi3 : i < 257 := by omega
            have b1 : (w7.setCell ⟨g, k * 4 + 2, none⟩ (.int .i64 (i : Int))).cell? ⟨B1, i, none⟩ = some (.int .i64 ((cgv l sub giv i : Nat) : Int)) := arr_row N3.cb hi3
            have b2 := frozen_of_row _ _ i _ _ N3.cb
            rw [hi0] at b1
            have N4 := N3.putC hi3 (cgv l sub giv i + 1)
            rw [← cgv_snoc, HKF.out, hi0] at N4
            have N5 := Lib.hid N4
            have hkl : (k : Int) < (l.length : Int) := by omega
            clear N4 N3 N2 N1 hat hc1 hc2 hu9 hf hg hfr HKF HCT hi0 HEL
            go_wp2_with fail
            exact ⟨⟨k + 1, _, _, by omega, congrArg _ (by omega), NK, N5⟩, by simp only [RowKit.intOf]; omega⟩
          · have HX2 : Hid (rsX l sub = 9 ∧ rsO l sub = []) := Lib.hid (by
              have h9 := rsv_none_le (rsv_none HRS.out HX.out.1 HEL.out hfr) (show k + 1 ≤ l.length by omega)
              unfold rsX rsO
              rw [if_neg (show ¬ ckO l ≠ 0 from fun h => h H0.out), if_neg (show ¬ ckO l ≠ 0 from fun h => h H0.out), h9]
              exact ⟨rfl, rfl⟩)
            clear hf hg hfr N1
            go_wp2_with fail
            go_ret2
            exact res_no HX2.out.1 HX2.out.2 N2.out.gr
      · have h1' : (x.s != sub) = true := by simpa using h1
        have NK : Hid (rsv l sub (k + 1) = some (out ++ [x], giv)) := Lib.hid (rsv_keep HRS.out HX.out.1 (decide_eq_false (fun h => h1 h.1)))
        have N2 := N1.out
        have HKF : (fun j : Nat => decide (0 < cntO (l.take k) sub (j : Int))) = fun j : Nat => decide (0 < cntO (l.take (k + 1)) sub (j : Int)) := by
          funext j
          rw [cnt_take HX.out.1, if_neg (fun e => h1 e.1)]; rfl
        rw [HKF, mid_keep HX.out.1] at N2
        have N3 := Lib.hid N2
        clear N2 HKF N1 h1
        go_wp2_with fail
        exact ⟨⟨k + 1, _, _, by omega, congrArg _ (by omega), NK, N3⟩, by simp only [RowKit.intOf]; omega⟩
    · obtain rfl : k = l.length := by omega
      have hol := (rsv_len hk HRS.out).1
      have hP : ResPost l sub w (.returned (.tuple #[.slice pl l.length cl, .int .i64 0])) w5 := by
        have h1 : rsX l sub = 0 := by unfold rsX; rw [if_neg (fun h => h H0.out), HRS.out]; rfl
        have h2 : rsO l sub = out := by unfold rsO; rw [if_neg (fun h => h H0.out), HRS.out]; rfl
        have h3 := N.out.own
        rw [List.drop_length, List.append_nil] at h3
        refine ⟨pl, cl, by rw [h1, h2, hol], ?_, N.out.gr⟩
        rw [h2]
        rw [hol] at h3 ⊢
        exact h3
      have HP := Lib.hid hP
      clear hP N
      go_wp2_with fail
      go_ret2
      exact HP.out
end Go.Proofs.YtlgmankojgjfjaaDoor

/- identify: routerTwice. -/
namespace Go.Proofs.YtlgmankojgjfjaaDoor
open Go.RowKit Bs
set_option maxRecDepth 100000 in
theorem info_bs1 : (Tryd.prog.info? 108).map (fun i => (i.zero, i.size)) = some (some (.agg (arrV 100 (bvN fun _ => false))), 100) := by kernel_rfl
set_option maxRecDepth 100000 in
theorem rep_yes {L : List Int} {k : Nat} {x : Int} (hx : L[k]? = some x) (h : x ∈ L.take k) : repI L = true := by
  have hk : k < L.length := (List.getElem?_eq_some_iff.1 hx).1
  unfold repI
  refine List.any_eq_true.2 ⟨k, List.mem_range.2 hk, ?_⟩
  rw [List.getD_eq_getElem?_getD, hx]
  simpa using h
set_option maxRecDepth 100000 in
theorem rep_no {L : List Int} (h : ∀ k x, L[k]? = some x → x ∉ L.take k) : repI L = false := by
  unfold repI
  rw [List.any_eq_false]
  intro k hk
  have hk := List.mem_range.1 hk
  rw [List.getD_eq_getElem?_getD, List.getElem?_eq_getElem hk]
  simpa using h k _ (List.getElem?_eq_getElem hk)
set_option maxRecDepth 100000 in
theorem wre_r {x : Ed} (h : wrE x = false) : 1 ≤ x.r ∧ x.r ≤ 99 := by
  unfold wrE inV at h
  simp only [Bool.not_eq_false', Bool.and_eq_true, decide_eq_true_eq] at h
  exact h.1
/-- While routers are marked in the block B. -/
structure RT (W : World) (E : List Ed) (p : Option Addr) (c B : Nat) (kf : Nat → Bool) (w : World) : Prop where
  kb : w.heap[B]? = some (.cells (arrV 100 (bvN kf)) 108 (0, 0))
  rd : RdF w (· < W.heap.size) (.slice p E.length c) E.length (E.flatMap edC)
  gr : W.grownBy w none
  lo : W.heap.size ≤ B
section
variable {W w w1 : World} {E : List Ed} {p : Option Addr} {c B : Nat} {kf : Nat → Bool}
set_option maxRecDepth 100000 in
theorem RT.keep (h : RT W E p c B kf w) (g : w.grownBy w1 none) : RT W E p c B kf w1 := ⟨kept_row h.kb g (by simp), h.rd.keep g, grown_trans h.gr g, h.lo⟩
set_option maxRecDepth 100000 in
theorem RT.put (h : RT W E p c B kf w) {m : Nat} (hm : m < 100) : RT W E p c B (fun j => if j = m then true else kf j) (w.setCell ⟨B, m, none⟩ (.bool true)) := by
  obtain ⟨h1, h2⟩ := arr_put (.bool true) h.kb hm
  have hlo := h.lo
  refine ⟨?_, h.rd.grown h2 (fun b hb e => by have := Option.some.inj e; omega), grown_new h.gr h2 (by omega), hlo⟩
  rw [h1]
  congr 2
  refine arr_congr fun j _ => ?_
  unfold bvN
  show (if j = m then _ else _) = Value.bool (if j = m then true else kf j)
  split <;> rfl
end
/-- The routers of edges. -/
def rsE (E : List Ed) : List Int := E.map Ed.r
set_option maxRecDepth 100000 in
theorem rsE_at {E : List Ed} {k : Nat} {x : Ed} (h : E[k]? = some x) : (rsE E)[k]? = some x.r := by unfold rsE; rw [List.getElem?_map, h]; rfl
set_option maxRecDepth 100000 in
set_option maxHeartbeats 6400000 in
theorem irtw_any (E : List Ed) (p : Option Addr) (c : Nat) (q : Nat → Prop) (w : World) (hR : RdF w q (.slice p E.length c) E.length (E.flatMap edC)) (hv : E.any wrE = false) (hm : E.length ≤ 9223372036854775807) :
    Calls Tryd.prog 50 #[.slice p E.length c] w fun e w' => e = .returned (.bool (repI (rsE E))) ∧ w.grownBy w' none := by
  have HZ2 := (zero_of_info info_bs1).1
  obtain ⟨n1, n2⟩ := tone_box w (arrV 100 (bvN fun _ => false)) 108
  have E0 : Hid (RT w E p c w.heap.size (fun j => decide ((j : Int) ∈ (rsE E).take 0)) _) := Lib.hid ⟨by rw [n1]; congr 2, hR.old.keep n2, n2, Nat.le_refl _⟩
  have HV := Lib.hid (fun x hx => wre_r (any_mem hv (x := x) hx))
  clear n1 n2 hR hv
  go_enter Tryd.func50, Tryd.ntmps50
  go_upto_region 2 with fail
  generalize w.alloc _ = w1 at *
  obtain ⟨B, hB⟩ : ∃ B, w.heap.size = B := ⟨_, rfl⟩
  rw [hB] at E0 ⊢
  clear hB HZ2
  have HN0 : Hid (∀ j x, j < 0 → (rsE E)[j]? = some x → x ∉ (rsE E).take j) := Lib.hid (fun j x h => by omega)
  go_wp2_with fail
  go_loopw [8] (fun a wr => ∃ k : Nat, k ≤ E.length ∧ a = .int .i64 (k : Int) ∧ Hid (∀ j x, j < k → (rsE E)[j]? = some x → x ∉ (rsE E).take j) ∧ Hid (RT w E p c B (fun j => decide ((j : Int) ∈ (rsE E).take k)) wr)) (fun a _ => E.length - (RowKit.intOf a).toNat)
  case atStart => exact ⟨0, by omega, rfl, HN0, E0⟩
  case round =>
    obtain ⟨w5, rfl⟩ : ∃ w5, w5 = wr := ⟨_, rfl⟩
    obtain ⟨k, hk, rfl, HN, N⟩ := hrel
    clear E0 HN0
    by_cases hlt : k < E.length
    · have hlt' : (k : Int) < (E.length : Int) := by omega
      obtain ⟨-, b, off, rfl, -, hcc⟩ := ed_cells N.out.rd (by omega)
      obtain ⟨x, hx⟩ : ∃ x, E[k]? = some x := ⟨_, List.getElem?_eq_getElem hlt⟩
      obtain ⟨a0, a1⟩ := hcc k x hx
      have hxr := HV.out x (List.mem_of_getElem? hx)
      obtain ⟨m, hm1⟩ : ∃ m : Nat, x.r = (m : Int) := ⟨x.r.toNat, by omega⟩
      have hm2 : m < 100 := by omega
      have HX := Lib.hid (rsE_at hx)
      have HB := Lib.hid (heap_alloc_new w5 (.cells #[.int .i64 x.r, .int .i64 x.i] 39))
      have HG := Lib.hid (World.grownBy_alloc w5 (.cells #[.int .i64 x.r, .int .i64 x.i] 39) none)
      have HM1 := Lib.hid hm1
      clear hcc hx hm1 hxr
      go_upto_region 5 with fail
      clear a0 a1
      generalize w5.alloc _ = w6 at *
      have N1 := Lib.hid (N.out.keep HG.out)
      rw [HM1.out] at HB HX
      obtain ⟨d0, d1⟩ := row_cells HB.out
      obtain ⟨kb, hkb⟩ : ∃ b : Bool, decide ((m : Int) ∈ (rsE E).take k) = b := ⟨_, rfl⟩
      have e1 : w6.cell? ⟨B, m, none⟩ = some (.bool kb) := by rw [← hkb]; exact arr_row N1.out.kb hm2
      have f1 := frozen_of_row _ _ m _ _ N1.out.kb
      have HKB := Lib.hid hkb
      clear hkb N HG
      cases kb with
      | true =>
        have HT := Lib.hid (rep_yes HX.out (of_decide_eq_true HKB.out))
        go_wp2_with fail
        go_ret
        rw [HT.out]
        exact ⟨rfl, N1.out.gr⟩
      | false =>
        have N2 := N1.out.put hm2
        have HKF : (fun j : Nat => if j = m then true else decide ((j : Int) ∈ (rsE E).take k)) = fun j : Nat => decide ((j : Int) ∈ (rsE E).take (k + 1)) := by
          funext j
          rw [List.take_add_one, HX.out]
          by_cases hj : j = m
          · subst hj
            rw [if_pos rfl]
            exact (decide_eq_true (by simp)).symm
          · rw [if_neg hj]
            congr 1
            simp only [Option.toList, List.mem_append, List.mem_singleton, eq_iff_iff]
            constructor
            · exact fun h => Or.inl h
            · rintro (h | h)
              · exact h
              · exact absurd (by omega) hj
        rw [HKF] at N2
        have N3 := Lib.hid N2
        have HN2 : Hid (∀ j x, j < k + 1 → (rsE E)[j]? = some x → x ∉ (rsE E).take j) := Lib.hid (fun j y hj hy => by
          by_cases hjk : j < k
          · exact HN.out j y hjk hy
          · obtain rfl : j = k := by omega
            rw [HX.out] at hy
            obtain rfl := Option.some.inj hy
            exact of_decide_eq_false HKB.out)
        clear N2 HKF N1
        go_wp2_with fail
        exact ⟨⟨k + 1, by omega, congrArg _ (by omega), HN2, N3⟩, by simp only [RowKit.intOf]; omega⟩
    · obtain rfl : k = E.length := by omega
      have hnl : ¬ (E.length : Int) < (E.length : Int) := by omega
      have HT := Lib.hid (rep_no (L := rsE E) (fun j x hx => HN.out j x (by
        have := (List.getElem?_eq_some_iff.1 hx).1
        unfold rsE at this
        rw [List.length_map] at this
        exact this) hx))
      go_wp2_with fail
      go_ret
      rw [HT.out]
      exact ⟨rfl, N.out.gr⟩
end Go.Proofs.YtlgmankojgjfjaaDoor
