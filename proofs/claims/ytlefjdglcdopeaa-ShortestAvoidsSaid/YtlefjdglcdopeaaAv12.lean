/- Parts of the proof, packed: ShSrt, ShCnt, ShPts, ShSrn, ShPtw, ShExm, ToCompW, ToConn, ToBri, ToCuts. -/
import Derived.Test.YtlefjdglcdopeaaAv11
import Derived.Shelf.SlIterI.Nil
import Derived.Shelf.SlSortCmp.Whole1
import Derived.Test.YtlefjdglcdopeaaAv8
import Derived.Shelf.SlSortCmp.NoneTotal
import Derived.Test.YtlefjdglcdopeaaAv9
/- slices.SortedFunc(maps.Keys(rest), nearestFirst). -/
namespace Go.Proofs.Ytlefjdglcdopeaa
open Go.RowKit Go.Maps Bs
/-- A number that an int can hold. -/
abbrev Num := {x : Int // I64 x}
instance : Inhabited Num := ⟨⟨0, by unfold I64; omega⟩⟩
def encN (x : Num) : Value := .int .i64 x.1
def cfN (g : Int → Int) (x y : Num) : Int := cmpV (g x.1) (g y.1)
set_option maxRecDepth 100000 in
theorem cfN_swo (g : Int → Int) : Go.Sort.SWO (Go.Proofs.ltOf (cfN g)) := by
  have h : ∀ x y : Num, Go.Proofs.ltOf (cfN g) x y = decide (g x.1 < g y.1) := fun x y => by
    unfold Go.Proofs.ltOf cfN
    exact decide_eq_decide.2 cmpV_lt
  refine ⟨fun x => by rw [h]; simp, fun x y z h1 h2 => ?_, fun x y z h1 h2 => ?_⟩
  · rw [h] at h1 h2 ⊢
    have := of_decide_eq_true h1
    have := of_decide_eq_true h2
    exact decide_eq_true (by omega)
  · rw [h] at h1 h2 ⊢
    have := of_decide_eq_false h1
    have := of_decide_eq_false h2
    exact decide_eq_false (by omega)
set_option maxRecDepth 100000 in
set_option maxHeartbeats 1600000 in
theorem tcl_any (f : Int → Option Int) (x y : Num) (Bx b n : Nat) (w : World) (hc : w.cell? ⟨Bx, 0, none⟩ = some (.map (some b))) (hm : OMp w b n f) :
    Calls Try.prog 64 #[encN x, encN y, .pointer (some ⟨Bx, 0, none⟩)] w fun e w' => e = .returned (.int .i64 (cfN (fun x => (f x).getD 0) x y)) ∧ w' = w := by
  have q1 := (hm.look x.2).1
  have q2 := (hm.look y.2).1
  unfold encN cfN
  obtain ⟨X, hX⟩ : ∃ X, x.1 = X := ⟨_, rfl⟩
  obtain ⟨Y, hY⟩ : ∃ Y, y.1 = Y := ⟨_, rfl⟩
  rw [hX] at q1 ⊢
  rw [hY] at q2 ⊢
  simp only
  obtain ⟨A, hA⟩ : ∃ A, (f X).getD 0 = A := ⟨_, rfl⟩
  obtain ⟨B, hB⟩ : ∃ B, (f Y).getD 0 = B := ⟨_, rfl⟩
  rw [hA] at q1 ⊢
  rw [hB] at q2 ⊢
  clear hA hB hX hY hm
  go_enter Try.func64, Try.ntmps64
  go_wp2_with (go_at_call 65; refine (tcmp_any A B _).mono ?_; rintro e w' ⟨rfl, rfl⟩)
  go_ret
  exact ⟨rfl, rfl⟩
set_option maxRecDepth 100000 in
theorem grown_sort (w : World) (g off n : Nat) (d : Array Num) (os : Array Obj) : w.grownBy (Go.Proofs.sortWorld encN w g off n d os) (some g) := by
  refine ⟨rfl, rfl, rfl, by simp [Go.Proofs.sortWorld], fun k hk hne => ?_⟩
  unfold Go.Proofs.sortWorld
  rw [Go.Sort.heap_grow_old _ _ (by simpa using hk)]
  have : g ≠ k := fun e => hne (by rw [e])
  simp [Go.Sort.putRow, Go.Sort.mapBlock, Go.Sort.ahead, Array.getElem?_modify, this]
set_option maxRecDepth 100000 in
theorem put_same (d : Array Num) (c : Array Value) : Go.Sort.putCells encN 0 d c = Go.Sort.putCells encZ 0 (d.toList.map (·.1)).toArray c := by
  unfold Go.Sort.putCells
  congr 1
  funext k x
  have hs : (d.toList.map (·.1)).toArray.size = d.size := by simp
  rw [hs]
  by_cases hk : 0 ≤ k ∧ k < 0 + d.size
  · rw [if_pos hk, if_pos hk]
    have h1 : k - 0 < d.size := by omega
    rw [getElem!_pos d (k - 0) h1, getElem!_pos _ (k - 0) (by rw [hs]; exact h1)]
    simp [encN]
  · rw [if_neg hk, if_neg hk]
set_option maxRecDepth 100000 in
theorem sort_same (w : World) (g n : Nat) (d : Array Num) (os : Array Obj) : Go.Proofs.sortWorld encN w g 0 n d os = Go.Sort.grow (Go.Sort.putRow encZ (Go.Sort.ahead w n) g 0 (d.toList.map (·.1)).toArray) os := by
  unfold Go.Proofs.sortWorld Go.Sort.putRow
  rw [show Go.Sort.putCells encN 0 d = Go.Sort.putCells encZ 0 (d.toList.map (·.1)).toArray from funext (put_same d)]
set_option maxRecDepth 100000 in
theorem below_grown {w w' : World} (h : Go.RowKit.Below w.heap.size w w') : w.grownBy w' none := ⟨h.os, h.tape, h.output, h.size, fun b hb _ => h.block b hb⟩
/-- The keys in the order of g. -/
structure SortK (f : Int → Option Int) (ts : List Int) : Prop where
  nd : ts.Nodup
  mem : ∀ x, x ∈ ts ↔ (f x).isSome = true
  asc : ∀ (i j : Nat) (x y : Int), i < j → ts[i]? = some x → ts[j]? = some y → (f x).getD 0 ≤ (f y).getD 0
set_option maxRecDepth 100000 in
theorem perm_in {d d' : Array Num} (h : Go.Sort.PermIn 0 d.size d d') : d'.size = d.size ∧ d'.toList.Perm d.toList := by
  obtain ⟨h1, -, h3⟩ := h
  refine ⟨h1, ?_⟩
  rw [Array.extract_size, show d'.extract 0 d.size = d' by rw [← h1, Array.extract_size]] at h3
  exact h3
set_option maxRecDepth 100000 in
theorem sorted_in {g : Int → Int} {d' : Array Num} {n : Nat} (hs : d'.size = n) (h : Go.Sort.SortedIn (Go.Proofs.ltOf (cfN g)) 0 n d') {i j : Nat} {x y : Int} (hij : i < j) (hx : (d'.toList.map (·.1))[i]? = some x) (hy : (d'.toList.map (·.1))[j]? = some y) : g x ≤ g y := by
  have hj : j < d'.size := by
    have := (List.getElem?_eq_some_iff.1 hy).1
    simpa using this
  have h1 := h i j (Nat.zero_le _) hij (by omega)
  rw [getElem!_pos d' j hj, getElem!_pos d' i (by omega)] at h1
  unfold Go.Proofs.ltOf cfN at h1
  have h2 := of_decide_eq_false h1
  rw [cmpV_lt] at h2
  rw [List.getElem?_map, List.getElem?_eq_getElem (by simpa using (by omega : i < d'.size))] at hx
  rw [List.getElem?_map, List.getElem?_eq_getElem (by simpa using hj)] at hy
  simp only [Option.map_some, Option.some.injEq, Array.getElem_toList] at hx hy
  rw [← hx, ← hy]
  omega
set_option maxRecDepth 100000 in
set_option maxHeartbeats 3200000 in
theorem tsf_any (f : Int → Option Int) (Bk Bx b n : Nat) (w : World) (hk : w.cell? ⟨Bk, 0, none⟩ = some (.map (some b))) (hBk : Bk < w.heap.size) (hx : w.heap[Bx]? = some (.cells #[.map (some b)] 69 (0, 0))) (hm : OMp w b n f) (hn : n ≤ 1000000) (hne : ∃ x, (f x).isSome = true) :
    Calls Try.prog 66 #[.func (.func 87) #[] #[.pointer (some ⟨Bk, 0, none⟩)], .func (.func 64) #[] #[.pointer (some ⟨Bx, 0, none⟩)]] w fun e w' =>
      ∃ v ts, e = .returned v ∧ SortK f ts ∧ w'.ownsRow w.heap.size 3 1 v ts.length (ts.map tv) ∧ w.grownBy w' none := by
  have hm0 := hm
  obtain ⟨D, hown, hmf⟩ := hm
  have hsz := hown.size_le
  have hseq := AnyZI.keys_gives (ρ := keysM_ren) { keysM with } Fence.wide 3 trivial rfl (by omega) Bk b n D w hBk hk hown
  have hcol := callsIn_wide.1 (AnyZI.collect_in collM Fence.wide 5 trivial trivial rfl (by omega) 87 #[.pointer (some ⟨Bk, 0, none⟩)] trivial (enters_of Try.func87 (by kernel_rfl) rfl) _ (Maps.size D) (by unfold maxLen; omega) (by omega) w hseq)
  change Calls Try.prog 85 _ _ _ at hcol
  have HC := Lib.hid hcol
  have HM := Lib.hid hm0
  have HX := Lib.hid hx
  have HD := Lib.hid (And.intro hown hmf)
  clear hcol hseq hown hmf hm0 hx hk
  go_enter Try.func66, Try.ntmps66
  go_wp2_with fail
  refine HC.out.mono ?_
  rintro e w1 ⟨v, ss, rfl, hS, hrow, hnil, hb⟩
  have hg1 := below_grown hb
  obtain ⟨hnd, hmem⟩ := OMp.keys HD.out.1 HD.out.2 hS
  have hwf := intKeys_wf HD.out.1 Try.underlying3
  have hI : ∀ x ∈ ss, I64 x := fun x hxs => by
    have := hwf x (hS.mem_iff.1 hxs)
    simp [Lit.wf, IntKind.min, IntKind.max, IntKind.bits, IntKind.signed] at this
    unfold I64
    omega
  obtain ⟨d, hd⟩ : ∃ d : Array Num, d = (ss.attachWith I64 hI).toArray := ⟨_, rfl⟩
  have hdl : d.toList.map (·.1) = ss := by rw [hd]; simp
  have hds : d.size = ss.length := by rw [← hdl]; simp
  rcases hrow.2 with ⟨rfl, hz⟩ | ⟨gb, cap, cur, rfl, hbase, hgb, r1, r2, r3, r4⟩
  · exfalso
    obtain ⟨x, hxs⟩ := hne
    have := (hmem x).2 hxs
    rw [List.eq_nil_of_length_eq_zero hz] at this
    cases this
  · have hlen : ss.length ≤ 1000000 := by
      have h1 := hS.length_eq
      have h2 : (intKeys D).length = Maps.size D := by
        obtain ⟨es, hD, -⟩ := HD.out.1.entries lawZ
        rw [hD]
        simp [intKeys, Maps.size]
      omega
    have hH : Go.Sort.Holds encN w1 gb 0 d := fun j hj => by
      have h1 := holds_of_block_i hgb (by simpa using r4) j (by simpa using (by omega : j < ss.length))
      rw [getElem!_pos _ j (by simpa using (by omega : j < ss.length))] at h1
      rw [getElem!_pos d j hj]
      have h2 : d[j].1 = ss[j]'(by omega) := by
        have h3 : (d.toList.map (·.1))[j]? = ss[j]? := by rw [hdl]
        rw [List.getElem?_map, List.getElem?_eq_getElem (by simpa using hj), List.getElem?_eq_getElem (by omega)] at h3
        simpa using h3
      unfold encN
      rw [h2]
      simpa using h1
    have hgl : gb < w1.heap.size := (Array.getElem?_eq_some_iff.1 hgb).1
    have hcmp : Go.Proofs.CmpLays1 Try.prog 64 #[.pointer (some ⟨Bx, 0, none⟩)] encN (cfN (fun x => (f x).getD 0)) gb 0 d.size w1 := fun m os dk hs x y => by
      have gs := grown_sort w1 gb 0 m dk os
      have hbx := (Array.getElem?_eq_some_iff.1 HX.out).1
      have hc2 := kept_row (kept_row HX.out hg1 (by simp)) gs (fun e => by have := Option.some.inj e; omega)
      refine (tcl_any f x y Bx b n _ (by rw [cell_of_row _ _ _ _ _ _ hc2]; rfl) ((HM.out.kept hg1 (by simp)).kept gs (fun e => by have := Option.some.inj e; have := HM.out.lt; omega))).mono ?_
      rintro e w' ⟨rfl, rfl⟩
      exact ⟨rfl, 0, #[], by rw [Go.Sort.grow_empty]; rfl⟩
    have cS := Go.Proofs.Any.slices_SortFunc sortM encN (fun x => rfl) (cfN (fun x => (f x).getD 0)) (cfN_swo _) 64 #[.pointer (some ⟨Bx, 0, none⟩)] gb 0 cap d w1 (enters_of Try.func64 (by kernel_rfl) rfl) hcmp hH hgl (by omega)
    change Calls Try.prog 86 _ _ _ at cS
    rw [hds] at cS
    have HS := Lib.hid cS
    have HG := Lib.hid (And.intro hg1 (And.intro hgb (And.intro hbase (And.intro r1 (And.intro r2 r3)))))
    have HP := Lib.hid (And.intro hnd (And.intro hmem (And.intro hdl hds)))
    clear cS hcmp hH hd hgb hbase r1 r2 r3 r4 hdl hds hnd hmem hS hrow hnil hb hg1 hwf hI
    go_wp2_with fail
    refine HS.out.mono ?_
    rintro e w2 ⟨rfl, d', m, os, hp, hsd, rfl⟩
    have HE := Lib.hid (And.intro hp hsd)
    clear hp hsd HS
    go_wp2_with fail
    go_ret
    obtain ⟨g1, g2, g3, g4, g5, g6⟩ := HG.out
    obtain ⟨p1, p2, p3, p4⟩ := HP.out
    obtain ⟨hp, hsd⟩ := HE.out
    obtain ⟨e1, e2⟩ := perm_in (d := d) (by rw [p4]; exact hp)
    have e3 : (d'.toList.map (·.1)).Perm ss := by rw [← p3]; exact e2.map _
    refine ⟨_, d'.toList.map (·.1), rfl, ⟨e3.nodup_iff.2 p1, fun x => by rw [e3.mem_iff]; exact p2 x, fun i j x y hij hxi hyj => sorted_in (g := fun x => (f x).getD 0) (e1.trans p4) hsd hij hxi hyj⟩, ?_, grown_any g1 (grown_sort w1 gb 0 m d' os) (fun k hk e => by have := Option.some.inj e; omega)⟩
    rw [sort_same, e3.length_eq]
    exact ownsRow_sorted_i e3.length_eq g3 g2 g4 g5 g6
end Go.Proofs.Ytlefjdglcdopeaa

/- Counting least walks: one table for both sides. -/
namespace Go.Proofs.Ytlefjdglcdopeaa
/-- What a router's number of walks is, out of those of the routers that come next. -/
def cntS (next : Int → List Int) (z : Int) (g : Int → Int) (r : Int) : Int := if r = z then 1 else (next r).foldl (fun a u => min (a + g u) 1000000) 0
set_option maxRecDepth 100000 in
theorem cntS_congr {next : Int → List Int} {z : Int} {g h : Int → Int} {r : Int} (e : ∀ u ∈ next r, g u = h u) : cntS next z g r = cntS next z h r := by
  unfold cntS
  by_cases hr : r = z
  · rw [if_pos hr, if_pos hr]
  · rw [if_neg hr, if_neg hr]
    have key : ∀ (l : List Int) (a : Int), (∀ u ∈ l, g u = h u) → l.foldl (fun a u => min (a + g u) 1000000) a = l.foldl (fun a u => min (a + h u) 1000000) a := by
      intro l
      induction l with
      | nil => intro a _; rfl
      | cons u t ih =>
        intro a hl
        rw [List.foldl_cons, List.foldl_cons, hl u (by simp)]
        exact ih _ (fun v hv => hl v (by simp [hv]))
    exact key _ 0 e
set_option maxRecDepth 100000 in
/-- Two tables that keep the rule are one. -/
theorem cnt_uniq {next : Int → List Int} {z : Int} {m : Int → Nat} (hm : ∀ r, ∀ u ∈ next r, m u < m r) {g h : Int → Int} (hg : ∀ r, g r = cntS next z g r) (hh : ∀ r, h r = cntS next z h r) (r : Int) : g r = h r := by
  have key : ∀ (k : Nat) (r : Int), m r ≤ k → g r = h r := by
    intro k
    induction k with
    | zero =>
      intro r hr
      rw [hg, hh]
      exact cntS_congr (fun u hu => by have := hm r u hu; omega)
    | succ k ih =>
      intro r hr
      rw [hg, hh]
      exact cntS_congr (fun u hu => ih u (by have := hm r u hu; omega))
  exact key (m r) r (Nat.le_refl _)
/-- The reference's rounds. -/
def itC (next : Int → List Int) (z : Int) : Nat → Int → Int
  | 0 => fun _ => 0
  | k + 1 => cntS next z (itC next z k)
set_option maxRecDepth 100000 in
theorem itC_stable {next : Int → List Int} {z : Int} {m : Int → Nat} (hm : ∀ r, ∀ u ∈ next r, m u < m r) : ∀ (k : Nat) (r : Int), m r ≤ k → itC next z (k + 1) r = itC next z (k + 2) r := by
  intro k
  induction k with
  | zero =>
    intro r hr
    exact cntS_congr (fun u hu => by have := hm r u hu; omega)
  | succ k ih =>
    intro r hr
    exact cntS_congr (fun u hu => ih u (by have := hm r u hu; omega))
set_option maxRecDepth 100000 in
theorem itC_fix {next : Int → List Int} {z : Int} {m : Int → Nat} (hm : ∀ r, ∀ u ∈ next r, m u < m r) {N : Nat} (hN : ∀ r, m r < N) (r : Int) : itC next z N r = cntS next z (itC next z N) r := by
  obtain ⟨k, rfl⟩ : ∃ k, N = k + 1 := ⟨N - 1, by have := hN r; omega⟩
  exact itC_stable hm k r (by have := hN r; omega)
set_option maxRecDepth 100000 in
/-- A table made in the order of the costs keeps the rule. -/
theorem cnt_order {next : Int → List Int} {z : Int} {g : Int → Int} {os : List Int} (step : List Int → Int → Int)
    (h0 : ∀ (i : Nat) (r : Int), os[i]? = some r → g r = cntS next z (step (os.take i)) r) (hs : ∀ (i : Nat) (r u : Int), os[i]? = some r → u ∈ next r → step (os.take i) u = g u) {r : Int} (hr : r ∈ os) : g r = cntS next z g r := by
  obtain ⟨i, hi, he⟩ := List.mem_iff_getElem.1 hr
  have h1 : os[i]? = some r := by rw [List.getElem?_eq_getElem hi, he]
  rw [h0 i r h1]
  exact cntS_congr (fun u hu => hs i r u h1 hu)
end Go.Proofs.Ytlefjdglcdopeaa

/- shortest.pathsTo and Paths. -/
namespace Go.Proofs.Ytlefjdglcdopeaa
open Go.RowKit Go.Maps Bs
set_option maxRecDepth 100000 in
theorem ite_iff {α : Type} {p q : Prop} [Decidable p] [Decidable q] (h : p ↔ q) (a b : α) : (if p then a else b) = if q then a else b := by
  by_cases hp : p
  · rw [if_pos hp, if_pos (h.1 hp)]
  · rw [if_neg hp, if_neg (fun k => hp (h.2 k))]
/-- The number of shortest paths from r to z, at most 1000000. -/
noncomputable def cnt (R : List Rt) (L : List Lk) (z r : Int) : Int := itC (fun r => nxt R L r z) z 24001 r
set_option maxRecDepth 100000 in
theorem cnt_rule (R : List Rt) (L : List Lk) (z r : Int) : cnt R L z r = cntS (fun r => nxt R L r z) z (cnt R L z) r :=
  itC_fix (m := far R L z) (fun r u hu => far_step hu) (fun r => by have := far_le R L z r; omega) r
set_option maxRecDepth 100000 in
theorem fold_bd {c : Int → Int} (hc : ∀ u, 0 ≤ c u ∧ c u ≤ 1000000) : ∀ (l : List Int) (a : Int), 0 ≤ a ∧ a ≤ 1000000 → 0 ≤ l.foldl (fun a u => min (a + c u) 1000000) a ∧ l.foldl (fun a u => min (a + c u) 1000000) a ≤ 1000000
  | [], a, h => h
  | u :: t, a, h => fold_bd hc t _ (by have := hc u; show 0 ≤ min (a + c u) 1000000 ∧ min (a + c u) 1000000 ≤ 1000000; omega)
set_option maxRecDepth 100000 in
theorem cntS_bd {next : Int → List Int} {z : Int} {c : Int → Int} (hc : ∀ u, 0 ≤ c u ∧ c u ≤ 1000000) (r : Int) : 0 ≤ cntS next z c r ∧ cntS next z c r ≤ 1000000 := by
  unfold cntS
  by_cases h : r = z
  · rw [if_pos h]; omega
  · rw [if_neg h]; exact fold_bd hc _ 0 (by omega)
set_option maxRecDepth 100000 in
theorem itC_bd (next : Int → List Int) (z : Int) : ∀ (k : Nat) (r : Int), 0 ≤ itC next z k r ∧ itC next z k r ≤ 1000000
  | 0, r => ⟨Int.le_refl _, by show (0 : Int) ≤ 1000000; omega⟩
  | k + 1, r => cntS_bd (itC_bd next z k) r
set_option maxRecDepth 100000 in
theorem cnt_bd (R : List Rt) (L : List Lk) (z r : Int) : 0 ≤ cnt R L z r ∧ cnt R L z r ≤ 1000000 := itC_bd _ _ _ _
noncomputable def cntF (R : List Rt) (L : List Lk) (z : Int) : Int → Option Int := fun r => if (dst R L r z).isSome = true then some (cnt R L z r) else none
/-- The number of the first k of the next routers. -/
noncomputable def prt (c : Int → Int) (l : List Int) (k : Nat) : Int := (l.take k).foldl (fun a u => min (a + c u) 1000000) 0
set_option maxRecDepth 100000 in
theorem prt_snoc {c : Int → Int} {l : List Int} {k : Nat} {u : Int} (h : l[k]? = some u) : prt c l (k + 1) = min (prt c l k + c u) 1000000 := by
  unfold prt
  rw [List.take_add_one, h, List.foldl_append]
  rfl
set_option maxRecDepth 100000 in
theorem prt_bd {c : Int → Int} (hc : ∀ u, 0 ≤ c u ∧ c u ≤ 1000000) (l : List Int) (k : Nat) : 0 ≤ prt c l k ∧ prt c l k ≤ 1000000 := fold_bd hc _ 0 (by omega)
set_option maxRecDepth 100000 in
theorem prt_end {R : List Rt} {L : List Lk} {z r : Int} (hr : r ≠ z) {Y : List Int} (hY : nxt R L r z = Y) : prt (cnt R L z) Y Y.length = cnt R L z r := by
  rw [cnt_rule]
  unfold cntS prt
  rw [if_neg hr, List.take_length, ← hY]
set_option maxRecDepth 100000 in
theorem cnt_self (R : List Rt) (L : List Lk) (z : Int) : cnt R L z z = 1 := by
  rw [cnt_rule]
  unfold cntS
  rw [if_pos rfl]
/-- The table when i routers are done. -/
noncomputable def tabI (c : Int → Int) (ts : List Int) (i : Nat) : Int → Option Int := fun x => if x ∈ ts.take i then some (c x) else none
set_option maxRecDepth 100000 in
theorem tabI_next {c : Int → Int} {ts : List Int} {i : Nat} {r : Int} (h : ts[i]? = some r) : putF (tabI c ts i) r (c r) = tabI c ts (i + 1) := by
  funext x
  unfold tabI
  rw [List.take_add_one, h]
  by_cases e : x = r
  · subst e
    rw [putF_same, if_pos (by simp)]
  · rw [putF_other _ _ _ e]
    have : (x ∈ ts.take i ++ (some r).toList) ↔ x ∈ ts.take i := by simp [e]
    exact (ite_iff this _ _).symm
set_option maxRecDepth 100000 in
theorem tabI_end {R : List Rt} {L : List Lk} {z : Int} {ts : List Int} (h : SortK (fun x => dst R L x z) ts) : tabI (cnt R L z) ts ts.length = cntF R L z := by
  funext x
  unfold tabI cntF
  rw [List.take_length]
  exact ite_iff (h.mem x) _ _
set_option maxRecDepth 100000 in
theorem tabI_new {c : Int → Int} {ts : List Int} (hn : ts.Nodup) {i : Nat} {r : Int} (h : ts[i]? = some r) : tabI c ts i r = none := by
  unfold tabI
  rw [if_neg]
  intro hm
  obtain ⟨j, hj, he⟩ := List.mem_iff_getElem.1 hm
  rw [List.length_take] at hj
  have hi := (List.getElem?_eq_some_iff.1 h).1
  rw [List.getElem_take] at he
  have := (List.getElem?_eq_some_iff.1 h).2
  exact List.pairwise_iff_getElem.1 hn j i (by omega) hi (by omega) (he.trans this.symm)
set_option maxRecDepth 100000 in
theorem tabI_old {R : List Rt} {L : List Lk} {z : Int} {ts : List Int} (h : SortK (fun x => dst R L x z) ts) {i : Nat} {r u : Int} (hr : ts[i]? = some r) (hu : u ∈ nxt R L r z) : tabI (cnt R L z) ts i u = some (cnt R L z u) ∧ u ≠ r := by
  obtain ⟨d, x, c, h1, h2, h3, h4, -⟩ := nxt_step hu
  have hne : u ≠ r := fun e => by rw [e, h1] at h2; have := Option.some.inj h2; omega
  refine ⟨?_, hne⟩
  unfold tabI
  rw [if_pos]
  obtain ⟨j, hj, he⟩ := List.mem_iff_getElem.1 ((h.mem u).2 (by rw [h2]; rfl))
  have hju : ts[j]? = some u := by rw [List.getElem?_eq_getElem hj, he]
  rcases Nat.lt_trichotomy j i with hji | hji | hji
  · refine List.mem_iff_getElem.2 ⟨j, by rw [List.length_take]; omega, ?_⟩
    rw [List.getElem_take]
    exact he
  · subst hji
    rw [hju] at hr
    exact absurd (Option.some.inj hr) hne
  · have := h.asc i j r u hji hr hju
    rw [h1, h2] at this
    have h9 : d ≤ x := this
    omega
/-- The table while a router is done. -/
noncomputable def midF (f0 : Int → Option Int) (r : Int) (c : Int → Int) (Y : List Int) (k : Nat) : Int → Option Int := if k = 0 then f0 else putF f0 r (prt c Y k)
set_option maxRecDepth 100000 in
theorem midF_put (f0 : Int → Option Int) (r : Int) (c : Int → Int) (Y : List Int) (k : Nat) : putF (midF f0 r c Y k) r (prt c Y (k + 1)) = midF f0 r c Y (k + 1) := by
  unfold midF
  rw [if_neg (Nat.succ_ne_zero k)]
  by_cases h : k = 0
  · rw [if_pos h]
  · rw [if_neg h]
    funext x
    by_cases e : x = r
    · subst e; rw [putF_same, putF_same]
    · rw [putF_other _ _ _ e, putF_other _ _ _ e, putF_other _ _ _ e]
set_option maxRecDepth 100000 in
theorem midF_other (f0 : Int → Option Int) (r : Int) (c : Int → Int) (Y : List Int) (k : Nat) {u : Int} (h : u ≠ r) : midF f0 r c Y k u = f0 u := by
  unfold midF
  by_cases hk : k = 0
  · rw [if_pos hk]
  · rw [if_neg hk, putF_other _ _ _ h]
set_option maxRecDepth 100000 in
theorem midF_self {f0 : Int → Option Int} {r : Int} (c : Int → Int) (Y : List Int) (k : Nat) (h : f0 r = none) : (midF f0 r c Y k r).getD 0 = prt c Y k := by
  unfold midF
  by_cases hk : k = 0
  · rw [if_pos hk, h, hk]
    rfl
  · rw [if_neg hk, putF_same]
    rfl
/-- What memory holds while paths are counted. -/
structure PQ (w : World) (T : Tg) (z : Int) (Bx Bp : Nat) (v : Value) (ts : List Int) (p : Option Addr) (c N : Nat) (f : Int → Option Int) (wr : World) : Prop where
  gb : wr.heap[w.heap.size]? = some (.cells #[.slice T.pR T.R.length T.cR, .slice T.pL T.L.length T.cL] 28 (0, 0))
  t : TgOk wr (· < w.heap.size) T
  cv : CV wr (· < Bp) v (fun x => dst T.R T.L x z) (hasV T.R T.L z)
  bx : wr.heap[Bx]? = some (.cells #[v] 69 (0, 0))
  ro : Rd wr (Bp < ·) (.slice p ts.length c) (ts.map tv)
  m : OMp wr Bp N f
  gr : w.grownBy wr none
  lt : w.heap.size < Bp ∧ Bx < Bp
set_option maxRecDepth 100000 in
theorem PQ.keep {w wr w' : World} {T : Tg} {z : Int} {Bx Bp c N : Nat} {v : Value} {ts : List Int} {p : Option Addr} {f : Int → Option Int} (h : PQ w T z Bx Bp v ts p c N f wr) (g : wr.grownBy w' none) : PQ w T z Bx Bp v ts p c N f w' :=
  ⟨kept_row h.gb g (by simp), h.t.keep g, h.cv.keep g, kept_row h.bx g (by simp), h.ro.grown g (fun _ _ => by simp), h.m.kept g (by simp), grown_trans h.gr g, h.lt⟩
set_option maxRecDepth 100000 in
theorem PQ.put {w wr w' : World} {T : Tg} {z : Int} {Bx Bp c N N' : Nat} {v : Value} {ts : List Int} {p : Option Addr} {f f' : Int → Option Int} (h : PQ w T z Bx Bp v ts p c N f wr) (g : wr.grownBy w' (some Bp)) (hm : OMp w' Bp N' f') : PQ w T z Bx Bp v ts p c N' f' w' := by
  have key : ∀ b, b < Bp → some b ≠ some Bp := fun b hb e => by have := Option.some.inj e; omega
  have hl := h.lt
  exact ⟨kept_row h.gb g (key _ hl.1), h.t.grown g (fun b hb => key b (by have : b < w.heap.size := hb; omega)), h.cv.grown g (fun b hb => key b hb), kept_row h.bx g (key _ hl.2), h.ro.grown g (fun b hb e => by have := Option.some.inj e; have : Bp < b := hb; omega), hm, grown_any h.gr g (fun b hb => key b (by omega)), h.lt⟩
end Go.Proofs.Ytlefjdglcdopeaa

/- slices.SortedFunc of a nil map's keys; of any table's. -/
namespace Go.Proofs.Ytlefjdglcdopeaa
open Go.RowKit Go.Maps Bs
set_option maxRecDepth 100000 in
theorem tkeys_any (mb : Option Nat) (w : World) :
    Calls Try.prog 67 #[.map mb] w fun e w' => e = .returned (.func (.func 87) #[] #[.pointer (some ⟨w.heap.size, 0, none⟩)]) ∧ w' = w.alloc (.cells #[.map mb] 69) :=
  callsIn_wide.1 (AnyZI.keys_in keysM Fence.wide 5 trivial rfl mb w)
set_option maxRecDepth 100000 in
set_option maxHeartbeats 3200000 in
theorem tsn_any (Bk Bx : Nat) (w : World) (hk : w.cell? ⟨Bk, 0, none⟩ = some (.map none)) (hBk : Bk < w.heap.size) :
    Calls Try.prog 66 #[.func (.func 87) #[] #[.pointer (some ⟨Bk, 0, none⟩)], .func (.func 64) #[] #[.pointer (some ⟨Bx, 0, none⟩)]] w fun e w' => e = .returned (.slice none 0 0) ∧ w.grownBy w' none := by
  have hseq := AnyZI.keys_gives_nil (ρ := keysM_ren) { keysM with } Fence.wide 3 trivial rfl Bk w hBk hk
  have hcol := callsIn_wide.1 (AnyZI.collect_in collM Fence.wide 5 trivial trivial rfl (by omega) 87 #[.pointer (some ⟨Bk, 0, none⟩)] trivial (enters_of Try.func87 (by kernel_rfl) rfl) _ 0 (by unfold maxLen; omega) (by omega) w hseq)
  change Calls Try.prog 85 _ _ _ at hcol
  have HC := Lib.hid hcol
  clear hcol hseq
  go_enter Try.func66, Try.ntmps66
  go_wp2_with fail
  refine HC.out.mono ?_
  rintro e w1 ⟨v, ss, rfl, rfl, hrow, hnil, hb⟩
  obtain rfl : v = .slice none 0 0 := hnil.2 rfl
  have cS := Go.Proofs.AnyF.slices_SortFunc_none (P := Try.prog) (ρ := sortM_ren) { sortM with } none 0 (.func (.func 64) #[] #[.pointer (some ⟨Bx, 0, none⟩)]) w1
  change Calls Try.prog 86 _ _ _ at cS
  have HS := Lib.hid cS
  have HG := Lib.hid (below_grown hb)
  clear cS hrow hnil hb
  go_wp2_with fail
  refine HS.out.mono ?_
  rintro e w2 ⟨rfl, rfl⟩
  clear HS
  go_wp2_with fail
  go_ret
  exact ⟨rfl, HG.out⟩
set_option maxRecDepth 100000 in
/-- The keys of a table in the order of its costs. -/
theorem tsv_any (f : Int → Option Int) (ok : Bool) (v : Value) (q : Nat → Prop) (Bk Bx : Nat) (w : World) (hk : w.cell? ⟨Bk, 0, none⟩ = some v) (hBk : Bk < w.heap.size) (hx : w.heap[Bx]? = some (.cells #[v] 69 (0, 0))) (hv : CV w q v f ok) (hne : ok = true → ∃ x, (f x).isSome = true) :
    Calls Try.prog 66 #[.func (.func 87) #[] #[.pointer (some ⟨Bk, 0, none⟩)], .func (.func 64) #[] #[.pointer (some ⟨Bx, 0, none⟩)]] w fun e w' =>
      ∃ v ts, e = .returned v ∧ SortK f ts ∧ w'.ownsRow w.heap.size 3 1 v ts.length (ts.map tv) ∧ w.grownBy w' none := by
  rcases hv with ⟨-, rfl, hf⟩ | ⟨h1, b, n, rfl, -, hn, hm⟩
  · refine (tsn_any Bk Bx w hk hBk).mono ?_
    rintro e w' ⟨rfl, hg⟩
    exact ⟨_, [], rfl, ⟨List.nodup_nil, fun x => by rw [hf x]; simp, fun i j x y _ hi => by simp at hi⟩, World.ownsRow_nil _ _ _ _, hg⟩
  · exact tsf_any f Bk Bx b n w hk hBk hx hm hn (hne h1)
end Go.Proofs.Ytlefjdglcdopeaa

/- shortest.pathsTo and Paths: the walks. -/
namespace Go.Proofs.Ytlefjdglcdopeaa
open Go.RowKit Go.Maps Bs
set_option maxRecDepth 100000 in
theorem nodup_le : ∀ (l V : List Int), l.Nodup → (∀ x ∈ l, x ∈ V) → l.length ≤ V.length
  | [], _, _, _ => Nat.zero_le _
  | a :: t, V, hn, hs => by
    have h1 := List.nodup_cons.1 hn
    have ha := hs a (by simp)
    have h2 := nodup_le t (V.erase a) h1.2 (fun x hx => (List.mem_erase_of_ne (fun e => h1.1 (by rw [← e]; exact hx))).2 (hs x (by simp [hx])))
    rw [List.length_erase_of_mem ha] at h2
    have := List.length_pos_of_mem ha
    rw [List.length_cons]
    omega
set_option maxRecDepth 100000 in
theorem sortK_len {R : List Rt} {L : List Lk} {z : Int} {ts : List Int} (h : SortK (fun x => dst R L x z) ts) : ts.length ≤ 24 ∧ ∀ x ∈ ts, 1 ≤ x ∧ x ≤ 99 := by
  have hx : ∀ x ∈ ts, okT R L = true ∧ x ∈ ids R ∧ 1 ≤ x ∧ x ≤ 99 := fun x hx => by
    have h1 := (h.mem x).1 hx
    cases hd : dst R L x z with
    | none => rw [hd] at h1; cases h1
    | some d => exact ⟨(dst_both hd).1, (dst_both hd).2.1, (dst_bd hd).2.1⟩
  refine ⟨?_, fun x h1 => (hx x h1).2.2⟩
  cases ht : ts with
  | nil => simp
  | cons a t =>
    have h1 := (okT_g (hx a (by rw [ht]; simp)).1).len.1
    have h2 := nodup_le ts (ids R) h.nd (fun x h3 => (hx x h3).2.1)
    rw [← ht]
    omega
set_option maxRecDepth 100000 in
theorem tabI_zero (c : Int → Int) (ts : List Int) : tabI c ts 0 = fun _ => none := by
  funext x
  unfold tabI
  rw [if_neg (by simp)]
set_option maxRecDepth 100000 in
theorem nxt_len (R : List Rt) (L : List Lk) (r z : Int) : (nxt R L r z).length ≤ 2 * L.length := Nat.le_trans (nxM_len (fun x => dst R L x z) r (nbD L r)) (nbD_len r L)
set_option maxRecDepth 100000 in
theorem nxt_self (R : List Rt) (L : List Lk) (z : Int) : nxt R L z z = [] := by
  cases h : nxt R L z z with
  | nil => rfl
  | cons u t =>
    have := far_step (R := R) (L := L) (z := z) (r := z) (u := u) (by rw [h]; simp)
    obtain ⟨d, x, c, h1, h2, h3, h4, -⟩ := nxt_step (R := R) (L := L) (z := z) (r := z) (u := u) (by rw [h]; simp)
    have h5 := dst_self (dst_some.1 h1).1
    rw [h5] at h1
    have := Option.some.inj h1
    have := (dst_bd h2).1
    omega
def PtPost (f : Int → Option Int) (w : World) (e : Ending) (w' : World) : Prop := ∃ b n, e = .returned (.map (some b)) ∧ w.heap.size ≤ b ∧ n ≤ 1000000 ∧ OMp w' b n f ∧ w.grownBy w' none
set_option maxRecDepth 100000 in
set_option maxHeartbeats 12800000 in
theorem tpt_any (T : Tg) (z : Int) (q : Nat → Prop) (w : World) (hT : TgOk w q T) (h1 : T.R.length ≤ 1000) (h2 : T.L.length ≤ 1000) (hp : T.pL = none → T.cL = 0) :
    Calls Try.prog 47 #[.agg #[.slice T.pR T.R.length T.cR, .slice T.pL T.L.length T.cL], .int .i64 z] w fun e w' => PtPost (cntF T.R T.L z) w e w' := by
  have hmf : ∀ (fn : Fn) (first cap : Array Value) (w : World), (Instr.makeFunc fn first cap).run Try.prog w = .ok (.func fn first cap) w := fun _ _ _ _ => rfl
  have hmm := fun t w => run_makeMap (P := Try.prog) t w
  obtain ⟨R, L, pR, cR, pL, cL⟩ := T
  simp only at h1 h2 hp ⊢
  obtain ⟨k1, k2⟩ := tone_box w #[.slice pR R.length cR, .slice pL L.length cL] 28
  have HB := Lib.hid (And.intro k1 (And.intro k2 (hT.old.keep k2)))
  clear k1 k2 hT
  obtain ⟨c0, c1⟩ := row_cells HB.out.1
  obtain ⟨X, hX⟩ : ∃ X, cntF R L z = X := ⟨_, rfl⟩
  have HX := Lib.hid hX
  rw [hX]
  clear hX
  go_enter Try.func47, Try.ntmps47
  go_wp2_with fail
  refine (tct_any ⟨R, L, pR, cR, pL, cL⟩ z _ _ HB.out.2.2 h1 h2 hp).mono ?_
  rintro e w1 ⟨v, rfl, hv, hg⟩
  (try simp only at hv)
  obtain ⟨mb, rfl⟩ : ∃ mb, v = .map mb := by
    rcases hv with ⟨-, h, -⟩ | ⟨-, b, n, h, -⟩ <;> exact ⟨_, h⟩
  have hsz1 := hg.size
  have hsz0 : (w.alloc (.cells #[.slice pR R.length cR, .slice pL L.length cL] 28)).heap.size = w.heap.size + 1 := by simp
  have HW1 := Lib.hid (And.intro (kept_row HB.out.1 hg (by simp)) (And.intro (grown_trans HB.out.2.1 hg) (And.intro (HB.out.2.2.keep hg) (show w.heap.size + 1 ≤ w1.heap.size by omega))))
  have HV1 := Lib.hid (hv.mono (q' := (· < w1.heap.size)) (fun b _ hb => hb))
  clear hv hg hsz1 hsz0 c0 c1
  -- the box of the costs, the map of the paths
  have hb2 := heap_alloc_new w1 (.cells #[.map mb] 69)
  have hg2 := World.grownBy_alloc w1 (.cells #[.map mb] 69) none
  have hg3 := World.grownBy_alloc (w1.alloc (.cells #[.map mb] 69)) (.map #[] 0) none
  have hm3 := OMp.made (w1.alloc (.cells #[.map mb] 69))
  have hs2 : (w1.alloc (.cells #[.map mb] 69)).heap.size = w1.heap.size + 1 := by simp
  have hs3 : ((w1.alloc (.cells #[.map mb] 69)).alloc (.map #[] 0)).heap.size = w1.heap.size + 2 := by simp
  rw [hs2] at hm3
  have HW3 := Lib.hid (And.intro (kept_row hb2 hg3 (by simp)) (And.intro (grown_trans hg2 hg3) (And.intro hm3 hs3)))
  clear hb2 hg2 hg3 hm3 hs2 hs3
  go_upto_region 4 with fail
  generalize (w1.alloc _).alloc _ = w3 at *
  have hbx := HW3.out.1
  have c0 : w3.cell? ⟨w1.heap.size, 0, none⟩ = some (.map mb) := by rw [cell_of_row _ _ _ _ _ _ hbx]; rfl
  clear hbx hmm hmf
  go_wp2_with fail
  refine (tkeys_any mb w3).mono ?_
  rintro e w4 ⟨rfl, hw4⟩
  have hb4 := heap_alloc_new w3 (.cells #[.map mb] 69)
  have hg4 := World.grownBy_alloc w3 (.cells #[.map mb] 69) none
  rw [← hw4] at hb4 hg4
  have hz4 : w3.heap.size < w4.heap.size := by rw [hw4]; simp
  have HW4 := Lib.hid (And.intro hb4 (And.intro hg4 hz4))
  clear hw4 hb4 hg4 hz4 c0
  go_wp2_with fail
  refine (tsv_any (fun x => dst R L x z) (hasV R L z) (.map mb) (· < w1.heap.size) w3.heap.size w1.heap.size w4 (by rw [cell_of_row _ _ _ _ _ _ HW4.out.1]; rfl) HW4.out.2.2 (kept_row HW3.out.1 HW4.out.2.1 (by simp)) ((HV1.out.keep HW3.out.2.1).keep HW4.out.2.1) (fun h => ⟨z, by rw [dst_self h]; rfl⟩)).mono ?_
  rintro e w5 ⟨vs, ts, rfl, hS, hrow, hg5⟩
  obtain ⟨ps, cs, rfl, hcs1, hcs2⟩ := own_shape hrow
  obtain ⟨Bx, hBx⟩ : ∃ Bx, w1.heap.size = Bx := ⟨_, rfl⟩
  have hm0 := ((HW3.out.2.2.1.kept HW4.out.2.1 (by simp)).kept hg5 (by simp))
  rw [← tabI_zero (cnt R L z) ts] at hm0
  have P0 : Hid (PQ w ⟨R, L, pR, cR, pL, cL⟩ z Bx (Bx + 1) (.map mb) ts ps cs 0 (tabI (cnt R L z) ts 0) w5) := Lib.hid (by
    have g15 := grown_trans (grown_trans HW3.out.2.1 HW4.out.2.1) hg5
    have h43 := HW4.out.2.2
    have h33 := HW3.out.2.2.2
    have h14 := HW1.out.2.2.2
    subst hBx
    exact ⟨kept_row HW1.out.1 g15 (by simp), HW1.out.2.2.1.keep g15, (HV1.out.keep g15).mono (fun b hb _ => by have : b < w1.heap.size := hb; omega), kept_row (kept_row HW3.out.1 HW4.out.2.1 (by simp)) hg5 (by simp), (rd_of_own hrow).mono (fun b hb => by have : w4.heap.size ≤ b := hb; show _ < b; omega), hm0, grown_trans HW1.out.2.1 g15, by omega⟩)
  obtain ⟨hl24, hI⟩ := sortK_len hS
  have HSK := Lib.hid (And.intro hS hI)
  rw [hBx]
  clear hS hrow hg5 hBx hm0 hI HV1 HW1 HW3 HW4
  go_wp2_with fail
  go_loopw [22] (fun a wr => ∃ i N : Nat, i ≤ ts.length ∧ a = .int .i64 (i : Int) ∧ N ≤ 3000 * i ∧ Hid (PQ w ⟨R, L, pR, cR, pL, cL⟩ z Bx (Bx + 1) (.map mb) ts ps cs N (tabI (cnt R L z) ts i) wr)) (fun a _ => ts.length - (RowKit.intOf a).toNat)
  case atStart => exact ⟨0, 0, Nat.zero_le _, rfl, by omega, P0⟩
  case round =>
    obtain ⟨i, N, hi, rfl, hN, P⟩ := hrel
    clear P0
    by_cases hlt : i < ts.length
    · obtain ⟨-, b, off, rfl, -, hc⟩ := rdi_at P.out.ro (by omega)
      obtain ⟨r, hr⟩ : ∃ r, ts[i]? = some r := ⟨_, List.getElem?_eq_getElem hlt⟩
      have d0 := hc i r hr
      have hrb := HSK.out.2 r (List.mem_of_getElem? hr)
      have HR := Lib.hid hr
      clear hc hr
      by_cases hrz : r = z
      · subst hrz
        obtain ⟨w6, hput, hm6, hg6⟩ := P.out.m.put (x := r) (d := 1) (by omega) (by unfold I64; omega) (by unfold I64; omega)
        have hm7 : OMp w6 (Bx + 1) (N + 1) (tabI (cnt R L r) ts (i + 1)) := by
          rw [← tabI_next HR.out, cnt_self]
          exact hm6
        have P6 := Lib.hid (P.out.put hg6 hm7)
        obtain ⟨c0, c1⟩ := row_cells P6.out.gb
        have c2 : w6.cell? ⟨Bx, 0, none⟩ = some (.map mb) := by rw [cell_of_row _ _ _ _ _ _ P6.out.bx]; rfl
        clear hm6 hm7 hg6
        go_wp2_with fail
        refine (tnx_any ⟨R, L, pR, cR, pL, cL⟩ r r _ _ _ w6 P6.out.t h2 (by unfold I64; omega) P6.out.cv).mono ?_
        rintro e w8 ⟨p8, c8, rfl, hr8, hc8, hn8, hg8⟩
        (try simp only at hr8 hc8 ⊢)
        have hY : nextV L (fun x => dst R L x r) r = [] := nxt_self R L r
        rw [hY] at hr8 hc8 ⊢
        have P8 := Lib.hid (P6.out.keep hg8)
        simp only [List.length_nil]
        clear hr8 hc8 hn8 hg8 hY c0 c1 c2 d0 hput
        go_wp2_with fail
        go_loopw [36] (fun a wq => a = .int .i64 0 ∧ wq = w8) (fun _ _ => 0)
        case atStart => exact ⟨rfl, rfl⟩
        case round =>
          obtain ⟨rfl, rfl⟩ := hrel
          go_wp2_with fail
          exact ⟨⟨i + 1, N + 1, by omega, congrArg _ (by omega), by omega, P8⟩, by simp only [RowKit.intOf]; omega⟩
      · have hrz' : (r == z) = false := by simpa using hrz
        have HRZ := Lib.hid hrz
        obtain ⟨c0, c1⟩ := row_cells P.out.gb
        have c2 : wr.cell? ⟨Bx, 0, none⟩ = some (.map mb) := by rw [cell_of_row _ _ _ _ _ _ P.out.bx]; rfl
        clear hrz
        go_wp2_with fail
        refine (tnx_any ⟨R, L, pR, cR, pL, cL⟩ r z _ _ _ wr P.out.t h2 (by unfold I64; omega) P.out.cv).mono ?_
        rintro e w8 ⟨p8, c8, rfl, hr8, hc8, hn8, hg8⟩
        (try simp only at hr8 hc8 ⊢)
        have hyl := nxt_len R L r z
        obtain ⟨Y, hY⟩ : ∃ Y, nextV L (fun x => dst R L x z) r = Y := ⟨_, rfl⟩
        have HY : Hid (nxt R L r z = Y) := Lib.hid hY
        rw [HY.out] at hyl
        rw [hY] at hr8 hc8 ⊢
        have P8 := Lib.hid (P.out.keep hg8)
        have hlt8 := P.out.m.lt
        have Y8 : Hid (Rd w8 (· ≠ Bx + 1) (.slice p8 Y.length c8) (Y.map tv)) := Lib.hid (hr8.mono (fun b hb e => by have : wr.heap.size ≤ b := hb; omega))
        have HT0 := Lib.hid (tabI_new (c := cnt R L z) HSK.out.1.nd HR.out)
        have hy2 : Y.length ≤ 2000 := by omega
        clear hr8 hc8 hn8 hg8 hY c0 c1 c2 d0 hyl hlt8
        go_wp2_with fail
        go_loopw [36] (fun a wq => ∃ k N2 : Nat, k ≤ Y.length ∧ a = .int .i64 (k : Int) ∧ N2 ≤ N + k ∧ Hid (PQ w ⟨R, L, pR, cR, pL, cL⟩ z Bx (Bx + 1) (.map mb) ts (some ⟨b, off, none⟩) cs N2 (midF (tabI (cnt R L z) ts i) r (cnt R L z) Y k) wq) ∧ Hid (Rd wq (· ≠ Bx + 1) (.slice p8 Y.length c8) (Y.map tv))) (fun a _ => Y.length - (RowKit.intOf a).toNat)
        case atStart => exact ⟨0, N, Nat.zero_le _, rfl, Nat.le_refl _, P8, Y8⟩
        case round =>
          obtain ⟨k, N2, hk, rfl, hN2, P9, Y9⟩ := hrel
          clear P8 Y8
          by_cases hltk : k < Y.length
          · obtain ⟨-, b9, off9, rfl, -, hc⟩ := rdi_at Y9.out (by omega)
            obtain ⟨u, hu⟩ : ∃ u, Y[k]? = some u := ⟨_, List.getElem?_eq_getElem hltk⟩
            have d1 := hc k u hu
            have hum : u ∈ nxt R L r z := by rw [HY.out]; exact List.mem_of_getElem? hu
            obtain ⟨hold, hne⟩ := tabI_old HSK.out.1 HR.out hum
            have hub : 1 ≤ u ∧ u ≤ 99 := by
              obtain ⟨d, x, c, -, h4, -⟩ := nxt_step hum
              exact (dst_bd h4).2.1
            have q1 := (P9.out.m.look (x := r) (by unfold I64; omega)).1
            have q2 := (P9.out.m.look (x := u) (by unfold I64; omega)).1
            rw [midF_self _ _ _ HT0.out] at q1
            rw [midF_other _ _ _ _ _ hne, hold] at q2
            have hps := prt_snoc (c := cnt R L z) hu
            have hA := prt_bd (cnt_bd R L z) Y k
            have hB := cnt_bd R L z u
            have hC := prt_bd (cnt_bd R L z) Y (k + 1)
            obtain ⟨w9, hput, hm9, hg9⟩ := P9.out.m.put (x := r) (d := prt (cnt R L z) Y (k + 1)) (by omega) (by unfold I64; omega) (by unfold I64; omega)
            rw [midF_put] at hm9
            have P10 := Lib.hid (P9.out.put hg9 hm9)
            have Y10 := Lib.hid (Y9.out.grown hg9 (fun b hb e => hb (Option.some.inj e)))
            obtain ⟨A, hAA⟩ : ∃ A, prt (cnt R L z) Y k = A := ⟨_, rfl⟩
            obtain ⟨B, hBB⟩ : ∃ B, cnt R L z u = B := ⟨_, rfl⟩
            obtain ⟨C, hCC⟩ : ∃ C, prt (cnt R L z) Y (k + 1) = C := ⟨_, rfl⟩
            simp only [Option.getD_some] at q2
            rw [hAA] at q1 hps hA
            rw [hBB] at q2 hps hB
            rw [hCC] at hput hps hC
            clear hAA hBB hCC hc hu hum hold hne hm9 hg9
            subst hps
            go_wp2_with fail
            exact ⟨⟨k + 1, N2 + 1, by omega, congrArg _ (by omega), by omega, P10, Y10⟩, by simp only [RowKit.intOf]; omega⟩
          · obtain rfl : k = Y.length := by omega
            have hyn : Y.length ≠ 0 := fun e => by
              have h3 := (HSK.out.1.mem r).1 (List.mem_of_getElem? HR.out)
              cases hd : dst R L r z with
              | none => rw [hd] at h3; cases h3
              | some d => exact nxt_ne hd HRZ.out (by rw [HY.out]; exact List.eq_nil_of_length_eq_zero e)
            have hm11 := P9.out.m
            unfold midF at hm11
            rw [if_neg hyn, prt_end HRZ.out HY.out, tabI_next HR.out] at hm11
            have P11 : Hid (PQ w ⟨R, L, pR, cR, pL, cL⟩ z Bx (Bx + 1) (.map mb) ts (some ⟨b, off, none⟩) cs N2 (tabI (cnt R L z) ts (i + 1)) wr) := Lib.hid ⟨P9.out.gb, P9.out.t, P9.out.cv, P9.out.bx, P9.out.ro, hm11, P9.out.gr, P9.out.lt⟩
            clear hm11 hyn P9
            go_wp2_with fail
            exact ⟨⟨i + 1, N2, by omega, congrArg _ (by omega), by omega, P11⟩, by simp only [RowKit.intOf]; omega⟩
    · obtain rfl : i = ts.length := by omega
      have hm12 := P.out.m
      rw [tabI_end HSK.out.1, HX.out] at hm12
      have H12 := Lib.hid (And.intro hm12 (And.intro P.out.lt P.out.gr))
      clear hm12 P
      go_wp2_with fail
      go_ret
      exact ⟨Bx + 1, N, rfl, by have := H12.out.2.1; omega, by omega, H12.out.1, H12.out.2.2⟩
noncomputable def pV (R : List Rt) (L : List Lk) (a z : Int) : Int := if (dst R L a z).isSome = true then cnt R L z a else 0
set_option maxRecDepth 100000 in
theorem cntF_getD (R : List Rt) (L : List Lk) (a z : Int) : (cntF R L z a).getD 0 = pV R L a z := by
  unfold cntF pV
  split <;> rfl
set_option maxRecDepth 100000 in
set_option maxHeartbeats 1600000 in
theorem tpaths_any (T : Tg) (a z : Int) (q : Nat → Prop) (w : World) (hT : TgOk w q T) (h1 : T.R.length ≤ 1000) (h2 : T.L.length ≤ 1000) (hp : T.pL = none → T.cL = 0) (ha : I64 a) :
    Calls Try.prog 19 #[.agg #[.slice T.pR T.R.length T.cR, .slice T.pL T.L.length T.cL], .int .i64 a, .int .i64 z] w fun e w' => e = .returned (.int .i64 (pV T.R T.L a z)) ∧ w.grownBy w' none := by
  obtain ⟨R, L, pR, cR, pL, cL⟩ := T
  simp only at h1 h2 hp ⊢
  obtain ⟨k1, k2⟩ := tone_box w #[.slice pR R.length cR, .slice pL L.length cL] 28
  have HB := Lib.hid (And.intro k1 (And.intro k2 (hT.keep k2)))
  have HA := Lib.hid ha
  clear k1 k2 hT ha
  obtain ⟨c0, c1⟩ := row_cells HB.out.1
  obtain ⟨X, hX⟩ : ∃ X, pV R L a z = X := ⟨_, rfl⟩
  have HX := Lib.hid hX
  rw [hX]
  clear hX
  go_enter Try.func19, Try.ntmps19
  go_wp2_with fail
  refine (tpt_any ⟨R, L, pR, cR, pL, cL⟩ z _ _ HB.out.2.2 h1 h2 hp).mono ?_
  rintro e w1 ⟨b, n, rfl, hb, hn, hm, hg⟩
  have q1 := (hm.look HA.out).1
  rw [cntF_getD] at q1
  simp only at q1
  rw [HX.out] at q1
  have HG := Lib.hid (grown_trans HB.out.2.1 hg)
  clear hm hg c0 c1
  go_wp2_with fail
  go_ret
  exact ⟨rfl, HG.out⟩
end Go.Proofs.Ytlefjdglcdopeaa

/- The example of the laws of shortest: its costs, next routers, paths. -/
namespace Go.Proofs.Ytlefjdglcdopeaa
open Go.RowKit Go.Maps Bs
def shR : List Rt := [⟨1, false⟩, ⟨2, false⟩, ⟨3, false⟩, ⟨4, false⟩]
def shL : List Lk := [⟨1, 2, 1, 1, 0⟩, ⟨1, 3, 1, 1, 0⟩, ⟨2, 4, 1, 1, 0⟩, ⟨3, 4, 1, 1, 0⟩]
def shF (a b c d : Int) : Int → Option Int := fun v => if v = 1 then some a else if v = 2 then some b else if v = 3 then some c else if v = 4 then some d else none
set_option maxRecDepth 100000 in
theorem shF_cases {a b c d v x : Int} (h : shF a b c d v = some x) : (v = 1 ∧ x = a) ∨ (v = 2 ∧ x = b) ∨ (v = 3 ∧ x = c) ∨ (v = 4 ∧ x = d) := by
  unfold shF at h
  by_cases h1 : v = 1
  · rw [if_pos h1] at h; exact .inl ⟨h1, (Option.some.inj h).symm⟩
  · rw [if_neg h1] at h
    by_cases h2 : v = 2
    · rw [if_pos h2] at h; exact .inr (.inl ⟨h2, (Option.some.inj h).symm⟩)
    · rw [if_neg h2] at h
      by_cases h3 : v = 3
      · rw [if_pos h3] at h; exact .inr (.inr (.inl ⟨h3, (Option.some.inj h).symm⟩))
      · rw [if_neg h3] at h
        by_cases h4 : v = 4
        · rw [if_pos h4] at h; exact .inr (.inr (.inr ⟨h4, (Option.some.inj h).symm⟩))
        · rw [if_neg h4] at h; cases h
set_option maxRecDepth 100000 in
theorem sh12 : edg shL 1 2 1 := ⟨⟨1, 2, 1, 1, 0⟩, by simp [shL], .inl ⟨rfl, rfl, rfl⟩⟩
set_option maxRecDepth 100000 in
theorem sh21 : edg shL 2 1 1 := ⟨⟨1, 2, 1, 1, 0⟩, by simp [shL], .inr ⟨rfl, rfl, rfl⟩⟩
set_option maxRecDepth 100000 in
theorem sh13 : edg shL 1 3 1 := ⟨⟨1, 3, 1, 1, 0⟩, by simp [shL], .inl ⟨rfl, rfl, rfl⟩⟩
set_option maxRecDepth 100000 in
theorem sh31 : edg shL 3 1 1 := ⟨⟨1, 3, 1, 1, 0⟩, by simp [shL], .inr ⟨rfl, rfl, rfl⟩⟩
set_option maxRecDepth 100000 in
theorem sh24 : edg shL 2 4 1 := ⟨⟨2, 4, 1, 1, 0⟩, by simp [shL], .inl ⟨rfl, rfl, rfl⟩⟩
set_option maxRecDepth 100000 in
theorem sh34 : edg shL 3 4 1 := ⟨⟨3, 4, 1, 1, 0⟩, by simp [shL], .inl ⟨rfl, rfl, rfl⟩⟩
set_option maxRecDepth 100000 in
theorem sh_closed {a b c d : Int} (h1 : a ≤ b + 1 ∧ b ≤ a + 1) (h2 : a ≤ c + 1 ∧ c ≤ a + 1) (h3 : b ≤ d + 1 ∧ d ≤ b + 1) (h4 : c ≤ d + 1 ∧ d ≤ c + 1) : ∀ u x v e, shF a b c d u = some x → edg shL u v e → ∃ y, shF a b c d v = some y ∧ y ≤ x + e := by
  rintro u x v e hu ⟨l, hl, h⟩
  simp only [shL, List.mem_cons, List.not_mem_nil, or_false] at hl
  have hx := shF_cases hu
  rcases hl with rfl | rfl | rfl | rfl <;> rcases h with ⟨h5, h6, h7⟩ | ⟨h5, h6, h7⟩ <;> simp only at h5 h6 h7 <;> subst h6 <;> refine ⟨_, rfl, ?_⟩ <;> omega
set_option maxRecDepth 100000 in
theorem sh_has (s : Int) (h : hasR shR s = true) : hasV shR shL s = true := by
  unfold hasV
  rw [h, show okT shR shL = true by kernel_rfl]
  rfl
set_option maxRecDepth 100000 in
theorem sh_dst {s a b c d v x : Int} (hs : hasR shR s = true) (h0 : shF a b c d s = some 0) (hw : ∀ v d', shF a b c d v = some d' → Wk shL s v d') (h1 : a ≤ b + 1 ∧ b ≤ a + 1) (h2 : a ≤ c + 1 ∧ c ≤ a + 1) (h3 : b ≤ d + 1 ∧ d ≤ b + 1) (h4 : c ≤ d + 1 ∧ d ≤ c + 1) (hv : shF a b c d v = some x) : dst shR shL s v = some x :=
  dst_some.2 ⟨sh_has s hs, (closed_D h0 hw (sh_closed h1 h2 h3 h4) v x).1 hv⟩
set_option maxRecDepth 100000 in
theorem sw1 : ∀ v d, shF 0 1 1 2 v = some d → Wk shL 1 v d := fun v d h => by
  rcases shF_cases h with ⟨rfl, rfl⟩ | ⟨rfl, rfl⟩ | ⟨rfl, rfl⟩ | ⟨rfl, rfl⟩
  · exact Wk.nil _ _
  · exact (Wk.nil shL 1).step sh12
  · exact (Wk.nil shL 1).step sh13
  · exact ((Wk.nil shL 1).step sh12).step sh24
set_option maxRecDepth 100000 in
theorem sw2 : ∀ v d, shF 1 0 2 1 v = some d → Wk shL 2 v d := fun v d h => by
  rcases shF_cases h with ⟨rfl, rfl⟩ | ⟨rfl, rfl⟩ | ⟨rfl, rfl⟩ | ⟨rfl, rfl⟩
  · exact (Wk.nil shL 2).step sh21
  · exact Wk.nil _ _
  · exact ((Wk.nil shL 2).step sh21).step sh13
  · exact (Wk.nil shL 2).step sh24
set_option maxRecDepth 100000 in
theorem sw3 : ∀ v d, shF 1 2 0 1 v = some d → Wk shL 3 v d := fun v d h => by
  rcases shF_cases h with ⟨rfl, rfl⟩ | ⟨rfl, rfl⟩ | ⟨rfl, rfl⟩ | ⟨rfl, rfl⟩
  · exact (Wk.nil shL 3).step sh31
  · exact ((Wk.nil shL 3).step sh31).step sh12
  · exact Wk.nil _ _
  · exact (Wk.nil shL 3).step sh34
set_option maxRecDepth 100000 in
theorem d11 : dst shR shL 1 1 = some 0 := sh_dst rfl rfl sw1 (by omega) (by omega) (by omega) (by omega) rfl
set_option maxRecDepth 100000 in
theorem d12 : dst shR shL 1 2 = some 1 := sh_dst rfl rfl sw1 (by omega) (by omega) (by omega) (by omega) rfl
set_option maxRecDepth 100000 in
theorem d14 : dst shR shL 1 4 = some 2 := sh_dst rfl rfl sw1 (by omega) (by omega) (by omega) (by omega) rfl
set_option maxRecDepth 100000 in
theorem d24 : dst shR shL 2 4 = some 1 := sh_dst rfl rfl sw2 (by omega) (by omega) (by omega) (by omega) rfl
set_option maxRecDepth 100000 in
theorem d34 : dst shR shL 3 4 = some 1 := sh_dst rfl rfl sw3 (by omega) (by omega) (by omega) (by omega) rfl
set_option maxRecDepth 100000 in
theorem d44 : dst shR shL 4 4 = some 0 := dst_self (sh_has 4 rfl)
set_option maxRecDepth 100000 in
theorem n14 : nxt shR shL 1 4 = [2, 3] := by
  unfold nxt
  rw [nxM_next, show nbD shL 1 = [(2, 1), (3, 1)] from rfl]
  simp [nxM, nxP, d14, d24, d34]
set_option maxRecDepth 100000 in
theorem n24 : nxt shR shL 2 4 = [4] := by
  unfold nxt
  rw [nxM_next, show nbD shL 2 = [(1, 1), (4, 1)] from rfl]
  simp [nxM, nxP, d14, d24, d44]
set_option maxRecDepth 100000 in
theorem n34 : nxt shR shL 3 4 = [4] := by
  unfold nxt
  rw [nxM_next, show nbD shL 3 = [(1, 1), (4, 1)] from rfl]
  simp [nxM, nxP, d14, d34, d44]
set_option maxRecDepth 100000 in
theorem r14 : rtV shR shL 4 1 = [2, 4] := by
  rw [rtV_step (by decide) n14, rtV_step (by decide) n24, rtV_end]
set_option maxRecDepth 100000 in
theorem c24 : cnt shR shL 4 2 = 1 := by
  rw [cnt_rule]
  unfold cntS
  rw [if_neg (by decide)]
  simp [cnt_self, n24]
  decide
set_option maxRecDepth 100000 in
theorem c34 : cnt shR shL 4 3 = 1 := by
  rw [cnt_rule]
  unfold cntS
  rw [if_neg (by decide)]
  simp [cnt_self, n34]
  decide
set_option maxRecDepth 100000 in
theorem p14 : pV shR shL 1 4 = 2 := by
  unfold pV
  rw [d14, if_pos (by rfl), cnt_rule]
  unfold cntS
  rw [if_neg (by decide)]
  simp [n14, c24, c34]
  decide
set_option maxRecDepth 100000 in
theorem u14 : usV shR shL 1 4 1 3 = true := by
  unfold usV psV
  rw [d11, d14, n14]
  rfl
set_option maxRecDepth 100000 in
theorem a14 : avV shR shL 1 4 2 = false := by
  unfold avV psV
  rw [d12, d24, d14]
  rfl
end Go.Proofs.Ytlefjdglcdopeaa

/- topology: Components, the walk. -/
namespace Go.Proofs.Ytlefjdglcdopeaa
open Go.RowKit Bs
/-- What returns lists of numbers that can be read. -/
def TCPost (Cs : List (List Int)) (w : World) (e : Ending) (w' : World) : Prop := ∃ p c vals, e = .returned (.slice p Cs.length c) ∧ Rd w' (w.heap.size ≤ ·) (.slice p Cs.length c) vals ∧ vals.length = Cs.length ∧ (Cs.length ≤ c ∧ c ≤ 9223372036854775807) ∧ (∀ (i : Nat) (C : List Int) (x : Value), Cs[i]? = some C → vals[i]? = some x → CC w' (w.heap.size ≤ ·) x C) ∧ w.grownBy w' none
set_option maxRecDepth 100000 in
theorem info_ints2 : (Try.prog.info? 22).map (fun i => (i.zero, i.size, i.bytes)) = some (some (.slice none 0 0), 1, 24) := by kernel_rfl
end Go.Proofs.Ytlefjdglcdopeaa

/- topology: Connected. -/
namespace Go.Proofs.Ytlefjdglcdopeaa
open Go.RowKit Bs
set_option maxRecDepth 100000 in
theorem rdv_cells {w : World} {q : Nat → Prop} {p : Option Addr} {n c : Nat} {vs : List Value} (h : Rd w q (.slice p n c) vs) (hn : 0 < vs.length) :
    n = vs.length ∧ ∃ b off, p = some ⟨b, off, none⟩ ∧ q b ∧ ∀ i x, vs[i]? = some x → w.cell? ⟨b, off + i, none⟩ = some x := by
  obtain ⟨p1, c1, e1, hx⟩ := h
  injection e1 with a1 a2 a3
  subst a1
  obtain ⟨b, off, hp, hq, hc⟩ := hx (by intro e; rw [e] at hn; exact absurd hn (by decide))
  exact ⟨a2, b, off, hp, hq, hc⟩
/-- A list of lists that can be read. -/
structure CL (w : World) (q : Nat → Prop) (p : Option Addr) (c : Nat) (Cs : List (List Int)) (vals : List Value) : Prop where
  rd : Rd w q (.slice p Cs.length c) vals
  len : vals.length = Cs.length
  cap : Cs.length ≤ c ∧ c ≤ 9223372036854775807
  at_ : ∀ (i : Nat) (C : List Int) (x : Value), Cs[i]? = some C → vals[i]? = some x → CC w q x C
set_option maxRecDepth 100000 in
theorem CL.keep {w w' : World} {q : Nat → Prop} {p : Option Addr} {c : Nat} {Cs : List (List Int)} {vals : List Value} (h : CL w q p c Cs vals) (g : w.grownBy w' none) : CL w' q p c Cs vals :=
  ⟨h.rd.grown g (by simp), h.len, h.cap, fun i C x h1 h2 => by
    obtain ⟨p, c, e, hr, hc⟩ := h.at_ i C x h1 h2
    exact ⟨p, c, e, hr.grown g (by simp), hc⟩⟩
def both (a b : Int) (C : List Int) : Bool := hasI C a && hasI C b
/-- Whether two routers are connected. -/
def conn (R : List Rt) (L : List Lk) (a b : Int) : Bool := (comps R L).any (both a b)
end Go.Proofs.Ytlefjdglcdopeaa

/- topology: Bridges. -/
namespace Go.Proofs.Ytlefjdglcdopeaa
open Go.RowKit Bs
/-- Without the hop of a link. -/
def brF (l : Lk) : Fl := ⟨[⟨l.a, l.b⟩], [], none, 0, none, 0⟩
def isBr (R : List Rt) (L : List Lk) (l : Lk) : Bool := !conn (woR (brF l) R) (woL (brF l) L) l.a l.b
def hopOf (l : Lk) : Hp := ⟨l.a, l.b⟩
def bridges (R : List Rt) (L : List Lk) : List Hp := if okT R L then (L.filter (isBr R L)).map hopOf else []
set_option maxRecDepth 100000 in
theorem bri_take {R : List Rt} {L : List Lk} {k : Nat} {x : Lk} (h : L[k]? = some x) : ((L.take (k + 1)).filter (isBr R L)).map hopOf = ((L.take k).filter (isBr R L)).map hopOf ++ (if isBr R L x then [hopOf x] else []) := by
  rw [filter_snoc h, List.map_append]
  split <;> rfl
/-- While bridges are found. -/
structure BM (w0 : World) (R : List Rt) (L : List Lk) (pR : Option Addr) (cR : Nat) (pL : Option Addr) (cL : Nat) (Hs : List Hp) (va : Value) (w : World) : Prop where
  topo : w.heap[w0.heap.size]? = some (.cells #[.slice pR R.length cR, .slice pL L.length cL] 28 (0, 0))
  ok : TgOk w (· < w0.heap.size) ⟨R, L, pR, cR, pL, cL⟩
  own : w.ownsRow (w0.heap.size + 1) 41 2 va Hs.length (Hs.flatMap hpC)
  size : w0.heap.size + 1 ≤ w.heap.size
  gr : w0.grownBy w none
set_option maxRecDepth 100000 in
theorem BM.keep {w0 w w' : World} {R : List Rt} {L : List Lk} {pR pL : Option Addr} {cR cL : Nat} {Hs : List Hp} {va : Value} (h : BM w0 R L pR cR pL cL Hs va w) (g : w.grownBy w' none) : BM w0 R L pR cR pL cL Hs va w' :=
  ⟨kept_row h.topo g (by simp), h.ok.keep g, h.own.kept g (by cases hv : va.ownBlock <;> simp), Nat.le_trans h.size g.size, grown_trans h.gr g⟩
set_option maxRecDepth 100000 in
theorem BM.app {w0 w w1 : World} {R : List Rt} {L : List Lk} {pR pL : Option Addr} {cR cL : Nat} {Hs : List Hp} {va v' : Value} {x : Hp} {o : Obj} (h : BM w0 R L pR cR pL cL Hs va w)
    (hown : w1.ownsRow (w0.heap.size + 1) 41 2 v' (Hs.length + 1) (Hs.flatMap hpC ++ [.int .i64 x.f, .int .i64 x.t])) (hg : (w.alloc o).grownBy w1 va.ownBlock) : BM w0 R L pR cR pL cL (Hs ++ [x]) v' w1 := by
  have k0 := World.grownBy_alloc w o none
  have hne : ∀ b, b < w0.heap.size + 1 → some b ≠ va.ownBlock := fun b hb e => by
    have := (h.own.lt b e.symm).1
    omega
  have hk := h.keep k0
  refine ⟨kept_row hk.topo hg (hne _ (by omega)), hk.ok.grown hg (fun b hb => hne b (by omega)), ?_, Nat.le_trans hk.size hg.size, grown_any hk.gr hg (fun b hb => hne b (by omega))⟩
  rw [List.length_append, List.flatMap_append]
  exact hown
/-- What returns hops that can be read. -/
def THPost (Hs : List Hp) (w : World) (e : Ending) (w' : World) : Prop := ∃ p c, e = .returned (.slice p Hs.length c) ∧ RdH w' (w.heap.size ≤ ·) (.slice p Hs.length c) Hs ∧ (Hs.length ≤ c ∧ c ≤ 9223372036854775807) ∧ w.grownBy w' none
set_option maxRecDepth 100000 in
theorem BM.ret {w0 w : World} {R : List Rt} {L : List Lk} {pR pL : Option Addr} {cR cL : Nat} {Hs : List Hp} {va : Value} (h : BM w0 R L pR cR pL cL Hs va w) : THPost Hs w0 (.returned va) w := by
  obtain ⟨p, c, rfl, h1, h2⟩ := own_shape h.own
  exact ⟨p, c, rfl, (rdf_of_own2 h.own).mono (fun b hb => by have := hb.1; show _ ≤ b; omega), ⟨h1, h2⟩, h.gr⟩
set_option maxRecDepth 100000 in
theorem fl_one (w : World) (a b : Int) : FlOk (w.alloc (.cells #[.int .i64 a, .int .i64 b] 41)).drew (fun _ => True) ⟨[⟨a, b⟩], [], some ⟨w.heap.size, 0, none⟩, 1, none, 0⟩ := by
  have h0 : (w.alloc (.cells #[.int .i64 a, .int .i64 b] 41)).drew.heap[w.heap.size]? = some (.cells #[.int .i64 a, .int .i64 b] 41 (0, 0)) := heap_alloc_new w _
  obtain ⟨c0, c1⟩ := row_cells h0
  refine ⟨⟨some ⟨w.heap.size, 0, none⟩, 1, rfl, fun _ => ⟨w.heap.size, 0, rfl, trivial, fun i x hi => ?_⟩⟩, ⟨none, 0, rfl, fun h => absurd rfl h⟩, ⟨Nat.le_refl _, by show 1 ≤ _; omega⟩, ⟨Nat.le_refl _, by show 0 ≤ _; omega⟩⟩
  match i, hi with
  | 0, hi =>
    obtain rfl : Value.int .i64 a = x := by simpa [hpC] using hi
    exact c0
  | 1, hi =>
    obtain rfl : Value.int .i64 b = x := by simpa [hpC] using hi
    exact c1
set_option maxRecDepth 100000 in
theorem info_hop : (Try.prog.info? 41).map (fun i => (i.zero, i.size, i.bytes)) = some (some (.agg #[.int .i64 0, .int .i64 0]), 2, 16) := by kernel_rfl
end Go.Proofs.Ytlefjdglcdopeaa

/- topology: Cuts. -/
namespace Go.Proofs.Ytlefjdglcdopeaa
open Go.RowKit Bs
/-- Without a router. -/
def cutF (r : Rt) : Fl := ⟨[], [r.id], none, 0, none, 0⟩
def isCut (R : List Rt) (L : List Lk) (r : Rt) : Bool := decide ((comps R L).length < (comps (woR (cutF r) R) (woL (cutF r) L)).length)
def cuts (R : List Rt) (L : List Lk) : List Int := if okT R L then (R.filter (isCut R L)).map Rt.id else []
set_option maxRecDepth 100000 in
theorem cut_take {R : List Rt} {L : List Lk} {k : Nat} {x : Rt} (h : R[k]? = some x) : ((R.take (k + 1)).filter (isCut R L)).map Rt.id = ((R.take k).filter (isCut R L)).map Rt.id ++ (if isCut R L x then [x.id] else []) := by
  rw [filter_snoc h, List.map_append]
  split <;> rfl
/-- While cuts are found. -/
structure CUM (w0 : World) (R : List Rt) (L : List Lk) (pR : Option Addr) (cR : Nat) (pL : Option Addr) (cL : Nat) (Xs : List Int) (va : Value) (w : World) : Prop where
  topo : w.heap[w0.heap.size]? = some (.cells #[.slice pR R.length cR, .slice pL L.length cL] 28 (0, 0))
  ok : TgOk w (· < w0.heap.size) ⟨R, L, pR, cR, pL, cL⟩
  own : w.ownsRow (w0.heap.size + 1) 3 1 va Xs.length (Xs.map tv)
  size : w0.heap.size + 1 ≤ w.heap.size
  gr : w0.grownBy w none
set_option maxRecDepth 100000 in
theorem CUM.keep {w0 w w' : World} {R : List Rt} {L : List Lk} {pR pL : Option Addr} {cR cL : Nat} {Xs : List Int} {va : Value} (h : CUM w0 R L pR cR pL cL Xs va w) (g : w.grownBy w' none) : CUM w0 R L pR cR pL cL Xs va w' :=
  ⟨kept_row h.topo g (by simp), h.ok.keep g, h.own.kept g (by cases hv : va.ownBlock <;> simp), Nat.le_trans h.size g.size, grown_trans h.gr g⟩
set_option maxRecDepth 100000 in
theorem CUM.app {w0 w w1 : World} {R : List Rt} {L : List Lk} {pR pL : Option Addr} {cR cL : Nat} {Xs : List Int} {va v' : Value} {x : Int} {o : Obj} (h : CUM w0 R L pR cR pL cL Xs va w)
    (hown : w1.ownsRow (w0.heap.size + 1) 3 1 v' (Xs.length + 1) (Xs.map tv ++ [.int .i64 x])) (hg : (w.alloc o).grownBy w1 va.ownBlock) : CUM w0 R L pR cR pL cL (Xs ++ [x]) v' w1 := by
  have k0 := World.grownBy_alloc w o none
  have hne : ∀ b, b < w0.heap.size + 1 → some b ≠ va.ownBlock := fun b hb e => by
    have := (h.own.lt b e.symm).1
    omega
  have hk := h.keep k0
  refine ⟨kept_row hk.topo hg (hne _ (by omega)), hk.ok.grown hg (fun b hb => hne b (by omega)), ?_, Nat.le_trans hk.size hg.size, grown_any hk.gr hg (fun b hb => hne b (by omega))⟩
  rw [List.length_append, List.map_append]
  exact hown
set_option maxRecDepth 100000 in
theorem CUM.ret {w0 w : World} {R : List Rt} {L : List Lk} {pR pL : Option Addr} {cR cL : Nat} {Xs : List Int} {va : Value} (h : CUM w0 R L pR cR pL cL Xs va w) : TRet Xs w0 (.returned va) w := by
  have hr := rd_of_own h.own
  rcases Joins.ownsRow_forms h.own with ⟨e, e0⟩ | ⟨g, cap, e⟩
  · subst e
    obtain rfl := List.eq_nil_of_length_eq_zero e0
    exact ⟨none, 0, rfl, hr.mono (fun b hb => by show _ ≤ b; omega), ⟨Nat.le_refl _, by omega⟩, fun _ => rfl, h.gr⟩
  · subst e
    have := own_cap h.own
    unfold maxLen at this
    exact ⟨_, cap, rfl, hr.mono (fun b hb => by show _ ≤ b; omega), ⟨this.1, by omega⟩, (fun e => by cases e), h.gr⟩
set_option maxRecDepth 100000 in
theorem fl_oneX (w : World) (a : Int) : FlOk (w.alloc (.cells #[.int .i64 a] 3)) (fun _ => True) ⟨[], [a], none, 0, some ⟨w.heap.size, 0, none⟩, 1⟩ := by
  have h0 : (w.alloc (.cells #[.int .i64 a] 3)).heap[w.heap.size]? = some (.cells #[.int .i64 a] 3 (0, 0)) := heap_alloc_new w _
  refine ⟨⟨none, 0, rfl, fun h => absurd rfl h⟩, ⟨some ⟨w.heap.size, 0, none⟩, 1, rfl, fun _ => ⟨w.heap.size, 0, rfl, trivial, fun i x hi => ?_⟩⟩, ⟨Nat.le_refl _, by show 0 ≤ _; omega⟩, ⟨Nat.le_refl _, by show 1 ≤ _; omega⟩⟩
  match i, hi with
  | 0, hi =>
    obtain rfl : tv a = x := by simpa using hi
    rw [cell_of_row _ _ _ _ _ _ h0]; rfl
end Go.Proofs.Ytlefjdglcdopeaa
