/- Parts of the proof, packed: DbIns, DbCop. -/
import Derived.Test.YtnpkihioklpnmaaDo16
import Derived.Test.YtnpkihioklpnmaaDo14
import Derived.Lib.Overlaps
import Derived.Test.YtnpkihioklpnmaaDo6
/- slices.Insert of one advert. -/
namespace Go.Proofs.Ytnpkihioklpnmaa
open Go.RowKit Bs
set_option maxRecDepth 100000 in
theorem alist_eq {xs ys : List Value} (hl : xs.length = ys.length) (h : ∀ j, j < xs.length → xs[j]? = ys[j]?) : xs = ys := by
  apply List.ext_getElem?
  intro j
  by_cases hj : j < xs.length
  · exact h j hj
  · rw [List.getElem?_eq_none (by omega), List.getElem?_eq_none (by omega)]
set_option maxRecDepth 100000 in
theorem ains_get {xs x5 : List Value} {N i : Nat} (hx : xs.length = N * 5) (h5 : x5.length = 5) (hi : i ≤ N) (A : List Value) (hl : A.length = (N + 1) * 5) (ha : ∀ j, j < (N + 1) * 5 → A[j]? = if j < i * 5 then xs[j]? else if j < (i + 1) * 5 then x5[j - i * 5]? else xs[j - 5]?) : A = xs.take (i * 5) ++ x5 ++ xs.drop (i * 5) := by
  refine alist_eq ?_ (fun j hj => ?_)
  · rw [List.length_append, List.length_append, List.length_take, List.length_drop, hl, hx, h5]; omega
  · rw [hl] at hj
    have ht : (xs.take (i * 5)).length = i * 5 := by rw [List.length_take, hx]; omega
    rw [ha j hj]
    by_cases h1 : j < i * 5
    · rw [if_pos h1, List.append_assoc, List.getElem?_append_left (by omega), List.getElem?_take_of_lt h1]
    · rw [if_neg h1]
      by_cases h2 : j < (i + 1) * 5
      · rw [if_pos h2, List.append_assoc, List.getElem?_append_right (by omega), ht, List.getElem?_append_left (by omega)]
      · rw [if_neg h2, List.getElem?_append_right (by rw [List.length_append, ht, h5]; omega), List.length_append, ht, h5, List.getElem?_drop]
        congr 1
        omega
section
variable {Z xs x5 : List Value} {N i : Nat} (hx : xs.length = N * 5) (h5 : x5.length = 5) (hz : Z.length = (N + 1) * 5) (hi : i ≤ N) (hpre : ∀ j, j < i * 5 → Z[j]? = xs[j]?)
include hx h5 hz hi hpre
set_option maxRecDepth 100000 in
theorem ains_cells1 : setAt (setAt Z (i * 5) x5) ((i + 1) * 5) (xs.drop (i * 5)) = xs.take (i * 5) ++ x5 ++ xs.drop (i * 5) := by
  have hd : (xs.drop (i * 5)).length = N * 5 - i * 5 := by rw [List.length_drop, hx]
  refine ains_get hx h5 hi _ (by rw [setAt_len, setAt_len, hz]) (fun j hj => ?_)
  rw [setAt_get _ _ _ _ (by rw [setAt_len, hd, hz]; omega), setAt_get _ _ _ _ (by rw [h5, hz]; omega), hd, h5, List.getElem?_drop]
  by_cases h1 : j < i * 5
  · rw [if_neg (by omega), if_neg (by omega), if_pos h1, hpre j h1]
  · by_cases h2 : j < (i + 1) * 5
    · rw [if_neg (by omega), if_pos (by omega), if_neg h1, if_pos h2]
    · rw [if_pos (by omega), if_neg h1, if_neg h2]
      congr 1
      omega
set_option maxRecDepth 100000 in
theorem ains_cells2 : setAt (setAt Z ((i + 1) * 5) (xs.drop (i * 5))) (i * 5) x5 = xs.take (i * 5) ++ x5 ++ xs.drop (i * 5) := by
  have hd : (xs.drop (i * 5)).length = N * 5 - i * 5 := by rw [List.length_drop, hx]
  refine ains_get hx h5 hi _ (by rw [setAt_len, setAt_len, hz]) (fun j hj => ?_)
  rw [setAt_get _ _ _ _ (by rw [setAt_len, h5, hz]; omega), setAt_get _ _ _ _ (by rw [hd, hz]; omega), hd, h5, List.getElem?_drop]
  by_cases h1 : j < i * 5
  · rw [if_neg (by omega), if_neg (by omega), if_pos h1, hpre j h1]
  · by_cases h2 : j < (i + 1) * 5
    · rw [if_pos (by omega), if_neg h1, if_pos h2]
    · rw [if_neg (by omega), if_pos (by omega), if_neg h1, if_neg h2]
      congr 1
      omega
end
set_option maxRecDepth 100000 in
theorem ablk_lt' {w : World} {b : Nat} {o : Obj} (h : w.heap[b]? = some o) : b < w.heap.size := by
  rcases Nat.lt_or_ge b w.heap.size with h1 | h1
  · exact h1
  · rw [Array.getElem?_eq_none h1] at h
    cases h
set_option maxRecDepth 100000 in
/-- The cells of a list with one element more. -/
theorem insA_flat (L : List Ad) (x : Ad) (i : Nat) : (L.take i ++ x :: L.drop i).flatMap adL = (L.flatMap adL).take (i * 5) ++ adL x ++ (L.flatMap adL).drop (i * 5) := by
  rw [List.flatMap_append, List.flatMap_cons, flat_take adL 5 (fun _ => rfl), flat_drop adL 5 (fun _ => rfl), List.append_assoc]
/-- What Insert leaves. -/
def InsPA (L' : List Ad) (base : Nat) (v : Value) (w : World) (e : Ending) (w' : World) : Prop :=
  ∃ g cap N og, N = L'.length ∧ e = .returned (.slice (some ⟨g, 0, none⟩) N cap) ∧ w'.ownsRow base 38 5 (.slice (some ⟨g, 0, none⟩) N cap) N (L'.flatMap adL) ∧ w.grownBy w' og ∧ (og = v.ownBlock ∨ og = some w.heap.size) ∧ (v.ownBlock = some g ∨ g = w.heap.size)
set_option maxRecDepth 100000 in
/-- The one advert that is put in. -/
theorem insA_src {w : World} {gx : Nat} {x : Ad} (h : w.heap[gx]? = some (.cells #[.int .i64 x.r, .int .i64 x.q, .bool x.cp, .slice x.pL x.L.length x.cL, .slice x.pC x.C.length x.cC] 38 (0, 0))) : ∀ j u, (adL x)[j]? = some u → w.cell? ((⟨gx, 0, none⟩ : Addr).add j) = some u := by
  intro j u hj
  rw [add_plain, Nat.zero_add, cell_of_row _ _ _ _ _ _ h]
  simpa [adL] using hj
set_option maxRecDepth 100000 in
set_option maxHeartbeats 3200000 in
/-- .. at the end. -/
theorem dinsA_any (L : List Ad) (x : Ad) (base gx cx : Nat) (p : Option Addr) (cap : Nat) (w : World) (h : w.ownsRow base 38 5 (.slice p L.length cap) L.length (L.flatMap adL)) (hx : w.heap[gx]? = some (.cells #[.int .i64 x.r, .int .i64 x.q, .bool x.cp, .slice x.pL x.L.length x.cL, .slice x.pC x.C.length x.cC] 38 (0, 0))) (hm : L.length ≤ 1000) (hb : base ≤ w.heap.size) :
    Calls Try.prog 89 #[.slice p L.length cap, .int .i64 (L.length : Int), .slice (some ⟨gx, 0, none⟩) 1 cx] w fun e w' => InsPA (L ++ [x]) base (.slice p L.length cap) w e w' := by
  obtain ⟨il, hil, hl0, hl1, hl2⟩ := info_parts info_ad5
  have hcap : L.length ≤ cap ∧ cap ≤ 9223372036854775807 := by
    obtain ⟨p', c', e, k1, k2⟩ := own_shape h
    injection e with e1 e2 e3
    subst e3
    exact ⟨k1, k2⟩
  have H := Lib.hid h
  have HX := Lib.hid hx
  obtain ⟨N, hN⟩ : ∃ N, L.length = N := ⟨_, rfl⟩
  rw [hN] at hm hcap H ⊢
  have HN := Lib.hid hN
  clear h hx hN
  by_cases hcn : cap = N
  · subst hcn
    go_enter Try.func89, Try.ntmps89
    go_upto_region 7 with fail
    go_wp2_with (at_builtin; refine wpList_append_lies _ rfl _ _ 23 rfl base 38 il (.agg #[.int .i64 0, .int .i64 0, .bool false, .slice none 0 0, .slice none 0 0]) 5 72 Try.underlying23 hil hl0 hl1 hl2 rfl (by decide) (.slice p cap cap) cap (L.flatMap adL) rfl H.out ⟨gx, 0, none⟩ 1 cx (adL x) rfl rfl (insA_src HX.out) (ad_one x) (by decide) (by unfold maxLen; omega) (by omega) hb _ rfl ?_)
    intro g cap' w9 hown hgrow hat hlt9
    have HG : Hid (InsPA (L ++ [x]) base (.slice p cap cap) w (.returned (.slice (some ⟨g, 0, none⟩) (cap + 1) cap')) w9) := Lib.hid ⟨g, cap', cap + 1, _, by rw [List.length_append, HN.out]; rfl, rfl, by rw [List.flatMap_append, List.flatMap_singleton]; exact hown, hgrow, Or.inl rfl, hat⟩
    clear hown hgrow hat hlt9
    go_wp2_with fail
    go_ret
    exact HG.out
  · go_enter Try.func89, Try.ntmps89
    go_upto_region 7 with fail
    go_wp2_with (at_builtin; refine wpList_append_lies _ rfl _ _ 23 rfl base 38 il (.agg #[.int .i64 0, .int .i64 0, .bool false, .slice none 0 0, .slice none 0 0]) 5 72 Try.underlying23 hil hl0 hl1 hl2 rfl (by decide) (.slice p N cap) N (L.flatMap adL) rfl H.out ⟨gx, 0, none⟩ 1 cx (adL x) rfl rfl (insA_src HX.out) (ad_one x) (by decide) (by unfold maxLen; omega) (by omega) hb _ rfl ?_)
    intro g cap' w9 hown hgrow hat hlt9
    have HG : Hid (InsPA (L ++ [x]) base (.slice p N cap) w (.returned (.slice (some ⟨g, 0, none⟩) (N + 1) cap')) w9) := Lib.hid ⟨g, cap', N + 1, _, by rw [List.length_append, HN.out]; rfl, rfl, by rw [List.flatMap_append, List.flatMap_singleton]; exact hown, hgrow, Or.inl rfl, hat⟩
    clear hown hgrow hat hlt9
    go_wp2_with fail
    go_ret
    exact HG.out
set_option maxRecDepth 100000 in
set_option maxHeartbeats 3200000 in
/-- .. where there is no room. -/
theorem dinsB_any (L : List Ad) (x : Ad) (base gx cx g cap i : Nat) (w : World) (h : w.ownsRow base 38 5 (.slice (some ⟨g, 0, none⟩) L.length cap) L.length (L.flatMap adL)) (hx : w.heap[gx]? = some (.cells #[.int .i64 x.r, .int .i64 x.q, .bool x.cp, .slice x.pL x.L.length x.cL, .slice x.pC x.C.length x.cC] 38 (0, 0))) (hm : L.length ≤ 1000) (hb : base ≤ w.heap.size) (hi : i < L.length) (hfull : cap < L.length + 1) :
    Calls Try.prog 89 #[.slice (some ⟨g, 0, none⟩) L.length cap, .int .i64 (i : Int), .slice (some ⟨gx, 0, none⟩) 1 cx] w fun e w' => InsPA (L.take i ++ x :: L.drop i) base (.slice (some ⟨g, 0, none⟩) L.length cap) w e w' := by
  obtain ⟨ii, hii, hi0, hi1, hi2⟩ := info_parts info_ad5
  have hcap : L.length ≤ cap ∧ cap ≤ 9223372036854775807 := by
    obtain ⟨p', c', e, k1, k2⟩ := own_shape h
    injection e with e1 e2 e3
    subst e3
    exact ⟨k1, k2⟩
  have hglt : g < w.heap.size := (h.lt g rfl).2
  have hgxlt := ablk_lt' hx
  obtain ⟨N, hN⟩ : ∃ N, L.length = N := ⟨_, rfl⟩
  have hlf := flat_len adL 5 adL_len L
  rw [hN] at h hm hcap hi hfull hlf ⊢
  have HN := Lib.hid hN
  obtain ⟨xs, hxs⟩ : ∃ xs, L.flatMap adL = xs := ⟨_, rfl⟩
  have HXS := Lib.hid (And.intro hxs (show xs.length = N * 5 by rw [← hxs]; exact hlf))
  rw [hxs] at h
  have htl : (xs.take (i * 5)).length = i * 5 := by rw [List.length_take, HXS.out.2]; omega
  have hdl : (xs.drop (i * 5)).length = (N - i) * 5 := by rw [List.length_drop, HXS.out.2]; omega
  have hone : ∀ u ∈ xs, u.oneCell' = true := fun u hu => by
    rw [← hxs] at hu
    obtain ⟨y, -, hy⟩ := List.mem_flatMap.1 hu
    exact ad_one y u hy
  -- the new row
  obtain ⟨gc, hgc⟩ : ∃ gc, grownCap w (N + 1) cap 38 = gc := ⟨_, rfl⟩
  have hgc1 : N + 1 ≤ gc := by rw [← hgc]; exact grownCap_ge _ _ _ _
  have hgc2 : gc ≤ 9223372036854775807 := by rw [← hgc]; exact grownCap_le_maxLen _ _ _ _ (by unfold maxLen; omega)
  obtain ⟨zz, hzz⟩ : ∃ zz : Value, zz = .agg #[.int .i64 0, .int .i64 0, .bool false, .slice none 0 0, .slice none 0 0] := ⟨_, rfl⟩
  rw [← hzz] at hi0
  have hzs : zz.cells.size = 5 := by rw [hzz]; rfl
  obtain ⟨cur, hcur⟩ : ∃ cur, (xs.take (i * 5)).toArray ++ Builtin.zeroCells zz.cells (N + 1 - i) ++ Builtin.zeroCells zz.cells (gc - (N + 1)) = cur := ⟨_, rfl⟩
  have hcs : cur.size = gc * 5 := by
    rw [← hcur, Array.size_append, Array.size_append, size_zeroCells, size_zeroCells, hzs, List.size_toArray, htl]
    omega
  obtain ⟨w1, hw1⟩ : ∃ w1, w.drew.alloc (.cells cur 38) = w1 := ⟨_, rfl⟩
  obtain ⟨B, hB⟩ : ∃ B, w.heap.size = B := ⟨_, rfl⟩
  have hg1 : w.grownBy w1 none := by rw [← hw1]; exact grown_trans (grown_drew (grown_refl _ _)) (World.grownBy_alloc _ _ _)
  have hrun : ∀ ty, (Builtin.append_ #[23, 3] ty #[.slice (some ⟨g, 0, none⟩) i cap, .int .i64 ((N : Int) + 1 - (i : Int))]).run Try.prog w = .ok (.slice (some ⟨B, 0, none⟩) (N + 1) gc) w1 := fun ty => by
    have hr := run_append_zeros_k Try.underlying23 hii w 3 ty Try.underlying3 zz hi0 (by omega) ⟨g, 0, none⟩ i cap (xs.take (i * 5)) (by rw [hi1]; exact htl) (fun j v hj => by
      have hjl : j < i * 5 := by rw [← htl]; exact (List.getElem?_eq_some_iff.1 hj).1
      rw [List.getElem?_take_of_lt hjl] at hj
      exact h.cells (g := g) rfl _ v hj) (N + 1 - i) (by omega) (by omega) (by omega) (by omega)
    rw [show i + (N + 1 - i) = N + 1 by omega, hgc, hcur, hw1, hB, show ((N + 1 - i : Nat) : Int) = (N : Int) + 1 - (i : Int) by omega] at hr
    exact hr
  have hnew : w1.heap[B]? = some (.cells cur 38 (0, 0)) := by
    rw [← hw1, ← hB]
    exact heap_alloc_new w.drew _
  obtain ⟨Z, hZ⟩ : ∃ Z, cur.toList.take ((N + 1) * 5) = Z := ⟨_, rfl⟩
  have hZl : Z.length = (N + 1) * 5 := by
    rw [← hZ, List.length_take, Array.length_toList, hcs]
    omega
  have hZp : ∀ j, j < i * 5 → Z[j]? = xs[j]? := fun j hj => by
    rw [← hZ, ← hcur, List.getElem?_take_of_lt (by omega)]
    simp only [Array.toList_append, List.append_assoc]
    rw [List.getElem?_append_left (by omega), List.getElem?_take_of_lt hj]
  have hown1 : w1.ownsRow base 38 5 (.slice (some ⟨B, 0, none⟩) (N + 1) gc) (N + 1) Z := ⟨hZl, .inr ⟨B, gc, cur, rfl, by omega, hnew, hgc1, hgc2, hcs, hZ⟩⟩
  -- the copies
  have hx1 : w1.heap[gx]? = some (.cells #[.int .i64 x.r, .int .i64 x.q, .bool x.cp, .slice x.pL x.L.length x.cL, .slice x.pC x.C.length x.cC] 38 (0, 0)) := kept_row hx hg1 (by simp)
  have hcp1 : ∀ ty, (Builtin.copy_ #[23, 23] ty #[.slice (some ⟨B, i * 5, none⟩) (N + 1 - i) (gc - i), .slice (some ⟨gx, 0, none⟩) 1 cx]).run Try.prog w1 = .ok (goInt 1) (w1.setCells B (i * 5) (adL x)) := fun ty =>
    run_copy_k Try.underlying23 hii w1 ty B (i * 5) _ _ ⟨gx, 0, none⟩ 1 cx (adL x) 1 (by simp only [Nat.min_def]; split <;> omega) (by rw [hi1]; rfl) (insA_src hx1)
      (fun j hj => (own_cellOk hown1 _ (by have : (adL x).length = 5 := rfl; omega)).1) (fun j hj => (own_cellOk hown1 _ (by have : (adL x).length = 5 := rfl; omega)).2) (ad_one x)
  obtain ⟨s1, s2⟩ := own_setCells (adL x) (i * 5) w1 _ hown1
  obtain ⟨w2, hw2⟩ : ∃ w2, w1.setCells B (i * 5) (adL x) = w2 := ⟨_, rfl⟩
  rw [hw2] at hcp1 s1 s2
  have hr2 : w2.drew.ownsRow base 38 5 (.slice (some ⟨g, 0, none⟩) N cap) N xs := (((h.kept hg1 (.inr (by simp [Value.ownBlock]))).kept s2 (.inr (fun e => by have h9 : g = B := Option.some.inj e; omega)))).drew
  have hcp2 : ∀ ty dc sc, (Builtin.copy_ #[23, 23] ty #[.slice (some ⟨B, (i + 1) * 5, none⟩) (N - i) dc, .slice (some ⟨g, i * 5, none⟩) (N - i) sc]).run Try.prog w2.drew = .ok (goInt (N - i : Nat)) (w2.drew.setCells B ((i + 1) * 5) (xs.drop (i * 5))) := fun ty dc sc =>
    run_copy_k Try.underlying23 hii w2.drew ty B ((i + 1) * 5) _ _ ⟨g, i * 5, none⟩ (N - i) sc (xs.drop (i * 5)) (N - i) (by simp only [Nat.min_def]; split <;> omega) (by rw [hi1]; exact hdl) (fun j v hj => by
      rw [add_plain]
      rw [List.getElem?_drop] at hj
      have := hr2.cells (g := g) rfl _ v hj
      rw [add_plain, Nat.zero_add] at this
      exact this)
      (fun j hj => (own_cellOk s1.drew _ (by omega)).1) (fun j hj => (own_cellOk s1.drew _ (by omega)).2) (fun u hu => hone u (List.mem_of_mem_drop hu))
  obtain ⟨t1, t2⟩ := own_setCells (xs.drop (i * 5)) ((i + 1) * 5) w2.drew _ s1.drew
  obtain ⟨w3, hw3⟩ : ∃ w3, w2.drew.setCells B ((i + 1) * 5) (xs.drop (i * 5)) = w3 := ⟨_, rfl⟩
  rw [hw3] at hcp2 t1 t2
  rw [ains_cells1 HXS.out.2 rfl hZl (by omega) hZp, ← HXS.out.1, ← insA_flat] at t1
  have H9 := Lib.hid hrun
  have H10 := Lib.hid hcp1
  have H11 := Lib.hid hcp2
  have HG : Hid (InsPA (L.take i ++ x :: L.drop i) base (.slice (some ⟨g, 0, none⟩) N cap) w (.returned (.slice (some ⟨B, 0, none⟩) (N + 1) gc)) w3) := Lib.hid ⟨B, gc, N + 1, some B, by rw [List.length_append, List.length_cons, List.length_take, List.length_drop, HN.out]; omega, rfl, t1, grown_trans (grown_none hg1 _) (grown_trans s2 (grown_trans (grown_drew (grown_refl _ _)) t2)), Or.inr (by rw [hB]), Or.inr hB.symm⟩
  have n1 : ((i : Int) == (N : Int)) = false := by rw [beq_eq_false_iff_ne]; omega
  have n2 : (cap : Int) < (N : Int) + 1 := by omega
  have n3 : i ≤ cap := by omega
  have n4 : (i : Int) ≤ (N : Int) := by omega
  have n5 : ¬ cap = i := by omega
  have n6 : ¬ gc = i := by omega
  have n7 : ¬ gc = i + 1 := by omega
  have n8 : (i : Int) + 1 ≤ (N : Int) + 1 := by omega
  have n9 : (i : Int) ≤ (N : Int) + 1 := by omega
  have n10 : (i : Int) ≤ (cap : Int) := by omega
  have n11 : (0 : Int) ≤ (i : Int) + 1 := by omega
  have u1 : IntKind.i64.wrap ((i : Int) + 1) = (i : Int) + 1 := by rw [IntKind.wrap_i64]; omega
  have u2 : ((i : Int) + 1).toNat = i + 1 := by omega
  clear hrun hcp1 hcp2 t1 t2 s1 s2 hw1 hw2 hw3 h hone hdl htl hlf hxs hN hZp hZl hZ hown1 hnew hcur hcs hzs hi0 hzz hr2 hx hx1 hgc hgc1 hfull
  go_enter Try.func89, Try.ntmps89
  go_upto_region 9 with fail
  go_wp2_with (first | (refine wpList_append_runC rfl _ _ 23 3 rfl _ _ rfl rfl (H9.out _) ?_) | (refine wpList_copy_run rfl _ _ 23 23 rfl _ _ rfl rfl (H10.out _) ?_))
  go_upto_region 11 with fail
  refine wp_region_held_drew (S := fun _ => True) (by kernel_rfl) (trivial) (fun hHeld => ?_)
  refine wpAnyH_take (i := 0) (oi := { dst := some 46, op := Op.move (Operand.tmp 9), type := 23, pos := "slices.go:154", after := #[], guard := none }) (v := ?_) rfl (by kernel_rfl) (by kernel_rfl) (by kernel_rfl) (fun _ _ _ h => h) (Or.inl ⟨by rfl, ?_⟩) hHeld ?_
  rotate_left 1
  · intro u hSu
    go_simp
    first | done | with_reducible rfl
  (try simp only [Act.put, List.setIfInBounds_toArray, List.set_cons_zero, List.set_cons_succ])
  refine wpAnyH_take (i := 1) (oi := { dst := some 47, op := Op.move (Operand.tmp 1), type := 3, pos := "slices.go:154", after := #[], guard := none }) (v := ?_) rfl (by kernel_rfl) (by kernel_rfl) (by kernel_rfl) (fun _ _ _ h => h) (Or.inl ⟨by rfl, ?_⟩) hHeld ?_
  rotate_left 1
  · intro u hSu
    go_simp
    first | done | with_reducible rfl
  (try simp only [Act.put, List.setIfInBounds_toArray, List.set_cons_zero, List.set_cons_succ])
  refine wpAnyH_take (i := 2) (oi := { dst := some 48, op := Op.move (Operand.tmp 7), type := 3, pos := "slices.go:154", after := #[], guard := none }) (v := ?_) rfl (by kernel_rfl) (by kernel_rfl) (by kernel_rfl) (fun _ _ _ h => h) (Or.inl ⟨by rfl, ?_⟩) hHeld ?_
  rotate_left 1
  · intro u hSu
    go_simp
    first | done | with_reducible rfl
  (try simp only [Act.put, List.setIfInBounds_toArray, List.set_cons_zero, List.set_cons_succ])
  refine wpAnyH_take (i := 3) (oi := { dst := some 49, op := Op.binOp BinOp.add 3 (Operand.tmp 47) (Operand.tmp 48) 3, type := 3, pos := "slices.go:154", after := #[{ on := 1, ground := Ground.data }, { on := 2, ground := Ground.data }], guard := none }) (v := ?_) rfl (by kernel_rfl) (by kernel_rfl) (by kernel_rfl) (fun _ _ _ h => h) (Or.inl ⟨by rfl, ?_⟩) hHeld ?_
  rotate_left 1
  · intro u hSu
    go_simp
    first | done | with_reducible rfl
  (try simp only [Act.put, List.setIfInBounds_toArray, List.set_cons_zero, List.set_cons_succ])
  refine wpAnyH_take (i := 4) (oi := { dst := some 50, op := Op.slice 23 (Operand.tmp 46) (some (Operand.tmp 49)) none none, type := 23, pos := "slices.go:154", after := #[{ on := 0, ground := Ground.data }, { on := 3, ground := Ground.data }], guard := none }) (v := ?_) rfl (by kernel_rfl) (by kernel_rfl) (by kernel_rfl) (fun _ _ _ h => h) (Or.inl ⟨by rfl, ?_⟩) hHeld ?_
  rotate_left 1
  · intro u hSu
    go_simp
    first | done | with_reducible rfl
  (try simp only [Act.put, List.setIfInBounds_toArray, List.set_cons_zero, List.set_cons_succ])
  refine wpAnyH_take (i := 5) (oi := { dst := some 51, op := Op.move (Operand.tmp 0), type := 23, pos := "slices.go:154", after := #[], guard := none }) (v := ?_) rfl (by kernel_rfl) (by kernel_rfl) (by kernel_rfl) (fun _ _ _ h => h) (Or.inl ⟨by rfl, ?_⟩) hHeld ?_
  rotate_left 1
  · intro u hSu
    go_simp
    first | done | with_reducible rfl
  (try simp only [Act.put, List.setIfInBounds_toArray, List.set_cons_zero, List.set_cons_succ])
  refine wpAnyH_take (i := 6) (oi := { dst := some 52, op := Op.move (Operand.tmp 1), type := 3, pos := "slices.go:154", after := #[], guard := none }) (v := ?_) rfl (by kernel_rfl) (by kernel_rfl) (by kernel_rfl) (fun _ _ _ h => h) (Or.inl ⟨by rfl, ?_⟩) hHeld ?_
  rotate_left 1
  · intro u hSu
    go_simp
    first | done | with_reducible rfl
  (try simp only [Act.put, List.setIfInBounds_toArray, List.set_cons_zero, List.set_cons_succ])
  refine wpAnyH_take (i := 7) (oi := { dst := some 53, op := Op.slice 23 (Operand.tmp 51) (some (Operand.tmp 52)) none none, type := 23, pos := "slices.go:154", after := #[{ on := 5, ground := Ground.data }, { on := 6, ground := Ground.data }], guard := none }) (v := ?_) rfl (by kernel_rfl) (by kernel_rfl) (by kernel_rfl) (fun _ _ _ h => h) (Or.inl ⟨by rfl, ?_⟩) hHeld ?_
  rotate_left 1
  · intro u hSu
    go_simp
    first | done | with_reducible rfl
  (try simp only [Act.put, List.setIfInBounds_toArray, List.set_cons_zero, List.set_cons_succ])
  refine wpAnyH_ready (rs := [8]) (by kernel_rfl) (by simp) ?_
  refine AllReadyH.cons (o := { dst := some 54, op := Op.call { callee := Callee.builtin Builtin.copy, args := #[Operand.tmp 50, Operand.tmp 53], argTypes := #[23, 23] }, type := 3, pos := "slices.go:154", after := #[{ on := 4, ground := Ground.data }, { on := 7, ground := Ground.data }], guard := none }) rfl (fun Kz hK => ?_) AllReadyH.nil
  refine step_copy_run rfl _ _ _ _ rfl _ _ rfl rfl (H11.out _ _ _) ?_
  refine hK.out _ _ (trivial) (fun hH2 => ?_)
  clear hK Kz hHeld
  have hHeld := hH2
  clear hH2
  (try simp only [Act.put, List.setIfInBounds_toArray, List.set_cons_zero, List.set_cons_succ])
  refine wpAnyH_done (by kernel_rfl) ?_ _
  clear hHeld
  go_wp2_with fail
  go_ret
  exact HG.out

set_option maxRecDepth 100000 in
set_option maxHeartbeats 3200000 in
/-- .. in place. -/
theorem dinsC_any (L : List Ad) (x : Ad) (base gx cx g cap i : Nat) (w : World) (h : w.ownsRow base 38 5 (.slice (some ⟨g, 0, none⟩) L.length cap) L.length (L.flatMap adL)) (hx : w.heap[gx]? = some (.cells #[.int .i64 x.r, .int .i64 x.q, .bool x.cp, .slice x.pL x.L.length x.cL, .slice x.pC x.C.length x.cC] 38 (0, 0))) (hm : L.length ≤ 1000) (hne : gx ≠ g) (hi : i < L.length) (hroom : L.length + 1 ≤ cap) :
    Calls Try.prog 89 #[.slice (some ⟨g, 0, none⟩) L.length cap, .int .i64 (i : Int), .slice (some ⟨gx, 0, none⟩) 1 cx] w fun e w' => InsPA (L.take i ++ x :: L.drop i) base (.slice (some ⟨g, 0, none⟩) L.length cap) w e w' := by
  obtain ⟨ii, hii, hi0, hi1, hi2⟩ := info_parts info_ad5
  have hcap : L.length ≤ cap ∧ cap ≤ 9223372036854775807 := by
    obtain ⟨p', c', e, k1, k2⟩ := own_shape h
    injection e with e1 e2 e3
    subst e3
    exact ⟨k1, k2⟩
  have hglt := h.lt g rfl
  obtain ⟨N, hN⟩ : ∃ N, L.length = N := ⟨_, rfl⟩
  have hlf := flat_len adL 5 adL_len L
  rw [hN] at h hm hcap hi hroom hlf ⊢
  have HN := Lib.hid hN
  obtain ⟨xs, hxs⟩ : ∃ xs, L.flatMap adL = xs := ⟨_, rfl⟩
  have HXS := Lib.hid (And.intro hxs (show xs.length = N * 5 by rw [← hxs]; exact hlf))
  rw [hxs] at h
  have hdl : (xs.drop (i * 5)).length = (N - i) * 5 := by rw [List.length_drop, HXS.out.2]; omega
  have hone : ∀ u ∈ xs, u.oneCell' = true := fun u hu => by
    rw [← hxs] at hu
    obtain ⟨y, -, hy⟩ := List.mem_flatMap.1 hu
    exact ad_one y u hy
  obtain ⟨Z, hZ, hown1⟩ := own_len h (N + 1) hroom
  rw [Nat.min_eq_left (by omega)] at hZ
  have hZl : Z.length = (N + 1) * 5 := hown1.1
  have hZp : ∀ j, j < i * 5 → Z[j]? = xs[j]? := fun j hj => by
    rw [← List.getElem?_take_of_lt (l := Z) (show j < N * 5 by omega), hZ, List.getElem?_take_of_lt (by omega)]
  have hov : ∀ lb cb, (callFunc 120 #[.slice (some ⟨gx, 0, none⟩) 1 cx, .slice (some ⟨g, (i + 1) * 5, none⟩) lb cb]).run Try.prog w = .ok (.value (.bool false)) w := fun lb cb => by
    obtain ⟨cur, hg⟩ : ∃ cur, w.heap[g]? = some (.cells cur 38 (0, 0)) ∧ cur.size ≠ 0 := by
      rcases h.2 with ⟨e1, _⟩ | ⟨g', cap', cur, e1, hb, hg, hn, hcm, hcs, ht⟩
      · cases e1
      · injection e1 with e2 e3 e4
        injection e2 with e2
        injection e2 with e5 e6
        subst e5
        exact ⟨cur, hg, by omega⟩
    rw [run_callFunc_extern Try.func120 (by kernel_rfl) (by kernel_rfl) (by kernel_rfl) (e := Extern.SlicesOverlaps.overlaps #[23, 23] #[4]) (by kernel_rfl),
      Lib.run_overlaps_apart w 23 4 38 Try.underlying23 5 (fun w => by simp [sizeOf, typeInfo, hii, hi1]) ⟨gx, 0, none⟩ ⟨g, (i + 1) * 5, none⟩ 1 cx lb cb hne 38 38 5 cur.size (by simp [World.shape?, hx]) (by simp [World.shape?, hg.1]) hg.2 (frozen_of_row _ _ 0 _ _ hx) (frozen_of_row _ _ 5 _ _ hx)]
    rfl
  have hcp1 : ∀ ty dc sc, (Builtin.copy_ #[23, 23] ty #[.slice (some ⟨g, (i + 1) * 5, none⟩) (N - i) dc, .slice (some ⟨g, i * 5, none⟩) (N + 1 - i) sc]).run Try.prog w.drew = .ok (goInt (N - i : Nat)) (w.drew.setCells g ((i + 1) * 5) (xs.drop (i * 5))) := fun ty dc sc =>
    run_copy_k Try.underlying23 hii w.drew ty g ((i + 1) * 5) _ _ ⟨g, i * 5, none⟩ (N + 1 - i) sc (xs.drop (i * 5)) (N - i) (by simp only [Nat.min_def]; split <;> omega) (by rw [hi1]; exact hdl) (fun j v hj => by
      rw [add_plain]
      rw [List.getElem?_drop] at hj
      have := h.drew.cells (g := g) rfl _ v hj
      rw [add_plain, Nat.zero_add] at this
      exact this)
      (fun j hj => (own_cellOk h.drew _ (by omega)).1) (fun j hj => (own_cellOk h.drew _ (by omega)).2) (fun u hu => hone u (List.mem_of_mem_drop hu))
  obtain ⟨s1, s2⟩ := own_setCells (xs.drop (i * 5)) ((i + 1) * 5) w.drew _ hown1.drew
  obtain ⟨w2, hw2⟩ : ∃ w2, w.drew.setCells g ((i + 1) * 5) (xs.drop (i * 5)) = w2 := ⟨_, rfl⟩
  rw [hw2] at hcp1 s1 s2
  have hg2 : w.grownBy w2 (some g) := grown_trans (grown_drew (grown_refl _ _)) s2
  have hx2 : w2.heap[gx]? = some (.cells #[.int .i64 x.r, .int .i64 x.q, .bool x.cp, .slice x.pL x.L.length x.cL, .slice x.pC x.C.length x.cC] 38 (0, 0)) := kept_row hx hg2 (fun e => hne (Option.some.inj e))
  have hcp2 : ∀ ty dc, (Builtin.copy_ #[23, 23] ty #[.slice (some ⟨g, i * 5, none⟩) (N + 1 - i) dc, .slice (some ⟨gx, 0, none⟩) 1 cx]).run Try.prog w2 = .ok (goInt 1) (w2.setCells g (i * 5) (adL x)) := fun ty dc =>
    run_copy_k Try.underlying23 hii w2 ty g (i * 5) _ _ ⟨gx, 0, none⟩ 1 cx (adL x) 1 (by simp only [Nat.min_def]; split <;> omega) (by rw [hi1]; rfl) (insA_src hx2)
      (fun j hj => (own_cellOk s1 _ (by have : (adL x).length = 5 := rfl; omega)).1) (fun j hj => (own_cellOk s1 _ (by have : (adL x).length = 5 := rfl; omega)).2) (ad_one x)
  obtain ⟨t1, t2⟩ := own_setCells (adL x) (i * 5) w2 _ s1
  obtain ⟨w3, hw3⟩ : ∃ w3, w2.setCells g (i * 5) (adL x) = w3 := ⟨_, rfl⟩
  rw [hw3] at hcp2 t1 t2
  rw [ains_cells2 HXS.out.2 rfl hZl (by omega) hZp, ← HXS.out.1, ← insA_flat] at t1
  have H14 := Lib.hid hov
  have H15 := Lib.hid hcp1
  have H16 := Lib.hid hcp2
  have HG : Hid (InsPA (L.take i ++ x :: L.drop i) base (.slice (some ⟨g, 0, none⟩) N cap) w (.returned (.slice (some ⟨g, 0, none⟩) (N + 1) cap)) w3) := Lib.hid ⟨g, cap, N + 1, some g, by rw [List.length_append, List.length_cons, List.length_take, List.length_drop, HN.out]; omega, rfl, t1, grown_trans hg2 t2, Or.inl rfl, Or.inl rfl⟩
  have n1 : ((i : Int) == (N : Int)) = false := by rw [beq_eq_false_iff_ne]; omega
  have n2 : ¬ (cap : Int) < (N : Int) + 1 := by omega
  have n3 : N + 1 ≤ cap := hroom
  have n4 : (i : Int) ≤ (N : Int) := by omega
  have n5 : ¬ cap = i := by omega
  have n7 : ¬ cap = i + 1 := by omega
  have n8 : (i : Int) + 1 ≤ (N : Int) + 1 := by omega
  have n9 : (i : Int) ≤ (N : Int) + 1 := by omega
  have n10 : (N : Int) + 1 ≤ (cap : Int) := by omega
  have n11 : (0 : Int) ≤ (i : Int) + 1 := by omega
  have u1 : IntKind.i64.wrap ((i : Int) + 1) = (i : Int) + 1 := by rw [IntKind.wrap_i64]; omega
  have u2 : ((i : Int) + 1).toNat = i + 1 := by omega
  have n12 : (0 : Int) ≤ (N : Int) + 1 := by omega
  have n13 : ((N : Int) + 1).toNat = N + 1 := by omega
  clear hov hcp1 hcp2 t1 t2 s1 s2 hw2 hw3 h hone hdl hlf hxs hN hZp hZl hZ hown1 hx hx2 hg2 hroom hglt hi0
  go_enter Try.func89, Try.ntmps89
  go_upto_region 14 with fail
  go_wp2_with fail
  rw [H14.out]
  go_upto_region 15 with fail
  refine wp_region_held_drew (S := fun _ => True) (by kernel_rfl) (trivial) (fun hHeld => ?_)
  refine wpAnyH_take (i := 0) (oi := { dst := some 69, op := Op.move (Operand.tmp 0), type := 23, pos := "slices.go:178", after := #[], guard := none }) (v := ?_) rfl (by kernel_rfl) (by kernel_rfl) (by kernel_rfl) (fun _ _ _ h => h) (Or.inl ⟨by rfl, ?_⟩) hHeld ?_
  rotate_left 1
  · intro u hSu
    go_simp
    first | done | with_reducible rfl
  (try simp only [Act.put, List.setIfInBounds_toArray, List.set_cons_zero, List.set_cons_succ])
  refine wpAnyH_take (i := 1) (oi := { dst := some 70, op := Op.move (Operand.tmp 1), type := 3, pos := "slices.go:178", after := #[], guard := none }) (v := ?_) rfl (by kernel_rfl) (by kernel_rfl) (by kernel_rfl) (fun _ _ _ h => h) (Or.inl ⟨by rfl, ?_⟩) hHeld ?_
  rotate_left 1
  · intro u hSu
    go_simp
    first | done | with_reducible rfl
  (try simp only [Act.put, List.setIfInBounds_toArray, List.set_cons_zero, List.set_cons_succ])
  refine wpAnyH_take (i := 2) (oi := { dst := some 71, op := Op.move (Operand.tmp 7), type := 3, pos := "slices.go:178", after := #[], guard := none }) (v := ?_) rfl (by kernel_rfl) (by kernel_rfl) (by kernel_rfl) (fun _ _ _ h => h) (Or.inl ⟨by rfl, ?_⟩) hHeld ?_
  rotate_left 1
  · intro u hSu
    go_simp
    first | done | with_reducible rfl
  (try simp only [Act.put, List.setIfInBounds_toArray, List.set_cons_zero, List.set_cons_succ])
  refine wpAnyH_take (i := 3) (oi := { dst := some 72, op := Op.binOp BinOp.add 3 (Operand.tmp 70) (Operand.tmp 71) 3, type := 3, pos := "slices.go:178", after := #[{ on := 1, ground := Ground.data }, { on := 2, ground := Ground.data }], guard := none }) (v := ?_) rfl (by kernel_rfl) (by kernel_rfl) (by kernel_rfl) (fun _ _ _ h => h) (Or.inl ⟨by rfl, ?_⟩) hHeld ?_
  rotate_left 1
  · intro u hSu
    go_simp
    first | done | with_reducible rfl
  (try simp only [Act.put, List.setIfInBounds_toArray, List.set_cons_zero, List.set_cons_succ])
  refine wpAnyH_take (i := 4) (oi := { dst := some 73, op := Op.slice 23 (Operand.tmp 69) (some (Operand.tmp 72)) none none, type := 23, pos := "slices.go:178", after := #[{ on := 0, ground := Ground.data }, { on := 3, ground := Ground.data }], guard := none }) (v := ?_) rfl (by kernel_rfl) (by kernel_rfl) (by kernel_rfl) (fun _ _ _ h => h) (Or.inl ⟨by rfl, ?_⟩) hHeld ?_
  rotate_left 1
  · intro u hSu
    go_simp
    first | done | with_reducible rfl
  (try simp only [Act.put, List.setIfInBounds_toArray, List.set_cons_zero, List.set_cons_succ])
  refine wpAnyH_take (i := 5) (oi := { dst := some 74, op := Op.move (Operand.tmp 0), type := 23, pos := "slices.go:178", after := #[], guard := none }) (v := ?_) rfl (by kernel_rfl) (by kernel_rfl) (by kernel_rfl) (fun _ _ _ h => h) (Or.inl ⟨by rfl, ?_⟩) hHeld ?_
  rotate_left 1
  · intro u hSu
    go_simp
    first | done | with_reducible rfl
  (try simp only [Act.put, List.setIfInBounds_toArray, List.set_cons_zero, List.set_cons_succ])
  refine wpAnyH_take (i := 6) (oi := { dst := some 75, op := Op.move (Operand.tmp 1), type := 3, pos := "slices.go:178", after := #[], guard := none }) (v := ?_) rfl (by kernel_rfl) (by kernel_rfl) (by kernel_rfl) (fun _ _ _ h => h) (Or.inl ⟨by rfl, ?_⟩) hHeld ?_
  rotate_left 1
  · intro u hSu
    go_simp
    first | done | with_reducible rfl
  (try simp only [Act.put, List.setIfInBounds_toArray, List.set_cons_zero, List.set_cons_succ])
  refine wpAnyH_take (i := 7) (oi := { dst := some 76, op := Op.slice 23 (Operand.tmp 74) (some (Operand.tmp 75)) none none, type := 23, pos := "slices.go:178", after := #[{ on := 5, ground := Ground.data }, { on := 6, ground := Ground.data }], guard := none }) (v := ?_) rfl (by kernel_rfl) (by kernel_rfl) (by kernel_rfl) (fun _ _ _ h => h) (Or.inl ⟨by rfl, ?_⟩) hHeld ?_
  rotate_left 1
  · intro u hSu
    go_simp
    first | done | with_reducible rfl
  (try simp only [Act.put, List.setIfInBounds_toArray, List.set_cons_zero, List.set_cons_succ])
  refine wpAnyH_ready (rs := [8]) (by kernel_rfl) (by simp) ?_
  refine AllReadyH.cons (o := { dst := some 77, op := Op.call { callee := Callee.builtin Builtin.copy, args := #[Operand.tmp 73, Operand.tmp 76], argTypes := #[23, 23] }, type := 3, pos := "slices.go:178", after := #[{ on := 4, ground := Ground.data }, { on := 7, ground := Ground.data }], guard := none }) rfl (fun Kz hK => ?_) AllReadyH.nil
  refine step_copy_run rfl _ _ _ _ rfl _ _ rfl rfl (H15.out _ _ _) ?_
  refine hK.out _ _ (trivial) (fun hH2 => ?_)
  clear hK Kz hHeld
  have hHeld := hH2
  clear hH2
  (try simp only [Act.put, List.setIfInBounds_toArray, List.set_cons_zero, List.set_cons_succ])
  refine wpAnyH_done (by kernel_rfl) ?_ _
  clear hHeld
  go_wp2_with (refine wpList_copy_run rfl _ _ 23 23 rfl _ _ rfl rfl (H16.out _ _) ?_)
  go_wp2_with fail
  go_ret
  exact HG.out
set_option maxRecDepth 100000 in
/-- Insert, wherever. -/
theorem dinsert_any (L : List Ad) (x : Ad) (base gx cx i : Nat) (v : Value) (w : World) (h : w.ownsRow base 38 5 v L.length (L.flatMap adL)) (hx : w.heap[gx]? = some (.cells #[.int .i64 x.r, .int .i64 x.q, .bool x.cp, .slice x.pL x.L.length x.cL, .slice x.pC x.C.length x.cC] 38 (0, 0))) (hm : L.length ≤ 1000) (hb : base ≤ w.heap.size) (hne : v.ownBlock ≠ some gx) (hi : i ≤ L.length) :
    Calls Try.prog 89 #[v, .int .i64 (i : Int), .slice (some ⟨gx, 0, none⟩) 1 cx] w fun e w' => InsPA (L.take i ++ x :: L.drop i) base v w e w' := by
  rcases Nat.lt_or_ge i L.length with h1 | h1
  · obtain ⟨g, cap, rfl, -, -⟩ := h.form (by omega)
    rcases Nat.lt_or_ge cap (L.length + 1) with h2 | h2
    · exact dinsB_any L x base gx cx g cap i w h hx hm hb h1 h2
    · exact dinsC_any L x base gx cx g cap i w h hx hm (fun e => hne (by rw [e]; rfl)) h1 h2
  · obtain rfl : i = L.length := by omega
    obtain ⟨p, c, rfl, -, -⟩ := own_shape h
    rw [List.take_length, List.drop_length]
    exact dinsA_any L x base gx cx p c w h hx hm hb
set_option maxRecDepth 100000 in
/-- An advert is stored into a row. -/
theorem set_flat (L : List Ad) (A : Ad) (i : Nat) (hi : i < L.length) : setAt (L.flatMap adL) (i * 5) (adL A) = (L.set i A).flatMap adL := by
  have hl : (L.flatMap adL).length = L.length * 5 := flat_len adL 5 adL_len L
  have h5 : (adL A).length = 5 := rfl
  refine alist_eq ?_ (fun j hj => ?_)
  · rw [setAt_len, flat_len adL 5 adL_len, flat_len adL 5 adL_len, List.length_set]
  · rw [setAt_len, hl] at hj
    rw [setAt_get _ _ _ _ (by rw [h5, hl]; omega), h5]
    have hm : j % 5 < 5 := Nat.mod_lt _ (by decide)
    have hd : j = j / 5 * 5 + j % 5 := by omega
    have hjl : j / 5 < L.length := by omega
    by_cases h : i = j / 5
    · rw [if_pos (by omega)]
      have h1 : (L.set i A)[j / 5]? = some A := by rw [h, List.getElem?_set_self (by omega)]
      rw [hd, flat_at adL 5 adL_len _ _ _ _ h1 hm, ← hd]
      congr 1
      omega
    · rw [if_neg (by omega)]
      have h1 : (L.set i A)[j / 5]? = some L[j / 5] := by rw [List.getElem?_set_ne h]; exact List.getElem?_eq_getElem hjl
      rw [hd, flat_at adL 5 adL_len _ _ _ _ h1 hm, flat_at adL 5 adL_len _ _ _ _ (List.getElem?_eq_getElem hjl) hm]
set_option maxRecDepth 100000 in
theorem own_set5 {w : World} {base g n cap i : Nat} {L : List Ad} (A : Ad) (h : w.ownsRow base 38 5 (.slice (some ⟨g, 0, none⟩) n cap) n (L.flatMap adL)) (hi : i < L.length) :
    (((((w.setCell ⟨g, i * 5, none⟩ (.int .i64 A.r)).setCell ⟨g, i * 5 + 1, none⟩ (.int .i64 A.q)).setCell ⟨g, i * 5 + 2, none⟩ (.bool A.cp)).setCell ⟨g, i * 5 + 3, none⟩ (.slice A.pL A.L.length A.cL)).setCell ⟨g, i * 5 + 4, none⟩ (.slice A.pC A.C.length A.cC)).ownsRow base 38 5 (.slice (some ⟨g, 0, none⟩) n cap) n ((L.set i A).flatMap adL) ∧
    w.grownBy (((((w.setCell ⟨g, i * 5, none⟩ (.int .i64 A.r)).setCell ⟨g, i * 5 + 1, none⟩ (.int .i64 A.q)).setCell ⟨g, i * 5 + 2, none⟩ (.bool A.cp)).setCell ⟨g, i * 5 + 3, none⟩ (.slice A.pL A.L.length A.cL)).setCell ⟨g, i * 5 + 4, none⟩ (.slice A.pC A.C.length A.cC)) (some g) := by
  have h1 := own_setCells (adL A) (i * 5) w _ h
  rw [set_flat L A i hi] at h1
  exact h1
end Go.Proofs.Ytnpkihioklpnmaa

/- database: copies and put. -/
namespace Go.Proofs.Ytnpkihioklpnmaa
open Go.RowKit Bs
/-- Where lists of adverts lie whose row is v. -/
def qO (base : Nat) (v : Value) (w : World) (b : Nat) : Prop := base ≤ b ∧ b < w.heap.size ∧ v.ownBlock ≠ some b
/-- A row of adverts of the call's own, lists and all. -/
structure OwnD (base : Nat) (l : List Ad) (v : Value) (w : World) : Prop where
  own : w.ownsRow base 38 5 v l.length (l.flatMap adL)
  ok : ∀ A ∈ l, AdOk w (qO base v w) A
  nl : ∀ A ∈ l, AdNl A
set_option maxRecDepth 100000 in
theorem OwnD.grown {base : Nat} {l : List Ad} {v : Value} {w w1 : World} {r : Option Nat} (h : OwnD base l v w) (g : w.grownBy w1 r) (hr : ∀ b, r = some b → b < base) : OwnD base l v w1 := by
  refine ⟨h.own.kept g ?_, fun A hA => ((h.ok A hA).grown g (fun b hb e => by have := hr b e.symm; have := hb.1; omega)).mono (fun b hb => ⟨hb.1, Nat.lt_of_lt_of_le hb.2.1 g.size, hb.2.2⟩), h.nl⟩
  cases hv : v.ownBlock with
  | none => exact .inl rfl
  | some k => exact .inr (fun e => by have := hr k e.symm; have := (h.own.lt k hv).1; omega)
set_option maxRecDepth 100000 in
theorem OwnD.keep {base : Nat} {l : List Ad} {v : Value} {w w1 : World} (h : OwnD base l v w) (g : w.grownBy w1 none) : OwnD base l v w1 := h.grown g (fun b e => by cases e)
set_option maxRecDepth 100000 in
theorem OwnD.rda {base : Nat} {l : List Ad} {p : Option Addr} {n c : Nat} {w : World} (h : OwnD base l (.slice p n c) w) : n = l.length ∧ RdA w (base ≤ ·) (.slice p n c) l := by
  obtain ⟨p', c', e, -, -⟩ := own_shape h.own
  injection e with e1 e2 e3
  exact ⟨e2, rdf_of_own h.own, fun A hA => (h.ok A hA).mono (fun b hb => hb.1), h.nl⟩
set_option maxRecDepth 100000 in
theorem OwnD.shape {base : Nat} {l : List Ad} {v : Value} {w : World} (h : OwnD base l v w) : ∃ p c, v = .slice p l.length c ∧ (l.length ≤ c ∧ c ≤ 9223372036854775807) ∧ (p = none → c = 0) := by
  obtain ⟨p, c, rfl, h1, h2⟩ := own_shape h.own
  exact ⟨p, c, rfl, ⟨h1, h2⟩, own_nl h.own⟩
set_option maxRecDepth 100000 in
theorem fz_mem {l m : List Ad} (h : m.map fz = l.map fz) {A : Ad} (hA : A ∈ m) : ∃ B ∈ l, fz B = fz A := by
  have : fz A ∈ m.map fz := List.mem_map_of_mem hA
  rw [h] at this
  obtain ⟨B, h1, h2⟩ := List.mem_map.1 this
  exact ⟨B, h1, h2⟩
set_option maxRecDepth 100000 in
theorem fz_L {A B : Ad} (h : fz A = fz B) : A.L = B.L ∧ A.C = B.C := ⟨(fz_eq.1 h).2.2.2.1, (fz_eq.1 h).2.2.2.2⟩
set_option maxRecDepth 100000 in
theorem fz_set {m : List Ad} {k : Nat} {A B : Ad} (hA : m[k]? = some A) (h : fz B = fz A) : (m.set k B).map fz = m.map fz := by
  rw [List.map_set, h]
  refine List.ext_getElem? fun i => ?_
  by_cases e : k = i
  · subst e
    rw [List.getElem?_set_self (by rw [List.length_map]; exact (List.getElem?_eq_some_iff.1 hA).1), List.getElem?_map, hA]; rfl
  · rw [List.getElem?_set_ne e]
set_option maxRecDepth 100000 in
theorem take_set {m : List Ad} {k : Nat} {A B : Ad} (hA : m[k]? = some A) : (m.set k B).take (k + 1) = m.take k ++ [B] := by
  have hk := (List.getElem?_eq_some_iff.1 hA).1
  rw [List.take_add_one, List.getElem?_set_self hk, List.take_set_of_le (Nat.le_refl _)]; rfl
set_option maxRecDepth 100000 in
theorem drop_set {m : List Ad} {k : Nat} {B : Ad} : (m.set k B).drop (k + 1) = m.drop (k + 1) := List.drop_set_of_lt (Nat.lt_succ_self k)
/-- While adverts are copied within a row. -/
structure CW (W : World) (l : List Ad) (v : Value) (k : Nat) (m : List Ad) (w : World) : Prop where
  own : w.ownsRow W.heap.size 38 5 v l.length (m.flatMap adL)
  len : m.length = l.length
  fe : m.map fz = l.map fz
  new : ∀ A ∈ m.take k, AdOk w (qO W.heap.size v w) A ∧ AdNl A
  old : ∀ A ∈ m.drop k, AdOk w (· < W.heap.size) A ∧ AdNl A
  gr : W.grownBy w none
set_option maxRecDepth 100000 in
theorem CW.keep {W w w1 : World} {l m : List Ad} {v : Value} {k : Nat} (h : CW W l v k m w) (g : w.grownBy w1 none) : CW W l v k m w1 :=
  ⟨h.own.kept g (by cases hv : v.ownBlock with
    | none => exact .inl rfl
    | some k => exact .inr (by simp)), h.len, h.fe, fun A hA => ⟨((h.new A hA).1.keep g).mono (fun b hb => ⟨hb.1, Nat.lt_of_lt_of_le hb.2.1 g.size, hb.2.2⟩), (h.new A hA).2⟩, fun A hA => ⟨(h.old A hA).1.keep g, (h.old A hA).2⟩, grown_trans h.gr g⟩
set_option maxRecDepth 100000 in
/-- One more is copied. -/
theorem CW.put {W w w1 : World} {l m : List Ad} {g n cap k : Nat} {A B : Ad} (h : CW W l (.slice (some ⟨g, 0, none⟩) n cap) k m w) (hA : m[k]? = some A) (hB : fz B = fz A) (hown : w1.ownsRow W.heap.size 38 5 (.slice (some ⟨g, 0, none⟩) n cap) l.length ((m.set k B).flatMap adL)) (hg : w.grownBy w1 (some g)) (hok : AdOk w (qO W.heap.size (.slice (some ⟨g, 0, none⟩) n cap) w) B) (hnl : AdNl B) : CW W l (.slice (some ⟨g, 0, none⟩) n cap) (k + 1) (m.set k B) w1 := by
  have hgb : W.heap.size ≤ g := (h.own.lt g rfl).1
  have hq : ∀ b, qO W.heap.size (.slice (some ⟨g, 0, none⟩) n cap) w b → some b ≠ some g := fun b hb e => hb.2.2 (by rw [Option.some.inj e]; rfl)
  have hm : ∀ b, qO W.heap.size (.slice (some ⟨g, 0, none⟩) n cap) w b → qO W.heap.size (.slice (some ⟨g, 0, none⟩) n cap) w1 b := fun b hb => ⟨hb.1, Nat.lt_of_lt_of_le hb.2.1 hg.size, hb.2.2⟩
  refine ⟨hown, by rw [List.length_set, h.len], by rw [fz_set hA hB, h.fe], fun C hC => ?_, fun C hC => ?_, grown_new h.gr hg hgb⟩
  · rw [take_set hA] at hC
    rcases List.mem_append.1 hC with hC | hC
    · exact ⟨((h.new C hC).1.grown hg hq).mono hm, (h.new C hC).2⟩
    · rw [List.mem_singleton] at hC; subst hC; exact ⟨(hok.grown hg hq).mono hm, hnl⟩
  · rw [drop_set] at hC
    have hC2 : C ∈ m.drop k := by rw [dropA_at hA]; exact List.mem_cons_of_mem _ hC
    exact ⟨(h.old C hC2).1.grown hg (fun b hb e => by have := Option.some.inj e; omega), (h.old C hC2).2⟩
set_option maxRecDepth 100000 in
theorem CW.fin {W w : World} {l m : List Ad} {v : Value} (h : CW W l v l.length m w) : OwnD W.heap.size m v w := by
  have e : m.take l.length = m := by rw [← h.len, List.take_length]
  refine ⟨by rw [h.len]; exact h.own, fun A hA => (h.new A (by rw [e]; exact hA)).1, fun A hA => (h.new A (by rw [e]; exact hA)).2⟩
set_option maxRecDepth 100000 in
set_option maxHeartbeats 3200000 in
theorem dcopies_any (l : List Ad) (p : Option Addr) (c : Nat) (q : Nat → Prop) (w : World) (hR : RdA w q (.slice p l.length c) l) (hn : p = none → c = 0) (hc : l.length ≤ c ∧ c ≤ 9223372036854775807) (hm : l.length ≤ 1000) (hs : ∀ A ∈ l, A.L.length ≤ 1000 ∧ A.C.length ≤ 1000) :
    Calls Try.prog 59 #[.slice p l.length c] w fun e w' => ∃ (m : List Ad) (v : Value), e = .returned v ∧ m.map fz = l.map fz ∧ OwnD w.heap.size m v w' ∧ w.grownBy w' none := by
  have HR := Lib.hid hR
  have HS := Lib.hid hs
  clear hR hs
  go_enter Try.func59, Try.ntmps59
  go_wp2_with fail
  refine (dclA_any l p c q w HR.out.row hn hc hm).mono ?_
  rintro e w1 ⟨v, rfl, hown, hg⟩
  have K : Hid (CW w l v 0 l w1) := Lib.hid ⟨hown, rfl, rfl, fun A hA => by simp at hA, fun A hA => ⟨(HR.out.old.ok A hA).keep hg, HR.out.nl A hA⟩, hg⟩
  obtain ⟨p1, c1, rfl, hc1, hc2⟩ := own_shape hown
  clear hown hg HR hn hc
  obtain ⟨N, hN⟩ : ∃ N, l.length = N := ⟨_, rfl⟩
  rw [hN] at K hm hc1 ⊢
  have HN := Lib.hid hN
  clear hN
  go_wp2_with fail
  go_loopw [9] (fun x wr => ∃ (k : Nat) (m : List Ad), k ≤ N ∧ x = .int .i64 (k : Int) ∧ Hid (CW w l (.slice p1 N c1) k m wr)) (fun x _ => N - (RowKit.intOf x).toNat)
  case atStart => exact ⟨0, l, Nat.zero_le _, rfl, K⟩
  case round =>
  obtain ⟨k, m, hk, rfl, K2⟩ := hrel
  clear K
  by_cases hlt : k < N
  · obtain ⟨g, cap, e, -, -⟩ := K2.out.own.form (by rw [HN.out]; omega)
    injection e with e1 e2 e3
    subst e1 e3
    clear e2
    obtain ⟨A, hA⟩ : ∃ A, m[k]? = some A := ⟨_, List.getElem?_eq_getElem (by rw [K2.out.len, HN.out]; exact hlt)⟩
    have HA := Lib.hid hA
    have hrd : RdF wr (w.heap.size ≤ ·) (.slice (some ⟨g, 0, none⟩) N c1) m.length (m.flatMap adL) := by
      have := rdf_of_own K2.out.own
      rw [K2.out.len]
      exact this
    obtain ⟨-, b, off, hbo, -, hcl⟩ := RdF.cells (f := adL) (k := 5) adL_len (by decide) hrd (by rw [K2.out.len, HN.out]; omega)
    injection hbo with hbo
    injection hbo with hb1 hb2
    subst hb1 hb2
    have a0 : wr.cell? ⟨g, 0 + k * 5, none⟩ = some (.int .i64 A.r) := hcl k A hA 0 _ rfl
    have a1 : wr.cell? ⟨g, 0 + k * 5 + 1, none⟩ = some (.int .i64 A.q) := hcl k A hA 1 _ rfl
    have a2 : wr.cell? ⟨g, 0 + k * 5 + 2, none⟩ = some (.bool A.cp) := hcl k A hA 2 _ rfl
    have a3 : wr.cell? ⟨g, 0 + k * 5 + 3, none⟩ = some (.slice A.pL A.L.length A.cL) := hcl k A hA 3 _ rfl
    have a4 : wr.cell? ⟨g, 0 + k * 5 + 4, none⟩ = some (.slice A.pC A.C.length A.cC) := hcl k A hA 4 _ rfl
    rw [Nat.zero_add] at a0 a1 a2 a3 a4
    have gal := World.grownBy_alloc wr (.cells #[.int .i64 A.r, .int .i64 A.q, .bool A.cp, .slice A.pL A.L.length A.cL, .slice A.pC A.C.length A.cC] 38) none
    have K3 := Lib.hid (And.intro (K2.out.keep gal) (heap_alloc_new wr (.cells #[.int .i64 A.r, .int .i64 A.q, .bool A.cp, .slice A.pL A.L.length A.cL, .slice A.pC A.C.length A.cC] 38)))
    clear hA gal K2 hrd hcl
    go_upto_region 5 with fail
    clear a0 a1 a2 a3 a4
    generalize wr.alloc _ = wy at *
    obtain ⟨d0, d1, d2, d3, d4⟩ := row5 K3.out.2
    obtain ⟨B, hB1, hB2⟩ := fz_mem K3.out.1.fe (List.mem_of_getElem? HA.out)
    have hsz : A.L.length ≤ 1000 ∧ A.C.length ≤ 1000 := by
      have := HS.out B hB1
      rw [(fz_L hB2).1, (fz_L hB2).2] at this
      exact this
    have hmem : A ∈ m.drop k := by rw [dropA_at HA.out]; exact List.mem_cons_self
    go_wp2_with fail
    refine (dcopied_any A _ wy (K3.out.1.old A hmem).1 (K3.out.1.old A hmem).2 hsz).mono ?_
    rintro e w2 ⟨pL, cL, pC, cC, rfl, hok, hnl, hg⟩
    have K4 := Lib.hid (K3.out.1.keep hg)
    have hgl : g < wy.heap.size := (K3.out.1.own.lt g rfl).2
    have hgw : w.heap.size ≤ g := (K3.out.1.own.lt g rfl).1
    have hkl : k < m.length := (List.getElem?_eq_some_iff.1 HA.out).1
    have hown4 : w2.ownsRow w.heap.size 38 5 (.slice (some ⟨g, 0, none⟩) N c1) N (m.flatMap adL) := by
      have := K4.out.own
      rw [HN.out] at this
      exact this
    obtain ⟨s1, s2⟩ := own_set5 ⟨A.r, A.q, A.cp, A.L, A.C, pL, cL, pC, cC⟩ hown4 hkl
    dsimp only at s1 s2
    have HK := Lib.hid (K4.out.put (B := ⟨A.r, A.q, A.cp, A.L, A.C, pL, cL, pC, cC⟩) HA.out rfl (by rw [HN.out]; exact s1) s2 (hok.and.mono (fun b hb => ⟨by have := hb.1; omega, hb.2, fun e => by have h9 : g = b := Option.some.inj e; have := hb.1; omega⟩)) hnl)
    have f0 := own_cellOk hown4 (k * 5) (by omega)
    have f1 := own_cellOk hown4 (k * 5 + 1) (by omega)
    have f2 := own_cellOk hown4 (k * 5 + 2) (by omega)
    have f3 := own_cellOk hown4 (k * 5 + 3) (by omega)
    have f4 := own_cellOk hown4 (k * 5 + 4) (by omega)
    obtain ⟨x0, g0⟩ := Option.isSome_iff_exists.1 f0.1
    obtain ⟨x1, g1⟩ := Option.isSome_iff_exists.1 f1.1
    obtain ⟨x2, g2⟩ := Option.isSome_iff_exists.1 f2.1
    obtain ⟨x3, g3⟩ := Option.isSome_iff_exists.1 f3.1
    obtain ⟨x4, g4⟩ := Option.isSome_iff_exists.1 f4.1
    replace f0 := f0.2
    replace f1 := f1.2
    replace f2 := f2.2
    replace f3 := f3.2
    replace f4 := f4.2
    clear hown4 s1 s2 hok hnl hg hgl hgw hkl K3 K4 d0 d1 d2 d3 d4 hmem hsz hB1 hB2
    go_wp2_with fail
    exact ⟨⟨k + 1, _, by omega, congrArg _ (by omega), HK⟩, by simp only [RowKit.intOf]; omega⟩
  · obtain rfl : k = N := by omega
    have HF : Hid (OwnD w.heap.size m (.slice p1 k c1) wr) := Lib.hid (by
      have h := K2.out
      have e := HN.out
      subst e
      exact h.fin)
    have HG := Lib.hid (And.intro K2.out.fe K2.out.gr)
    clear K2
    go_wp2_with fail
    go_ret
    exact ⟨m, _, rfl, HG.out.1, HF.out, HG.out.2⟩
end Go.Proofs.Ytnpkihioklpnmaa
