/- Parts of the proof, packed: DbIns, DbVM, DbPlc. -/
import Derived.Test.YtnpkihioklpnmaaPu4
import Derived.Test.YtnpkihioklpnmaaPu7
import Derived.Lib.Overlaps
import Derived.Test.YtnpkihioklpnmaaPu3
import Derived.Deep.CutBlock
/- slices.Insert of one advert. -/
namespace Go.Proofs.Ytnpkihioklpnmaa
open Go.RowKit Bs
set_option maxRecDepth 100000 in
theorem alist_eq {xs ys : List Value} (hl : xs.length = ys.length) (h : ∀ j, j < xs.length → xs[j]? = ys[j]?) : xs = ys := by
  apply List.ext_getElem?
  intro j
  by_cases hj : j < xs.length
  · exact h j hj
  · rw [List.getElem?_eq_none (by omega), List.getElem?_eq_none (by omega)]
set_option maxRecDepth 100000 in
theorem ains_get {xs x5 : List Value} {N i : Nat} (hx : xs.length = N * 5) (h5 : x5.length = 5) (hi : i ≤ N) (A : List Value) (hl : A.length = (N + 1) * 5) (ha : ∀ j, j < (N + 1) * 5 → A[j]? = if j < i * 5 then xs[j]? else if j < (i + 1) * 5 then x5[j - i * 5]? else xs[j - 5]?) : A = xs.take (i * 5) ++ x5 ++ xs.drop (i * 5) := by
  refine alist_eq ?_ (fun j hj => ?_)
  · rw [List.length_append, List.length_append, List.length_take, List.length_drop, hl, hx, h5]; omega
  · rw [hl] at hj
    have ht : (xs.take (i * 5)).length = i * 5 := by rw [List.length_take, hx]; omega
    rw [ha j hj]
    by_cases h1 : j < i * 5
    · rw [if_pos h1, List.append_assoc, List.getElem?_append_left (by omega), List.getElem?_take_of_lt h1]
    · rw [if_neg h1]
      by_cases h2 : j < (i + 1) * 5
      · rw [if_pos h2, List.append_assoc, List.getElem?_append_right (by omega), ht, List.getElem?_append_left (by omega)]
      · rw [if_neg h2, List.getElem?_append_right (by rw [List.length_append, ht, h5]; omega), List.length_append, ht, h5, List.getElem?_drop]
        congr 1
        omega
section
variable {Z xs x5 : List Value} {N i : Nat} (hx : xs.length = N * 5) (h5 : x5.length = 5) (hz : Z.length = (N + 1) * 5) (hi : i ≤ N) (hpre : ∀ j, j < i * 5 → Z[j]? = xs[j]?)
include hx h5 hz hi hpre
set_option maxRecDepth 100000 in
theorem ains_cells1 : setAt (setAt Z (i * 5) x5) ((i + 1) * 5) (xs.drop (i * 5)) = xs.take (i * 5) ++ x5 ++ xs.drop (i * 5) := by
  have hd : (xs.drop (i * 5)).length = N * 5 - i * 5 := by rw [List.length_drop, hx]
  refine ains_get hx h5 hi _ (by rw [setAt_len, setAt_len, hz]) (fun j hj => ?_)
  rw [setAt_get _ _ _ _ (by rw [setAt_len, hd, hz]; omega), setAt_get _ _ _ _ (by rw [h5, hz]; omega), hd, h5, List.getElem?_drop]
  by_cases h1 : j < i * 5
  · rw [if_neg (by omega), if_neg (by omega), if_pos h1, hpre j h1]
  · by_cases h2 : j < (i + 1) * 5
    · rw [if_neg (by omega), if_pos (by omega), if_neg h1, if_pos h2]
    · rw [if_pos (by omega), if_neg h1, if_neg h2]
      congr 1
      omega
set_option maxRecDepth 100000 in
theorem ains_cells2 : setAt (setAt Z ((i + 1) * 5) (xs.drop (i * 5))) (i * 5) x5 = xs.take (i * 5) ++ x5 ++ xs.drop (i * 5) := by
  have hd : (xs.drop (i * 5)).length = N * 5 - i * 5 := by rw [List.length_drop, hx]
  refine ains_get hx h5 hi _ (by rw [setAt_len, setAt_len, hz]) (fun j hj => ?_)
  rw [setAt_get _ _ _ _ (by rw [setAt_len, h5, hz]; omega), setAt_get _ _ _ _ (by rw [hd, hz]; omega), hd, h5, List.getElem?_drop]
  by_cases h1 : j < i * 5
  · rw [if_neg (by omega), if_neg (by omega), if_pos h1, hpre j h1]
  · by_cases h2 : j < (i + 1) * 5
    · rw [if_pos (by omega), if_neg h1, if_pos h2]
    · rw [if_neg (by omega), if_pos (by omega), if_neg h1, if_neg h2]
      congr 1
      omega
end
set_option maxRecDepth 100000 in
theorem ablk_lt' {w : World} {b : Nat} {o : Obj} (h : w.heap[b]? = some o) : b < w.heap.size := by
  rcases Nat.lt_or_ge b w.heap.size with h1 | h1
  · exact h1
  · rw [Array.getElem?_eq_none h1] at h
    cases h
set_option maxRecDepth 100000 in
/-- The cells of a list with one element more. -/
theorem insA_flat (L : List Ad) (x : Ad) (i : Nat) : (L.take i ++ x :: L.drop i).flatMap adL = (L.flatMap adL).take (i * 5) ++ adL x ++ (L.flatMap adL).drop (i * 5) := by
  rw [List.flatMap_append, List.flatMap_cons, flat_take adL 5 (fun _ => rfl), flat_drop adL 5 (fun _ => rfl), List.append_assoc]
/-- What Insert leaves. -/
def InsPA (L' : List Ad) (base : Nat) (v : Value) (w : World) (e : Ending) (w' : World) : Prop :=
  ∃ g cap N og, N = L'.length ∧ e = .returned (.slice (some ⟨g, 0, none⟩) N cap) ∧ w'.ownsRow base 38 5 (.slice (some ⟨g, 0, none⟩) N cap) N (L'.flatMap adL) ∧ w.grownBy w' og ∧ (og = v.ownBlock ∨ og = some w.heap.size) ∧ (v.ownBlock = some g ∨ g = w.heap.size)
set_option maxRecDepth 100000 in
/-- The one advert that is put in. -/
theorem insA_src {w : World} {gx : Nat} {x : Ad} (h : w.heap[gx]? = some (.cells #[.int .i64 x.r, .int .i64 x.q, .bool x.cp, .slice x.pL x.L.length x.cL, .slice x.pC x.C.length x.cC] 38 (0, 0))) : ∀ j u, (adL x)[j]? = some u → w.cell? ((⟨gx, 0, none⟩ : Addr).add j) = some u := by
  intro j u hj
  rw [add_plain, Nat.zero_add, cell_of_row _ _ _ _ _ _ h]
  simpa [adL] using hj
set_option maxRecDepth 100000 in
set_option maxHeartbeats 3200000 in
/-- .. at the end. -/
theorem dinsA_any (L : List Ad) (x : Ad) (base gx cx : Nat) (p : Option Addr) (cap : Nat) (w : World) (h : w.ownsRow base 38 5 (.slice p L.length cap) L.length (L.flatMap adL)) (hx : w.heap[gx]? = some (.cells #[.int .i64 x.r, .int .i64 x.q, .bool x.cp, .slice x.pL x.L.length x.cL, .slice x.pC x.C.length x.cC] 38 (0, 0))) (hm : L.length ≤ 1000) (hb : base ≤ w.heap.size) :
    Calls Try.prog 89 #[.slice p L.length cap, .int .i64 (L.length : Int), .slice (some ⟨gx, 0, none⟩) 1 cx] w fun e w' => InsPA (L ++ [x]) base (.slice p L.length cap) w e w' := by
  obtain ⟨il, hil, hl0, hl1, hl2⟩ := info_parts info_ad5
  have hcap : L.length ≤ cap ∧ cap ≤ 9223372036854775807 := by
    obtain ⟨p', c', e, k1, k2⟩ := own_shape h
    injection e with e1 e2 e3
    subst e3
    exact ⟨k1, k2⟩
  have H := Lib.hid h
  have HX := Lib.hid hx
  obtain ⟨N, hN⟩ : ∃ N, L.length = N := ⟨_, rfl⟩
  rw [hN] at hm hcap H ⊢
  have HN := Lib.hid hN
  clear h hx hN
  by_cases hcn : cap = N
  · subst hcn
    go_enter Try.func89, Try.ntmps89
    go_upto_region 7 with fail
    go_wp2_with (at_builtin; refine wpList_append_lies _ rfl _ _ 23 rfl base 38 il (.agg #[.int .i64 0, .int .i64 0, .bool false, .slice none 0 0, .slice none 0 0]) 5 72 Try.underlying23 hil hl0 hl1 hl2 rfl (by decide) (.slice p cap cap) cap (L.flatMap adL) rfl H.out ⟨gx, 0, none⟩ 1 cx (adL x) rfl rfl (insA_src HX.out) (ad_one x) (by decide) (by unfold maxLen; omega) (by omega) hb _ rfl ?_)
    intro g cap' w9 hown hgrow hat hlt9
    have HG : Hid (InsPA (L ++ [x]) base (.slice p cap cap) w (.returned (.slice (some ⟨g, 0, none⟩) (cap + 1) cap')) w9) := Lib.hid ⟨g, cap', cap + 1, _, by rw [List.length_append, HN.out]; rfl, rfl, by rw [List.flatMap_append, List.flatMap_singleton]; exact hown, hgrow, Or.inl rfl, hat⟩
    clear hown hgrow hat hlt9
    go_wp2_with fail
    go_ret
    exact HG.out
  · go_enter Try.func89, Try.ntmps89
    go_upto_region 7 with fail
    go_wp2_with (at_builtin; refine wpList_append_lies _ rfl _ _ 23 rfl base 38 il (.agg #[.int .i64 0, .int .i64 0, .bool false, .slice none 0 0, .slice none 0 0]) 5 72 Try.underlying23 hil hl0 hl1 hl2 rfl (by decide) (.slice p N cap) N (L.flatMap adL) rfl H.out ⟨gx, 0, none⟩ 1 cx (adL x) rfl rfl (insA_src HX.out) (ad_one x) (by decide) (by unfold maxLen; omega) (by omega) hb _ rfl ?_)
    intro g cap' w9 hown hgrow hat hlt9
    have HG : Hid (InsPA (L ++ [x]) base (.slice p N cap) w (.returned (.slice (some ⟨g, 0, none⟩) (N + 1) cap')) w9) := Lib.hid ⟨g, cap', N + 1, _, by rw [List.length_append, HN.out]; rfl, rfl, by rw [List.flatMap_append, List.flatMap_singleton]; exact hown, hgrow, Or.inl rfl, hat⟩
    clear hown hgrow hat hlt9
    go_wp2_with fail
    go_ret
    exact HG.out
set_option maxRecDepth 100000 in
set_option maxHeartbeats 3200000 in
/-- .. where there is no room. -/
theorem dinsB_any (L : List Ad) (x : Ad) (base gx cx g cap i : Nat) (w : World) (h : w.ownsRow base 38 5 (.slice (some ⟨g, 0, none⟩) L.length cap) L.length (L.flatMap adL)) (hx : w.heap[gx]? = some (.cells #[.int .i64 x.r, .int .i64 x.q, .bool x.cp, .slice x.pL x.L.length x.cL, .slice x.pC x.C.length x.cC] 38 (0, 0))) (hm : L.length ≤ 1000) (hb : base ≤ w.heap.size) (hi : i < L.length) (hfull : cap < L.length + 1) :
    Calls Try.prog 89 #[.slice (some ⟨g, 0, none⟩) L.length cap, .int .i64 (i : Int), .slice (some ⟨gx, 0, none⟩) 1 cx] w fun e w' => InsPA (L.take i ++ x :: L.drop i) base (.slice (some ⟨g, 0, none⟩) L.length cap) w e w' := by
  obtain ⟨ii, hii, hi0, hi1, hi2⟩ := info_parts info_ad5
  have hcap : L.length ≤ cap ∧ cap ≤ 9223372036854775807 := by
    obtain ⟨p', c', e, k1, k2⟩ := own_shape h
    injection e with e1 e2 e3
    subst e3
    exact ⟨k1, k2⟩
  have hglt : g < w.heap.size := (h.lt g rfl).2
  have hgxlt := ablk_lt' hx
  obtain ⟨N, hN⟩ : ∃ N, L.length = N := ⟨_, rfl⟩
  have hlf := flat_len adL 5 adL_len L
  rw [hN] at h hm hcap hi hfull hlf ⊢
  have HN := Lib.hid hN
  obtain ⟨xs, hxs⟩ : ∃ xs, L.flatMap adL = xs := ⟨_, rfl⟩
  have HXS := Lib.hid (And.intro hxs (show xs.length = N * 5 by rw [← hxs]; exact hlf))
  rw [hxs] at h
  have htl : (xs.take (i * 5)).length = i * 5 := by rw [List.length_take, HXS.out.2]; omega
  have hdl : (xs.drop (i * 5)).length = (N - i) * 5 := by rw [List.length_drop, HXS.out.2]; omega
  have hone : ∀ u ∈ xs, u.oneCell' = true := fun u hu => by
    rw [← hxs] at hu
    obtain ⟨y, -, hy⟩ := List.mem_flatMap.1 hu
    exact ad_one y u hy
  -- the new row
  obtain ⟨gc, hgc⟩ : ∃ gc, grownCap w (N + 1) cap 38 = gc := ⟨_, rfl⟩
  have hgc1 : N + 1 ≤ gc := by rw [← hgc]; exact grownCap_ge _ _ _ _
  have hgc2 : gc ≤ 9223372036854775807 := by rw [← hgc]; exact grownCap_le_maxLen _ _ _ _ (by unfold maxLen; omega)
  obtain ⟨zz, hzz⟩ : ∃ zz : Value, zz = .agg #[.int .i64 0, .int .i64 0, .bool false, .slice none 0 0, .slice none 0 0] := ⟨_, rfl⟩
  rw [← hzz] at hi0
  have hzs : zz.cells.size = 5 := by rw [hzz]; rfl
  obtain ⟨cur, hcur⟩ : ∃ cur, (xs.take (i * 5)).toArray ++ Builtin.zeroCells zz.cells (N + 1 - i) ++ Builtin.zeroCells zz.cells (gc - (N + 1)) = cur := ⟨_, rfl⟩
  have hcs : cur.size = gc * 5 := by
    rw [← hcur, Array.size_append, Array.size_append, size_zeroCells, size_zeroCells, hzs, List.size_toArray, htl]
    omega
  obtain ⟨w1, hw1⟩ : ∃ w1, w.drew.alloc (.cells cur 38) = w1 := ⟨_, rfl⟩
  obtain ⟨B, hB⟩ : ∃ B, w.heap.size = B := ⟨_, rfl⟩
  have hg1 : w.grownBy w1 none := by rw [← hw1]; exact grown_trans (grown_drew (grown_refl _ _)) (World.grownBy_alloc _ _ _)
  have hrun : ∀ ty, (Builtin.append_ #[23, 3] ty #[.slice (some ⟨g, 0, none⟩) i cap, .int .i64 ((N : Int) + 1 - (i : Int))]).run Try.prog w = .ok (.slice (some ⟨B, 0, none⟩) (N + 1) gc) w1 := fun ty => by
    have hr := run_append_zeros_k Try.underlying23 hii w 3 ty Try.underlying3 zz hi0 (by omega) ⟨g, 0, none⟩ i cap (xs.take (i * 5)) (by rw [hi1]; exact htl) (fun j v hj => by
      have hjl : j < i * 5 := by rw [← htl]; exact (List.getElem?_eq_some_iff.1 hj).1
      rw [List.getElem?_take_of_lt hjl] at hj
      exact h.cells (g := g) rfl _ v hj) (N + 1 - i) (by omega) (by omega) (by omega) (by omega)
    rw [show i + (N + 1 - i) = N + 1 by omega, hgc, hcur, hw1, hB, show ((N + 1 - i : Nat) : Int) = (N : Int) + 1 - (i : Int) by omega] at hr
    exact hr
  have hnew : w1.heap[B]? = some (.cells cur 38 (0, 0)) := by
    rw [← hw1, ← hB]
    exact heap_alloc_new w.drew _
  obtain ⟨Z, hZ⟩ : ∃ Z, cur.toList.take ((N + 1) * 5) = Z := ⟨_, rfl⟩
  have hZl : Z.length = (N + 1) * 5 := by
    rw [← hZ, List.length_take, Array.length_toList, hcs]
    omega
  have hZp : ∀ j, j < i * 5 → Z[j]? = xs[j]? := fun j hj => by
    rw [← hZ, ← hcur, List.getElem?_take_of_lt (by omega)]
    simp only [Array.toList_append, List.append_assoc]
    rw [List.getElem?_append_left (by omega), List.getElem?_take_of_lt hj]
  have hown1 : w1.ownsRow base 38 5 (.slice (some ⟨B, 0, none⟩) (N + 1) gc) (N + 1) Z := ⟨hZl, .inr ⟨B, gc, cur, rfl, by omega, hnew, hgc1, hgc2, hcs, hZ⟩⟩
  -- the copies
  have hx1 : w1.heap[gx]? = some (.cells #[.int .i64 x.r, .int .i64 x.q, .bool x.cp, .slice x.pL x.L.length x.cL, .slice x.pC x.C.length x.cC] 38 (0, 0)) := kept_row hx hg1 (by simp)
  have hcp1 : ∀ ty, (Builtin.copy_ #[23, 23] ty #[.slice (some ⟨B, i * 5, none⟩) (N + 1 - i) (gc - i), .slice (some ⟨gx, 0, none⟩) 1 cx]).run Try.prog w1 = .ok (goInt 1) (w1.setCells B (i * 5) (adL x)) := fun ty =>
    run_copy_k Try.underlying23 hii w1 ty B (i * 5) _ _ ⟨gx, 0, none⟩ 1 cx (adL x) 1 (by simp only [Nat.min_def]; split <;> omega) (by rw [hi1]; rfl) (insA_src hx1)
      (fun j hj => (own_cellOk hown1 _ (by have : (adL x).length = 5 := rfl; omega)).1) (fun j hj => (own_cellOk hown1 _ (by have : (adL x).length = 5 := rfl; omega)).2) (ad_one x)
  obtain ⟨s1, s2⟩ := own_setCells (adL x) (i * 5) w1 _ hown1
  obtain ⟨w2, hw2⟩ : ∃ w2, w1.setCells B (i * 5) (adL x) = w2 := ⟨_, rfl⟩
  rw [hw2] at hcp1 s1 s2
  have hr2 : w2.drew.ownsRow base 38 5 (.slice (some ⟨g, 0, none⟩) N cap) N xs := (((h.kept hg1 (.inr (by simp [Value.ownBlock]))).kept s2 (.inr (fun e => by have h9 : g = B := Option.some.inj e; omega)))).drew
  have hcp2 : ∀ ty dc sc, (Builtin.copy_ #[23, 23] ty #[.slice (some ⟨B, (i + 1) * 5, none⟩) (N - i) dc, .slice (some ⟨g, i * 5, none⟩) (N - i) sc]).run Try.prog w2.drew = .ok (goInt (N - i : Nat)) (w2.drew.setCells B ((i + 1) * 5) (xs.drop (i * 5))) := fun ty dc sc =>
    run_copy_k Try.underlying23 hii w2.drew ty B ((i + 1) * 5) _ _ ⟨g, i * 5, none⟩ (N - i) sc (xs.drop (i * 5)) (N - i) (by simp only [Nat.min_def]; split <;> omega) (by rw [hi1]; exact hdl) (fun j v hj => by
      rw [add_plain]
      rw [List.getElem?_drop] at hj
      have := hr2.cells (g := g) rfl _ v hj
      rw [add_plain, Nat.zero_add] at this
      exact this)
      (fun j hj => (own_cellOk s1.drew _ (by omega)).1) (fun j hj => (own_cellOk s1.drew _ (by omega)).2) (fun u hu => hone u (List.mem_of_mem_drop hu))
  obtain ⟨t1, t2⟩ := own_setCells (xs.drop (i * 5)) ((i + 1) * 5) w2.drew _ s1.drew
  obtain ⟨w3, hw3⟩ : ∃ w3, w2.drew.setCells B ((i + 1) * 5) (xs.drop (i * 5)) = w3 := ⟨_, rfl⟩
  rw [hw3] at hcp2 t1 t2
  rw [ains_cells1 HXS.out.2 rfl hZl (by omega) hZp, ← HXS.out.1, ← insA_flat] at t1
  have H9 := Lib.hid hrun
  have H10 := Lib.hid hcp1
  have H11 := Lib.hid hcp2
  have HG : Hid (InsPA (L.take i ++ x :: L.drop i) base (.slice (some ⟨g, 0, none⟩) N cap) w (.returned (.slice (some ⟨B, 0, none⟩) (N + 1) gc)) w3) := Lib.hid ⟨B, gc, N + 1, some B, by rw [List.length_append, List.length_cons, List.length_take, List.length_drop, HN.out]; omega, rfl, t1, grown_trans (grown_none hg1 _) (grown_trans s2 (grown_trans (grown_drew (grown_refl _ _)) t2)), Or.inr (by rw [hB]), Or.inr hB.symm⟩
  have n1 : ((i : Int) == (N : Int)) = false := by rw [beq_eq_false_iff_ne]; omega
  have n2 : (cap : Int) < (N : Int) + 1 := by omega
  have n3 : i ≤ cap := by omega
  have n4 : (i : Int) ≤ (N : Int) := by omega
  have n5 : ¬ cap = i := by omega
  have n6 : ¬ gc = i := by omega
  have n7 : ¬ gc = i + 1 := by omega
  have n8 : (i : Int) + 1 ≤ (N : Int) + 1 := by omega
  have n9 : (i : Int) ≤ (N : Int) + 1 := by omega
  have n10 : (i : Int) ≤ (cap : Int) := by omega
  have n11 : (0 : Int) ≤ (i : Int) + 1 := by omega
  have u1 : IntKind.i64.wrap ((i : Int) + 1) = (i : Int) + 1 := by rw [IntKind.wrap_i64]; omega
  have u2 : ((i : Int) + 1).toNat = i + 1 := by omega
  clear hrun hcp1 hcp2 t1 t2 s1 s2 hw1 hw2 hw3 h hone hdl htl hlf hxs hN hZp hZl hZ hown1 hnew hcur hcs hzs hi0 hzz hr2 hx hx1 hgc hgc1 hfull
  go_enter Try.func89, Try.ntmps89
  go_upto_region 9 with fail
  go_wp2_with (first | (refine wpList_append_runC rfl _ _ 23 3 rfl _ _ rfl rfl (H9.out _) ?_) | (refine wpList_copy_run rfl _ _ 23 23 rfl _ _ rfl rfl (H10.out _) ?_))
  go_upto_region 11 with fail
  refine wp_region_held_drew (S := fun _ => True) (by kernel_rfl) (trivial) (fun hHeld => ?_)
  refine wpAnyH_take (i := 0) (oi := { dst := some 46, op := Op.move (Operand.tmp 9), type := 23, pos := "slices.go:154", after := #[], guard := none }) (v := ?_) rfl (by kernel_rfl) (by kernel_rfl) (by kernel_rfl) (fun _ _ _ h => h) (Or.inl ⟨by rfl, ?_⟩) hHeld ?_
  rotate_left 1
  · intro u hSu
    go_simp
    first | done | with_reducible rfl
  (try simp only [Act.put, List.setIfInBounds_toArray, List.set_cons_zero, List.set_cons_succ])
  refine wpAnyH_take (i := 1) (oi := { dst := some 47, op := Op.move (Operand.tmp 1), type := 3, pos := "slices.go:154", after := #[], guard := none }) (v := ?_) rfl (by kernel_rfl) (by kernel_rfl) (by kernel_rfl) (fun _ _ _ h => h) (Or.inl ⟨by rfl, ?_⟩) hHeld ?_
  rotate_left 1
  · intro u hSu
    go_simp
    first | done | with_reducible rfl
  (try simp only [Act.put, List.setIfInBounds_toArray, List.set_cons_zero, List.set_cons_succ])
  refine wpAnyH_take (i := 2) (oi := { dst := some 48, op := Op.move (Operand.tmp 7), type := 3, pos := "slices.go:154", after := #[], guard := none }) (v := ?_) rfl (by kernel_rfl) (by kernel_rfl) (by kernel_rfl) (fun _ _ _ h => h) (Or.inl ⟨by rfl, ?_⟩) hHeld ?_
  rotate_left 1
  · intro u hSu
    go_simp
    first | done | with_reducible rfl
  (try simp only [Act.put, List.setIfInBounds_toArray, List.set_cons_zero, List.set_cons_succ])
  refine wpAnyH_take (i := 3) (oi := { dst := some 49, op := Op.binOp BinOp.add 3 (Operand.tmp 47) (Operand.tmp 48) 3, type := 3, pos := "slices.go:154", after := #[{ on := 1, ground := Ground.data }, { on := 2, ground := Ground.data }], guard := none }) (v := ?_) rfl (by kernel_rfl) (by kernel_rfl) (by kernel_rfl) (fun _ _ _ h => h) (Or.inl ⟨by rfl, ?_⟩) hHeld ?_
  rotate_left 1
  · intro u hSu
    go_simp
    first | done | with_reducible rfl
  (try simp only [Act.put, List.setIfInBounds_toArray, List.set_cons_zero, List.set_cons_succ])
  refine wpAnyH_take (i := 4) (oi := { dst := some 50, op := Op.slice 23 (Operand.tmp 46) (some (Operand.tmp 49)) none none, type := 23, pos := "slices.go:154", after := #[{ on := 0, ground := Ground.data }, { on := 3, ground := Ground.data }], guard := none }) (v := ?_) rfl (by kernel_rfl) (by kernel_rfl) (by kernel_rfl) (fun _ _ _ h => h) (Or.inl ⟨by rfl, ?_⟩) hHeld ?_
  rotate_left 1
  · intro u hSu
    go_simp
    first | done | with_reducible rfl
  (try simp only [Act.put, List.setIfInBounds_toArray, List.set_cons_zero, List.set_cons_succ])
  refine wpAnyH_take (i := 5) (oi := { dst := some 51, op := Op.move (Operand.tmp 0), type := 23, pos := "slices.go:154", after := #[], guard := none }) (v := ?_) rfl (by kernel_rfl) (by kernel_rfl) (by kernel_rfl) (fun _ _ _ h => h) (Or.inl ⟨by rfl, ?_⟩) hHeld ?_
  rotate_left 1
  · intro u hSu
    go_simp
    first | done | with_reducible rfl
  (try simp only [Act.put, List.setIfInBounds_toArray, List.set_cons_zero, List.set_cons_succ])
  refine wpAnyH_take (i := 6) (oi := { dst := some 52, op := Op.move (Operand.tmp 1), type := 3, pos := "slices.go:154", after := #[], guard := none }) (v := ?_) rfl (by kernel_rfl) (by kernel_rfl) (by kernel_rfl) (fun _ _ _ h => h) (Or.inl ⟨by rfl, ?_⟩) hHeld ?_
  rotate_left 1
  · intro u hSu
    go_simp
    first | done | with_reducible rfl
  (try simp only [Act.put, List.setIfInBounds_toArray, List.set_cons_zero, List.set_cons_succ])
  refine wpAnyH_take (i := 7) (oi := { dst := some 53, op := Op.slice 23 (Operand.tmp 51) (some (Operand.tmp 52)) none none, type := 23, pos := "slices.go:154", after := #[{ on := 5, ground := Ground.data }, { on := 6, ground := Ground.data }], guard := none }) (v := ?_) rfl (by kernel_rfl) (by kernel_rfl) (by kernel_rfl) (fun _ _ _ h => h) (Or.inl ⟨by rfl, ?_⟩) hHeld ?_
  rotate_left 1
  · intro u hSu
    go_simp
    first | done | with_reducible rfl
  (try simp only [Act.put, List.setIfInBounds_toArray, List.set_cons_zero, List.set_cons_succ])
  refine wpAnyH_ready (rs := [8]) (by kernel_rfl) (by simp) ?_
  refine AllReadyH.cons (o := { dst := some 54, op := Op.call { callee := Callee.builtin Builtin.copy, args := #[Operand.tmp 50, Operand.tmp 53], argTypes := #[23, 23] }, type := 3, pos := "slices.go:154", after := #[{ on := 4, ground := Ground.data }, { on := 7, ground := Ground.data }], guard := none }) rfl (fun Kz hK => ?_) AllReadyH.nil
  refine step_copy_run rfl _ _ _ _ rfl _ _ rfl rfl (H11.out _ _ _) ?_
  refine hK.out _ _ (trivial) (fun hH2 => ?_)
  clear hK Kz hHeld
  have hHeld := hH2
  clear hH2
  (try simp only [Act.put, List.setIfInBounds_toArray, List.set_cons_zero, List.set_cons_succ])
  refine wpAnyH_done (by kernel_rfl) ?_ _
  clear hHeld
  go_wp2_with fail
  go_ret
  exact HG.out

set_option maxRecDepth 100000 in
set_option maxHeartbeats 3200000 in
/-- .. in place. -/
theorem dinsC_any (L : List Ad) (x : Ad) (base gx cx g cap i : Nat) (w : World) (h : w.ownsRow base 38 5 (.slice (some ⟨g, 0, none⟩) L.length cap) L.length (L.flatMap adL)) (hx : w.heap[gx]? = some (.cells #[.int .i64 x.r, .int .i64 x.q, .bool x.cp, .slice x.pL x.L.length x.cL, .slice x.pC x.C.length x.cC] 38 (0, 0))) (hm : L.length ≤ 1000) (hne : gx ≠ g) (hi : i < L.length) (hroom : L.length + 1 ≤ cap) :
    Calls Try.prog 89 #[.slice (some ⟨g, 0, none⟩) L.length cap, .int .i64 (i : Int), .slice (some ⟨gx, 0, none⟩) 1 cx] w fun e w' => InsPA (L.take i ++ x :: L.drop i) base (.slice (some ⟨g, 0, none⟩) L.length cap) w e w' := by
  obtain ⟨ii, hii, hi0, hi1, hi2⟩ := info_parts info_ad5
  have hcap : L.length ≤ cap ∧ cap ≤ 9223372036854775807 := by
    obtain ⟨p', c', e, k1, k2⟩ := own_shape h
    injection e with e1 e2 e3
    subst e3
    exact ⟨k1, k2⟩
  have hglt := h.lt g rfl
  obtain ⟨N, hN⟩ : ∃ N, L.length = N := ⟨_, rfl⟩
  have hlf := flat_len adL 5 adL_len L
  rw [hN] at h hm hcap hi hroom hlf ⊢
  have HN := Lib.hid hN
  obtain ⟨xs, hxs⟩ : ∃ xs, L.flatMap adL = xs := ⟨_, rfl⟩
  have HXS := Lib.hid (And.intro hxs (show xs.length = N * 5 by rw [← hxs]; exact hlf))
  rw [hxs] at h
  have hdl : (xs.drop (i * 5)).length = (N - i) * 5 := by rw [List.length_drop, HXS.out.2]; omega
  have hone : ∀ u ∈ xs, u.oneCell' = true := fun u hu => by
    rw [← hxs] at hu
    obtain ⟨y, -, hy⟩ := List.mem_flatMap.1 hu
    exact ad_one y u hy
  obtain ⟨Z, hZ, hown1⟩ := own_len h (N + 1) hroom
  rw [Nat.min_eq_left (by omega)] at hZ
  have hZl : Z.length = (N + 1) * 5 := hown1.1
  have hZp : ∀ j, j < i * 5 → Z[j]? = xs[j]? := fun j hj => by
    rw [← List.getElem?_take_of_lt (l := Z) (show j < N * 5 by omega), hZ, List.getElem?_take_of_lt (by omega)]
  have hov : ∀ lb cb, (callFunc 120 #[.slice (some ⟨gx, 0, none⟩) 1 cx, .slice (some ⟨g, (i + 1) * 5, none⟩) lb cb]).run Try.prog w = .ok (.value (.bool false)) w := fun lb cb => by
    obtain ⟨cur, hg⟩ : ∃ cur, w.heap[g]? = some (.cells cur 38 (0, 0)) ∧ cur.size ≠ 0 := by
      rcases h.2 with ⟨e1, _⟩ | ⟨g', cap', cur, e1, hb, hg, hn, hcm, hcs, ht⟩
      · cases e1
      · injection e1 with e2 e3 e4
        injection e2 with e2
        injection e2 with e5 e6
        subst e5
        exact ⟨cur, hg, by omega⟩
    rw [run_callFunc_extern Try.func120 (by kernel_rfl) (by kernel_rfl) (by kernel_rfl) (e := Extern.SlicesOverlaps.overlaps #[23, 23] #[4]) (by kernel_rfl),
      Lib.run_overlaps_apart w 23 4 38 Try.underlying23 5 (fun w => by simp [sizeOf, typeInfo, hii, hi1]) ⟨gx, 0, none⟩ ⟨g, (i + 1) * 5, none⟩ 1 cx lb cb hne 38 38 5 cur.size (by simp [World.shape?, hx]) (by simp [World.shape?, hg.1]) hg.2 (frozen_of_row _ _ 0 _ _ hx) (frozen_of_row _ _ 5 _ _ hx)]
    rfl
  have hcp1 : ∀ ty dc sc, (Builtin.copy_ #[23, 23] ty #[.slice (some ⟨g, (i + 1) * 5, none⟩) (N - i) dc, .slice (some ⟨g, i * 5, none⟩) (N + 1 - i) sc]).run Try.prog w.drew = .ok (goInt (N - i : Nat)) (w.drew.setCells g ((i + 1) * 5) (xs.drop (i * 5))) := fun ty dc sc =>
    run_copy_k Try.underlying23 hii w.drew ty g ((i + 1) * 5) _ _ ⟨g, i * 5, none⟩ (N + 1 - i) sc (xs.drop (i * 5)) (N - i) (by simp only [Nat.min_def]; split <;> omega) (by rw [hi1]; exact hdl) (fun j v hj => by
      rw [add_plain]
      rw [List.getElem?_drop] at hj
      have := h.drew.cells (g := g) rfl _ v hj
      rw [add_plain, Nat.zero_add] at this
      exact this)
      (fun j hj => (own_cellOk h.drew _ (by omega)).1) (fun j hj => (own_cellOk h.drew _ (by omega)).2) (fun u hu => hone u (List.mem_of_mem_drop hu))
  obtain ⟨s1, s2⟩ := own_setCells (xs.drop (i * 5)) ((i + 1) * 5) w.drew _ hown1.drew
  obtain ⟨w2, hw2⟩ : ∃ w2, w.drew.setCells g ((i + 1) * 5) (xs.drop (i * 5)) = w2 := ⟨_, rfl⟩
  rw [hw2] at hcp1 s1 s2
  have hg2 : w.grownBy w2 (some g) := grown_trans (grown_drew (grown_refl _ _)) s2
  have hx2 : w2.heap[gx]? = some (.cells #[.int .i64 x.r, .int .i64 x.q, .bool x.cp, .slice x.pL x.L.length x.cL, .slice x.pC x.C.length x.cC] 38 (0, 0)) := kept_row hx hg2 (fun e => hne (Option.some.inj e))
  have hcp2 : ∀ ty dc, (Builtin.copy_ #[23, 23] ty #[.slice (some ⟨g, i * 5, none⟩) (N + 1 - i) dc, .slice (some ⟨gx, 0, none⟩) 1 cx]).run Try.prog w2 = .ok (goInt 1) (w2.setCells g (i * 5) (adL x)) := fun ty dc =>
    run_copy_k Try.underlying23 hii w2 ty g (i * 5) _ _ ⟨gx, 0, none⟩ 1 cx (adL x) 1 (by simp only [Nat.min_def]; split <;> omega) (by rw [hi1]; rfl) (insA_src hx2)
      (fun j hj => (own_cellOk s1 _ (by have : (adL x).length = 5 := rfl; omega)).1) (fun j hj => (own_cellOk s1 _ (by have : (adL x).length = 5 := rfl; omega)).2) (ad_one x)
  obtain ⟨t1, t2⟩ := own_setCells (adL x) (i * 5) w2 _ s1
  obtain ⟨w3, hw3⟩ : ∃ w3, w2.setCells g (i * 5) (adL x) = w3 := ⟨_, rfl⟩
  rw [hw3] at hcp2 t1 t2
  rw [ains_cells2 HXS.out.2 rfl hZl (by omega) hZp, ← HXS.out.1, ← insA_flat] at t1
  have H14 := Lib.hid hov
  have H15 := Lib.hid hcp1
  have H16 := Lib.hid hcp2
  have HG : Hid (InsPA (L.take i ++ x :: L.drop i) base (.slice (some ⟨g, 0, none⟩) N cap) w (.returned (.slice (some ⟨g, 0, none⟩) (N + 1) cap)) w3) := Lib.hid ⟨g, cap, N + 1, some g, by rw [List.length_append, List.length_cons, List.length_take, List.length_drop, HN.out]; omega, rfl, t1, grown_trans hg2 t2, Or.inl rfl, Or.inl rfl⟩
  have n1 : ((i : Int) == (N : Int)) = false := by rw [beq_eq_false_iff_ne]; omega
  have n2 : ¬ (cap : Int) < (N : Int) + 1 := by omega
  have n3 : N + 1 ≤ cap := hroom
  have n4 : (i : Int) ≤ (N : Int) := by omega
  have n5 : ¬ cap = i := by omega
  have n7 : ¬ cap = i + 1 := by omega
  have n8 : (i : Int) + 1 ≤ (N : Int) + 1 := by omega
  have n9 : (i : Int) ≤ (N : Int) + 1 := by omega
  have n10 : (N : Int) + 1 ≤ (cap : Int) := by omega
  have n11 : (0 : Int) ≤ (i : Int) + 1 := by omega
  have u1 : IntKind.i64.wrap ((i : Int) + 1) = (i : Int) + 1 := by rw [IntKind.wrap_i64]; omega
  have u2 : ((i : Int) + 1).toNat = i + 1 := by omega
  have n12 : (0 : Int) ≤ (N : Int) + 1 := by omega
  have n13 : ((N : Int) + 1).toNat = N + 1 := by omega
  clear hov hcp1 hcp2 t1 t2 s1 s2 hw2 hw3 h hone hdl hlf hxs hN hZp hZl hZ hown1 hx hx2 hg2 hroom hglt hi0
  go_enter Try.func89, Try.ntmps89
  go_upto_region 14 with fail
  go_wp2_with fail
  rw [H14.out]
  go_upto_region 15 with fail
  refine wp_region_held_drew (S := fun _ => True) (by kernel_rfl) (trivial) (fun hHeld => ?_)
  refine wpAnyH_take (i := 0) (oi := { dst := some 69, op := Op.move (Operand.tmp 0), type := 23, pos := "slices.go:178", after := #[], guard := none }) (v := ?_) rfl (by kernel_rfl) (by kernel_rfl) (by kernel_rfl) (fun _ _ _ h => h) (Or.inl ⟨by rfl, ?_⟩) hHeld ?_
  rotate_left 1
  · intro u hSu
    go_simp
    first | done | with_reducible rfl
  (try simp only [Act.put, List.setIfInBounds_toArray, List.set_cons_zero, List.set_cons_succ])
  refine wpAnyH_take (i := 1) (oi := { dst := some 70, op := Op.move (Operand.tmp 1), type := 3, pos := "slices.go:178", after := #[], guard := none }) (v := ?_) rfl (by kernel_rfl) (by kernel_rfl) (by kernel_rfl) (fun _ _ _ h => h) (Or.inl ⟨by rfl, ?_⟩) hHeld ?_
  rotate_left 1
  · intro u hSu
    go_simp
    first | done | with_reducible rfl
  (try simp only [Act.put, List.setIfInBounds_toArray, List.set_cons_zero, List.set_cons_succ])
  refine wpAnyH_take (i := 2) (oi := { dst := some 71, op := Op.move (Operand.tmp 7), type := 3, pos := "slices.go:178", after := #[], guard := none }) (v := ?_) rfl (by kernel_rfl) (by kernel_rfl) (by kernel_rfl) (fun _ _ _ h => h) (Or.inl ⟨by rfl, ?_⟩) hHeld ?_
  rotate_left 1
  · intro u hSu
    go_simp
    first | done | with_reducible rfl
  (try simp only [Act.put, List.setIfInBounds_toArray, List.set_cons_zero, List.set_cons_succ])
  refine wpAnyH_take (i := 3) (oi := { dst := some 72, op := Op.binOp BinOp.add 3 (Operand.tmp 70) (Operand.tmp 71) 3, type := 3, pos := "slices.go:178", after := #[{ on := 1, ground := Ground.data }, { on := 2, ground := Ground.data }], guard := none }) (v := ?_) rfl (by kernel_rfl) (by kernel_rfl) (by kernel_rfl) (fun _ _ _ h => h) (Or.inl ⟨by rfl, ?_⟩) hHeld ?_
  rotate_left 1
  · intro u hSu
    go_simp
    first | done | with_reducible rfl
  (try simp only [Act.put, List.setIfInBounds_toArray, List.set_cons_zero, List.set_cons_succ])
  refine wpAnyH_take (i := 4) (oi := { dst := some 73, op := Op.slice 23 (Operand.tmp 69) (some (Operand.tmp 72)) none none, type := 23, pos := "slices.go:178", after := #[{ on := 0, ground := Ground.data }, { on := 3, ground := Ground.data }], guard := none }) (v := ?_) rfl (by kernel_rfl) (by kernel_rfl) (by kernel_rfl) (fun _ _ _ h => h) (Or.inl ⟨by rfl, ?_⟩) hHeld ?_
  rotate_left 1
  · intro u hSu
    go_simp
    first | done | with_reducible rfl
  (try simp only [Act.put, List.setIfInBounds_toArray, List.set_cons_zero, List.set_cons_succ])
  refine wpAnyH_take (i := 5) (oi := { dst := some 74, op := Op.move (Operand.tmp 0), type := 23, pos := "slices.go:178", after := #[], guard := none }) (v := ?_) rfl (by kernel_rfl) (by kernel_rfl) (by kernel_rfl) (fun _ _ _ h => h) (Or.inl ⟨by rfl, ?_⟩) hHeld ?_
  rotate_left 1
  · intro u hSu
    go_simp
    first | done | with_reducible rfl
  (try simp only [Act.put, List.setIfInBounds_toArray, List.set_cons_zero, List.set_cons_succ])
  refine wpAnyH_take (i := 6) (oi := { dst := some 75, op := Op.move (Operand.tmp 1), type := 3, pos := "slices.go:178", after := #[], guard := none }) (v := ?_) rfl (by kernel_rfl) (by kernel_rfl) (by kernel_rfl) (fun _ _ _ h => h) (Or.inl ⟨by rfl, ?_⟩) hHeld ?_
  rotate_left 1
  · intro u hSu
    go_simp
    first | done | with_reducible rfl
  (try simp only [Act.put, List.setIfInBounds_toArray, List.set_cons_zero, List.set_cons_succ])
  refine wpAnyH_take (i := 7) (oi := { dst := some 76, op := Op.slice 23 (Operand.tmp 74) (some (Operand.tmp 75)) none none, type := 23, pos := "slices.go:178", after := #[{ on := 5, ground := Ground.data }, { on := 6, ground := Ground.data }], guard := none }) (v := ?_) rfl (by kernel_rfl) (by kernel_rfl) (by kernel_rfl) (fun _ _ _ h => h) (Or.inl ⟨by rfl, ?_⟩) hHeld ?_
  rotate_left 1
  · intro u hSu
    go_simp
    first | done | with_reducible rfl
  (try simp only [Act.put, List.setIfInBounds_toArray, List.set_cons_zero, List.set_cons_succ])
  refine wpAnyH_ready (rs := [8]) (by kernel_rfl) (by simp) ?_
  refine AllReadyH.cons (o := { dst := some 77, op := Op.call { callee := Callee.builtin Builtin.copy, args := #[Operand.tmp 73, Operand.tmp 76], argTypes := #[23, 23] }, type := 3, pos := "slices.go:178", after := #[{ on := 4, ground := Ground.data }, { on := 7, ground := Ground.data }], guard := none }) rfl (fun Kz hK => ?_) AllReadyH.nil
  refine step_copy_run rfl _ _ _ _ rfl _ _ rfl rfl (H15.out _ _ _) ?_
  refine hK.out _ _ (trivial) (fun hH2 => ?_)
  clear hK Kz hHeld
  have hHeld := hH2
  clear hH2
  (try simp only [Act.put, List.setIfInBounds_toArray, List.set_cons_zero, List.set_cons_succ])
  refine wpAnyH_done (by kernel_rfl) ?_ _
  clear hHeld
  go_wp2_with (refine wpList_copy_run rfl _ _ 23 23 rfl _ _ rfl rfl (H16.out _ _) ?_)
  go_wp2_with fail
  go_ret
  exact HG.out
set_option maxRecDepth 100000 in
/-- Insert, wherever. -/
theorem dinsert_any (L : List Ad) (x : Ad) (base gx cx i : Nat) (v : Value) (w : World) (h : w.ownsRow base 38 5 v L.length (L.flatMap adL)) (hx : w.heap[gx]? = some (.cells #[.int .i64 x.r, .int .i64 x.q, .bool x.cp, .slice x.pL x.L.length x.cL, .slice x.pC x.C.length x.cC] 38 (0, 0))) (hm : L.length ≤ 1000) (hb : base ≤ w.heap.size) (hne : v.ownBlock ≠ some gx) (hi : i ≤ L.length) :
    Calls Try.prog 89 #[v, .int .i64 (i : Int), .slice (some ⟨gx, 0, none⟩) 1 cx] w fun e w' => InsPA (L.take i ++ x :: L.drop i) base v w e w' := by
  rcases Nat.lt_or_ge i L.length with h1 | h1
  · obtain ⟨g, cap, rfl, -, -⟩ := h.form (by omega)
    rcases Nat.lt_or_ge cap (L.length + 1) with h2 | h2
    · exact dinsB_any L x base gx cx g cap i w h hx hm hb h1 h2
    · exact dinsC_any L x base gx cx g cap i w h hx hm (fun e => hne (by rw [e]; rfl)) h1 h2
  · obtain rfl : i = L.length := by omega
    obtain ⟨p, c, rfl, -, -⟩ := own_shape h
    rw [List.take_length, List.drop_length]
    exact dinsA_any L x base gx cx p c w h hx hm hb
set_option maxRecDepth 100000 in
/-- An advert is stored into a row. -/
theorem set_flat (L : List Ad) (A : Ad) (i : Nat) (hi : i < L.length) : setAt (L.flatMap adL) (i * 5) (adL A) = (L.set i A).flatMap adL := by
  have hl : (L.flatMap adL).length = L.length * 5 := flat_len adL 5 adL_len L
  have h5 : (adL A).length = 5 := rfl
  refine alist_eq ?_ (fun j hj => ?_)
  · rw [setAt_len, flat_len adL 5 adL_len, flat_len adL 5 adL_len, List.length_set]
  · rw [setAt_len, hl] at hj
    rw [setAt_get _ _ _ _ (by rw [h5, hl]; omega), h5]
    have hm : j % 5 < 5 := Nat.mod_lt _ (by decide)
    have hd : j = j / 5 * 5 + j % 5 := by omega
    have hjl : j / 5 < L.length := by omega
    by_cases h : i = j / 5
    · rw [if_pos (by omega)]
      have h1 : (L.set i A)[j / 5]? = some A := by rw [h, List.getElem?_set_self (by omega)]
      rw [hd, flat_at adL 5 adL_len _ _ _ _ h1 hm, ← hd]
      congr 1
      omega
    · rw [if_neg (by omega)]
      have h1 : (L.set i A)[j / 5]? = some L[j / 5] := by rw [List.getElem?_set_ne h]; exact List.getElem?_eq_getElem hjl
      rw [hd, flat_at adL 5 adL_len _ _ _ _ h1 hm, flat_at adL 5 adL_len _ _ _ _ (List.getElem?_eq_getElem hjl) hm]
set_option maxRecDepth 100000 in
theorem own_set5 {w : World} {base g n cap i : Nat} {L : List Ad} (A : Ad) (h : w.ownsRow base 38 5 (.slice (some ⟨g, 0, none⟩) n cap) n (L.flatMap adL)) (hi : i < L.length) :
    (((((w.setCell ⟨g, i * 5, none⟩ (.int .i64 A.r)).setCell ⟨g, i * 5 + 1, none⟩ (.int .i64 A.q)).setCell ⟨g, i * 5 + 2, none⟩ (.bool A.cp)).setCell ⟨g, i * 5 + 3, none⟩ (.slice A.pL A.L.length A.cL)).setCell ⟨g, i * 5 + 4, none⟩ (.slice A.pC A.C.length A.cC)).ownsRow base 38 5 (.slice (some ⟨g, 0, none⟩) n cap) n ((L.set i A).flatMap adL) ∧
    w.grownBy (((((w.setCell ⟨g, i * 5, none⟩ (.int .i64 A.r)).setCell ⟨g, i * 5 + 1, none⟩ (.int .i64 A.q)).setCell ⟨g, i * 5 + 2, none⟩ (.bool A.cp)).setCell ⟨g, i * 5 + 3, none⟩ (.slice A.pL A.L.length A.cL)).setCell ⟨g, i * 5 + 4, none⟩ (.slice A.pC A.C.length A.cC)) (some g) := by
  have h1 := own_setCells (adL A) (i * 5) w _ h
  rw [set_flat L A i hi] at h1
  exact h1
end Go.Proofs.Ytnpkihioklpnmaa

/- What View says: look-ups, linked routers, the routers that are reached, the topology. The mathematics. -/
namespace Go.Proofs.Ytnpkihioklpnmaa
open Go.RowKit Bs
def isR (r : Int) (A : Ad) : Bool := decide (A.r = r)
def fndA (l : List Ad) (r : Int) : Option Ad := l.find? (isR r)
def isN (r : Int) (x : T3) : Bool := decide (x.a = r)
def rcA (A : Ad) (r : Int) : Option T3 := A.L.find? (isN r)
def rcV (A : Ad) (r : Int) : T3 := (rcA A r).getD ⟨0, 0, 0⟩
/-- The advert that a link leads to, if it leads back. -/
def lk1 (l : List Ad) (A : Ad) (x : T3) : List Ad := match fndA l x.a with
  | some B => if (rcA B A.r).isSome = true then [B] else []
  | none => []
/-- The adverts of the routers that are linked with A's. -/
def lnk (l : List Ad) (A : Ad) : List Ad := A.L.flatMap (lk1 l A)
set_option maxRecDepth 100000 in
theorem fndA_some {l : List Ad} {r : Int} {B : Ad} (h : fndA l r = some B) : B ∈ l ∧ B.r = r := by
  have h2 : isR r B = true := List.find?_some h
  exact ⟨List.mem_of_find?_eq_some h, of_decide_eq_true h2⟩
set_option maxRecDepth 100000 in
theorem lnk_mem {l : List Ad} {A B : Ad} (h : B ∈ lnk l A) : B ∈ l := by
  unfold lnk at h
  obtain ⟨x, _, hx⟩ := List.mem_flatMap.1 h
  unfold lk1 at hx
  cases hf : fndA l x.a with
  | none => rw [hf] at hx; cases hx
  | some C =>
    rw [hf] at hx
    simp only at hx
    split at hx
    · rw [List.mem_singleton] at hx; subst hx; exact (fndA_some hf).1
    · cases hx
set_option maxRecDepth 100000 in
theorem lnk_len (l : List Ad) (A : Ad) : (lnk l A).length ≤ A.L.length := by
  unfold lnk
  generalize A.L = M
  induction M with
  | nil => simp
  | cons x M ih =>
    rw [List.flatMap_cons, List.length_append, List.length_cons]
    have : (lk1 l A x).length ≤ 1 := by
      unfold lk1
      cases fndA l x.a with
      | none => simp
      | some C => simp only; split <;> simp
    omega
set_option maxRecDepth 100000 in
theorem lnk_snoc {l : List Ad} {A : Ad} {k : Nat} {x : T3} (h : A.L[k]? = some x) : (A.L.take (k + 1)).flatMap (lk1 l A) = (A.L.take k).flatMap (lk1 l A) ++ lk1 l A x := by
  rw [List.take_add_one, h, List.flatMap_append]
  simp
def inS (S : List Int) (r : Int) : Bool := S.any (fun x => decide (x = r))
set_option maxRecDepth 100000 in
theorem inS_app (S T : List Int) (r : Int) : inS (S ++ T) r = (inS S r || inS T r) := by unfold inS; rw [List.any_append]
set_option maxRecDepth 100000 in
theorem inS_one (x r : Int) : inS [x] r = decide (x = r) := by unfold inS; simp
/-- One linked router is met: what has been reached, and what has still to be looked at. -/
def addA (st : List Int × List Ad) (B : Ad) : List Int × List Ad := if inS st.1 B.r = true then st else (st.1 ++ [B.r], st.2 ++ [B])
/-- How many adverts' routers have not been reached. -/
def unv (l : List Ad) (S : List Int) : Nat := (l.filter (fun A => !inS S A.r)).length
def bfs (l : List Ad) : Nat → List Int → List Ad → List Int
  | 0, S, _ => S
  | _ + 1, S, [] => S
  | n + 1, S, A :: W => bfs l n ((lnk l A).foldl addA (S, W)).1 ((lnk l A).foldl addA (S, W)).2
set_option maxRecDepth 100000 in
theorem bfs_nil (l : List Ad) (n : Nat) (S : List Int) : bfs l n S [] = S := by cases n <;> rfl
set_option maxRecDepth 100000 in
theorem unv_add {l : List Ad} (hp : l.Pairwise (fun A B => A.r < B.r)) {S : List Int} {B : Ad} (hB : B ∈ l) (h : inS S B.r = false) : unv l (S ++ [B.r]) + 1 = unv l S := by
  unfold unv
  induction l with
  | nil => cases hB
  | cons A t ih =>
    obtain ⟨h1, h2⟩ := List.pairwise_cons.1 hp
    rw [List.filter_cons, List.filter_cons, inS_app, inS_one]
    rcases List.mem_cons.1 hB with e | hB
    · subst e
      have hne : t.filter (fun A => !inS (S ++ [B.r]) A.r) = t.filter (fun A => !inS S A.r) := by
        refine List.filter_congr fun A hA => ?_
        have := h1 A hA
        rw [inS_app, inS_one, decide_eq_false (by omega), Bool.or_false]
      rw [hne, h]
      simp
    · have := h1 B hB
      rw [decide_eq_false (show ¬ B.r = A.r by omega), Bool.or_false]
      have ih := ih h2 hB
      cases inS S A.r
      · simp only [Bool.not_false, if_true, List.length_cons]; omega
      · simp only [Bool.not_true]; exact ih
set_option maxRecDepth 100000 in
theorem add_keep {l : List Ad} (hp : l.Pairwise (fun A B => A.r < B.r)) : ∀ (M : List Ad), (∀ B ∈ M, B ∈ l) → ∀ st : List Int × List Ad, unv l (M.foldl addA st).1 + (M.foldl addA st).2.length = unv l st.1 + st.2.length
  | [], _, st => rfl
  | B :: M, hM, st => by
    rw [List.foldl_cons, add_keep hp M (fun C hC => hM C (List.mem_cons_of_mem _ hC))]
    unfold addA
    split
    · rfl
    · rename_i h
      have := unv_add hp (S := st.1) (hM B List.mem_cons_self) (by simpa using h)
      simp only [List.length_append, List.length_singleton]
      omega
/-- The routers that are reached from one. -/
def reS (l : List Ad) (r : Int) : List Int := match fndA l r with
  | none => []
  | some A => bfs l (unv l [r] + 1) [r] [A]
set_option maxRecDepth 100000 in
theorem bfs_step {l : List Ad} (hp : l.Pairwise (fun A B => A.r < B.r)) {S : List Int} {A : Ad} {W : List Ad} : bfs l (unv l S + (A :: W).length) S (A :: W) = bfs l (unv l ((lnk l A).foldl addA (S, W)).1 + ((lnk l A).foldl addA (S, W)).2.length) ((lnk l A).foldl addA (S, W)).1 ((lnk l A).foldl addA (S, W)).2 := by
  rw [add_keep hp (lnk l A) (fun B hB => lnk_mem hB) (S, W)]
  show bfs l (unv l S + W.length + 1) S (A :: W) = _
  rw [bfs]
set_option maxRecDepth 100000 in
/-- What is to be looked at comes from the database. -/
theorem add_from {l : List Ad} : ∀ (M : List Ad), (∀ B ∈ M, B ∈ l) → ∀ st : List Int × List Ad, (∀ B ∈ st.2, B ∈ l) → ∀ B ∈ (M.foldl addA st).2, B ∈ l
  | [], _, st, h, B, hB => h B hB
  | C :: M, hM, st, h, B, hB => by
    rw [List.foldl_cons] at hB
    refine add_from M (fun D hD => hM D (List.mem_cons_of_mem _ hD)) (addA st C) (fun D hD => ?_) B hB
    unfold addA at hD
    split at hD
    · exact h D hD
    · rcases List.mem_append.1 hD with hD | hD
      · exact h D hD
      · rw [List.mem_singleton] at hD; subst hD; exact hM D List.mem_cons_self
/-- The link between two linked routers. -/
def btw (A B : Ad) : Lk := ⟨A.r, B.r, (rcV A B.r).b, (rcV B A.r).b, min (rcV A B.r).c (rcV B A.r).c⟩
def ltA (A B : Ad) : Bool := decide (A.r < B.r)
/-- The links of one router to greater ones. -/
def vL1 (l : List Ad) (A : Ad) : List Lk := ((lnk l A).filter (ltA A)).map (btw A)
def inV (S : List Int) (A : Ad) : Bool := inS S A.r
def toR (A : Ad) : Rt := ⟨A.r, A.cp⟩
def vwR (l : List Ad) (S : List Int) : List Rt := (l.filter (inV S)).map toR
def vwL (l : List Ad) (S : List Int) : List Lk := (l.filter (inV S)).flatMap (vL1 l)
/-- The view. -/
def viewV (l : List Ad) (r : Int) : List Rt × List Lk :=
  if okD l = true then (if chk (vwR l (reS l r)) (vwL l (reS l r)) = 0 then (vwR l (reS l r), vwL l (reS l r)) else ([], [])) else ([], [])
end Go.Proofs.Ytnpkihioklpnmaa

/- database: where the advert of a router is (place); what an advert says of a router (reach); the link between two. -/
namespace Go.Proofs.Ytnpkihioklpnmaa
open Go.RowKit Bs
/-- Where the search for a router ends. -/
structure PlP (l : List Ad) (t : Int) (i : Nat) (b : Bool) : Prop where
  le : i ≤ l.length
  lo : ∀ x, 0 < i → l[i - 1]? = some x → x.r < t
  hi : ∀ x, l[i]? = some x → t ≤ x.r
  eq : b = (match l[i]? with | some x => decide (x.r = t) | none => false)
set_option maxRecDepth 100000 in
/-- In ascending adverts: it finds what there is. -/
theorem PlP.fnd {l : List Ad} (hp : l.Pairwise (fun A B => A.r < B.r)) {t : Int} {i : Nat} {b : Bool} (h : PlP l t i b) : (b = true → l[i]? = fndA l t ∧ (fndA l t).isSome = true) ∧ (b = false → fndA l t = none) := by
  have hlt : ∀ (a c : Nat) (x y : Ad), l[a]? = some x → l[c]? = some y → a < c → x.r < y.r := fun a c x y ha hc hac => by
    obtain ⟨h1, rfl⟩ := List.getElem?_eq_some_iff.1 ha
    obtain ⟨h2, rfl⟩ := List.getElem?_eq_some_iff.1 hc
    exact List.pairwise_iff_getElem.1 hp a c h1 h2 hac
  have heq := h.eq
  constructor
  · intro hb
    cases hx : l[i]? with
    | none => rw [hx] at heq; rw [heq] at hb; cases hb
    | some x =>
      rw [hx] at heq
      simp only at heq
      rw [hb] at heq
      have hxr : x.r = t := of_decide_eq_true heq.symm
      cases hf : fndA l t with
      | none =>
        have := List.find?_eq_none.1 hf x (List.mem_of_getElem? hx)
        unfold isR at this
        rw [decide_eq_true hxr] at this
        exact absurd rfl this
      | some B =>
        obtain ⟨h1, h2⟩ := fndA_some hf
        obtain ⟨j, hj⟩ := List.mem_iff_getElem?.1 h1
        refine ⟨congrArg some ?_, rfl⟩
        rcases Nat.lt_trichotomy i j with h3 | h3 | h3
        · have := hlt i j x B hx hj h3; omega
        · subst h3; rw [hx] at hj; exact Option.some.inj hj
        · have := hlt j i B x hj hx h3; omega
  · intro hb
    cases hf : fndA l t with
    | none => rfl
    | some B =>
      obtain ⟨h1, h2⟩ := fndA_some hf
      obtain ⟨j, hj⟩ := List.mem_iff_getElem?.1 h1
      exfalso
      rcases Nat.lt_trichotomy i j with h3 | h3 | h3
      · have hil : i < l.length := by have := (List.getElem?_eq_some_iff.1 hj).1; omega
        have hxi : l[i]? = some l[i] := List.getElem?_eq_getElem hil
        have h4 := hlt i j _ B hxi hj h3
        have h5 := h.hi _ hxi
        omega
      · subst h3
        rw [hj] at heq
        simp only at heq
        rw [hb, decide_eq_true h2] at heq
        cases heq
      · have hil : i - 1 < l.length := by have := h.le; omega
        have hxi : l[i - 1]? = some l[i - 1] := List.getElem?_eq_getElem hil
        have h5 := h.lo _ (by omega) hxi
        rcases Nat.lt_or_ge j (i - 1) with h6 | h6
        · have := hlt j (i - 1) B _ hj hxi h6; omega
        · have : j = i - 1 := by omega
          subst this
          rw [hj] at hxi
          have := Option.some.inj hxi
          rw [← this] at h5
          omega
def PlPost (l : List Ad) (t : Int) (w : World) (e : Ending) (w' : World) : Prop := ∃ (i : Nat) (b : Bool), e = .returned (.tuple #[.int .i64 (i : Int), .bool b]) ∧ PlP l t i b ∧ w.grownBy w' none
set_option maxRecDepth 100000 in
theorem dpl1_any (A : Ad) (t : Int) (w : World) :
    Calls Try.prog 119 #[.agg #[.int .i64 A.r, .int .i64 A.q, .bool A.cp, .slice A.pL A.L.length A.cL, .slice A.pC A.C.length A.cC], .int .i64 t] w fun e w' => e = .returned (.int .i64 (cmpV A.r t)) ∧ w.grownBy w' none := by
  obtain ⟨k1, k2⟩ := tone_box w #[.int .i64 A.r, .int .i64 A.q, .bool A.cp, .slice A.pL A.L.length A.cL, .slice A.pC A.C.length A.cC] 38
  have HB := Lib.hid (And.intro k1 k2)
  clear k1 k2
  go_enter Try.func119, Try.ntmps119
  go_upto_region 1 with fail
  generalize w.alloc _ = wa at *
  obtain ⟨c0, c1, c2, c3, c4⟩ := row5 HB.out.1
  go_wp2_with fail
  refine (tcmp_any _ _ _).mono ?_
  rintro e w1 ⟨rfl, rfl⟩
  go_wp2_with fail
  go_ret
  exact ⟨rfl, HB.out.2⟩
set_option maxRecDepth 100000 in
set_option maxHeartbeats 3200000 in
theorem dbs_any (l : List Ad) (t : Int) (p : Option Addr) (c : Nat) (q : Nat → Prop) (w : World) (hR : RdA w q (.slice p l.length c) l) (hm : l.length ≤ 1000000) :
    Calls Try.prog 118 #[.slice p l.length c, .int .i64 t, .func (.func 119) #[] #[]] w fun e w' => PlPost l t w e w' := by
  have eg : EnterF 119 := enters_of Try.func119 (by kernel_rfl) rfl
  have HR := Lib.hid hR
  clear hR
  have GZ : Hid (w.grownBy w none) := Lib.hid (grown_refl _ _)
  go_enter Try.func118, Try.ntmps118
  go_wp2_with fail
  go_loopw [9, 10] (fun vi vj wr => ∃ I J : Nat, I ≤ J ∧ J ≤ l.length ∧ vi = .int .i64 (I : Int) ∧ vj = .int .i64 (J : Int) ∧ Hid ((∀ x, 0 < I → l[I - 1]? = some x → x.r < t) ∧ ∀ x, l[J]? = some x → t ≤ x.r) ∧ Hid (w.grownBy wr none)) (fun vi vj _ => ((RowKit.intOf vj) - (RowKit.intOf vi)).toNat)
  case atStart => exact ⟨0, l.length, Nat.zero_le _, Nat.le_refl _, rfl, rfl, Lib.hid ⟨fun x h => by omega, fun x h => by rw [List.getElem?_eq_none (Nat.le_refl _)] at h; cases h⟩, GZ⟩
  case round =>
  obtain ⟨I, J, hIJ, hJ, rfl, rfl, HI, G⟩ := hrel
  clear GZ
  by_cases hlt : I < J
  · have hlt' : (I : Int) < (J : Int) := by omega
    obtain ⟨h, hh⟩ : ∃ h, (I + J) / 2 = h := ⟨_, rfl⟩
    have h1 : I ≤ h := by omega
    have h2 : h < J := by omega
    have hsum : (I : Int) + (J : Int) ≤ 2000000 := by omega
    go_upto_region 4 with fail
    go_cut [11] from 18 to 23 (fun v wx => v = .int .i64 (h : Int) ∧ wr = wx)
    case first =>
      go_wp2_with fail
      go_meet
      exact ⟨congrArg _ (by omega), rfl⟩
    case rest =>
    obtain ⟨rfl, rfl⟩ := hcut
    clear hh hsum
    obtain ⟨-, b, off, rfl, -, hc⟩ := rda_cells (HR.out.keep G.out) (by omega)
    obtain ⟨y, hy⟩ : ∃ y, l[h]? = some y := ⟨_, List.getElem?_eq_getElem (by omega)⟩
    obtain ⟨a0, a1, a2, a3, a4⟩ := hc h y hy
    have HY := Lib.hid hy
    have i0 : (0 : Int) ≤ (h : Int) := by omega
    have i1 : (h : Int) < (l.length : Int) := by omega
    obtain ⟨z, hz⟩ : ∃ z, cmpV y.r t = z := ⟨_, rfl⟩
    have hcall := dpl1_any y t wr
    rw [hz] at hcall
    have HZ := Lib.hid hz
    clear hc hy hz
    by_cases hzn : z < 0
    · have hzd : decide (z < 0) = true := decide_eq_true hzn
      go_wp2_with fail
      refine hcall.mono ?_
      rintro e w' ⟨rfl, hg⟩
      have H9 := Lib.hid (grown_trans G.out hg)
      clear hg a0 a1 a2 a3 a4
      go_wp2_with fail
      exact ⟨⟨h + 1, J, by omega, hJ, congrArg _ (by omega), rfl, Lib.hid ⟨fun x _ hx => by rw [Nat.add_sub_cancel, HY.out] at hx; obtain rfl := Option.some.inj hx; exact cmpV_lt.1 (by rw [HZ.out]; exact hzn), HI.out.2⟩, H9⟩, by simp only [RowKit.intOf]; omega⟩
    · have hzd : decide (z < 0) = false := decide_eq_false hzn
      go_wp2_with fail
      refine hcall.mono ?_
      rintro e w' ⟨rfl, hg⟩
      have H9 := Lib.hid (grown_trans G.out hg)
      clear hg a0 a1 a2 a3 a4
      go_wp2_with fail
      exact ⟨⟨I, h, h1, by omega, rfl, rfl, Lib.hid ⟨HI.out.1, fun x hx => by rw [HY.out] at hx; obtain rfl := Option.some.inj hx; exact cmpV_ge.1 (by rw [HZ.out]; omega)⟩, H9⟩, by simp only [RowKit.intOf]; omega⟩
  · obtain rfl : I = J := by omega
    have hnl : ¬ ((I : Int) < (I : Int)) := by omega
    by_cases hn : I < l.length
    · obtain ⟨-, b, off, rfl, -, hc⟩ := rda_cells (HR.out.keep G.out) (by omega)
      obtain ⟨y, hy⟩ : ∃ y, l[I]? = some y := ⟨_, List.getElem?_eq_getElem hn⟩
      obtain ⟨a0, a1, a2, a3, a4⟩ := hc I y hy
      have HY := Lib.hid hy
      have i0 : (0 : Int) ≤ (I : Int) := by omega
      have i1 : (I : Int) < (l.length : Int) := by omega
      have i2 : decide ((I : Int) < (l.length : Int)) = true := decide_eq_true i1
      obtain ⟨z, hz⟩ : ∃ z, cmpV y.r t = z := ⟨_, rfl⟩
      have hcall := dpl1_any y t wr
      rw [hz] at hcall
      have HZ := Lib.hid hz
      clear hc hy hz
      go_wp2_with fail
      refine hcall.mono ?_
      rintro e w' ⟨rfl, hg⟩
      have H9 := Lib.hid (grown_trans G.out hg)
      clear hg a0 a1 a2 a3 a4
      go_wp2_with fail
      go_ret2
      refine ⟨I, _, rfl, ⟨hJ, HI.out.1, HI.out.2, ?_⟩, H9.out⟩
      rw [HY.out]
      simp only
      rw [← HZ.out, Bool.eq_iff_iff, beq_iff_eq, decide_eq_true_eq]
      exact cmpV_eq
    · obtain rfl : I = l.length := by omega
      have hn' : decide ((l.length : Int) < (l.length : Int)) = false := decide_eq_false (by omega)
      go_wp2_with fail
      go_ret2
      refine ⟨l.length, _, rfl, ⟨hJ, HI.out.1, HI.out.2, ?_⟩, G.out⟩
      rw [List.getElem?_eq_none (Nat.le_refl _)]
set_option maxRecDepth 100000 in
theorem dplace_any (l : List Ad) (t : Int) (p : Option Addr) (c : Nat) (q : Nat → Prop) (w : World) (hR : RdA w q (.slice p l.length c) l) (hm : l.length ≤ 1000000) :
    Calls Try.prog 88 #[.slice p l.length c, .int .i64 t] w fun e w' => PlPost l t w e w' := by
  have HR := Lib.hid hR
  clear hR
  go_enter Try.func88, Try.ntmps88
  go_wp2_with fail
  refine (dbs_any l t p c q w HR.out hm).mono ?_
  rintro e w1 ⟨i, b, rfl, hP, hg⟩
  have HP := Lib.hid (And.intro hP hg)
  clear hP hg
  go_wp2_with fail
  go_ret2
  exact ⟨i, b, rfl, HP.out.1, HP.out.2⟩
set_option maxRecDepth 100000 in
theorem re_size : (Try.prog.info? 73).map (·.size) = some 3 := by kernel_rfl
set_option maxRecDepth 100000 in
theorem res_re_b {fn : Func} {p u : Tmp} (h : fn.results = #[.cell p 73, .tmp u]) (tmps : Array Value) (w : World) (g : Nat) (x y z : Value) (hp : tmps.getD p undef = .pointer (some ⟨g, 0, none⟩)) (hg : w.heap[g]? = some (.cells #[x, y, z] 73 (0, 0))) :
    (results fn tmps).run Try.prog w = .ok (.tuple #[.agg #[x, y, z], tmps.getD u undef]) w := by
  have hp' : tmps[p]?.getD undef = .pointer (some ⟨g, 0, none⟩) := by simpa using hp
  rw [results_cell_tmp h]
  simp [hp', asAddr, run_loadVar_row w g _ _ _ _ _ hg Try.underlying73 rfl re_size, Result.andThen]
set_option maxRecDepth 100000 in
theorem store3r {w : World} {g : Nat} {x0 x1 x2 : Value} {t : TypeId} (u0 u1 u2 : Value) (h : w.heap[g]? = some (.cells #[x0, x1, x2] t (0, 0))) :
    (((w.setCell ⟨g, 0, none⟩ u0).setCell ⟨g, 1, none⟩ u1).setCell ⟨g, 2, none⟩ u2).heap[g]? = some (.cells #[u0, u1, u2] t (0, 0)) ∧ w.grownBy (((w.setCell ⟨g, 0, none⟩ u0).setCell ⟨g, 1, none⟩ u1).setCell ⟨g, 2, none⟩ u2) (some g) := by
  have h0 : TRow w g t [x0, x1, x2] := h
  have S : ∀ (u : World) (j : Nat) (x : Value), u.grownBy (u.setCell ⟨g, j, none⟩ x) (some g) := fun u j x => grown_setCell u ⟨g, j, none⟩ x
  exact ⟨(((h0.set 0 u0).set 1 u1).set 2 u2), grown_trans (grown_trans (S _ _ _) (S _ _ _)) (S _ _ _)⟩
set_option maxRecDepth 100000 in
theorem rc_take {A : Ad} {r : Int} {k : Nat} {x : T3} (h : (A.L.take k).find? (isN r) = none) (hx : A.L[k]? = some x) : (A.L.take (k + 1)).find? (isN r) = if x.a = r then some x else none := by
  rw [List.take_add_one, hx, List.find?_append, h]
  unfold isN
  by_cases e : x.a = r <;> simp [e]
set_option maxRecDepth 100000 in
theorem rc_hit {A : Ad} {r : Int} {k : Nat} {x : T3} (h : (A.L.take k).find? (isN r) = none) (hx : A.L[k]? = some x) (e : x.a = r) : rcA A r = some x := by
  unfold rcA
  have h2 := rc_take h hx
  rw [if_pos e] at h2
  rw [← List.take_append_drop (k + 1) A.L, List.find?_append, h2]
  rfl
set_option maxRecDepth 100000 in
set_option maxHeartbeats 3200000 in
theorem dreach_any (A : Ad) (t : Int) (q : Nat → Prop) (w : World) (hA : AdOk w q A) :
    Calls Try.prog 97 #[.agg #[.int .i64 A.r, .int .i64 A.q, .bool A.cp, .slice A.pL A.L.length A.cL, .slice A.pC A.C.length A.cC], .int .i64 t] w fun e w' => e = .returned (.tuple #[.agg #[.int .i64 (rcV A t).a, .int .i64 (rcV A t).b, .int .i64 (rcV A t).c], .bool (rcA A t).isSome]) ∧ w.grownBy w' none := by
  obtain ⟨k1, k2, k3, k4⟩ := two_boxes w #[.int .i64 A.r, .int .i64 A.q, .bool A.cp, .slice A.pL A.L.length A.cL, .slice A.pC A.C.length A.cC] #[.int .i64 0, .int .i64 0, .int .i64 0] 38 73
  have HB := Lib.hid (And.intro k1 (And.intro k2 (And.intro k3 (hA.keep k3))))
  have hml : A.L.length ≤ 9223372036854775807 := Nat.le_trans hA.hl.1 hA.hl.2
  clear k1 k2 k3 k4 hA
  obtain ⟨r, q2, cp, L, C, pL, cL, pC, cC⟩ := A
  simp only at HB hml ⊢
  obtain ⟨O, hO⟩ : ∃ O, rcA ⟨r, q2, cp, L, C, pL, cL, pC, cC⟩ t = O := ⟨_, rfl⟩
  unfold rcV
  rw [hO]
  have HO := Lib.hid hO
  clear hO
  go_enter Try.func97, Try.ntmps97
  go_upto_region 1 with fail
  generalize (w.alloc _).alloc _ = wa at *
  obtain ⟨c0, c1, c2, c3, c4⟩ := row5 HB.out.1
  go_wp2_with fail
  go_loopw [11] (fun a wr => ∃ k : Nat, k ≤ L.length ∧ a = .int .i64 (k : Int) ∧ Hid ((L.take k).find? (isN t) = none) ∧ Hid (wa.grownBy wr none)) (fun a _ => L.length - (RowKit.intOf a).toNat)
  case atStart => exact ⟨0, Nat.zero_le _, rfl, Lib.hid rfl, Lib.hid (grown_refl _ _)⟩
  case round =>
    obtain ⟨k, hk, rfl, HN, G⟩ := hrel
    clear c0 c1 c2 c3 c4
    by_cases hlt : k < L.length
    · obtain ⟨-, b, off, rfl, hq, hc⟩ := rd3_cells (HB.out.2.2.2.keep G.out).l (show 0 < L.length by omega)
      obtain ⟨x, hx⟩ : ∃ x, L[k]? = some x := ⟨_, List.getElem?_eq_getElem hlt⟩
      obtain ⟨a0, a1, a2⟩ := hc k x hx
      have HX := Lib.hid hx
      have gal := World.grownBy_alloc wr (.cells #[.int .i64 x.a, .int .i64 x.b, .int .i64 x.c] 73) none
      have HL := Lib.hid (And.intro (heap_alloc_new wr (.cells #[.int .i64 x.a, .int .i64 x.b, .int .i64 x.c] 73)) (And.intro (kept_row HB.out.2.1 (grown_trans G.out gal) (by simp)) (grown_trans G.out gal)))
      clear hc hx gal
      go_upto_region 4 with fail
      clear a0 a1 a2
      generalize wr.alloc _ = wy at *
      obtain ⟨d0, d1, d2⟩ := row3 HL.out.1
      by_cases e : x.a = t
      · have e' : (x.a == t) = true := by simpa using e
        obtain rfl : some x = O := by rw [← HO.out]; exact (rc_hit (A := ⟨r, q2, cp, L, C, some ⟨b, off, none⟩, cL, pC, cC⟩) HN.out HX.out e).symm
        obtain ⟨z0, z1, z2⟩ := row3 HL.out.2.1
        have f0 := frozen_of_row _ _ 0 _ _ HL.out.2.1
        have f1 := frozen_of_row _ _ 1 _ _ HL.out.2.1
        have f2 := frozen_of_row _ _ 2 _ _ HL.out.2.1
        have HT := Lib.hid (store3r (.int .i64 x.a) (.int .i64 x.b) (.int .i64 x.c) HL.out.2.1)
        have HG := Lib.hid (grown_trans HB.out.2.2.1 HL.out.2.2)
        clear HL HB e
        go_wp2_with fail
        refine bodyPost_ret (res_re_b rfl _ _ (w.heap.size + 1) _ _ _ rfl HT.out.1) rfl ?_
        exact ⟨rfl, grown_new HG.out HT.out.2 (by omega)⟩
      · have e' : (x.a == t) = false := by simpa using e
        have HN2 : Hid ((L.take (k + 1)).find? (isN t) = none) := Lib.hid (by rw [rc_take (A := ⟨r, q2, cp, L, C, some ⟨b, off, none⟩, cL, pC, cC⟩) HN.out HX.out, if_neg e])
        clear e
        go_wp2_with fail
        exact ⟨⟨k + 1, by omega, congrArg _ (by omega), HN2, Lib.hid HL.out.2.2⟩, by simp only [RowKit.intOf]; omega⟩
    · obtain rfl : k = L.length := by omega
      obtain rfl : none = O := by rw [← HO.out]; unfold rcA; have := HN.out; rw [List.take_length] at this; exact this.symm
      have HZ := Lib.hid (kept_row HB.out.2.1 G.out (by simp))
      obtain ⟨z0, z1, z2⟩ := row3 HZ.out
      have f0 := frozen_of_row _ _ 0 _ _ HZ.out
      have f1 := frozen_of_row _ _ 1 _ _ HZ.out
      have f2 := frozen_of_row _ _ 2 _ _ HZ.out
      have HT := Lib.hid (store3r (.int .i64 0) (.int .i64 0) (.int .i64 0) HZ.out)
      have HG := Lib.hid (grown_trans HB.out.2.2.1 G.out)
      clear HZ HB G
      go_wp2_with fail
      refine bodyPost_ret (res_re_b rfl _ _ (w.heap.size + 1) _ _ _ rfl HT.out.1) rfl ?_
      exact ⟨rfl, grown_new HG.out HT.out.2 (by omega)⟩
end Go.Proofs.Ytnpkihioklpnmaa
