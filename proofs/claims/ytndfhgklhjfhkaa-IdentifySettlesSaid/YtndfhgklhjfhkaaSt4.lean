/- Parts of the proof, packed: IdStM, IdRes, ToOrdM, ToTopK, IdTap, IdRsW, IdPlc. -/
import Derived.Test.YtndfhgklhjfhkaaSt2
import Derived.Test.YtndfhgklhjfhkaaSt3
import Derived.Lib.SliceRun
import Derived.Test.YtndfhgklhjfhkaaSt1
import Derived.Deep.AppendLies
import Derived.Deep.Onto
import Derived.Laws.OwnMore
/- identify: what Resolve leaves, the mathematics. -/
namespace Go.Proofs.Ytndfhgklhjfhkaa
open Go.RowKit Bs
set_option maxRecDepth 100000 in
theorem le_of_subN : ∀ (D L : List Nat), D.Nodup → (∀ x ∈ D, x ∈ L) → D.length ≤ L.length
  | [], L, _, _ => Nat.zero_le _
  | a :: t, L, hn, hs => by
    obtain ⟨h1, h2⟩ := List.nodup_cons.1 hn
    have ha := hs a (List.mem_cons_self ..)
    have h3 := le_of_subN t (L.erase a) h2 (fun x hx => (List.mem_erase_of_ne (by rintro rfl; exact h1 hx)).2 (hs x (List.mem_cons_of_mem _ hx)))
    rw [List.length_erase_of_mem ha] at h3
    have := List.length_pos_of_mem ha
    rw [List.length_cons]
    omega
set_option maxRecDepth 100000 in
theorem cnt_mem {l : List Od} {sub id : Int} (h : 0 < cnt l sub id) : ∃ x ∈ l, x.s = sub ∧ x.i = id := by
  unfold cnt at h
  obtain ⟨x, hx, hp⟩ := List.countP_pos_iff.1 h
  exact ⟨x, hx, of_decide_eq_true hp⟩
set_option maxRecDepth 100000 in
theorem frL_yes {l : List Od} {sub : Int} {giv : List Nat} (h : l.length + giv.length < 256) : ∃ m, frL (cgv l sub giv) = some m ∧ 1 ≤ m ∧ m ≤ 256 ∧ cgv l sub giv m = 0 := by
  cases hf : frL (cgv l sub giv) with
  | some m =>
    unfold frL at hf
    have h1 : 1 ≤ m ∧ cgv l sub giv m = 0 := by simpa using List.find?_some hf
    have h2 := List.mem_range.1 (List.mem_of_find?_eq_some hf)
    exact ⟨m, rfl, h1.1, by omega, h1.2⟩
  | none =>
    unfold frL at hf
    rw [List.find?_eq_none] at hf
    have h3 := le_of_subN (List.range' 1 256) (l.map (fun x => x.i.toNat) ++ giv) (List.nodup_range' (h := by decide)) (fun j hj => by
      have h4 := List.mem_range'_1.1 hj
      have h5 := hf j (List.mem_range.2 (by omega))
      rw [decide_eq_true_eq] at h5
      have h6 : cgv l sub giv j ≠ 0 := fun e => h5 ⟨h4.1, e⟩
      unfold cgv at h6
      rw [List.mem_append]
      by_cases h7 : 0 < cnt l sub j
      · obtain ⟨x, hx, -, he⟩ := cnt_mem h7
        exact Or.inl (List.mem_map.2 ⟨x, hx, by omega⟩)
      · exact Or.inr (List.count_pos_iff.1 (by omega)))
    rw [List.length_range', List.length_append, List.length_map] at h3
    omega
/-- The first k claims, settled. -/
structure RsI (l : List Od) (sub : Int) (k : Nat) (out : List Od) (giv : List Nat) : Prop where
  e : rsv l sub k = some (out, giv)
  n : out.length = k
  g : giv.length ≤ k
  gc : ∀ j ∈ giv, cnt l sub (j : Int) = 0
  gn : ∀ j, giv.count j ≤ 1
  ct : ∀ j : Int, cnt out sub j = (if 0 < cnt (l.take k) sub j then 1 else 0) + (if 0 ≤ j then giv.count j.toNat else 0)
  fs : ∀ i x, i < k → l[i]? = some x → ∃ v, out[i]? = some { x with i := v } ∧ 1 ≤ v ∧ v ≤ 256 ∧ (v = x.i ∨ (x.s = sub ∧ 1 < cnt l sub x.i))
set_option maxRecDepth 100000 in
theorem rsI_ex {l : List Od} (hv : ckO l = 0) (sub : Int) (hl : l.length ≤ 100) : ∀ k, k ≤ l.length → ∃ out giv, RsI l sub k out giv
  | 0, _ => ⟨[], [], rfl, rfl, Nat.le_refl _, fun _ h => (by cases h), fun _ => Nat.zero_le _, fun j => (by simp [cnt]), fun _ _ h => (by omega)⟩
  | k + 1, hk => by
    obtain ⟨out, giv, H⟩ := rsI_ex hv sub hl k (by omega)
    obtain ⟨x, hx⟩ : ∃ x, l[k]? = some x := ⟨_, List.getElem?_eq_getElem (by omega)⟩
    have hid := ck_id hv (List.mem_of_getElem? hx)
    cases he : erl l sub k x with
    | false =>
      have he' : ¬ (x.s = sub ∧ 0 < cnt (l.take k) sub x.i) := of_decide_eq_false he
      refine ⟨out ++ [x], giv, rsv_keep H.e hx he, by simp [H.n], by have := H.g; omega, H.gc, H.gn, fun j => ?_, fun i y hi hy => ?_⟩
      · rw [cnt_snoc, H.ct, cnt_take hx]
        by_cases hj : x.s = sub ∧ x.i = j
        · have h0 : cnt (l.take k) sub j = 0 := by
            rw [hj.2] at he'
            by_cases hz : 0 < cnt (l.take k) sub j
            · exact absurd ⟨hj.1, hz⟩ he'
            · omega
          rw [if_pos hj, h0]
          simp
          omega
        · rw [if_neg hj]
          rfl
      · by_cases hik : i < k
        · obtain ⟨v, h1, h2⟩ := H.fs i y hik hy
          exact ⟨v, by rw [List.getElem?_append_left (by rw [H.n]; exact hik)]; exact h1, h2⟩
        · obtain rfl : i = k := by omega
          obtain rfl : x = y := by rw [hx] at hy; exact Option.some.inj hy
          refine ⟨x.i, ?_, hid.1, hid.2, Or.inl rfl⟩
          rw [List.getElem?_append_right (by rw [H.n]; exact Nat.le_refl _), H.n, Nat.sub_self]
          rfl
    | true =>
      have he' : x.s = sub ∧ 0 < cnt (l.take k) sub x.i := of_decide_eq_true he
      obtain ⟨m, hf, hm1, hm2, hm0⟩ := frL_yes (l := l) (sub := sub) (giv := giv) (by have := H.g; omega)
      have hm0' : cnt l sub m = 0 ∧ giv.count m = 0 := by unfold cgv at hm0; omega
      refine ⟨out ++ [{ x with i := (m : Int) }], giv ++ [m], rsv_new H.e hx he hf, by simp [H.n], by have := H.g; simp; omega, fun j hj => ?_, fun j => ?_, fun j => ?_, fun i y hi hy => ?_⟩
      · rcases List.mem_append.1 hj with h | h
        · exact H.gc j h
        · obtain rfl : j = m := by simpa using h
          exact hm0'.1
      · rw [List.count_append]
        by_cases hj : m = j
        · subst hj
          rw [hm0'.2]
          simp
        · rw [List.count_eq_zero_of_not_mem (a := j) (l := [m]) (by simpa using fun e => hj e.symm)]
          exact H.gn j
      · rw [cnt_snoc, H.ct, cnt_take hx, List.count_append]
        show _ + _ + (if x.s = sub ∧ (m : Int) = j then 1 else 0) = _
        have hcm : List.count j.toNat [m] = if m = j.toNat then 1 else 0 := by
          by_cases hq : m = j.toNat
          · rw [if_pos hq, ← hq]; simp
          · rw [if_neg hq]; exact List.count_eq_zero_of_not_mem (by simpa using fun e => hq e.symm)
        rw [hcm]
        have h1 : (if 0 < cnt (l.take k) sub j + (if x.s = sub ∧ x.i = j then 1 else 0) then 1 else 0) = (if 0 < cnt (l.take k) sub j then 1 else 0) := by
          by_cases hj : x.s = sub ∧ x.i = j
          · have := he'.2
            rw [hj.2] at this
            rw [if_pos hj, if_pos this, if_pos (by omega)]
          · rw [if_neg hj]; rfl
        rw [h1]
        generalize (if 0 < cnt (l.take k) sub j then 1 else 0) = A
        generalize giv.count j.toNat = B
        by_cases hj : 0 ≤ j
        · rw [if_pos hj, if_pos hj]
          by_cases hq : m = j.toNat
          · rw [if_pos hq, if_pos (show x.s = sub ∧ (m : Int) = j from ⟨he'.1, by omega⟩)]; omega
          · rw [if_neg hq, if_neg (show ¬ (x.s = sub ∧ (m : Int) = j) from fun h => hq (by omega))]; rfl
        · rw [if_neg hj, if_neg hj, if_neg (show ¬ (x.s = sub ∧ (m : Int) = j) from fun h => hj (by omega))]
      · by_cases hik : i < k
        · obtain ⟨v, h1, h2⟩ := H.fs i y hik hy
          exact ⟨v, by rw [List.getElem?_append_left (by rw [H.n]; exact hik)]; exact h1, h2⟩
        · obtain rfl : i = k := by omega
          obtain rfl : x = y := by rw [hx] at hy; exact Option.some.inj hy
          refine ⟨m, ?_, by omega, by omega, Or.inr ⟨he'.1, ?_⟩⟩
          · rw [List.getElem?_append_right (by rw [H.n]; exact Nat.le_refl _), H.n, Nat.sub_self]
            rfl
          · have h1 := cnt_take hx sub x.i
            rw [if_pos ⟨he'.1, rfl⟩] at h1
            have h2 : cnt (l.take (i + 1)) sub x.i ≤ cnt l sub x.i := List.Sublist.countP_le (List.take_sublist _ _)
            have := he'.2
            omega
set_option maxRecDepth 100000 in
theorem ascO_same : ∀ (l m : List Od), l.map (fun x => (x.r, x.s)) = m.map (fun x => (x.r, x.s)) → ascB ltO m = ascB ltO l
  | [], [], _ => rfl
  | [], b :: t, h => by cases h
  | a :: t, [], h => by cases h
  | [a], [b], _ => rfl
  | [a], b :: c :: t, h => by simp at h
  | a :: c :: t, [b], h => by simp at h
  | a :: b :: t, c :: d :: u, h => by
    have h2 : (b :: t).map (fun x => (x.r, x.s)) = (d :: u).map (fun x => (x.r, x.s)) := by
      rw [List.map_cons, List.map_cons] at h
      exact (List.cons.inj h).2
    have ih := ascO_same (b :: t) (d :: u) h2
    rw [ascB, ascB, ih]
    have h3 := Prod.mk.inj (List.cons.inj h).1
    have h4 := Prod.mk.inj (List.cons.inj h2).1
    congr 1
    unfold ltO
    rw [h3.1, h3.2, h4.1, h4.2]
/-- What is so after claims are settled. -/
structure Stl (l m : List Od) (sub : Int) : Prop where
  x : rsX l sub = 0
  o : rsO l sub = m
  n : m.length = l.length
  c : ckO m = 0
  u : ∀ j : Int, cnt m sub j ≤ 1
  f : ∀ (i : Nat) (y : Od), l[i]? = some y → ∃ v, m[i]? = some { y with i := v } ∧ (v = y.i ∨ (y.s = sub ∧ y.i ∈ cfO l sub))
set_option maxRecDepth 100000 in
theorem stl_ex {l : List Od} (hv : ckO l = 0) (sub : Int) (hl : l.length ≤ 100) : ∃ m, Stl l m sub := by
  obtain ⟨m, giv, H⟩ := rsI_ex hv sub hl l.length (Nat.le_refl _)
  have hfs : ∀ (i : Nat) (y : Od), l[i]? = some y → ∃ v, m[i]? = some { y with i := v } ∧ 1 ≤ v ∧ v ≤ 256 ∧ (v = y.i ∨ (y.s = sub ∧ 1 < cnt l sub y.i)) := by
    intro i y hy
    have hi : i < l.length := by
      by_cases h : i < l.length
      · exact h
      · rw [List.getElem?_eq_none (by omega)] at hy; cases hy
    exact H.fs i y hi hy
  refine ⟨m, ?_, ?_, H.n, ?_, fun j => ?_, fun i y hy => ?_⟩
  · unfold rsX; rw [if_neg (fun h => h hv), H.e]; rfl
  · unfold rsO; rw [if_neg (fun h => h hv), H.e]; rfl
  · have hmap : l.map (fun x => (x.r, x.s)) = m.map (fun x => (x.r, x.s)) := by
      apply List.ext_getElem?
      intro i
      rw [List.getElem?_map, List.getElem?_map]
      cases hy : l[i]? with
      | none =>
        rw [List.getElem?_eq_none_iff] at hy
        rw [List.getElem?_eq_none (by rw [H.n]; exact hy)]
      | some y =>
        obtain ⟨v, h1, -⟩ := hfs i y hy
        rw [h1]
        rfl
    have hany : m.any wrO = false := by
      rw [Bool.eq_false_iff]
      intro h
      obtain ⟨z, hz, hw⟩ := List.any_eq_true.1 h
      obtain ⟨i, hi⟩ := List.mem_iff_getElem?.1 hz
      have hil : i < m.length := by
        by_cases h : i < m.length
        · exact h
        · rw [List.getElem?_eq_none (by omega)] at hi; cases hi
      obtain ⟨y, hy⟩ : ∃ y, l[i]? = some y := ⟨_, List.getElem?_eq_getElem (by rw [← H.n]; exact hil)⟩
      obtain ⟨v, h1, h2, h3, -⟩ := hfs i y hy
      rw [h1] at hi
      obtain rfl := Option.some.inj hi
      have hwy := any_mem (ck_any hv).2.1 (List.mem_of_getElem? hy)
      obtain ⟨a1, a2, a3, a4⟩ := wr_fields hwy
      unfold wrO inV at hw
      rw [a4] at hw
      simp only [Bool.and_true, Bool.not_eq_true', Bool.and_eq_false_iff, decide_eq_false_iff_not] at hw
      rcases hw with (hw | hw) | hw <;> exact hw (by constructor <;> first | omega | exact a1.1 | exact a1.2 | exact a2.1 | exact a2.2)
    unfold ckO
    rw [if_neg (by rw [H.n]; omega), hany, ascO_same l m hmap, (ck_any hv).2.2]
    rfl
  · rw [H.ct, List.take_length]
    by_cases h0 : 0 < cnt l sub j
    · rw [if_pos h0]
      by_cases hj : 0 ≤ j
      · rw [if_pos hj]
        have : giv.count j.toNat = 0 := by
          by_cases hg : 0 < giv.count j.toNat
          · have := H.gc _ (List.count_pos_iff.1 hg)
            rw [show ((j.toNat : Nat) : Int) = j by omega] at this
            omega
          · omega
        omega
      · rw [if_neg hj]; omega
    · rw [if_neg h0]
      split
      · have := H.gn j.toNat; omega
      · omega
  · obtain ⟨v, h1, -, -, h4⟩ := hfs i y hy
    refine ⟨v, h1, h4.imp id fun h => ⟨h.1, ?_⟩⟩
    unfold cfO
    rw [if_pos hv]
    have := ck_id hv (List.mem_of_getElem? hy)
    exact List.mem_filter.2 ⟨idr_mem.2 (by omega), decide_eq_true h.2⟩
set_option maxRecDepth 100000 in
theorem rsv_same {m : List Od} {sub : Int} (hu : ∀ j : Int, cnt m sub j ≤ 1) : ∀ k, k ≤ m.length → rsv m sub k = some (m.take k, [])
  | 0, _ => rfl
  | k + 1, hk => by
    obtain ⟨x, hx⟩ : ∃ x, m[k]? = some x := ⟨_, List.getElem?_eq_getElem (by omega)⟩
    have he : erl m sub k x = false := by
      refine decide_eq_false fun h => ?_
      have h1 := cnt_take hx sub x.i
      rw [if_pos ⟨h.1, rfl⟩] at h1
      have h2 : cnt (m.take (k + 1)) sub x.i ≤ cnt m sub x.i := List.Sublist.countP_le (List.take_sublist _ _)
      have := hu x.i
      omega
    rw [rsv_keep (rsv_same hu k (by omega)) hx he, List.take_add_one, hx]
    rfl
set_option maxRecDepth 100000 in
theorem Stl.again {l m : List Od} {sub : Int} (h : Stl l m sub) : rsX m sub = 0 ∧ rsO m sub = m ∧ cfO m sub = [] := by
  have e := rsv_same h.u m.length (Nat.le_refl _)
  rw [List.take_length] at e
  refine ⟨?_, ?_, ?_⟩
  · unfold rsX; rw [if_neg (fun q => q h.c), e]; rfl
  · unfold rsO; rw [if_neg (fun q => q h.c), e]; rfl
  · unfold cfO cfK
    rw [if_pos h.c, List.filter_eq_nil_iff]
    intro j _
    have := h.u j
    rw [decide_eq_true_eq]
    omega
/-- How many claims are for a subdomain. -/
def kof (m : List Od) (sub : Int) : Nat := m.countP fun x => decide (x.s = sub)
set_option maxRecDepth 100000 in
theorem kof_take {m : List Od} {sub : Int} {k : Nat} {x : Od} (hx : m[k]? = some x) : kof (m.take (k + 1)) sub = kof (m.take k) sub + if x.s = sub then 1 else 0 := by
  unfold kof
  rw [List.take_add_one, hx]
  show List.countP _ (m.take k ++ [x]) = _
  rw [List.countP_append]
  congr 1
  by_cases h : x.s = sub
  · rw [if_pos h]; simp [h]
  · rw [if_neg h]; simp [h]
set_option maxRecDepth 100000 in
theorem Stl.plan {l m : List Od} {sub : Int} (h : Stl l m sub) (hs : inV sub 0 7 = true) (hl : l.length ≤ 24) : plnX m sub = 0 ∧ (plnE m sub).length = kof m sub := by
  have hp := List.mergeSort_perm (e1K m m sub) (fun x y => decide (x.i ≤ y.i))
  have hso := List.pairwise_mergeSort (le := fun (x y : Ed) => decide (x.i ≤ y.i)) (fun a b c h1 h2 => by
    have := of_decide_eq_true h1
    have := of_decide_eq_true h2
    exact decide_eq_true (by omega)) (fun a b => by
    rw [Bool.or_eq_true, decide_eq_true_eq, decide_eq_true_eq]
    omega) (e1K m m sub)
  have he := edges_eq h.c sub hp (hso.imp fun q => of_decide_eq_true q)
  have hlen : (e2K m sub 257).length = kof m sub := by
    rw [← he, hp.length_eq]
    unfold e1K kof
    rw [List.length_map, ← List.countP_eq_length_filter]
    apply List.countP_congr
    intro x hx
    unfold e1P
    rw [decide_eq_true_eq, decide_eq_true_eq]
    refine ⟨fun q => q.1, fun q => ⟨q, ?_⟩⟩
    have h1 := h.u x.i
    have h2 : 0 < cnt m sub x.i := List.countP_pos_iff.2 ⟨x, hx, decide_eq_true ⟨q, rfl⟩⟩
    omega
  have hk : kof m sub ≤ m.length := List.countP_le_length
  have hX : plnX m sub = 0 := by
    unfold plnX
    rw [if_neg (fun q => q h.c), hs, hlen, if_neg (by simp), if_neg (by have := h.n; omega)]
  refine ⟨hX, ?_⟩
  unfold plnE
  rw [if_pos hX, hlen]
end Go.Proofs.Ytndfhgklhjfhkaa

/- identify: Resolve. -/
namespace Go.Proofs.Ytndfhgklhjfhkaa
open Go.RowKit Bs
set_option maxRecDepth 100000 in
theorem info_od : (Try.prog.info? 62).map (fun i => (i.zero, i.size, i.bytes)) = some (some (.agg #[.int .i64 0, .int .i64 0, .int .i64 0, .int .i64 0]), 4, 32) := by kernel_rfl
set_option maxRecDepth 100000 in
theorem info_bs : (Try.prog.info? 98).map (fun i => (i.zero, i.size)) = some (some (.agg (arrV 257 (bvN fun _ => false))), 257) := by kernel_rfl
set_option maxRecDepth 100000 in
set_option maxHeartbeats 1600000 in
theorem icln_any (C : List Od) (p : Option Addr) (c : Nat) (q : Nat → Prop) (w : World) (hR : RdF w q (.slice p C.length c) C.length (C.flatMap odC)) (hn : p = none → c = 0) (hc : C.length ≤ c ∧ c ≤ 9223372036854775807) (hm : C.length ≤ 1000) :
    Calls Try.prog 64 #[.slice p C.length c] w fun e w' => ∃ v, e = .returned v ∧ w'.ownsRow w.heap.size 62 4 v C.length (C.flatMap odC) ∧ w.grownBy w' none := by
  obtain ⟨ii, hii, hi0, hi1, hi2⟩ := info_parts info_od
  cases p with
  | none =>
    obtain rfl := hn rfl
    have h0 : C.length = 0 := by omega
    obtain rfl := List.eq_nil_of_length_eq_zero h0
    clear hR
    have heq : ∀ w : World, (binOp .eql 23 (.slice none 0 0) (.slice none 0 0)).run Try.prog w = .ok (.bool true) w := fun w => Lib.run_eql_slice_nil w _ _ none 0 0 0 0 Try.underlying23
    go_enter Try.func64, Try.ntmps64
    go_wp2_with fail
    go_ret
    exact ⟨_, rfl, World.ownsRow_nil _ _ _ _, grown_refl _ _⟩
  | some ad =>
    have k0 := World.grownBy_alloc w (.cells #[] 62) none
    have hlit : (w.alloc (.cells #[] 62)).ownsRow w.heap.size 62 4 (.slice (some ⟨w.heap.size, 0, none⟩) 0 0) 0 (([] : List Od).flatMap odC) := World.ownsRow_lit w #[] 0 (Nat.le_refl _) (by decide) rfl
    have HL := Lib.hid (And.intro hlit (And.intro k0 (hR.grown k0 (fun _ _ => by simp))))
    clear hlit k0 hR
    have heq : ∀ w : World, (binOp .eql 23 (.slice (some ad) C.length c) (.slice none 0 0)).run Try.prog w = .ok (.bool false) w := fun w => Lib.run_eql_slice_nil w _ _ (some ad) C.length c 0 0 Try.underlying23
    go_enter Try.func64, Try.ntmps64
    go_wp2_with (at_builtin; refine hold_on ?_)
    refine Lib.hid ?_
    refine wpList_append_f odC 4 32 (by decide) (fun _ => rfl) od_one 62 23 ii _ Try.underlying23 hii hi0 hi1 hi2 rfl (by decide) rfl _ _ rfl w.heap.size _ [] 0 rfl rfl HL.out.1 _ _ _ C rfl rfl (fun h => by cases h) q HL.out.2.2 hc.1 (by omega) (by simp) ?_
    intro v' w1 hown hg
    rw [List.nil_append] at hown
    have HO := Lib.hid (And.intro hown (old_grow HL.out.2.1 HL.out.1 (Nat.le_refl _) hg))
    clear hown hg
    go_wp2_with fail
    go_ret
    exact ⟨v', rfl, HO.out.1, HO.out.2⟩
set_option maxRecDepth 100000 in
/-- One cell of a row of the call's own is written. -/
theorem own_odset {w : World} {base g n cap k : Nat} {M : List Od} {x : Od} (h : w.ownsRow base 62 4 (.slice (some ⟨g, 0, none⟩) n cap) M.length (M.flatMap odC)) (hx : M[k]? = some x) (v : Int) :
    (w.setCell ⟨g, k * 4 + 2, none⟩ (.int .i64 v)).ownsRow base 62 4 (.slice (some ⟨g, 0, none⟩) n cap) (M.set k { x with i := v }).length ((M.set k { x with i := v }).flatMap odC) := by
  have hk := (List.getElem?_eq_some_iff.1 hx).1
  rcases h.2 with ⟨e, _⟩ | ⟨g', cap', cur, e, hb, hg, r1, r2, r3, r4⟩
  · cases e
  · injection e with e1 e2 e3
    injection e1 with e1
    injection e1 with e1
    subst e1
    subst e2
    subst e3
    rw [List.length_set]
    refine ⟨by rw [flat_len odC 4 (fun _ => rfl), List.length_set], .inr ⟨g, cap, _, rfl, hb, heap_setCell_same w g _ _ _ _ hg, r1, r2, by simp [r3], ?_⟩⟩
    rw [← od_set M k v x hx, ← r4]
    simp only [Array.toList_setIfInBounds]
    rw [List.take_set]
/-- While conflicts are settled: the list, the counts in B1, what is kept in B2. -/
structure RV (W : World) (l : List Od) (p : Option Addr) (c : Nat) (B1 B2 : Nat) (v : Value) (M : List Od) (f : Nat → Nat) (kf : Nat → Bool) (w : World) : Prop where
  own : w.ownsRow W.heap.size 62 4 v M.length (M.flatMap odC)
  ob : ∀ g, v.ownBlock = some g → g < B1
  cb : w.heap[B1]? = some (.cells (arrV 257 (ivN f)) 92 (0, 0))
  kb : w.heap[B2]? = some (.cells (arrV 257 (bvN kf)) 98 (0, 0))
  rd : RdF w (· < W.heap.size) (.slice p l.length c) l.length (l.flatMap odC)
  gr : W.grownBy w none
  lo : W.heap.size ≤ B1 ∧ B1 < B2
section
variable {W w w1 : World} {l : List Od} {p : Option Addr} {c B1 B2 : Nat} {v : Value} {M : List Od} {f : Nat → Nat} {kf : Nat → Bool}
set_option maxRecDepth 100000 in
theorem RV.keep (h : RV W l p c B1 B2 v M f kf w) (g : w.grownBy w1 none) : RV W l p c B1 B2 v M f kf w1 :=
  ⟨h.own.kept g (by cases v.ownBlock <;> simp), h.ob, kept_row h.cb g (by simp), kept_row h.kb g (by simp), h.rd.keep g, grown_trans h.gr g, h.lo⟩
set_option maxRecDepth 100000 in
theorem RV.putK (h : RV W l p c B1 B2 v M f kf w) {m : Nat} (hm : m < 257) : RV W l p c B1 B2 v M f (fun j => if j = m then true else kf j) (w.setCell ⟨B2, m, none⟩ (.bool true)) := by
  obtain ⟨h1, h2⟩ := arr_put (.bool true) h.kb hm
  have hlo := h.lo
  refine ⟨h.own.kept h2 ?_, h.ob, kept_row h.cb h2 (fun e => by have := Option.some.inj e; omega), ?_, h.rd.grown h2 (fun b hb e => by have := Option.some.inj e; omega), grown_new h.gr h2 (by omega), hlo⟩
  · cases hv : v.ownBlock with
    | none => exact .inl rfl
    | some x => exact .inr fun e => by have := h.ob x hv; have := Option.some.inj e; omega
  · rw [h1]
    congr 2
    refine arr_congr fun j _ => ?_
    unfold bvN
    show (if j = m then _ else _) = Value.bool (if j = m then true else kf j)
    split <;> rfl
set_option maxRecDepth 100000 in
theorem RV.putC (h : RV W l p c B1 B2 v M f kf w) {m : Nat} (hm : m < 257) (n : Nat) : RV W l p c B1 B2 v M (fun j => if j = m then n else f j) kf (w.setCell ⟨B1, m, none⟩ (.int .i64 (n : Int))) := by
  obtain ⟨h1, h2⟩ := arr_put (.int .i64 (n : Int)) h.cb hm
  have hlo := h.lo
  refine ⟨h.own.kept h2 ?_, h.ob, ?_, kept_row h.kb h2 (fun e => by have := Option.some.inj e; omega), h.rd.grown h2 (fun b hb e => by have := Option.some.inj e; omega), grown_new h.gr h2 (by omega), hlo⟩
  · cases hv : v.ownBlock with
    | none => exact .inl rfl
    | some x => exact .inr fun e => by have := h.ob x hv; have := Option.some.inj e; omega
  · rw [h1]
    congr 2
    refine arr_congr fun j _ => ?_
    unfold ivN
    show (if j = m then _ else _) = Value.int .i64 (((if j = m then n else f j : Nat)) : Int)
    split <;> rfl
set_option maxRecDepth 100000 in
theorem RV.putL {g n cap k : Nat} {x : Od} (h : RV W l p c B1 B2 (.slice (some ⟨g, 0, none⟩) n cap) M f kf w) (hx : M[k]? = some x) (i : Int) : RV W l p c B1 B2 (.slice (some ⟨g, 0, none⟩) n cap) (M.set k { x with i := i }) f kf (w.setCell ⟨g, k * 4 + 2, none⟩ (.int .i64 i)) := by
  have h2 := grown_setCell w ⟨g, k * 4 + 2, none⟩ (.int .i64 i)
  have hg := h.ob g rfl
  have hlo := h.lo
  have hge := (h.own.lt g rfl).1
  exact ⟨own_odset h.own hx i, h.ob, kept_row h.cb h2 (fun e => by have : B1 = g := Option.some.inj e; omega), kept_row h.kb h2 (fun e => by have : B2 = g := Option.some.inj e; omega), h.rd.grown h2 (fun b hb e => by have : b = g := Option.some.inj e; omega), grown_new h.gr h2 hge, hlo⟩
end
/-- What Resolve returns. -/
def ResPost (l : List Od) (sub : Int) (w : World) (e : Ending) (w' : World) : Prop :=
  ∃ p c, e = .returned (.tuple #[.slice p (rsO l sub).length c, .int .i64 (rsX l sub)]) ∧ w'.ownsRow w.heap.size 62 4 (.slice p (rsO l sub).length c) (rsO l sub).length ((rsO l sub).flatMap odC) ∧ w.grownBy w' none
set_option maxRecDepth 100000 in
theorem res_no {l : List Od} {sub x : Int} (h : rsX l sub = x) (h2 : rsO l sub = []) {w w' : World} (g : w.grownBy w' none) : ResPost l sub w (.returned (.tuple #[.slice none 0 0, .int .i64 x])) w' := by
  refine ⟨none, 0, by rw [h, h2]; rfl, ?_, g⟩
  rw [h2]
  exact World.ownsRow_nil _ _ _ _
end Go.Proofs.Ytndfhgklhjfhkaa

/- Links in order, and the tape's topologies: the mathematics. -/
namespace Go.Proofs.Ytndfhgklhjfhkaa
open Go.RowKit Bs
end Go.Proofs.Ytndfhgklhjfhkaa

/- While the tape makes a topology. -/
namespace Go.Proofs.Ytndfhgklhjfhkaa
open Go.RowKit Bs
set_option maxRecDepth 100000 in
theorem own_other {w w' : World} {base size n b : Nat} {e : TypeId} {v : Value} {xs : List Value} (h : w.ownsRow base e size v n xs) (g : w.grownBy w' (some b)) (hb : b < base) : w'.ownsRow base e size v n xs :=
  h.kept g (by
    cases hv : v.ownBlock with
    | none => exact .inl rfl
    | some k => exact .inr (fun e => by have e2 := Option.some.inj e; have := (h.lt k hv).1; omega))
set_option maxRecDepth 100000 in
theorem St.storeT {a b : Nat} {W w w1 : World} (h : St a W w) (g : w.grownBy w1 (some b)) (hb : W.heap.size ≤ b) (ha : a < W.heap.size) : St a W w1 := by
  refine ⟨⟨g.os.trans h.1.os, g.tape.trans h.1.tape, g.output.trans h.1.output, Nat.le_trans h.1.size g.size, fun i hi hia => (g.block i (Nat.lt_of_lt_of_le hi h.1.size) (fun e => by have := Option.some.inj e; omega)).trans (h.1.block i hi hia)⟩, ?_⟩
  obtain ⟨v, n, i, T⟩ := h.2
  have hlt : a < w.heap.size := Nat.lt_of_lt_of_le ha h.1.size
  have hk : w1.heap[a]? = w.heap[a]? := g.block a hlt (fun e => by have := Option.some.inj e; omega)
  refine ⟨v, n, i, (World.cell?_of_block (a := ⟨a, 0, none⟩) hk).trans T.l, (World.cell?_of_block (a := ⟨a, 1, none⟩) hk).trans T.p, (World.frozen?_of_block (a := ⟨a, 1, none⟩) hk).trans T.fr, ?_, T.le, T.len⟩
  obtain ⟨p, c, hv, hc⟩ := T.ints
  refine ⟨p, c, hv, fun hn => ?_⟩
  obtain ⟨b1, off, hp, hb1, hx⟩ := hc hn
  refine ⟨b1, off, hp, hb1, fun i hi => ?_⟩
  obtain ⟨x, hx1, hcell⟩ := hx i hi
  exact ⟨x, hx1, g.cell hcell (fun e => by have : b1 = b := Option.some.inj e; omega)⟩
section
variable {a : Nat} {W w w1 : World} {uR uL vR vL v' : Value} {R : List Rt} {L : List Lk}
set_option maxRecDepth 100000 in
theorem St.rowT {a base size n : Nat} {W w w1 : World} {e : TypeId} {v : Value} {xs : List Value} (h : St a W w) (ho : w.ownsRow base e size v n xs) (hb : W.heap.size ≤ base) (ha : a < W.heap.size) (k : w.grownBy w1 v.ownBlock) : St a W w1 := by
  cases hv : v.ownBlock with
  | none => rw [hv] at k; exact ⟨grown_trans h.1 (grown_none k _), h.2.keep k⟩
  | some g => rw [hv] at k; exact h.storeT k (Nat.le_trans hb (ho.lt g hv).1) ha
end
end Go.Proofs.Ytndfhgklhjfhkaa

/- The tape's Claims. -/
namespace Go.Proofs.Ytndfhgklhjfhkaa
open Go.RowKit Bs
set_option maxRecDepth 100000 in
theorem pair_asc {α : Type} {f : α → α → Bool} : ∀ l : List α, l.Pairwise (fun x y => f x y = true) → ascB f l = true
  | [], _ => rfl
  | [a], _ => rfl
  | a :: b :: t, h => by
    have h1 := List.pairwise_cons.1 h
    rw [ascB, pair_asc (b :: t) h1.2, h1.1 b (List.mem_cons_self ..)]; rfl
/-- All claims are right, ascend, and are less than that of the router k for the subdomain j. -/
def GLo (k j : Int) (M : List Od) : Prop := (∀ x ∈ M, wrO x = false ∧ (x.r < k ∨ (x.r = k ∧ x.s < j))) ∧ M.Pairwise (fun x y => ltO x y = true)
set_option maxRecDepth 100000 in
theorem GLo.nil (k j : Int) : GLo k j [] := ⟨fun x h => (by cases h), List.Pairwise.nil⟩
set_option maxRecDepth 100000 in
theorem GLo.up {k j k2 j2 : Int} {M : List Od} (h : GLo k j M) (h2 : k < k2 ∨ (k = k2 ∧ j ≤ j2)) : GLo k2 j2 M := ⟨fun x hx => ⟨(h.1 x hx).1, by have := (h.1 x hx).2; omega⟩, h.2⟩
set_option maxRecDepth 100000 in
theorem GLo.add {k j : Int} {M : List Od} (h : GLo k j M) {x : Od} (hx : wrO x = false) (h1 : x.r = k) (h2 : x.s = j) : GLo k (j + 1) (M ++ [x]) := by
  refine ⟨fun y hy => ?_, ?_⟩
  · rcases List.mem_append.1 hy with h3 | h3
    · have := h.1 y h3
      exact ⟨this.1, by have := this.2; omega⟩
    · obtain rfl : y = x := by simpa using h3
      exact ⟨hx, by omega⟩
  · refine List.pairwise_append.2 ⟨h.2, List.pairwise_singleton _ _, fun y hy z hz => ?_⟩
    obtain rfl : z = x := by simpa using hz
    have := (h.1 y hy).2
    unfold ltO
    exact decide_eq_true (by omega)
set_option maxRecDepth 100000 in
theorem GLo.ck {k j : Int} {M : List Od} (h : GLo k j M) (hl : M.length ≤ 192) : ckO M = 0 := by
  unfold ckO
  rw [if_neg (by omega), if_neg (by
    intro h2
    obtain ⟨x, hx, h3⟩ := List.any_eq_true.1 h2
    rw [(h.1 x hx).1] at h3; cases h3), pair_asc _ h.2]
  rfl
/-- While the tape makes claims. -/
structure CT (a : Nat) (W : World) (v : Value) (M : List Od) (w : World) : Prop where
  st : St a W w
  own : w.ownsRow W.heap.size 62 4 v M.length (M.flatMap odC)
section
variable {a : Nat} {W w w1 : World} {v v' : Value} {M N : List Od}
set_option maxRecDepth 100000 in
theorem CT.tape (h : CT a W v M w) (ha : a < W.heap.size) (k : St a w w1) : CT a W v M w1 := ⟨h.st.trans k, own_other h.own k.1 ha⟩
set_option maxRecDepth 100000 in
theorem CT.keep (h : CT a W v M w) (g : w.grownBy w1 none) : CT a W v M w1 := ⟨h.st.none_ g, h.own.kept g (by cases v.ownBlock <;> simp)⟩
set_option maxRecDepth 100000 in
theorem CT.app {o : Obj} (h : CT a W v M w) (ha : a < W.heap.size) (hown : w1.ownsRow W.heap.size 62 4 v' N.length (N.flatMap odC)) (hg : (w.alloc o).grownBy w1 v.ownBlock) : CT a W v' N w1 :=
  have h1 := h.keep (World.grownBy_alloc w o none)
  ⟨h1.st.rowT h1.own (Nat.le_refl _) ha hg, hown⟩
end
/-- What Claims returns. -/
def ClmTP (a k : Nat) (n : Int) (w : World) (e : Ending) (w' : World) : Prop :=
  ∃ (l : List Od) (p : Option Addr) (c : Nat), e = .returned (.slice p l.length c) ∧ l.length ≤ 3 * k + 1 ∧ (n = 0 → ckO l = 0) ∧ w'.ownsRow w.heap.size 62 4 (.slice p l.length c) l.length (l.flatMap odC) ∧ St a w w'
set_option maxRecDepth 100000 in
theorem od_row (w : World) (x : Od) (t : TypeId) (j : Nat) (u : Value) (hu : ([x].flatMap odC)[j]? = some u) : (w.alloc (.cells #[.int .i64 x.r, .int .i64 x.s, .int .i64 x.i, .int .i64 x.l] t)).cell? ((⟨w.heap.size, 0, none⟩ : Addr).add j) = some u := by
  rw [add_plain]
  have hb := heap_alloc_new w (.cells #[.int .i64 x.r, .int .i64 x.s, .int .i64 x.i, .int .i64 x.l] t)
  rcases j with _ | _ | _ | _ | j
  · cases hu; exact cell_of_row _ _ _ _ _ _ hb
  · cases hu; exact cell_of_row _ _ _ _ _ _ hb
  · cases hu; exact cell_of_row _ _ _ _ _ _ hb
  · cases hu; exact cell_of_row _ _ _ _ _ _ hb
  · simp [odC] at hu
set_option maxRecDepth 100000 in
set_option maxHeartbeats 12800000 in
theorem tclaims_any (a k : Nat) (n : Int) (hk : k ≤ 8) (hn : I64 n) (w : World) (hT : Tp w a) :
    Calls Try.prog 11 #[.pointer (some ⟨a, 0, none⟩), .int .i64 (k : Int), .int .i64 n] w fun e w' => ClmTP a k n w e w' := by
  obtain ⟨io, hio, hi0, hi1, hi2⟩ := info_parts info_od
  have ha := hT.lt
  have C0 : Hid (CT a w (.slice none 0 0) [] w) := Lib.hid ⟨⟨grown_refl _ _, hT⟩, World.ownsRow_nil _ _ _ _⟩
  have HA := Lib.hid ha
  clear ha hT
  go_enter Try.func11, Try.ntmps11
  go_wp2_with fail
  go_loopw [7, 8] (fun v x wr => ∃ (r : Nat) (M : List Od) (p : Option Addr) (c : Nat), 1 ≤ r ∧ r ≤ k + 1 ∧ x = .int .i64 (r : Int) ∧ v = .slice p M.length c ∧ M.length ≤ 3 * (r - 1) ∧ Hid (GLo (r : Int) 0 M) ∧ Hid (CT a w (.slice p M.length c) M wr)) (fun _ x _ => k + 1 - (RowKit.intOf x).toNat)
  case atStart => exact ⟨1, [], none, 0, Nat.le_refl _, by omega, rfl, rfl, Nat.zero_le _, Lib.hid (GLo.nil _ _), C0⟩
  case round =>
  obtain ⟨r, M, p, c, hr1, hr2, rfl, rfl, hml, HG, C1⟩ := hrel
  clear C0
  by_cases hrk : r ≤ k
  · have hrk' : (r : Int) ≤ (k : Int) := by omega
    go_wp2_with fail
    go_loopw [7, 9] (fun v x wz => ∃ (j : Nat) (M : List Od) (p : Option Addr) (c : Nat), j ≤ 3 ∧ x = .int .i64 (j : Int) ∧ v = .slice p M.length c ∧ M.length ≤ 3 * (r - 1) + j ∧ Hid (GLo (r : Int) (j : Int) M) ∧ Hid (CT a w (.slice p M.length c) M wz)) (fun _ x _ => 3 - (RowKit.intOf x).toNat)
    case atStart => exact ⟨0, M, p, c, by omega, rfl, rfl, by omega, HG, C1⟩
    case round =>
    clear HG C1 hml
    obtain ⟨j, M, p, c, hj, rfl, rfl, hml, HG, C1⟩ := hrel
    obtain ⟨w2, hw2⟩ : ∃ w2, w2 = wr := ⟨_, rfl⟩
    rw [← hw2] at C1 ⊢
    clear hw2
    by_cases hj3 : j < 3
    · have hj3' : (j : Int) < 3 := by omega
      go_wp2_with fail
      refine (next_any a 3 (by unfold I64; omega) _ C1.out.st.2).mono ?_
      rintro e w3 ⟨x, rfl, hx, hs⟩
      have C2 := Lib.hid (C1.out.tape HA.out hs)
      clear hx hs C1
      by_cases hx0 : 0 < x
      · go_wp2_with fail
        refine (pick_any (fun z => 1 ≤ z ∧ z ≤ 256) a _ 0 8 8 (by omega) (by omega) _ (C2.out.st.2.alloc _) (among_list _ w3 a [1, 2, 3, 4, 5, 8, 9, 256] _ _ C2.out.st.2.lt rfl (by decide))).mono ?_
        rintro e w4 ⟨id, rfl, hid, hs⟩
        have C3 := Lib.hid (C2.out.tape HA.out hs.alloc_left)
        clear hs C2
        go_wp2_with fail
        refine (length_any a _ C3.out.st.2).mono ?_
        rintro e w5 ⟨ln, rfl, hln, hs⟩
        have C4 := Lib.hid (C3.out.tape HA.out hs)
        clear hs C3
        have HO := Lib.hid C4.out.own
        have hbs : w.heap.size ≤ w5.heap.size := C4.out.st.1.size
        have HG2 : Hid (GLo (r : Int) ((j : Int) + 1) (M ++ [⟨(r : Int), (j : Int), id, ln⟩])) := Lib.hid (HG.out.add (by
          unfold wrO inV
          rw [hln, decide_eq_true (show 1 ≤ (r : Int) ∧ (r : Int) ≤ 99 by omega), decide_eq_true (show 0 ≤ (j : Int) ∧ (j : Int) ≤ 7 by omega), decide_eq_true hid]; rfl) rfl rfl)
        clear hid hln HG
        go_wp2_with (at_builtin; refine wpList_append_f odC 4 32 (by decide) (fun _ => rfl) od_one 62 23 io _ Try.underlying23 hio hi0 hi1 hi2 rfl (by decide) rfl _ _ rfl w.heap.size _ M _ ?c0 rfl (HO.out.alloc _) (some ⟨w5.heap.size, 0, none⟩) 1 1 [⟨(r : Int), (j : Int), id, ln⟩] rfl rfl (by simp) (fun _ => True) (rdf_one _ trivial (fun i u hu => od_row _ _ _ _ _ hu) 1) (by decide) (by simp; omega) (by simp; omega) ?_)
        try (case c0 => rfl)
        intro v' w6 hown' hg
        have C5 := Lib.hid (C4.out.app (N := M ++ [⟨(r : Int), (j : Int), id, ln⟩]) HA.out (by simpa using hown') hg)
        obtain ⟨p1, c1, rfl, -, -⟩ := own_shape C5.out.own
        clear hown' hg HO C4
        have hml2 : (M ++ [(⟨(r : Int), (j : Int), id, ln⟩ : Od)]).length ≤ 3 * (r - 1) + (j + 1) := by rw [List.length_append]; simp; omega
        obtain ⟨N, hN⟩ : ∃ N, M ++ [(⟨(r : Int), (j : Int), id, ln⟩ : Od)] = N := ⟨_, rfl⟩
        rw [hN] at C5 hml2 HG2 ⊢
        clear hN
        go_wp2_with fail
        exact ⟨⟨j + 1, N, p1, c1, by omega, congrArg _ (by omega), rfl, hml2, HG2, C5⟩, by simp only [RowKit.intOf]; omega⟩
      · have HG2 : Hid (GLo (r : Int) ((j : Int) + 1) M) := Lib.hid (HG.out.up (by omega))
        have hml2 : M.length ≤ 3 * (r - 1) + (j + 1) := by omega
        clear HG
        go_wp2_with fail
        exact ⟨⟨j + 1, M, p, c, by omega, congrArg _ (by omega), rfl, hml2, HG2, C2⟩, by simp only [RowKit.intOf]; omega⟩
    · obtain rfl : j = 3 := by omega
      have HG2 : Hid (GLo ((r + 1 : Nat) : Int) 0 M) := Lib.hid (HG.out.up (by omega))
      go_wp2_with fail
      exact ⟨⟨r + 1, M, p, c, by omega, by omega, congrArg _ (by omega), rfl, by omega, HG2, C1⟩, by simp only [RowKit.intOf]; omega⟩
  · obtain rfl : r = k + 1 := by omega
    have hrk' : ¬ ((k + 1 : Nat) : Int) ≤ (k : Int) := by omega
    have HCK : Hid (ckO M = 0) := Lib.hid (HG.out.ck (by omega))
    clear HG
    by_cases hn0 : 0 < n
    · go_wp2_with fail
      refine (one_any a n hn _ C1.out.st.2).mono ?_
      rintro e w3 ⟨b, rfl, hs⟩
      have C2 := Lib.hid (C1.out.tape HA.out hs)
      clear hs C1
      cases b with
      | false =>
        have HP : Hid (ClmTP a k n w (.returned (.slice p M.length c)) w3) := Lib.hid ⟨M, p, c, rfl, by omega, fun h => by omega, C2.out.own, C2.out.st⟩
        go_wp2_with fail
        go_ret
        exact HP.out
      | true =>
        go_wp2_with fail
        refine (pick_any (fun z => True) a _ 0 5 5 (by omega) (by omega) _ (C2.out.st.2.alloc _) (among_list _ w3 a [0, 1, 9, 99, 100] _ _ C2.out.st.2.lt rfl (fun _ _ => trivial))).mono ?_
        rintro e w4 ⟨x1, rfl, -, hs⟩
        have C3 := Lib.hid (C2.out.tape HA.out hs.alloc_left)
        clear hs C2
        go_wp2_with fail
        refine (pick_any (fun z => True) a _ 0 4 4 (by omega) (by omega) _ (C3.out.st.2.alloc _) (among_list _ w4 a [0, 7, 8, -1] _ _ C3.out.st.2.lt rfl (fun _ _ => trivial))).mono ?_
        rintro e w5 ⟨x2, rfl, -, hs⟩
        have C4 := Lib.hid (C3.out.tape HA.out hs.alloc_left)
        clear hs C3
        go_wp2_with fail
        refine (pick_any (fun z => True) a _ 0 4 4 (by omega) (by omega) _ (C4.out.st.2.alloc _) (among_list _ w5 a [0, 1, 256, 257] _ _ C4.out.st.2.lt rfl (fun _ _ => trivial))).mono ?_
        rintro e w6 ⟨x3, rfl, -, hs⟩
        have C5 := Lib.hid (C4.out.tape HA.out hs.alloc_left)
        clear hs C4
        go_wp2_with fail
        refine (pick_any (fun z => True) a _ 0 4 4 (by omega) (by omega) _ (C5.out.st.2.alloc _) (among_list _ w6 a [0, 8, 12, 64] _ _ C5.out.st.2.lt rfl (fun _ _ => trivial))).mono ?_
        rintro e w7 ⟨x4, rfl, -, hs⟩
        have C6 := Lib.hid (C5.out.tape HA.out hs.alloc_left)
        clear hs C5
        have HO := Lib.hid C6.out.own
        have hbs : w.heap.size ≤ w7.heap.size := C6.out.st.1.size
        go_wp2_with (at_builtin; refine wpList_append_f odC 4 32 (by decide) (fun _ => rfl) od_one 62 23 io _ Try.underlying23 hio hi0 hi1 hi2 rfl (by decide) rfl _ _ rfl w.heap.size _ M _ ?c0 rfl (HO.out.alloc _) (some ⟨w7.heap.size, 0, none⟩) 1 1 [⟨x1, x2, x3, x4⟩] rfl rfl (by simp) (fun _ => True) (rdf_one _ trivial (fun i u hu => od_row _ _ _ _ _ hu) 1) (by decide) (by simp; omega) (by simp; omega) ?_)
        try (case c0 => rfl)
        intro v' w8 hown' hg
        have C7 := Lib.hid (C6.out.app (N := M ++ [⟨x1, x2, x3, x4⟩]) HA.out (by simpa using hown') hg)
        obtain ⟨p1, c1, rfl, -, -⟩ := own_shape C7.out.own
        clear hown' hg HO C6
        have HP : Hid (ClmTP a k n w (.returned (.slice p1 (M ++ [(⟨x1, x2, x3, x4⟩ : Od)]).length c1)) w8) := Lib.hid ⟨_, p1, c1, rfl, by simp; omega, fun h => by omega, C7.out.own, C7.out.st⟩
        clear C7
        go_wp2_with fail
        go_ret
        exact HP.out
    · have HP : Hid (ClmTP a k n w (.returned (.slice p M.length c)) wr) := Lib.hid ⟨M, p, c, rfl, by omega, fun _ => HCK.out, C1.out.own, C1.out.st⟩
      go_wp2_with fail
      go_ret
      exact HP.out
end Go.Proofs.Ytndfhgklhjfhkaa

/- identify: Resolve, its walk. -/
namespace Go.Proofs.Ytndfhgklhjfhkaa
open Go.RowKit Bs
set_option maxRecDepth 100000 in
theorem mid_at {l out : List Od} {k : Nat} {x : Od} (hl : out.length = k) (hx : l[k]? = some x) : (out ++ l.drop k)[k]? = some x := by
  rw [List.getElem?_append_right (by omega), List.getElem?_drop, hl]
  simpa using hx
set_option maxRecDepth 100000 in
theorem mid_keep {l out : List Od} {k : Nat} {x : Od} (hx : l[k]? = some x) : out ++ l.drop k = (out ++ [x]) ++ l.drop (k + 1) := by
  have hk := (List.getElem?_eq_some_iff.1 hx).1
  have h2 := (List.getElem?_eq_some_iff.1 hx).2
  rw [List.drop_eq_getElem_cons hk, h2, List.append_assoc]; rfl
set_option maxRecDepth 100000 in
theorem mid_set {l out : List Od} {k : Nat} {x y : Od} (hl : out.length = k) (hx : l[k]? = some x) : (out ++ l.drop k).set k y = (out ++ [y]) ++ l.drop (k + 1) := by
  have hk := (List.getElem?_eq_some_iff.1 hx).1
  rw [List.set_append_right _ _ (by omega), hl, Nat.sub_self, List.drop_eq_getElem_cons hk, List.set_cons_zero, List.append_assoc]; rfl
set_option maxRecDepth 100000 in
set_option maxHeartbeats 12800000 in
theorem ires_any (l : List Od) (p : Option Addr) (c : Nat) (sub : Int) (q : Nat → Prop) (w : World) (hR : RdF w q (.slice p l.length c) l.length (l.flatMap odC)) (hnil : p = none → c = 0) (hc : l.length ≤ c ∧ c ≤ 9223372036854775807) :
    Calls Try.prog 31 #[.slice p l.length c, .int .i64 sub] w fun e w' => ResPost l sub w e w' := by
  have HZ := (zero_of_info info_cs).1
  have HZ2 := (zero_of_info info_bs).1
  have HR := Lib.hid hR.old
  clear hR
  go_enter Try.func31, Try.ntmps31
  go_wp2_with fail
  refine (icheck_any l p c _ w HR.out (by omega)).mono ?_
  rintro e w1 ⟨rfl, hg⟩
  have G1 := Lib.hid hg
  clear hg
  by_cases h0 : ckO l = 0
  case neg =>
    have h0' : (ckO l != 0) = true := by simpa using h0
    have HX : Hid (rsX l sub = ckO l ∧ rsO l sub = []) := Lib.hid ⟨by unfold rsX; rw [if_pos h0], by unfold rsO; rw [if_pos h0]⟩
    clear h0
    go_wp2_with fail
    go_ret2
    exact res_no HX.out.1 HX.out.2 G1.out
  have H0 := Lib.hid h0
  have hl := (ck_any h0).1
  rw [h0]
  clear h0
  go_wp2_with fail
  refine (icln_any l p c _ w1 (HR.out.keep G1.out) hnil hc (by omega)).mono ?_
  rintro e w2 ⟨v, rfl, ho, hg⟩
  obtain ⟨pl, cl, rfl, -, -⟩ := own_shape ho
  have H2 := Lib.hid (And.intro (own_low ho G1.out.size) (And.intro (grown_trans G1.out hg) (fun g (hgb : (Value.slice pl l.length cl).ownBlock = some g) => (ho.lt g hgb).2)))
  clear ho hg G1
  go_wp2_with fail
  refine (icount_any l p c sub _ w2 (HR.out.keep H2.out.2.1) (by omega) (fun x hx => ck_id H0.out hx)).mono ?_
  rintro e w3 ⟨rfl, hg⟩
  have H3 := Lib.hid (And.intro (H2.out.1.kept hg (by cases (Value.slice pl l.length cl).ownBlock <;> simp)) (And.intro (grown_trans H2.out.2.1 hg) (fun g (hgb : (Value.slice pl l.length cl).ownBlock = some g) => Nat.lt_of_lt_of_le (H2.out.2.2 g hgb) hg.size)))
  clear hg H2
  obtain ⟨F, hF⟩ : ∃ F, arrV 257 (ivN fun k => cnt l sub k) = F := ⟨_, rfl⟩
  have hFs : F.size = 257 := by rw [← hF, arr_size]
  have hst := run_storeCells_new (P := Try.prog) w3 92 (arrV 257 (ivN fun _ => 0)) F (by rw [hFs]; exact (zero_of_info info_cs).2) (by rw [hFs, arr_size]) (by rw [← hF]; exact arr_one fun _ => rfl)
  have HST := Lib.hid hst
  have HFF := Lib.hid hF
  rw [hF]
  clear hst hF
  go_wp2_with fail
  rw [HST.out, Result.andThen_ok, Oper.upon_skip]
  obtain ⟨n1, n2⟩ := tone_box w3 F 92
  obtain ⟨m1, m2⟩ := tone_box (w3.alloc (.cells F 92)) (arrV 257 (bvN fun _ => false)) 98
  have hsz : (w3.alloc (.cells F 92)).heap.size = w3.heap.size + 1 := by simp
  have E0 : Hid (RV w l p c w3.heap.size (w3.alloc (.cells F 92)).heap.size (.slice pl l.length cl) ([] ++ l.drop 0) (cgv l sub []) (fun j => decide (0 < cnt (l.take 0) sub (j : Int))) _) := Lib.hid ⟨by
      rw [List.nil_append, List.drop_zero]
      exact (H3.out.1.kept n2 (by cases (Value.slice pl l.length cl).ownBlock <;> simp)).kept m2 (by cases (Value.slice pl l.length cl).ownBlock <;> simp), H3.out.2.2, kept_row (by rw [n1]; congr 2; rw [← HFF.out]; exact arr_congr fun j _ => by unfold ivN cgv; simp) m2 (by simp), by rw [m1]; congr 2, ((HR.out.keep H3.out.2.1).keep n2).keep m2, grown_trans (grown_trans H3.out.2.1 n2) m2, ⟨H3.out.2.1.size, by omega⟩⟩
  rw [hsz] at E0
  clear n1 n2 m1 m2 hsz HST HFF hFs H3 HZ
  go_upto_region 6 with fail
  generalize (w3.alloc _).alloc _ = w4 at *
  generalize w3.heap.size = B1 at *
  generalize hB2 : B1 + 1 = B2 at *
  clear HZ2 hB2
  have R0 : Hid (rsv l sub 0 = some ([], [])) := Lib.hid rfl
  go_wp2_with fail
  go_loopw [26] (fun a wr => ∃ (k : Nat) (out : List Od) (giv : List Nat), k ≤ l.length ∧ a = .int .i64 (k : Int) ∧ Hid (rsv l sub k = some (out, giv)) ∧ Hid (RV w l p c B1 B2 (.slice pl l.length cl) (out ++ l.drop k) (cgv l sub giv) (fun j => decide (0 < cnt (l.take k) sub (j : Int))) wr)) (fun a _ => l.length - (RowKit.intOf a).toNat)
  case atStart => exact ⟨0, [], [], by omega, rfl, R0, E0⟩
  case round =>
    obtain ⟨w5, rfl⟩ : ∃ w5, w5 = wr := ⟨_, rfl⟩
    obtain ⟨k, out, giv, hk, rfl, HRS, N⟩ := hrel
    clear E0 R0
    by_cases hlt : k < l.length
    · obtain ⟨-, b, off, rfl, -, hcc⟩ := od_cells N.out.rd (by omega)
      obtain ⟨x, hx⟩ : ∃ x, l[k]? = some x := ⟨_, List.getElem?_eq_getElem hlt⟩
      obtain ⟨a0, a1, a2, a3⟩ := hcc k x hx
      obtain ⟨m, hm1⟩ : ∃ m : Nat, x.i = (m : Int) := ⟨x.i.toNat, by have := ck_id H0.out (List.mem_of_getElem? hx); omega⟩
      have hm2 : m < 257 := by have := ck_id H0.out (List.mem_of_getElem? hx); omega
      have hol := (rsv_len hk HRS.out).1
      have hgl := (rsv_len hk HRS.out).2
      have HX := Lib.hid (And.intro hx (And.intro hol hgl))
      have HB := Lib.hid (heap_alloc_new w5 (.cells #[.int .i64 x.r, .int .i64 x.s, .int .i64 x.i, .int .i64 x.l] 62))
      have HG := Lib.hid (World.grownBy_alloc w5 (.cells #[.int .i64 x.r, .int .i64 x.s, .int .i64 x.i, .int .i64 x.l] 62) none)
      have HM1 := Lib.hid hm1
      clear hcc hx hm1 hol hgl
      go_upto_region 9 with fail
      clear a0 a1 a2 a3
      generalize w5.alloc _ = w6 at *
      have N1 := Lib.hid (N.out.keep HG.out)
      rw [HM1.out] at HB
      obtain ⟨d0, d1, d2, d3⟩ := row4i HB.out
      obtain ⟨kb, hkb⟩ : ∃ b : Bool, decide (0 < cnt (l.take k) sub (m : Int)) = b := ⟨_, rfl⟩
      have e1 : w6.cell? ⟨B2, m, none⟩ = some (.bool kb) := by rw [← hkb]; exact arr_row N1.out.kb hm2
      have f1 := frozen_of_row _ _ m _ _ N1.out.kb
      have HKB := Lib.hid hkb
      clear hkb N HG
      by_cases h1 : x.s = sub
      · have h1' : (x.s != sub) = false := by simpa using h1
        have H1 := Lib.hid h1
        clear h1
        cases kb with
        | false =>
          have N2 := N1.out.putK hm2
          have NK : Hid (rsv l sub (k + 1) = some (out ++ [x], giv)) := Lib.hid (rsv_keep HRS.out HX.out.1 (by
            unfold erl
            rw [decide_eq_false_iff_not]
            rintro ⟨-, h⟩
            rw [HM1.out] at h
            exact of_decide_eq_false HKB.out h))
          have HKF : (fun j : Nat => if j = m then true else decide (0 < cnt (l.take k) sub (j : Int))) = fun j : Nat => decide (0 < cnt (l.take (k + 1)) sub (j : Int)) := by
            funext j
            rw [cnt_take HX.out.1]
            by_cases hj : j = m
            · subst hj
              rw [if_pos rfl, if_pos ⟨H1.out, HM1.out⟩]
              exact (decide_eq_true (by omega)).symm
            · rw [if_neg hj, if_neg (fun e => hj (by have := e.2; have := HM1.out; omega))]; rfl
          rw [HKF, mid_keep HX.out.1] at N2
          have N3 := Lib.hid N2
          clear N2 HKF N1
          go_wp2_with fail
          exact ⟨⟨k + 1, _, _, by omega, congrArg _ (by omega), NK, N3⟩, by simp only [RowKit.intOf]; omega⟩
        | true =>
          have HEL : Hid (erl l sub k x = true) := Lib.hid (decide_eq_true ⟨H1.out, by rw [HM1.out]; exact of_decide_eq_true HKB.out⟩)
          have hsz1 : (Try.prog.info? 92).map (·.size) = some 257 := (zero_of_info info_cs).2
          have hus := Try.underlying92
          have HSZ := Lib.hid hsz1
          have HU := Lib.hid hus
          clear hsz1 hus
          go_wp2_with fail
          refine wp_load_row 92 (.tmp 8) rfl B1 rfl _ (arrV 257 (ivN (cgv l sub giv))) _ _ N1.out.cb HU.out rfl (by rw [arr_size]; exact HSZ.out) ?_
          go_wp2_with fail
          refine (ifree_any (cgv l sub giv) w6).mono ?_
          rintro e w7 ⟨n, ok, rfl, hf, hg⟩
          have N2 := Lib.hid (N1.out.keep hg)
          rcases frL_is hf with ⟨rfl, i, rfl, hi1, hi2, hi0, hfr⟩ | ⟨rfl, hfr⟩
          · have NK : Hid (rsv l sub (k + 1) = some (out ++ [{ x with i := (i : Int) }], giv ++ [i])) := Lib.hid (rsv_new HRS.out HX.out.1 HEL.out hfr)
            have HCT : Hid (cnt (l.take (k + 1)) sub = fun j => cnt (l.take k) sub j + if x.s = sub ∧ x.i = j then 1 else 0) := Lib.hid (by funext j; exact cnt_take HX.out.1 sub j)
            have HKF : Hid ((fun j : Nat => decide (0 < cnt (l.take k) sub (j : Int))) = fun j : Nat => decide (0 < cnt (l.take (k + 1)) sub (j : Int))) := Lib.hid (by
              funext j
              rw [congrFun HCT.out (j : Int)]
              by_cases hj : x.s = sub ∧ x.i = (j : Int)
              · have hjm : (j : Int) = (m : Int) := hj.2.symm.trans HM1.out
                rw [if_pos hj, hjm]
                have := of_decide_eq_true HKB.out
                rw [decide_eq_true this]
                exact (decide_eq_true (by omega)).symm
              · rw [if_neg hj]; rfl)
            have hat := mid_at (l := l) HX.out.2.1 HX.out.1
            have hgb : ∃ g, pl = some ⟨g, 0, none⟩ := by
              rcases N2.out.own.2 with ⟨e, _⟩ | ⟨g, cap, cur, e, _⟩
              · have h5 := congrArg Value.ownBlock e
                injection e with e1 e2 e3
                omega
              · injection e with e1 e2 e3
                exact ⟨g, e1⟩
            obtain ⟨g, rfl⟩ := hgb
            have N3 := N2.out.putL hat (i : Int)
            rw [mid_set HX.out.2.1 HX.out.1] at N3
            have hrow : ∃ cur : Array Value, w7.heap[g]? = some (.cells cur 62 (0, 0)) ∧ k * 4 + 2 < cur.size := by
              rcases N2.out.own.2 with ⟨e, _⟩ | ⟨g', cap, cur, e, _, h1, h2, _, h3, _⟩
              · cases e
              · injection e with e1 e2 e3
                injection e1 with e1
                injection e1 with e1
                subst e1
                refine ⟨cur, h1, ?_⟩
                have : (out ++ l.drop k).length = l.length := by rw [List.length_append, List.length_drop, HX.out.2.1]; omega
                omega
            obtain ⟨cur, hc1, hc2⟩ := hrow
            have g2 := frozen_of_row _ _ (k * 4 + 2) _ _ hc1
            have g1 : w7.cell? ⟨g, k * 4 + 2, none⟩ = some (cur[k * 4 + 2]) := by rw [cell_of_row _ _ _ _ _ _ hc1]; exact Array.getElem?_eq_getElem hc2
            obtain ⟨u9, hu9⟩ : ∃ u9, cur[k * 4 + 2] = u9 := ⟨_, rfl⟩
            rw [hu9] at g1
            have hi3 : i < 257 := by omega
            have b1 : (w7.setCell ⟨g, k * 4 + 2, none⟩ (.int .i64 (i : Int))).cell? ⟨B1, i, none⟩ = some (.int .i64 ((cgv l sub giv i : Nat) : Int)) := arr_row N3.cb hi3
            have b2 := frozen_of_row _ _ i _ _ N3.cb
            rw [hi0] at b1
            have N4 := N3.putC hi3 (cgv l sub giv i + 1)
            rw [← cgv_snoc, HKF.out, hi0] at N4
            have N5 := Lib.hid N4
            have hkl : (k : Int) < (l.length : Int) := by omega
            clear N4 N3 N2 N1 hat hc1 hc2 hu9 hf hg hfr HKF HCT hi0 HEL
            go_wp2_with fail
            exact ⟨⟨k + 1, _, _, by omega, congrArg _ (by omega), NK, N5⟩, by simp only [RowKit.intOf]; omega⟩
          · have HX2 : Hid (rsX l sub = 9 ∧ rsO l sub = []) := Lib.hid (by
              have h9 := rsv_none_le (rsv_none HRS.out HX.out.1 HEL.out hfr) (show k + 1 ≤ l.length by omega)
              unfold rsX rsO
              rw [if_neg (show ¬ ckO l ≠ 0 from fun h => h H0.out), if_neg (show ¬ ckO l ≠ 0 from fun h => h H0.out), h9]
              exact ⟨rfl, rfl⟩)
            clear hf hg hfr N1
            go_wp2_with fail
            go_ret2
            exact res_no HX2.out.1 HX2.out.2 N2.out.gr
      · have h1' : (x.s != sub) = true := by simpa using h1
        have NK : Hid (rsv l sub (k + 1) = some (out ++ [x], giv)) := Lib.hid (rsv_keep HRS.out HX.out.1 (decide_eq_false (fun h => h1 h.1)))
        have N2 := N1.out
        have HKF : (fun j : Nat => decide (0 < cnt (l.take k) sub (j : Int))) = fun j : Nat => decide (0 < cnt (l.take (k + 1)) sub (j : Int)) := by
          funext j
          rw [cnt_take HX.out.1, if_neg (fun e => h1 e.1)]; rfl
        rw [HKF, mid_keep HX.out.1] at N2
        have N3 := Lib.hid N2
        clear N2 HKF N1 h1
        go_wp2_with fail
        exact ⟨⟨k + 1, _, _, by omega, congrArg _ (by omega), NK, N3⟩, by simp only [RowKit.intOf]; omega⟩
    · obtain rfl : k = l.length := by omega
      have hol := (rsv_len hk HRS.out).1
      have hP : ResPost l sub w (.returned (.tuple #[.slice pl l.length cl, .int .i64 0])) w5 := by
        have h1 : rsX l sub = 0 := by unfold rsX; rw [if_neg (fun h => h H0.out), HRS.out]; rfl
        have h2 : rsO l sub = out := by unfold rsO; rw [if_neg (fun h => h H0.out), HRS.out]; rfl
        have h3 := N.out.own
        rw [List.drop_length, List.append_nil] at h3
        refine ⟨pl, cl, by rw [h1, h2, hol], ?_, N.out.gr⟩
        rw [h2]
        rw [hol] at h3 ⊢
        exact h3
      have HP := Lib.hid hP
      clear hP N
      go_wp2_with fail
      go_ret2
      exact HP.out
end Go.Proofs.Ytndfhgklhjfhkaa

/- identify: Place and At, of the program and of the reference. -/
namespace Go.Proofs.Ytndfhgklhjfhkaa
open Go.RowKit Bs
/-- The set and the bit of an ID. -/
def plOk (id len : Int) : Bool := vl len && inV id 1 256
def plS (id len : Int) : Int := if plOk id len = true then (id - 1).tdiv len else 0
def plB (id len : Int) : Int := if plOk id len = true then (id - 1) % len else 0
set_option maxRecDepth 100000 in
theorem pl_fields {id len : Int} (h : plOk id len = true) : (len = 8 ∨ len = 16 ∨ len = 32 ∨ len = 64) ∧ 1 ≤ id ∧ id ≤ 256 := by
  unfold plOk inV at h
  rw [Bool.and_eq_true, decide_eq_true_eq] at h
  exact ⟨vl_cases h.1, h.2⟩
set_option maxRecDepth 100000 in
set_option maxHeartbeats 3200000 in
theorem iplc_any (id len : Int) (w : World) :
    Calls Try.prog 37 #[.int .i64 id, .int .i64 len] w fun e w' => e = .returned (.tuple #[.int .i64 (plS id len), .int .i64 (plB id len), .bool (plOk id len)]) ∧ w.grownBy w' none := by
  obtain ⟨b1, h1⟩ : ∃ b, vl len = b := ⟨_, rfl⟩
  obtain ⟨b2, h2⟩ : ∃ b, inV id 1 256 = b := ⟨_, rfl⟩
  have HO : Hid (plOk id len = (b1 && b2)) := Lib.hid (by unfold plOk; rw [h1, h2])
  have HL := Lib.hid h1
  have HI := Lib.hid h2
  clear h1 h2
  go_enter Try.func37, Try.ntmps37
  cases b1
  case false =>
    go_wp2_with (go_at_call 53; refine (vlp_lit _ _ HL.out _).mono ?_; rintro e w' ⟨rfl, rfl⟩)
    go_ret3
    have h0 : plOk id len = false := HO.out
    exact ⟨by unfold plS plB; rw [h0]; rfl, grown_refl _ _⟩
  cases b2
  case false =>
    go_wp2_with (first | (go_at_call 53; refine (vlp_lit _ _ HL.out _).mono ?_; rintro e w' ⟨rfl, rfl⟩) | (go_at_call 67; refine (ivi_lit _ _ HI.out _).mono ?_; rintro e w' ⟨rfl, rfl⟩))
    go_ret3
    have h0 : plOk id len = false := HO.out
    exact ⟨by unfold plS plB; rw [h0]; rfl, grown_refl _ _⟩
  have h0 : plOk id len = true := HO.out
  obtain ⟨hl, hi1, hi2⟩ := pl_fields h0
  have hS : plS id len = (id - 1).tdiv len := by unfold plS; rw [if_pos h0]
  have hB : plB id len = (id - 1) % len := by unfold plB; rw [if_pos h0]
  rw [h0, hS, hB]
  clear hS hB h0
  obtain ⟨m, rfl⟩ : ∃ m : Int, id = m + 1 := ⟨id - 1, by omega⟩
  rw [show m + 1 - 1 = m by omega]
  have e1 : m + 1 - 1 = m := by omega
  have e2 : IntKind.i64.wrap (m + 1 - 1) = m := by rw [e1, IntWalk.i64_in _ (by omega)]
  have e3 : IntKind.i64.wrap m = m := IntWalk.i64_in _ (by omega)
  have hm0 : 0 ≤ m := by omega
  have hm1 : m ≤ 255 := by omega
  have d0 : IntKind.i64.wrap (m.tdiv len) = m.tdiv len := IntWalk.i64_in _ (by
    rw [Int.tdiv_eq_ediv_of_nonneg hm0]
    rcases hl with rfl | rfl | rfl | rfl <;> omega)
  have d1 : IntKind.i64.wrap (m % len) = m % len := IntWalk.i64_in _ (by
    rcases hl with rfl | rfl | rfl | rfl <;> omega)
  have hn0 : (len == 0) = false := by rcases hl with rfl | rfl | rfl | rfl <;> rfl
  have hn1 : ¬ len = 0 := by rcases hl with rfl | rfl | rfl | rfl <;> decide
  clear hi1 hi2 hl
  go_wp2_with (first | (go_at_call 53; refine (vlp_lit _ _ HL.out _).mono ?_; rintro e w' ⟨rfl, rfl⟩) | (go_at_call 67; refine (ivi_lit _ _ HI.out _).mono ?_; rintro e w' ⟨rfl, rfl⟩))
  go_region
  all_goals
    go_wp2_with fail
    go_ret3
    exact ⟨rfl, grown_drew (grown_refl _ _)⟩
end Go.Proofs.Ytndfhgklhjfhkaa
