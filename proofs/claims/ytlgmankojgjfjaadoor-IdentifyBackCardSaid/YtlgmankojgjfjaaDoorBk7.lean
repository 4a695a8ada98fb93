/- Parts of the proof, packed: IoOrder, ToOrdM, ToTopK, ToOrd. -/
import Derived.Test.YtlgmankojgjfjaaDoorBk2
import Derived.Test.YtlgmankojgjfjaaDoorBk3
import Derived.Test.YtlgmankojgjfjaaDoorBk1
import Derived.Deep.AppendLies
import Derived.Deep.Onto
import Derived.Laws.OwnMore
import Derived.BigQuiet
import Derived.Deep.CutBlock
/- The tape's orders. -/
namespace Go.Proofs.YtlgmankojgjfjaaDoor
open Go.RowKit Bs
/-- An order of the first numbers. -/
def Ord (l : List Nat) (i : Nat) : Prop := l.length = i ∧ l.Nodup ∧ ∀ x ∈ l, x < i
set_option maxRecDepth 100000 in
theorem ord_next {l : List Nat} {i k : Nat} (h : Ord l i) : Ord (l.take k ++ [i] ++ l.drop k) (i + 1) := by
  obtain ⟨h1, h2, h3⟩ := h
  refine ⟨?_, ?_, ?_⟩
  · simp; omega
  · have e : (l.take k ++ [i] ++ l.drop k).Perm (i :: l) := by
      rw [List.append_assoc]
      have e2 : (l.take k ++ ([i] ++ l.drop k)).Perm (([i] ++ l.drop k) ++ l.take k) := List.perm_append_comm
      refine e2.trans ?_
      rw [List.append_assoc]
      show (i :: (l.drop k ++ l.take k)).Perm (i :: l)
      refine List.Perm.cons i ?_
      refine List.perm_append_comm.trans ?_
      rw [List.take_append_drop]
    rw [e.nodup_iff, List.nodup_cons]
    exact ⟨fun hm => by have := h3 i hm; omega, h2⟩
  · intro x hx
    rw [List.mem_append, List.mem_append] at hx
    rcases hx with (hx | hx) | hx
    · have := h3 x (List.mem_of_mem_take hx); omega
    · have : x = i := by simpa using hx
      omega
    · have := h3 x (List.mem_of_mem_drop hx); omega
/-- The slice v is an order of the first i numbers, in a row of the call's own. -/
def OrdRel (a : Nat) (W : World) (i : Nat) (v : Value) (w' : World) : Prop := ∃ l, Ord l i ∧ w'.ownsRow W.heap.size 3 1 v i (l.map zv) ∧ (i = 0 → v = .slice none 0 0) ∧ St a W w'
def OrdPost (a : Nat) (n : Nat) (W : World) (e : Ending) (w' : World) : Prop := ∃ v, e = .returned v ∧ OrdRel a W n v w'
set_option maxRecDepth 100000 in
set_option maxHeartbeats 3200000 in
theorem order_any (a n : Nat) (hn : n ≤ 1000) (w : World) (hT : Tp w a) :
    Calls Tryd.prog 20 #[.pointer (some ⟨a, 0, none⟩), .int .i64 (n : Int)] w fun e w' => OrdPost a n w e w' := by
  have ha := hT.lt
  have hS0 : Hid (OrdRel a w 0 (.slice none 0 0) w) := Lib.hid ⟨[], ⟨rfl, List.nodup_nil, fun x hx => by cases hx⟩, World.ownsRow_nil _ _ _ _, fun _ => rfl, grown_refl _ _, hT⟩
  clear hT
  go_enter Tryd.func20, Tryd.ntmps20
  go_wp2_with fail
  go_loopw [5, 6] (fun v i wr => ∃ j : Nat, j ≤ n ∧ i = .int .i64 (j : Int) ∧ OrdRel a w j v wr) (fun _ i _ => (n - (RowKit.intOf i).toNat))
  case atStart => exact ⟨0, Nat.zero_le _, rfl, hS0.out⟩
  case round =>
    obtain ⟨j, hj, rfl, hR⟩ := hrel
    have HR := Lib.hid hR
    clear hR hS0
    by_cases hlt : j < n
    · obtain ⟨l, hO, hown, hv0, hSt⟩ := HR.out
      have HO := Lib.hid hO
      have hT := hSt.2
      have HOWN := Lib.hid hown
      have HST := Lib.hid hSt
      clear hO hown hSt HR
      go_wp2_with fail
      refine (next_any a ((j : Int) + 1) (by unfold I64; omega) _ hT).mono ?_
      rintro e w3 ⟨r, rfl, hr, hs⟩
      obtain ⟨k, rfl⟩ := Int.eq_ofNat_of_zero_le hr.1
      have hkj : k ≤ j := by have := hr.2.1 (by omega); omega
      have HS3 := Lib.hid (HST.out.trans hs)
      have HOWN3 := Lib.hid (own_kept ha HOWN.out hs.1)
      clear hr hs hT HST HOWN
      by_cases hj0 : j = 0
      · subst hj0
        obtain rfl : k = 0 := by omega
        obtain rfl := hv0 rfl
        have hl : l = [] := List.eq_nil_of_length_eq_zero HO.out.1
        clear hv0
        obtain ⟨i0, hi, hz0, hz1, hz2⟩ := info_parts info_int
        have hsz3 := Lib.hid HS3.out.1.size
        go_wp2_with (first
          | (at_builtin; refine wpList_append_own_none rfl _ _ 22 rfl w3.heap.size 3 i0 1 Tryd.underlying22 hi (.slice none 0 0) 0 [] rfl (World.ownsRow_nil _ _ _ _) rfl ?_)
          | (at_builtin; refine wpList_append_ints rfl _ _ rfl w3.heap.size (.slice none 0 0) 0 [] rfl (World.ownsRow_nil _ _ _ _) (some ⟨w3.heap.size, 0, none⟩) 1 1 [0] rfl rfl (by intro h; cases h) (by intro ad h; obtain rfl := Option.some.inj h; exact cell_one _ _ _) (by simp) (by simp) ?_; intro v2 w5 hown2 hg2; have HOWN2 := Lib.hid hown2; have HG2 := Lib.hid (grown_trans (World.grownBy_alloc w3 _ none) hg2); clear hown2 hg2)
          | (at_builtin; refine wpList_append_own_none rfl _ _ 22 rfl w3.heap.size 3 i0 1 Tryd.underlying22 hi v2 1 [zv 0] rfl HOWN2.out rfl ?_))
        go_roundw
        case rel =>
          refine ⟨1, by omega, rfl, [0], ⟨rfl, by simp, by simp⟩, ?_, by omega, ?_⟩
          · exact HOWN2.out.mono hsz3.out
          · exact ⟨grown_trans HS3.out.1 (grown_none HG2.out _), HS3.out.2.keep HG2.out⟩
        case measure => simp [RowKit.intOf]; omega
      · have hj1 : 0 < j := by omega
        obtain ⟨g, cap, rfl, hgb⟩ := own_form HOWN3.out hj1
        obtain ⟨hcap1, hcap2⟩ := own_cap HOWN3.out
        have hcap3 : cap ≤ 9223372036854775807 := by unfold maxLen at hcap2; omega
        have hgl := (HOWN3.out.lt g rfl).2
        have hll := HO.out.1
        have HLL := Lib.hid hll
        have hkc : k ≤ cap := by omega
        have hkl : (l.take k).length = k := by rw [List.length_take]; omega
        have hdl : (l.drop k).length = j - k := by rw [List.length_drop]; omega
        have HKL := Lib.hid hkl
        have HDL := Lib.hid hdl
        have hj9 : j ≤ 1000 := by omega
        have hsz3 := Lib.hid HS3.out.1.size
        have N1 : Hid (∀ ad, some (⟨g, 0, none⟩ : Addr) = some ad → ∀ i u, ((l.take k).map zv)[i]? = some u → w3.cell? (ad.add i) = some u) := by
          refine Lib.hid ?_
          intro ad h i u hu
          obtain rfl := Option.some.inj h
          refine HOWN3.out.cells rfl i u ?_
          rw [List.map_take, List.getElem?_take] at hu
          split at hu
          · exact hu
          · cases hu
        clear hll hkl hdl hv0 hcap2
        generalize hT1 : l.take k = t1 at *
        generalize hT2 : l.drop k = t2 at *
        have HT1 := Lib.hid hT1
        have HT2 := Lib.hid hT2
        clear hT1
        by_cases hkj : k < j
        · have hkcap : k < cap := by omega
          have news : Hid (∀ (W : World) c, W.ownsRow w.heap.size 3 1 (.slice (some ⟨g, 0, none⟩) j c) j (l.map zv) → ∀ i u, (t2.map zv)[i]? = some u → W.cell? ⟨g, k + i, none⟩ = some u) := by
            refine Lib.hid ?_
            intro W c h i u hu
            rw [← hT2, List.map_drop, List.getElem?_drop] at hu
            have := h.cells rfl (k + i) u hu
            rw [add_plain, Nat.zero_add] at this
            exact this
          clear hT2
          go_wp2_with (first
            | (at_builtin; refine wpList_append_ints rfl _ _ rfl w3.heap.size (.slice none 0 0) 0 [] rfl (World.ownsRow_nil _ _ _ _) (some ⟨g, 0, none⟩) k cap t1 rfl HKL.out.symm (by intro h; cases h) N1.out (by rw [HKL.out]; omega) (Nat.le_refl _) ?_; intro v1 w4 hown1 hg1; rw [Nat.zero_add, List.nil_append, HKL.out] at hown1; have HOWN1 := Lib.hid hown1; have HO4 := Lib.hid (own_apart HOWN3.out (World.ownsRow_nil w3 w3.heap.size 3 1) hgl hg1); have HS4 := Lib.hid (HS3.out.own_grow (World.ownsRow_nil w3 w3.heap.size 3 1) hsz3.out ha hg1); have HZ4 := Lib.hid hg1.size; clear hown1 hg1)
            | (at_builtin; refine wpList_append_ints rfl _ _ rfl w3.heap.size v1 k t1 rfl (HOWN1.out.alloc _) (some ⟨w4.heap.size, 0, none⟩) 1 1 [j] rfl rfl (by intro h; cases h) (by intro ad h; obtain rfl := Option.some.inj h; exact cell_one _ _ _) (by simp; omega) (by have := HZ4.out; simp; omega) ?_; intro v2 w5 hown2 hg2; have HOWN2 : Hid (w5.ownsRow w3.heap.size 3 1 v2 (k + 1) ((t1 ++ [j]).map zv)) := Lib.hid hown2; have HO5 := Lib.hid (own_apart (HO4.out.alloc _) (HOWN1.out.alloc _) hgl hg2); have HS5 := Lib.hid ((HS4.out.none_ (World.grownBy_alloc w4 _ none)).own_grow (HOWN1.out.alloc _) hsz3.out ha hg2); have HZ5 : Hid (w3.heap.size ≤ w5.heap.size) := Lib.hid (Nat.le_trans HZ4.out (Nat.le_trans (by simp) hg2.size)); clear hown2 hg2)
            | (at_builtin; refine wpList_append_ints rfl _ _ rfl w3.heap.size v2 (k + 1) (t1 ++ [j]) rfl HOWN2.out _ _ _ t2 rfl (by have := HDL.out; omega) (by intro h; cases h) (by intro ad h; obtain rfl := Option.some.inj h; intro i u hu; rw [add_plain]; exact news.out w5 cap HO5.out i u hu) (by have := HDL.out; omega) HZ5.out ?_; intro v3 w6 hown3 hg3; have HOWN6 := Lib.hid hown3; have HS6 := Lib.hid (HS5.out.own_grow HOWN2.out hsz3.out ha hg3); clear hown3 hg3))
          go_roundw
          case rel =>
            refine ⟨j + 1, by omega, by go_num, l.take k ++ [j] ++ l.drop k, ord_next HO.out, ?_, by omega, HS6.out⟩
            have h6 := HOWN6.out.mono hsz3.out
            rw [← HT1.out, ← HT2.out, show k + 1 + (l.drop k).length = j + 1 by rw [List.length_drop, HLL.out]; omega] at h6
            exact h6
          case measure => simp [RowKit.intOf]; omega
        · obtain rfl : k = j := by omega
          have ht2 : t2 = [] := by
            rw [← hT2]
            exact List.drop_of_length_le (Nat.le_of_eq HLL.out)
          clear hT2
          have HN2 : Hid (∀ (i : Nat) (u : Value), (t2.map zv)[i]? = some u → False) := Lib.hid (by intro i u hu; rw [ht2] at hu; simp at hu)
          clear ht2
          by_cases hcj : k = cap
          · subst hcj
            go_wp2_with (first
              | (at_builtin; refine wpList_append_ints rfl _ _ rfl w3.heap.size (.slice none 0 0) 0 [] rfl (World.ownsRow_nil _ _ _ _) (some ⟨g, 0, none⟩) k k t1 rfl HKL.out.symm (by intro h; cases h) N1.out (by rw [HKL.out]; omega) (Nat.le_refl _) ?_; intro v1 w4 hown1 hg1; rw [Nat.zero_add, List.nil_append, HKL.out] at hown1; have HOWN1 := Lib.hid hown1; have HO4 := Lib.hid (own_apart HOWN3.out (World.ownsRow_nil w3 w3.heap.size 3 1) hgl hg1); have HS4 := Lib.hid (HS3.out.own_grow (World.ownsRow_nil w3 w3.heap.size 3 1) hsz3.out ha hg1); have HZ4 := Lib.hid hg1.size; clear hown1 hg1)
              | (at_builtin; refine wpList_append_ints rfl _ _ rfl w3.heap.size v1 k t1 rfl (HOWN1.out.alloc _) (some ⟨w4.heap.size, 0, none⟩) 1 1 [k] rfl rfl (by intro h; cases h) (by intro ad h; obtain rfl := Option.some.inj h; exact cell_one _ _ _) (by simp; omega) (by have := HZ4.out; simp; omega) ?_; intro v2 w5 hown2 hg2; have HOWN2 : Hid (w5.ownsRow w3.heap.size 3 1 v2 (k + 1) ((t1 ++ [k]).map zv)) := Lib.hid hown2; have HO5 := Lib.hid (own_apart (HO4.out.alloc _) (HOWN1.out.alloc _) hgl hg2); have HS5 := Lib.hid ((HS4.out.none_ (World.grownBy_alloc w4 _ none)).own_grow (HOWN1.out.alloc _) hsz3.out ha hg2); have HZ5 : Hid (w3.heap.size ≤ w5.heap.size) := Lib.hid (Nat.le_trans HZ4.out (Nat.le_trans (by simp) hg2.size)); clear hown2 hg2)
              | (at_builtin; refine wpList_append_ints rfl _ _ rfl w3.heap.size v2 (k + 1) (t1 ++ [k]) rfl HOWN2.out _ _ _ t2 rfl (by have := HDL.out; omega) (by intro h; cases h) (by intro ad h i u hu; exact (HN2.out i u hu).elim) (by have := HDL.out; omega) HZ5.out ?_; intro v3 w6 hown3 hg3; have HOWN6 := Lib.hid hown3; have HS6 := Lib.hid (HS5.out.own_grow HOWN2.out hsz3.out ha hg3); clear hown3 hg3))
            go_roundw
            case rel =>
              refine ⟨k + 1, by omega, by go_num, l.take k ++ [k] ++ l.drop k, ord_next HO.out, ?_, by omega, HS6.out⟩
              have h6 := HOWN6.out.mono hsz3.out
              rw [← HT1.out, ← HT2.out, show k + 1 + (l.drop k).length = k + 1 by rw [List.length_drop, HLL.out]; omega] at h6
              exact h6
            case measure => simp [RowKit.intOf]; omega
          · have hkcap : k < cap := by omega
            go_wp2_with (first
              | (at_builtin; refine wpList_append_ints rfl _ _ rfl w3.heap.size (.slice none 0 0) 0 [] rfl (World.ownsRow_nil _ _ _ _) (some ⟨g, 0, none⟩) k cap t1 rfl HKL.out.symm (by intro h; cases h) N1.out (by rw [HKL.out]; omega) (Nat.le_refl _) ?_; intro v1 w4 hown1 hg1; rw [Nat.zero_add, List.nil_append, HKL.out] at hown1; have HOWN1 := Lib.hid hown1; have HO4 := Lib.hid (own_apart HOWN3.out (World.ownsRow_nil w3 w3.heap.size 3 1) hgl hg1); have HS4 := Lib.hid (HS3.out.own_grow (World.ownsRow_nil w3 w3.heap.size 3 1) hsz3.out ha hg1); have HZ4 := Lib.hid hg1.size; clear hown1 hg1)
              | (at_builtin; refine wpList_append_ints rfl _ _ rfl w3.heap.size v1 k t1 rfl (HOWN1.out.alloc _) (some ⟨w4.heap.size, 0, none⟩) 1 1 [k] rfl rfl (by intro h; cases h) (by intro ad h; obtain rfl := Option.some.inj h; exact cell_one _ _ _) (by simp; omega) (by have := HZ4.out; simp; omega) ?_; intro v2 w5 hown2 hg2; have HOWN2 : Hid (w5.ownsRow w3.heap.size 3 1 v2 (k + 1) ((t1 ++ [k]).map zv)) := Lib.hid hown2; have HO5 := Lib.hid (own_apart (HO4.out.alloc _) (HOWN1.out.alloc _) hgl hg2); have HS5 := Lib.hid ((HS4.out.none_ (World.grownBy_alloc w4 _ none)).own_grow (HOWN1.out.alloc _) hsz3.out ha hg2); have HZ5 : Hid (w3.heap.size ≤ w5.heap.size) := Lib.hid (Nat.le_trans HZ4.out (Nat.le_trans (by simp) hg2.size)); clear hown2 hg2)
              | (at_builtin; refine wpList_append_ints rfl _ _ rfl w3.heap.size v2 (k + 1) (t1 ++ [k]) rfl HOWN2.out _ _ _ t2 rfl (by have := HDL.out; omega) (by intro h; cases h) (by intro ad h i u hu; exact (HN2.out i u hu).elim) (by have := HDL.out; omega) HZ5.out ?_; intro v3 w6 hown3 hg3; have HOWN6 := Lib.hid hown3; have HS6 := Lib.hid (HS5.out.own_grow HOWN2.out hsz3.out ha hg3); clear hown3 hg3))
            go_roundw
            case rel =>
              refine ⟨k + 1, by omega, by go_num, l.take k ++ [k] ++ l.drop k, ord_next HO.out, ?_, by omega, HS6.out⟩
              have h6 := HOWN6.out.mono hsz3.out
              rw [← HT1.out, ← HT2.out, show k + 1 + (l.drop k).length = k + 1 by rw [List.length_drop, HLL.out]; omega] at h6
              exact h6
            case measure => simp [RowKit.intOf]; omega
    · obtain rfl : j = n := by omega
      go_wp2_with fail
      go_ret
      exact ⟨_, rfl, HR.out⟩
end Go.Proofs.YtlgmankojgjfjaaDoor

/- Links in order, and the tape's topologies: the mathematics. -/
namespace Go.Proofs.YtlgmankojgjfjaaDoor
open Go.RowKit Bs
/-- A link laid where the lesser ones end. -/
def insL (O : List Lk) (y : Lk) : List Lk := O.takeWhile (fun x => ltL x y) ++ y :: O.dropWhile (fun x => ltL x y)
def ordL (L : List Lk) : List Lk := L.foldl insL []
set_option maxRecDepth 100000 in
theorem insL_cons (a : Lk) (t : List Lk) (y : Lk) : insL (a :: t) y = if ltL a y then a :: insL t y else y :: a :: t := by
  unfold insL
  rw [List.takeWhile_cons, List.dropWhile_cons]
  split <;> rfl
set_option maxRecDepth 100000 in
theorem insL_len (O : List Lk) (y : Lk) : (insL O y).length = O.length + 1 := by
  unfold insL
  rw [List.length_append, List.length_cons]
  have := congrArg List.length (List.takeWhile_append_dropWhile (p := fun x => ltL x y) (l := O))
  rw [List.length_append] at this
  omega
set_option maxRecDepth 100000 in
theorem ordL_take (L : List Lk) (k : Nat) (y : Lk) (h : L[k]? = some y) : ordL (L.take (k + 1)) = insL (ordL (L.take k)) y := by
  unfold ordL
  rw [List.take_add_one, h, List.foldl_append]
  rfl
set_option maxRecDepth 100000 in
theorem foldl_insL_len : ∀ (L O : List Lk), (L.foldl insL O).length = O.length + L.length
  | [], O => by simp
  | a :: t, O => by rw [List.foldl_cons, foldl_insL_len t, insL_len, List.length_cons]; omega
set_option maxRecDepth 100000 in
theorem ordL_len (L : List Lk) : (ordL L).length = L.length := by
  unfold ordL
  rw [foldl_insL_len]; simp
set_option maxRecDepth 100000 in
theorem insL_at (y : Lk) : ∀ (O : List Lk) (j : Nat), j ≤ O.length → (∀ i x, i < j → O[i]? = some x → ltL x y = true) → (∀ x, O[j]? = some x → ltL x y = false) → insL O y = O.take j ++ y :: O.drop j
  | [], j, hj, _, _ => by
    obtain rfl : j = 0 := by simpa using hj
    rfl
  | a :: t, 0, _, _, h2 => by
    rw [insL_cons, h2 a rfl]
    rfl
  | a :: t, j + 1, hj, h1, h2 => by
    rw [insL_cons, if_pos (h1 0 a (by omega) rfl), insL_at y t j (by simpa using hj) (fun i x hi hx => h1 (i + 1) x (by omega) (by simpa using hx)) (fun x hx => h2 x (by simpa using hx))]
    rfl
set_option maxRecDepth 100000 in
theorem mem_insL (y z : Lk) : ∀ O : List Lk, z ∈ insL O y ↔ z = y ∨ z ∈ O
  | [] => by simp [insL]
  | a :: t => by
    rw [insL_cons]
    split
    · rw [List.mem_cons, List.mem_cons, mem_insL y z t]
      constructor
      · rintro (h | h | h)
        · exact .inr (.inl h)
        · exact .inl h
        · exact .inr (.inr h)
      · rintro (h | h | h)
        · exact .inr (.inl h)
        · exact .inl h
        · exact .inr (.inr h)
    · simp
set_option maxRecDepth 100000 in
theorem ltL_trans {x y z : Lk} (h1 : ltL x y = true) (h2 : ltL y z = true) : ltL x z = true := by
  unfold ltL at *
  have h1 := of_decide_eq_true h1
  have h2 := of_decide_eq_true h2
  exact decide_eq_true (by omega)
/-- The ends differ. -/
def EndsNe (x y : Lk) : Prop := x.a ≠ y.a ∨ x.b ≠ y.b
set_option maxRecDepth 100000 in
theorem ltL_flip {x y : Lk} (h : ltL x y = false) (hn : EndsNe x y) : ltL y x = true := by
  unfold ltL at *
  have h := of_decide_eq_false h
  unfold EndsNe at hn
  exact decide_eq_true (by omega)
set_option maxRecDepth 100000 in
theorem insL_pair (y : Lk) : ∀ O : List Lk, O.Pairwise (fun x z => ltL x z = true) → (∀ x ∈ O, EndsNe x y) → (insL O y).Pairwise (fun x z => ltL x z = true)
  | [], _, _ => by simp [insL]
  | a :: t, hp, hn => by
    rw [insL_cons]
    obtain ⟨h1, h2⟩ := List.pairwise_cons.1 hp
    split
    · next hlt =>
      refine List.pairwise_cons.2 ⟨fun z hz => ?_, insL_pair y t h2 (fun x hx => hn x (List.mem_cons_of_mem _ hx))⟩
      rcases (mem_insL y z t).1 hz with rfl | hz
      · exact hlt
      · exact h1 z hz
    · next hlt =>
      have hya := ltL_flip (by simpa using hlt) (hn a (by simp))
      refine List.pairwise_cons.2 ⟨fun z hz => ?_, hp⟩
      rcases List.mem_cons.1 hz with rfl | hz
      · exact hya
      · exact ltL_trans hya (h1 z hz)
set_option maxRecDepth 100000 in
theorem foldl_insL_pair : ∀ (L O : List Lk), O.Pairwise (fun x z => ltL x z = true) → L.Pairwise EndsNe → (∀ x ∈ O, ∀ y ∈ L, EndsNe x y) → (L.foldl insL O).Pairwise (fun x z => ltL x z = true)
  | [], O, h, _, _ => h
  | a :: t, O, h, hL, hx => by
    obtain ⟨h1, h2⟩ := List.pairwise_cons.1 hL
    rw [List.foldl_cons]
    refine foldl_insL_pair t _ (insL_pair a O h (fun x hx1 => hx x hx1 a (by simp))) h2 (fun x hx1 y hy => ?_)
    rcases (mem_insL a x O).1 hx1 with rfl | h3
    · exact h1 y hy
    · exact hx x h3 y (List.mem_cons_of_mem _ hy)
set_option maxRecDepth 100000 in
theorem foldl_insL_mem (z : Lk) : ∀ (L O : List Lk), z ∈ L.foldl insL O ↔ z ∈ O ∨ z ∈ L
  | [], O => by simp
  | a :: t, O => by
    rw [List.foldl_cons, foldl_insL_mem z t, mem_insL, List.mem_cons]
    constructor
    · rintro ((h | h) | h)
      · exact .inr (.inl h)
      · exact .inl h
      · exact .inr (.inr h)
    · rintro (h | h | h)
      · exact .inl (.inr h)
      · exact .inl (.inl h)
      · exact .inr h
set_option maxRecDepth 100000 in
theorem ordL_mem (L : List Lk) (z : Lk) : z ∈ ordL L ↔ z ∈ L := by
  unfold ordL
  rw [foldl_insL_mem]
  simp
set_option maxRecDepth 100000 in
theorem ordL_pair (L : List Lk) (h : L.Pairwise EndsNe) : (ordL L).Pairwise (fun x z => ltL x z = true) :=
  foldl_insL_pair L [] List.Pairwise.nil h (fun x hx => by simp at hx)
set_option maxRecDepth 100000 in
theorem asc_of_pair {α : Type} (f : α → α → Bool) : ∀ l : List α, l.Pairwise (fun x z => f x z = true) → ascB f l = true
  | [], _ => rfl
  | [a], _ => rfl
  | a :: b :: t, h => by
    obtain ⟨h1, h2⟩ := List.pairwise_cons.1 h
    rw [ascB, h1 b (by simp), asc_of_pair f (b :: t) h2]
    rfl
/-- The routers 1 to k. -/
def rts (k : Nat) : List Rt := (List.range k).map fun (i : Nat) => (⟨(i : Int) + 1, true⟩ : Rt)
set_option maxRecDepth 100000 in
theorem rts_succ (k : Nat) : rts (k + 1) = rts k ++ [⟨(k : Int) + 1, true⟩] := by
  unfold rts
  rw [List.range_succ, List.map_append]
  rfl
set_option maxRecDepth 100000 in
theorem rts_len (k : Nat) : (rts k).length = k := by unfold rts; simp
set_option maxRecDepth 100000 in
theorem rts_mem (k : Nat) (r : Rt) : r ∈ rts k ↔ ∃ i : Nat, i < k ∧ r = ⟨(i : Int) + 1, true⟩ := by
  unfold rts
  rw [List.mem_map]
  constructor
  · rintro ⟨i, hi, rfl⟩; exact ⟨i, List.mem_range.1 hi, rfl⟩
  · rintro ⟨i, hi, rfl⟩; exact ⟨i, List.mem_range.2 hi, rfl⟩
/-- Links of the routers 1 to k, each before (b, a) in the order that the tape makes them, no two with the same ends. -/
structure GoodL (k b a : Int) (L : List Lk) : Prop where
  ok : ∀ l ∈ L, (1 ≤ l.a ∧ l.a < l.b ∧ l.b ≤ k) ∧ wrNum l = false
  lt : ∀ l ∈ L, l.b < b ∨ (l.b = b ∧ l.a < a)
  ne : L.Pairwise EndsNe
set_option maxRecDepth 100000 in
theorem GoodL.nil (k b a : Int) : GoodL k b a [] := ⟨by simp, by simp, List.Pairwise.nil⟩
set_option maxRecDepth 100000 in
theorem GoodL.next {k b a : Int} {L : List Lk} (h : GoodL k b a L) : GoodL k b (a + 1) L := ⟨h.ok, fun l hl => by rcases h.lt l hl with h1 | h1 <;> omega, h.ne⟩
set_option maxRecDepth 100000 in
theorem GoodL.row {k b a : Int} {L : List Lk} (h : GoodL k b a L) : GoodL k (b + 1) 1 L := ⟨h.ok, fun l hl => by rcases h.lt l hl with h1 | h1 <;> omega, h.ne⟩
set_option maxRecDepth 100000 in
theorem GoodL.add {k b a : Int} {L : List Lk} (h : GoodL k b a L) (y : Lk) (ha : y.a = a) (hb : y.b = b) (h1 : 1 ≤ a) (h2 : a < b) (h3 : b ≤ k) (hw : wrNum y = false) : GoodL k b (a + 1) (L ++ [y]) := by
  refine ⟨fun l hl => ?_, fun l hl => ?_, ?_⟩
  · rcases List.mem_append.1 hl with hl | hl
    · exact h.ok l hl
    · obtain rfl : l = y := by simpa using hl
      exact ⟨by omega, hw⟩
  · rcases List.mem_append.1 hl with hl | hl
    · rcases h.lt l hl with h4 | h4 <;> omega
    · obtain rfl : l = y := by simpa using hl
      omega
  · refine List.pairwise_append.2 ⟨h.ne, by simp, fun x hx z hz => ?_⟩
    obtain rfl : z = y := by simpa using hz
    unfold EndsNe
    rcases h.lt x hx with h4 | h4 <;> omega
set_option maxRecDepth 100000 in
theorem chk_good {k : Nat} {b a : Int} {L : List Lk} (h : GoodL k b a L) (hk : k ≤ 24) (hl : L.length ≤ 60) : chk (rts k) (ordL L) = 0 := by
  unfold chk
  rw [if_neg (by rw [rts_len, ordL_len]; omega), if_neg, if_neg, if_neg, if_neg, if_neg, if_neg]
  · rw [asc_of_pair ltL _ (ordL_pair L h.ne)]
    simp
  · rw [List.any_eq_true]
    rintro ⟨l, hl1, hw⟩
    have := (h.ok l ((ordL_mem L l).1 hl1)).1
    unfold wrEnd at hw
    have := of_decide_eq_true hw
    omega
  · rw [List.any_eq_true]
    rintro ⟨l, hl1, hw⟩
    have := (h.ok l ((ordL_mem L l).1 hl1)).1
    have hh : ∀ x : Int, 1 ≤ x → x ≤ k → hasR (rts k) x = true := fun x h1 h2 => by
      unfold hasR
      refine List.any_eq_true.2 ⟨⟨x, true⟩, (rts_mem k _).2 ⟨(x - 1).toNat, by omega, ?_⟩, by simp⟩
      congr 1
      omega
    unfold unk at hw
    rw [hh _ this.1 (by omega), hh _ (by omega) this.2.2] at hw
    simp at hw
  · rw [List.any_eq_true]
    rintro ⟨l, hl1, hw⟩
    rw [(h.ok l ((ordL_mem L l).1 hl1)).2] at hw
    cases hw
  · rw [asc_of_pair ltR (rts k)]
    · simp
    · unfold rts
      rw [List.pairwise_map]
      exact List.pairwise_lt_range.imp (fun {a b} hab => decide_eq_true (by show (a : Int) + 1 < (b : Int) + 1; omega))
  · rw [List.any_eq_true]
    rintro ⟨r, hr, hw⟩
    obtain ⟨i, hi, rfl⟩ := (rts_mem k r).1 hr
    have : wrId ⟨(i : Int) + 1, true⟩ = false := by
      unfold wrId
      rw [decide_eq_true (by constructor <;> (dsimp; omega))]
      rfl
    rw [this] at hw
    cases hw
/-- What the tape says of a topology of at most 'most' routers. -/
def TopOf (most : Nat) (n : Int) (R : List Rt) (L : List Lk) : Prop :=
  1 ≤ R.length ∧ (R.length ≤ most + 1 ∨ 25 ≤ R.length) ∧ R.length ≤ most + 25 ∧ L.length ≤ 60 ∧ (n ≤ 0 → chk R L = 0 ∧ R.length ≤ most)
end Go.Proofs.YtlgmankojgjfjaaDoor

/- While the tape makes a topology. -/
namespace Go.Proofs.YtlgmankojgjfjaaDoor
open Go.RowKit Bs
/-- While a topology is made: its block holds uR, uL; the routers and the links lie in rows of the call's own, vR and vL. -/
structure TK (a : Nat) (W : World) (uR uL vR vL : Value) (R : List Rt) (L : List Lk) (w : World) : Prop where
  gb : w.heap[W.heap.size + 1]? = some (.cells #[uR, uL] 35 (0, 0))
  rb : w.heap[W.heap.size]? = some (.cells #[.slice none 0 0, .slice none 0 0] 35 (0, 0))
  oR : w.ownsRow (W.heap.size + 2) 59 2 vR R.length (R.flatMap rtC)
  oL : w.ownsRow (W.heap.size + 2) 62 5 vL L.length (L.flatMap lkC)
  ap : ∀ g, vR.ownBlock = some g → vL.ownBlock ≠ some g
  st : St a W w
  sz : W.heap.size + 2 ≤ w.heap.size
set_option maxRecDepth 100000 in
theorem own_other {w w' : World} {base size n b : Nat} {e : TypeId} {v : Value} {xs : List Value} (h : w.ownsRow base e size v n xs) (g : w.grownBy w' (some b)) (hb : b < base) : w'.ownsRow base e size v n xs :=
  h.kept g (by
    cases hv : v.ownBlock with
    | none => exact .inl rfl
    | some k => exact .inr (fun e => by have e2 := Option.some.inj e; have := (h.lt k hv).1; omega))
set_option maxRecDepth 100000 in
theorem St.storeT {a b : Nat} {W w w1 : World} (h : St a W w) (g : w.grownBy w1 (some b)) (hb : W.heap.size ≤ b) (ha : a < W.heap.size) : St a W w1 := by
  refine ⟨⟨g.os.trans h.1.os, g.tape.trans h.1.tape, g.output.trans h.1.output, Nat.le_trans h.1.size g.size, fun i hi hia => (g.block i (Nat.lt_of_lt_of_le hi h.1.size) (fun e => by have := Option.some.inj e; omega)).trans (h.1.block i hi hia)⟩, ?_⟩
  obtain ⟨v, n, i, T⟩ := h.2
  have hlt : a < w.heap.size := Nat.lt_of_lt_of_le ha h.1.size
  have hk : w1.heap[a]? = w.heap[a]? := g.block a hlt (fun e => by have := Option.some.inj e; omega)
  refine ⟨v, n, i, (World.cell?_of_block (a := ⟨a, 0, none⟩) hk).trans T.l, (World.cell?_of_block (a := ⟨a, 1, none⟩) hk).trans T.p, (World.frozen?_of_block (a := ⟨a, 1, none⟩) hk).trans T.fr, ?_, T.le, T.len⟩
  obtain ⟨p, c, hv, hc⟩ := T.ints
  refine ⟨p, c, hv, fun hn => ?_⟩
  obtain ⟨b1, off, hp, hb1, hx⟩ := hc hn
  refine ⟨b1, off, hp, hb1, fun i hi => ?_⟩
  obtain ⟨x, hx1, hcell⟩ := hx i hi
  exact ⟨x, hx1, g.cell hcell (fun e => by have : b1 = b := Option.some.inj e; omega)⟩
section
variable {a : Nat} {W w w1 : World} {uR uL vR vL v' : Value} {R : List Rt} {L : List Lk}
set_option maxRecDepth 100000 in
theorem TK.keep (h : TK a W uR uL vR vL R L w) (g : w.grownBy w1 none) : TK a W uR uL vR vL R L w1 :=
  ⟨kept_row h.gb g (by simp), kept_row h.rb g (by simp), h.oR.kept g (by cases hv : vR.ownBlock <;> simp), h.oL.kept g (by cases hv : vL.ownBlock <;> simp), h.ap, h.st.trans ⟨grown_none g _, h.st.2.keep g⟩, Nat.le_trans h.sz g.size⟩
set_option maxRecDepth 100000 in
theorem TK.tape (h : TK a W uR uL vR vL R L w) (ha : a < W.heap.size) (k : St a w w1) : TK a W uR uL vR vL R L w1 :=
  ⟨kept_row h.gb k.1 (fun e => by have := Option.some.inj e; omega), kept_row h.rb k.1 (fun e => by have := Option.some.inj e; omega), own_other h.oR k.1 (by omega), own_other h.oL k.1 (by omega), h.ap, h.st.trans k, Nat.le_trans h.sz k.1.size⟩
set_option maxRecDepth 100000 in
theorem TK.start (hT : Tp w a) : TK a w (.slice none 0 0) (.slice none 0 0) (.slice none 0 0) (.slice none 0 0) [] [] ((w.alloc (.cells #[.slice none 0 0, .slice none 0 0] 35)).alloc (.cells #[.slice none 0 0, .slice none 0 0] 35)) := by
  obtain ⟨k1, k2, k3, _⟩ := two_boxes w #[.slice none 0 0, .slice none 0 0] #[.slice none 0 0, .slice none 0 0] 35 35
  exact ⟨k2, k1, World.ownsRow_nil _ _ _ _, World.ownsRow_nil _ _ _ _, fun g hg => (by cases hg), ⟨grown_none k3 _, hT.keep k3⟩, by simp⟩
set_option maxRecDepth 100000 in
theorem St.rowT {a base size n : Nat} {W w w1 : World} {e : TypeId} {v : Value} {xs : List Value} (h : St a W w) (ho : w.ownsRow base e size v n xs) (hb : W.heap.size ≤ base) (ha : a < W.heap.size) (k : w.grownBy w1 v.ownBlock) : St a W w1 := by
  cases hv : v.ownBlock with
  | none => rw [hv] at k; exact ⟨grown_trans h.1 (grown_none k _), h.2.keep k⟩
  | some g => rw [hv] at k; exact h.storeT k (Nat.le_trans hb (ho.lt g hv).1) ha
set_option maxRecDepth 100000 in
theorem TK.addR {g n cap : Nat} {y : Rt} (h : TK a W uR uL vR vL R L w) (ha : a < W.heap.size) (hown : w1.ownsRow (W.heap.size + 2) 59 2 (.slice (some ⟨g, 0, none⟩) n cap) (R.length + 1) (R.flatMap rtC ++ [.int .i64 y.id, .bool y.cap])) (hg : w.grownBy w1 vR.ownBlock) (hat : vR.ownBlock = some g ∨ g = w.heap.size) :
    TK a W uR uL (.slice (some ⟨g, 0, none⟩) n cap) vL (R ++ [y]) L w1 := by
  have hne : ∀ k, k < W.heap.size + 2 → some k ≠ vR.ownBlock := fun k hk e => by
    have := (h.oR.lt k e.symm).1
    omega
  refine ⟨kept_row h.gb hg (hne _ (by omega)), kept_row h.rb hg (hne _ (by omega)), ?_, h.oL.kept hg ?_, ?_, h.st.rowT h.oR (by omega) ha hg, Nat.le_trans h.sz hg.size⟩
  · rw [List.length_append, List.flatMap_append]; exact hown
  · cases hv : vL.ownBlock with
    | none => exact .inl rfl
    | some k => exact .inr (fun e => h.ap k e.symm hv)
  · intro g2 hg2 e
    obtain rfl : g = g2 := by simpa [Value.ownBlock] using hg2
    rcases hat with hat | hat
    · exact h.ap g hat e
    · have := (h.oL.lt g e).2
      omega
set_option maxRecDepth 100000 in
theorem TK.addL {g n cap : Nat} {y : Lk} (h : TK a W uR uL vR vL R L w) (ha : a < W.heap.size) (hown : w1.ownsRow (W.heap.size + 2) 62 5 (.slice (some ⟨g, 0, none⟩) n cap) (L.length + 1) (L.flatMap lkC ++ [.int .i64 y.a, .int .i64 y.b, .int .i64 y.ca, .int .i64 y.cb, .int .i64 y.cp])) (hg : w.grownBy w1 vL.ownBlock) (hat : vL.ownBlock = some g ∨ g = w.heap.size) :
    TK a W uR uL vR (.slice (some ⟨g, 0, none⟩) n cap) R (L ++ [y]) w1 := by
  have hne : ∀ k, k < W.heap.size + 2 → some k ≠ vL.ownBlock := fun k hk e => by
    have := (h.oL.lt k e.symm).1
    omega
  refine ⟨kept_row h.gb hg (hne _ (by omega)), kept_row h.rb hg (hne _ (by omega)), h.oR.kept hg ?_, ?_, ?_, h.st.rowT h.oL (by omega) ha hg, Nat.le_trans h.sz hg.size⟩
  · cases hv : vR.ownBlock with
    | none => exact .inl rfl
    | some k => exact .inr (fun e => h.ap k hv e.symm)
  · rw [List.length_append, List.flatMap_append]; exact hown
  · intro g2 hg2 e
    obtain rfl : g = g2 := by simpa [Value.ownBlock] using e
    rcases hat with hat | hat
    · exact h.ap g hg2 hat
    · have := (h.oR.lt g hg2).2
      omega
set_option maxRecDepth 100000 in
theorem TK.put0 (h : TK a W uR uL vR vL R L w) (ha : a < W.heap.size) : TK a W vR uL vR vL R L (w.setCell ⟨W.heap.size + 1, 0, none⟩ vR) := by
  have k : w.grownBy (w.setCell ⟨W.heap.size + 1, 0, none⟩ vR) (some (W.heap.size + 1)) := grown_setCell w ⟨W.heap.size + 1, 0, none⟩ vR
  exact ⟨heap_setCell_same w _ 0 _ _ vR h.gb, kept_row h.rb k (fun e => by have : W.heap.size = W.heap.size + 1 := Option.some.inj e; omega), own_other h.oR k (by omega), own_other h.oL k (by omega), h.ap, h.st.storeT k (by omega) ha, Nat.le_trans h.sz k.size⟩
set_option maxRecDepth 100000 in
theorem TK.put1 (h : TK a W uR uL vR vL R L w) (ha : a < W.heap.size) : TK a W uR vL vR vL R L (w.setCell ⟨W.heap.size + 1, 1, none⟩ vL) := by
  have k : w.grownBy (w.setCell ⟨W.heap.size + 1, 1, none⟩ vL) (some (W.heap.size + 1)) := grown_setCell w ⟨W.heap.size + 1, 1, none⟩ vL
  exact ⟨heap_setCell_same w _ 1 _ _ vL h.gb, kept_row h.rb k (fun e => by have : W.heap.size = W.heap.size + 1 := Option.some.inj e; omega), own_other h.oR k (by omega), own_other h.oL k (by omega), h.ap, h.st.storeT k (by omega) ha, Nat.le_trans h.sz k.size⟩
set_option maxRecDepth 100000 in
theorem TK.newL {O : List Lk} (h : TK a W uR uL vR vL R L w) (hown : w1.ownsRow w.heap.size 62 5 v' O.length (O.flatMap lkC)) (g : w.grownBy w1 none) : TK a W uR uL vR v' R O w1 := by
  have h1 := h.keep g
  refine ⟨h1.gb, h1.rb, h1.oR, hown.mono h.sz, fun k hk e => ?_, h1.st, h1.sz⟩
  have := (hown.lt k e).1
  have := (h.oR.lt k hk).2
  omega
set_option maxRecDepth 100000 in
theorem flat_set : ∀ (L : List Lk) (k j : Nat) (x : Int), k < L.length → j < 5 → ∃ L' : List Lk, L'.length = L.length ∧ L'.flatMap lkC = (L.flatMap lkC).set (k * 5 + j) (.int .i64 x)
  | [], k, _, _, hk, _ => absurd hk (Nat.not_lt_zero k)
  | m :: t, 0, j, x, _, hj => by
    rcases (show j = 0 ∨ j = 1 ∨ j = 2 ∨ j = 3 ∨ j = 4 by omega) with rfl | rfl | rfl | rfl | rfl
    · exact ⟨⟨x, m.b, m.ca, m.cb, m.cp⟩ :: t, rfl, rfl⟩
    · exact ⟨⟨m.a, x, m.ca, m.cb, m.cp⟩ :: t, rfl, rfl⟩
    · exact ⟨⟨m.a, m.b, x, m.cb, m.cp⟩ :: t, rfl, rfl⟩
    · exact ⟨⟨m.a, m.b, m.ca, x, m.cp⟩ :: t, rfl, rfl⟩
    · exact ⟨⟨m.a, m.b, m.ca, m.cb, x⟩ :: t, rfl, rfl⟩
  | m :: t, k + 1, j, x, hk, hj => by
    obtain ⟨L', h1, h2⟩ := flat_set t k j x (by simpa using hk) hj
    refine ⟨m :: L', by simp [h1], ?_⟩
    rw [List.flatMap_cons, h2, List.flatMap_cons]
    have e : (k + 1) * 5 + j = (lkC m).length + (k * 5 + j) := by
      show (k + 1) * 5 + j = 5 + (k * 5 + j)
      omega
    rw [e, List.set_append_right _ _ (Nat.le_add_right _ _), Nat.add_sub_cancel_left]
set_option maxRecDepth 100000 in
theorem TK.setL {g n cap k j : Nat} {x : Int} (h : TK a W uR uL vR (.slice (some ⟨g, 0, none⟩) n cap) R L w) (ha : a < W.heap.size) (hk : k < L.length) (hj : j < 5) :
    ∃ L', L'.length = L.length ∧ TK a W uR uL vR (.slice (some ⟨g, 0, none⟩) n cap) R L' (w.setCell ⟨g, k * 5 + j, none⟩ (.int .i64 x)) := by
  obtain ⟨L', hl, hf⟩ := flat_set L k j x hk hj
  obtain ⟨-, -, -⟩ : True ∧ True ∧ True := ⟨trivial, trivial, trivial⟩
  have hg0 := (h.oL.lt g rfl).1
  have hn : n = L.length := by
    obtain ⟨p, c, e, _⟩ := own_shape h.oL
    injection e
  subst hn
  obtain ⟨s1, s2⟩ := h.oL.stored (k * 5 + j) (.int .i64 x)
  refine ⟨L', hl, kept_row h.gb s2 (fun e => by have : W.heap.size + 1 = g := Option.some.inj e; omega), kept_row h.rb s2 (fun e => by have : W.heap.size = g := Option.some.inj e; omega), h.oR.kept s2 ?_, ?_, h.ap, h.st.storeT s2 (by omega) ha, Nat.le_trans h.sz s2.size⟩
  · cases hv : vR.ownBlock with
    | none => exact .inl rfl
    | some k => exact .inr (fun e => h.ap k hv (by rw [e]; rfl))
  · rw [hl, hf]; exact s1
end
/-- What returns a topology of the tape's. -/
def TopoPost (a : Nat) (most : Nat) (n : Int) (w : World) (e : Ending) (w' : World) : Prop :=
  ∃ (R : List Rt) (L : List Lk) (vR vL : Value), e = .returned (.agg #[vR, vL]) ∧ w'.ownsRow w.heap.size 59 2 vR R.length (R.flatMap rtC) ∧ w'.ownsRow w.heap.size 62 5 vL L.length (L.flatMap lkC) ∧ (∀ g, vR.ownBlock = some g → vL.ownBlock ≠ some g) ∧ TopOf most n R L ∧ St a w w'
end Go.Proofs.YtlgmankojgjfjaaDoor

/- The tape's order of links: the links in order, in a block of the call's own. -/
namespace Go.Proofs.YtlgmankojgjfjaaDoor
open Go.RowKit Bs
/-- While links are ordered. -/
structure OM (w0 : World) (L : List Lk) (p : Option Addr) (c : Nat) (O : List Lk) (v : Value) (w : World) : Prop where
  l : RdL5 w (· < w0.heap.size) (.slice p L.length c) L
  own : w.ownsRow w0.heap.size 62 5 v O.length (O.flatMap lkC)
  gr : w0.grownBy w none
set_option maxRecDepth 100000 in
theorem OM.keep {w0 w w' : World} {L O : List Lk} {p : Option Addr} {c : Nat} {v : Value} (h : OM w0 L p c O v w) (g : w.grownBy w' none) : OM w0 L p c O v w' :=
  ⟨h.l.keep g, h.own.kept g (by cases hv : v.ownBlock <;> simp), grown_trans h.gr g⟩
set_option maxRecDepth 100000 in
theorem OM.cells {w0 w : World} {L O : List Lk} {b off c b3 off3 c3 k j : Nat} {x y : Lk} (h : OM w0 L (some ⟨b, off, none⟩) c O (.slice (some ⟨b3, off3, none⟩) O.length c3) w) (hy : L[k]? = some y) (hx : O[j]? = some x) :
    (w.cell? ⟨b, off + k * 5, none⟩ = some (.int .i64 y.a) ∧ w.cell? ⟨b, off + k * 5 + 1, none⟩ = some (.int .i64 y.b)) ∧ w.cell? ⟨b3, off3 + j * 5, none⟩ = some (.int .i64 x.a) ∧ w.cell? ⟨b3, off3 + j * 5 + 1, none⟩ = some (.int .i64 x.b) := by
  have h1 := (List.getElem?_eq_some_iff.1 hy).1
  have h2 := (List.getElem?_eq_some_iff.1 hx).1
  obtain ⟨-, b', off', e, -, hc⟩ := rdl_cells (L := L) h.l (by omega)
  injection e with e
  injection e with e4 e5
  subst e4
  subst e5
  obtain ⟨-, b', off', e, -, hc3⟩ := rdl_cells (L := O) (rdf_of_own h.own) (by omega)
  injection e with e
  injection e with e4 e5
  subst e4
  subst e5
  exact ⟨⟨(hc k y hy).1, (hc k y hy).2.1⟩, (hc3 j x hx).1, (hc3 j x hx).2.1⟩
set_option maxRecDepth 100000 in
theorem own_formF {w : World} {base size n : Nat} {e : TypeId} {v : Value} {xs : List Value} (h : w.ownsRow base e size v n xs) : (v = .slice none 0 0 ∧ n = 0) ∨ ∃ g cap, v = .slice (some ⟨g, 0, none⟩) n cap ∧ n ≤ cap ∧ cap ≤ 9223372036854775807 := by
  rcases h.2 with ⟨rfl, h0⟩ | ⟨g, cap, cur, rfl, _, _, hn, hm, _⟩
  · exact .inl ⟨rfl, h0⟩
  · unfold maxLen at hm
    exact .inr ⟨g, cap, rfl, hn, by omega⟩
set_option maxRecDepth 100000 in
theorem OM.link {w0 w : World} {L O : List Lk} {b off c k : Nat} {v : Value} {y : Lk} (h : OM w0 L (some ⟨b, off, none⟩) c O v w) (hy : L[k]? = some y) :
    w.cell? ⟨b, off + k * 5, none⟩ = some (.int .i64 y.a) ∧ w.cell? ⟨b, off + k * 5 + 1, none⟩ = some (.int .i64 y.b) ∧ w.cell? ⟨b, off + k * 5 + 2, none⟩ = some (.int .i64 y.ca) ∧ w.cell? ⟨b, off + k * 5 + 3, none⟩ = some (.int .i64 y.cb) ∧ w.cell? ⟨b, off + k * 5 + 4, none⟩ = some (.int .i64 y.cp) := by
  have h1 := (List.getElem?_eq_some_iff.1 hy).1
  obtain ⟨-, b', off', e, -, hc⟩ := rdl_cells (L := L) h.l (by omega)
  injection e with e
  injection e with e4 e5
  subst e4
  subst e5
  exact hc k y hy
set_option maxRecDepth 100000 in
theorem OM.apart {w0 w w1 : World} {L O : List Lk} {p : Option Addr} {c base2 m : Nat} {v v2 : Value} {ys : List Value} (h : OM w0 L p c O v w) (hb : w0.heap.size ≤ base2) (hv : w.ownsRow base2 62 5 v2 m ys) (h3 : ∀ g, v.ownBlock = some g → g < base2) (k : w.grownBy w1 v2.ownBlock) : OM w0 L p c O v w1 :=
  ⟨h.l.grown k (fun b hlt e => by have := (hv.lt b e.symm).1; omega), own_apartF h.own hv h3 k, old_grow h.gr hv hb k⟩
set_option maxRecDepth 100000 in
theorem OM.finish {w0 w w1 : World} {L O O' O2 : List Lk} {p : Option Addr} {c base2 m : Nat} {v v2 v3 : Value} {ys : List Value} (h : OM w0 L p c O v w) (hb : w0.heap.size ≤ base2) (hv : w.ownsRow base2 62 5 v2 m ys) (ho : w1.ownsRow base2 62 5 v3 O2.length (O2.flatMap lkC)) (k : w.grownBy w1 v2.ownBlock) (e : O' = O2) : OM w0 L p c O' v3 w1 := by
  subst e
  exact ⟨h.l.grown k (fun b hlt e => by have := (hv.lt b e.symm).1; omega), ho.mono hb, old_grow h.gr hv hb k⟩
/-- The elements up to j come before y. -/
def Bef (O : List Lk) (y : Lk) (j : Nat) : Prop := ∀ i x, i < j → O[i]? = some x → ltL x y = true
set_option maxRecDepth 100000 in
theorem Bef.succ {O : List Lk} {y x : Lk} {j : Nat} (h : Bef O y j) (hx : O[j]? = some x) (hl : ltL x y = true) : Bef O y (j + 1) := by
  intro i z hi hz
  by_cases hij : i < j
  · exact h i z hij hz
  · obtain rfl : i = j := by omega
    rw [hx] at hz
    obtain rfl := Option.some.inj hz
    exact hl
set_option maxRecDepth 100000 in
set_option maxHeartbeats 6400000 in
theorem ord_any (L : List Lk) (p : Option Addr) (c : Nat) (q : Nat → Prop) (w : World) (hL : RdL5 w q (.slice p L.length c) L) (hm : L.length ≤ 1000) :
    Calls Tryd.prog 23 #[.slice p L.length c] w fun e w' => ∃ (v : Value), e = .returned v ∧ w'.ownsRow w.heap.size 62 5 v (ordL L).length ((ordL L).flatMap lkC) ∧ w.grownBy w' none := by
  obtain ⟨il, hil, hl0, hl1, hl2⟩ := info_parts info_lk
  have M0 : Hid (OM w L p c (ordL (L.take 0)) (.slice none 0 0) w) := Lib.hid ⟨hL.old, World.ownsRow_nil _ _ _ _, grown_refl _ _⟩
  clear hL
  go_enter Tryd.func23, Tryd.ntmps23
  go_wp2_with fail
  go_loopw [3, 4] (fun v a wr => ∃ (k : Nat), k ≤ L.length ∧ a = .int .i64 (k : Int) ∧ Hid (OM w L p c (ordL (L.take k)) v wr)) (fun _ a _ => L.length - (RowKit.intOf a).toNat)
  case atStart => exact ⟨0, Nat.zero_le _, rfl, M0⟩
  case round =>
    obtain ⟨k, hk, rfl, M⟩ := hrel
    clear M0
    by_cases hlt : k < L.length
    · obtain ⟨-, b, off, rfl, hq, -⟩ := rdl_cells (L := L) M.out.l (by omega)
      obtain ⟨y, hy⟩ : ∃ y, L[k]? = some y := ⟨_, List.getElem?_eq_getElem hlt⟩
      have HS := Lib.hid (ordL_take L k y hy)
      have HO : Hid ((ordL (L.take k)).length = k) := Lib.hid (by rw [ordL_len, List.length_take]; omega)
      have hO1 : (ordL (L.take k)).length ≤ 1000 := by rw [HO.out]; omega
      obtain ⟨O, hOd⟩ : ∃ O, O = ordL (L.take k) := ⟨_, rfl⟩
      rw [← hOd] at M HS HO hO1
      clear hOd
      obtain ⟨p3, c3, rfl, h31, h32⟩ := own_shape M.out.own
      have HY := Lib.hid hy
      clear hy
      go_upto_block 2 with fail
      go_cut [5] from 13 to 56 (fun a wi => ∃ j : Nat, j ≤ O.length ∧ a = .int .i64 (j : Int) ∧ Hid (insL O y = O.take j ++ y :: O.drop j ∧ OM w L (some ⟨b, off, none⟩) c O (.slice p3 O.length c3) wi))
      case first =>
        go_wp2_with fail
        go_loopw [5] (fun a wi => ∃ (j : Nat), j ≤ O.length ∧ a = .int .i64 (j : Int) ∧ Hid (Bef O y j ∧ OM w L (some ⟨b, off, none⟩) c O (.slice p3 O.length c3) wi)) (fun a _ => O.length - (RowKit.intOf a).toNat)
        case atStart => exact ⟨0, Nat.zero_le _, rfl, Lib.hid ⟨fun i x hi => by omega, M.out⟩⟩
        case round =>
          obtain ⟨j, hj, rfl, MI⟩ := hrel
          clear M
          by_cases hlt2 : j < O.length
          · obtain ⟨b3, off3, rfl⟩ : ∃ b3 off3, p3 = some ⟨b3, off3, none⟩ := by
              obtain ⟨-, b3, off3, e, -, -⟩ := rdl_cells (L := O) (rdf_of_own MI.out.2.own) (by omega)
              exact ⟨b3, off3, e⟩
            obtain ⟨x, hx⟩ : ∃ x, O[j]? = some x := ⟨_, List.getElem?_eq_getElem hlt2⟩
            obtain ⟨⟨d0, d1⟩, a0, a1⟩ := MI.out.2.cells HY.out hx
            have HX := Lib.hid hx
            clear hx
            have h1j : (0 : Int) ≤ (j : Int) := by omega
            have h2j : (j : Int) < (O.length : Int) := by omega
            have h1k : (0 : Int) ≤ (k : Int) := by omega
            have h2k : (k : Int) < (L.length : Int) := by omega
            by_cases h1 : x.a < y.a
            · have HN : ∀ n, Hid (Bef O y (j + 1) ∧ OM w L (some ⟨b, off, none⟩) c O (.slice (some ⟨b3, off3, none⟩) O.length c3) (wr.drewN n)) := fun n => Lib.hid ⟨MI.out.1.succ HX.out (decide_eq_true (.inl h1)), MI.out.2.keep (grown_drewN _ n _)⟩
              go_wp2_with fail
              go_quiet (fail)
              go_wp2_with fail
              exact ⟨⟨j + 1, by omega, congrArg _ (by omega), HN _⟩, by simp only [RowKit.intOf]; omega⟩
            · have h1' : decide (x.a < y.a) = false := decide_eq_false h1
              by_cases h2 : x.a = y.a
              · by_cases h3 : x.b < y.b
                · have HN : ∀ n, Hid (Bef O y (j + 1) ∧ OM w L (some ⟨b, off, none⟩) c O (.slice (some ⟨b3, off3, none⟩) O.length c3) (wr.drewN n)) := fun n => Lib.hid ⟨MI.out.1.succ HX.out (decide_eq_true (.inr ⟨h2, h3⟩)), MI.out.2.keep (grown_drewN _ n _)⟩
                  go_wp2_with fail
                  go_quiet (fail)
                  go_wp2_with fail
                  exact ⟨⟨j + 1, by omega, congrArg _ (by omega), HN _⟩, by simp only [RowKit.intOf]; omega⟩
                · have h3' : decide (x.b < y.b) = false := decide_eq_false h3
                  have HN : ∀ n, Hid (insL O y = O.take j ++ y :: O.drop j ∧ OM w L (some ⟨b, off, none⟩) c O (.slice (some ⟨b3, off3, none⟩) O.length c3) (wr.drewN n)) := fun n => Lib.hid ⟨insL_at y O j hj MI.out.1 (fun z hz => by rw [HX.out] at hz; obtain rfl := Option.some.inj hz; exact decide_eq_false (by omega)), MI.out.2.keep (grown_drewN _ n _)⟩
                  go_wp2_with fail
                  go_quiet (fail)
                  go_wp2_with fail
                  go_meet
                  exact ⟨j, hj, rfl, HN _⟩
              · have h2' : (x.a == y.a) = false := by simpa using h2
                have HN : ∀ n, Hid (insL O y = O.take j ++ y :: O.drop j ∧ OM w L (some ⟨b, off, none⟩) c O (.slice (some ⟨b3, off3, none⟩) O.length c3) (wr.drewN n)) := fun n => Lib.hid ⟨insL_at y O j hj MI.out.1 (fun z hz => by rw [HX.out] at hz; obtain rfl := Option.some.inj hz; exact decide_eq_false (by omega)), MI.out.2.keep (grown_drewN _ n _)⟩
                go_wp2_with fail
                go_quiet (fail)
                go_wp2_with fail
                go_meet
                exact ⟨j, hj, rfl, HN _⟩
          · obtain rfl : j = O.length := by omega
            have h1' : decide ((O.length : Int) < (O.length : Int)) = false := decide_eq_false (by omega)
            have HN : ∀ n, Hid (insL O y = O.take O.length ++ y :: O.drop O.length ∧ OM w L (some ⟨b, off, none⟩) c O (.slice p3 O.length c3) (wr.drewN n)) := fun n => Lib.hid ⟨insL_at y O O.length hj MI.out.1 (fun z hz => by rw [List.getElem?_eq_none (Nat.le_refl _)] at hz; cases hz), MI.out.2.keep (grown_drewN _ n _)⟩
            go_wp2_with fail
            go_quiet (fail)
            go_wp2_with fail
            go_meet
            exact ⟨O.length, hj, rfl, HN _⟩
      case rest =>
        obtain ⟨j, hj, rfl, HK⟩ := hcut
        clear M
        have HW : Hid (w.heap.size ≤ wc.heap.size) := Lib.hid HK.out.2.gr.size
        obtain ⟨T1, hT1⟩ : ∃ T1, O.take j = T1 := ⟨_, rfl⟩
        obtain ⟨T2, hT2⟩ : ∃ T2, O.drop j = T2 := ⟨_, rfl⟩
        have HI : Hid (insL O y = T1 ++ y :: T2) := Lib.hid (by rw [← hT1, ← hT2]; exact HK.out.1)
        have HJ : Hid (j = T1.length) := Lib.hid (by rw [← hT1, List.length_take]; omega)
        have HJ2 : Hid (O.length - j = T2.length) := Lib.hid (by rw [← hT2, List.length_drop])
        have HT := Lib.hid (And.intro hT1 hT2)
        clear hT1 hT2
        have HB3 : Hid (∀ g, (Value.slice p3 O.length c3).ownBlock = some g → g < wc.heap.size) := Lib.hid (fun g hg => (HK.out.2.own.lt g hg).2)
        rcases own_formF HK.out.2.own with ⟨e, e0⟩ | ⟨g3, cap3, e, hn3, hm3⟩
        · injection e with e1 e2 e3
          subst e1
          subst e3
          obtain rfl := List.eq_nil_of_length_eq_zero e0
          obtain rfl : j = 0 := by simpa using hj
          have HR1 : Hid (RdL5 wc (fun _ => True) (.slice none 0 0) T1) := Lib.hid (by obtain rfl := HT.out.1; exact rdf_nil _ _ _ _)
          go_wp2_with (at_builtin; refine hold_on ?_)
          refine Lib.hid ?_
          refine (wpList_append_f lkC 5 40 (by decide) (fun _ => rfl) lk_one 62 33 il _ Tryd.underlying33 hil hl0 hl1 hl2 rfl (by decide) rfl _ _ rfl wc.heap.size (.slice none 0 0) [] 0 rfl rfl (World.ownsRow_nil _ _ _ _) _ _ _ T1 rfl HJ.out (by simp) _ HR1.out (by omega) (by rw [← HJ.out]; omega) (Nat.le_refl _) ?_)
          intro v1 w4 hown1 hg1
          have M4 := Lib.hid (HK.out.2.keep hg1)
          have HO1 : Hid (w4.ownsRow wc.heap.size 62 5 v1 T1.length (T1.flatMap lkC)) := Lib.hid hown1
          clear hown1
          obtain ⟨p1, c1, rfl, -, -⟩ := own_shape HO1.out
          have HZ4 := Lib.hid hg1.size
          obtain ⟨d0, d1, d2, d3, d4⟩ := M4.out.link HY.out
          clear hg1 HR1
          go_wp2_with (at_builtin; refine hold_on ?_)
          refine Lib.hid ?_
          refine (wpList_append_f lkC 5 40 (by decide) (fun _ => rfl) lk_one 62 33 il _ Tryd.underlying33 hil hl0 hl1 hl2 rfl (by decide) rfl _ _ rfl wc.heap.size _ T1 _ rfl rfl (HO1.out.alloc _) _ _ _ [y] rfl rfl (by simp) (fun _ => True) (rdf_one _ trivial (cells5 w4 _ _ _ _ _ _) 1) (by omega) (by rw [← HJ.out]; simp <;> omega) (by have := HZ4.out; simp <;> omega) ?_)
          intro v2 w5 hown2 hg2
          have M5 := Lib.hid ((M4.out.keep (World.grownBy_alloc w4 _ none)).apart HW.out (HO1.out.alloc _) HB3.out hg2)
          obtain ⟨T3, hT3⟩ : ∃ T3, T3 = T1 ++ [y] := ⟨_, rfl⟩
          rw [← hT3] at hown2
          have HO2 := Lib.hid hown2
          have HT3 := Lib.hid hT3
          clear hown2 hT3
          obtain ⟨p2, c2, rfl, -, -⟩ := own_shape HO2.out
          have HZ5 : Hid (wc.heap.size ≤ w5.heap.size) := Lib.hid (Nat.le_trans HZ4.out (Nat.le_trans (by simp) hg2.size))
          clear hg2 d0 d1 d2 d3 d4 M4 HZ4
          have HR3 := Lib.hid ((show RdL5 w5 (fun _ => True) (.slice none 0 0) T2 from by obtain rfl := HT.out.2; exact rdf_nil _ _ _ _))
          go_wp2_with (at_builtin; refine hold_on ?_)
          refine Lib.hid ?_
          refine (wpList_append_f lkC 5 40 (by decide) (fun _ => rfl) lk_one 62 33 il _ Tryd.underlying33 hil hl0 hl1 hl2 rfl (by decide) rfl _ _ rfl wc.heap.size _ T3 _ rfl rfl HO2.out _ _ _ T2 rfl (by have := HJ2.out; omega) (by simp) _ HR3.out (by omega) (by rw [← HJ2.out, HT3.out, List.length_append, ← HJ.out]; simp <;> omega) HZ5.out ?_)
          intro v3 w6 hown3 hg3
          have M6 : Hid (OM w L (some ⟨b, off, none⟩) c (ordL (L.take (k + 1))) v3 w6) := Lib.hid (M5.out.finish HW.out HO2.out hown3 hg3 (by rw [HS.out, HI.out, HT3.out]; simp))
          clear hown3 hg3 M5 HO2 HO1 HR3
          go_wp2_with fail
          exact ⟨⟨k + 1, by omega, congrArg _ (by omega), M6⟩, by simp only [RowKit.intOf]; omega⟩
        · injection e with e1 e2 e3
          subst e1
          subst e3
          have HR1 : Hid (RdL5 wc (· < wc.heap.size) (.slice (some ⟨g3, 0, none⟩) j c3) T1) := Lib.hid (by rw [← HT.out.1]; exact (RdF.part (f := lkC) (k := 5) (fun _ => rfl) (rdf_of_own2 HK.out.2.own) j hj c3).mono (fun b hb => hb.2))
          by_cases hcj : c3 = j
          · obtain rfl : j = O.length := by omega
            subst hcj
            go_wp2_with (at_builtin; refine hold_on ?_)
            refine Lib.hid ?_
            refine (wpList_append_f lkC 5 40 (by decide) (fun _ => rfl) lk_one 62 33 il _ Tryd.underlying33 hil hl0 hl1 hl2 rfl (by decide) rfl _ _ rfl wc.heap.size (.slice none 0 0) [] 0 rfl rfl (World.ownsRow_nil _ _ _ _) _ _ _ T1 rfl HJ.out (by simp) _ HR1.out (by omega) (by rw [← HJ.out]; omega) (Nat.le_refl _) ?_)
            intro v1 w4 hown1 hg1
            have M4 := Lib.hid (HK.out.2.keep hg1)
            have HO1 : Hid (w4.ownsRow wc.heap.size 62 5 v1 T1.length (T1.flatMap lkC)) := Lib.hid hown1
            clear hown1
            obtain ⟨p1, c1, rfl, -, -⟩ := own_shape HO1.out
            have HZ4 := Lib.hid hg1.size
            obtain ⟨d0, d1, d2, d3, d4⟩ := M4.out.link HY.out
            clear hg1 HR1
            go_wp2_with (at_builtin; refine hold_on ?_)
            refine Lib.hid ?_
            refine (wpList_append_f lkC 5 40 (by decide) (fun _ => rfl) lk_one 62 33 il _ Tryd.underlying33 hil hl0 hl1 hl2 rfl (by decide) rfl _ _ rfl wc.heap.size _ T1 _ rfl rfl (HO1.out.alloc _) _ _ _ [y] rfl rfl (by simp) (fun _ => True) (rdf_one _ trivial (cells5 w4 _ _ _ _ _ _) 1) (by omega) (by rw [← HJ.out]; simp <;> omega) (by have := HZ4.out; simp <;> omega) ?_)
            intro v2 w5 hown2 hg2
            have M5 := Lib.hid ((M4.out.keep (World.grownBy_alloc w4 _ none)).apart HW.out (HO1.out.alloc _) HB3.out hg2)
            obtain ⟨T3, hT3⟩ : ∃ T3, T3 = T1 ++ [y] := ⟨_, rfl⟩
            rw [← hT3] at hown2
            have HO2 := Lib.hid hown2
            have HT3 := Lib.hid hT3
            clear hown2 hT3
            obtain ⟨p2, c2, rfl, -, -⟩ := own_shape HO2.out
            have HZ5 : Hid (wc.heap.size ≤ w5.heap.size) := Lib.hid (Nat.le_trans HZ4.out (Nat.le_trans (by simp) hg2.size))
            clear hg2 d0 d1 d2 d3 d4 M4 HZ4
            have HR3 := Lib.hid ((show RdL5 w5 (fun _ => True) (.slice (some ⟨g3, 0, none⟩) 0 0) T2 from by rw [← HT.out.2, List.drop_length]; exact rdf_nil _ _ _ _))
            go_wp2_with (at_builtin; refine hold_on ?_)
            refine Lib.hid ?_
            refine (wpList_append_f lkC 5 40 (by decide) (fun _ => rfl) lk_one 62 33 il _ Tryd.underlying33 hil hl0 hl1 hl2 rfl (by decide) rfl _ _ rfl wc.heap.size _ T3 _ rfl rfl HO2.out _ _ _ T2 rfl (by have := HJ2.out; omega) (by simp) _ HR3.out (by omega) (by rw [← HJ2.out, HT3.out, List.length_append, ← HJ.out]; simp <;> omega) HZ5.out ?_)
            intro v3 w6 hown3 hg3
            have M6 : Hid (OM w L (some ⟨b, off, none⟩) c (ordL (L.take (k + 1))) v3 w6) := Lib.hid (M5.out.finish HW.out HO2.out hown3 hg3 (by rw [HS.out, HI.out, HT3.out]; simp))
            clear hown3 hg3 M5 HO2 HO1 HR3
            go_wp2_with fail
            exact ⟨⟨k + 1, by omega, congrArg _ (by omega), M6⟩, by simp only [RowKit.intOf]; omega⟩
          · have n0 : ¬ c3 - j = 0 := by omega
            go_wp2_with (at_builtin; refine hold_on ?_)
            refine Lib.hid ?_
            refine (wpList_append_f lkC 5 40 (by decide) (fun _ => rfl) lk_one 62 33 il _ Tryd.underlying33 hil hl0 hl1 hl2 rfl (by decide) rfl _ _ rfl wc.heap.size (.slice none 0 0) [] 0 rfl rfl (World.ownsRow_nil _ _ _ _) _ _ _ T1 rfl HJ.out (by simp) _ HR1.out (by omega) (by rw [← HJ.out]; omega) (Nat.le_refl _) ?_)
            intro v1 w4 hown1 hg1
            have M4 := Lib.hid (HK.out.2.keep hg1)
            have HO1 : Hid (w4.ownsRow wc.heap.size 62 5 v1 T1.length (T1.flatMap lkC)) := Lib.hid hown1
            clear hown1
            obtain ⟨p1, c1, rfl, -, -⟩ := own_shape HO1.out
            have HZ4 := Lib.hid hg1.size
            obtain ⟨d0, d1, d2, d3, d4⟩ := M4.out.link HY.out
            clear hg1 HR1
            go_wp2_with (at_builtin; refine hold_on ?_)
            refine Lib.hid ?_
            refine (wpList_append_f lkC 5 40 (by decide) (fun _ => rfl) lk_one 62 33 il _ Tryd.underlying33 hil hl0 hl1 hl2 rfl (by decide) rfl _ _ rfl wc.heap.size _ T1 _ rfl rfl (HO1.out.alloc _) _ _ _ [y] rfl rfl (by simp) (fun _ => True) (rdf_one _ trivial (cells5 w4 _ _ _ _ _ _) 1) (by omega) (by rw [← HJ.out]; simp <;> omega) (by have := HZ4.out; simp <;> omega) ?_)
            intro v2 w5 hown2 hg2
            have M5 := Lib.hid ((M4.out.keep (World.grownBy_alloc w4 _ none)).apart HW.out (HO1.out.alloc _) HB3.out hg2)
            obtain ⟨T3, hT3⟩ : ∃ T3, T3 = T1 ++ [y] := ⟨_, rfl⟩
            rw [← hT3] at hown2
            have HO2 := Lib.hid hown2
            have HT3 := Lib.hid hT3
            clear hown2 hT3
            obtain ⟨p2, c2, rfl, -, -⟩ := own_shape HO2.out
            have HZ5 : Hid (wc.heap.size ≤ w5.heap.size) := Lib.hid (Nat.le_trans HZ4.out (Nat.le_trans (by simp) hg2.size))
            clear hg2 d0 d1 d2 d3 d4 M4 HZ4
            have HR3 := Lib.hid ((show RdL5 w5 _ (.slice (some ⟨g3, j * 5, none⟩) (O.length - j) (c3 - j)) T2 from by rw [← HT.out.2, ← Nat.zero_add (j * 5)]; exact RdF.rest (f := lkC) (k := 5) (fun _ => rfl) (rdf_of_own2 M5.out.own) j (c3 - j)))
            go_wp2_with (at_builtin; refine hold_on ?_)
            refine Lib.hid ?_
            refine (wpList_append_f lkC 5 40 (by decide) (fun _ => rfl) lk_one 62 33 il _ Tryd.underlying33 hil hl0 hl1 hl2 rfl (by decide) rfl _ _ rfl wc.heap.size _ T3 _ rfl rfl HO2.out _ _ _ T2 rfl (by have := HJ2.out; omega) (by simp) _ HR3.out (by omega) (by rw [← HJ2.out, HT3.out, List.length_append, ← HJ.out]; simp <;> omega) HZ5.out ?_)
            intro v3 w6 hown3 hg3
            have M6 : Hid (OM w L (some ⟨b, off, none⟩) c (ordL (L.take (k + 1))) v3 w6) := Lib.hid (M5.out.finish HW.out HO2.out hown3 hg3 (by rw [HS.out, HI.out, HT3.out]; simp))
            clear hown3 hg3 M5 HO2 HO1 HR3
            go_wp2_with fail
            exact ⟨⟨k + 1, by omega, congrArg _ (by omega), M6⟩, by simp only [RowKit.intOf]; omega⟩
    · obtain rfl : k = L.length := by omega
      rw [List.take_length] at M
      go_wp2_with fail
      go_ret
      exact ⟨_, rfl, M.out.own, M.out.gr⟩
end Go.Proofs.YtlgmankojgjfjaaDoor
