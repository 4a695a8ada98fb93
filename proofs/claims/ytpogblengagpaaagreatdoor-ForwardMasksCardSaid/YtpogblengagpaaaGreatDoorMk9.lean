/- Parts of the proof, packed: IoOrder, IdTpM, TaVal, IoZeros, IoTake, IoAppend, IoAppendR, IoSlice, IoJoin, IoAlign, IoCheck, Spread, Full, PkBits, PkFields, Funs, Ref, Draw. -/
import Derived.Test.YtpogblengagpaaaGreatDoorMk1
import Derived.Test.YtpogblengagpaaaGreatDoorMk5
import Derived.Test.YtpogblengagpaaaGreatDoorMk4
import Derived.Test.YtpogblengagpaaaGreatDoorMk7
import Derived.Test.YtpogblengagpaaaGreatDoorMk8
import Derived.Deep.OwnRows
import Derived.WalkMore
import Derived.Deep.LoopGhost
import Derived.OwnWalk
/- The tape's orders. -/
namespace Go.Proofs.YtpogblengagpaaaGreatDoor
set_option maxRecDepth 100000
open Go.RowKit Bs
def Ord (l : List Nat) (i : Nat) : Prop := l.length = i ∧ l.Nodup ∧ ∀ x ∈ l, x < i
theorem ord_next {l : List Nat} {i k : Nat} (h : Ord l i) : Ord (l.take k ++ [i] ++ l.drop k) (i + 1) := by
 obtain ⟨h1, h2, h3⟩ := h
 refine ⟨?_, ?_, ?_⟩
 ·simp; omega
 ·have e : (l.take k ++ [i] ++ l.drop k).Perm (i :: l) := by
   rw [List.append_assoc]
   have e2 : (l.take k ++ ([i] ++ l.drop k)).Perm (([i] ++ l.drop k) ++ l.take k) := List.perm_append_comm
   refine e2.trans ?_
   rw [List.append_assoc]
   show (i :: (l.drop k ++ l.take k)).Perm (i :: l)
   refine List.Perm.cons i ?_
   refine List.perm_append_comm.trans ?_
   rw [List.take_append_drop]
  rw [e.nodup_iff, List.nodup_cons]
  exact ⟨fun hm => by have := h3 i hm; omega, h2⟩
 ·intro x hx
  rw [List.mem_append, List.mem_append] at hx
  rcases hx with (hx | hx) | hx
  ·have := h3 x (List.mem_of_mem_take hx); omega
  ·have : x = i := by simpa using hx
   omega
  ·have := h3 x (List.mem_of_mem_drop hx); omega
def OrdRel (a : Nat) (W : World) (i : Nat) (v : Value) (w' : World) : Prop := ∃ l, Ord l i ∧ w'.ownsRow W.heap.size 3 1 v i (l.map zv) ∧ (i = 0 → v = .slice none 0 0) ∧ St a W w'
def OrdPost (a : Nat) (n : Nat) (W : World) (e : Ending) (w' : World) : Prop := ∃ v, e = .returned v ∧ OrdRel a W n v w'
set_option maxHeartbeats 3200000 in
theorem order_any (a n : Nat) (hn : n ≤ 1000) (w : World) (hT : Tp w a) :
  Calls Tryz.prog 58 #[.pointer (some ⟨a, 0, none⟩), .int .i64 (n : Int)] w fun e w' => OrdPost a n w e w' := by
 have ha := hT.lt
 have hS0 : Hid (OrdRel a w 0 (.slice none 0 0) w) := Lib.hid ⟨[], ⟨rfl, List.nodup_nil, fun x hx => by cases hx⟩, World.ownsRow_nil _ _ _ _, fun _ => rfl, grown_refl _ _, hT⟩
 clear hT
 go_enter Tryz.func58, Tryz.ntmps58
 go_wp2_with fail
 go_loopw [5, 6] (fun v i wr => ∃ j : Nat, j ≤ n ∧ i = .int .i64 (j : Int) ∧ OrdRel a w j v wr) (fun _ i _ => (n - (RowKit.intOf i).toNat))
 case atStart => exact ⟨0, Nat.zero_le _, rfl, hS0.out⟩
 case round =>
  obtain ⟨j, hj, rfl, hR⟩ := hrel
  have HR := Lib.hid hR
  clear hR hS0
  by_cases hlt : j < n
  ·obtain ⟨l, hO, hown, hv0, hSt⟩ := HR.out
   have HO := Lib.hid hO
   have hT := hSt.2
   have HOWN := Lib.hid hown
   have HST := Lib.hid hSt
   clear hO hown hSt HR
   go_wp2_with fail
   refine (next_any a ((j : Int) + 1) (by unfold I64; omega) _ hT).mono ?_
   rintro e w3 ⟨r, rfl, hr, hs⟩
   obtain ⟨k, rfl⟩ := Int.eq_ofNat_of_zero_le hr.1
   have hkj : k ≤ j := by have := hr.2.1 (by omega); omega
   have HS3 := Lib.hid (HST.out.trans hs)
   have HOWN3 := Lib.hid (own_kept ha HOWN.out hs.1)
   clear hr hs hT HST HOWN
   by_cases hj0 : j = 0
   ·subst hj0
    obtain rfl : k = 0 := by omega
    obtain rfl := hv0 rfl
    have hl : l = [] := List.eq_nil_of_length_eq_zero HO.out.1
    clear hv0
    obtain ⟨i0, hi, hz0, hz1, hz2⟩ := info_parts info_int
    have hsz3 := Lib.hid HS3.out.1.size
    go_wp2_with (first
     | (at_builtin; refine wpList_append_own_none rfl _ _ 22 rfl w3.heap.size 3 i0 1 Tryz.underlying22 hi (.slice none 0 0) 0 [] rfl (World.ownsRow_nil _ _ _ _) rfl ?_)
     | (at_builtin; refine wpList_append_ints rfl _ _ rfl w3.heap.size (.slice none 0 0) 0 [] rfl (World.ownsRow_nil _ _ _ _) (some ⟨w3.heap.size, 0, none⟩) 1 1 [0] rfl rfl (by intro h; cases h) (by intro ad h; obtain rfl := Option.some.inj h; exact cell_one _ _ _) (by simp) (by simp) ?_; intro v2 w5 hown2 hg2; have HOWN2 := Lib.hid hown2; have HG2 := Lib.hid (grown_trans (World.grownBy_alloc w3 _ none) hg2); clear hown2 hg2)
     | (at_builtin; refine wpList_append_own_none rfl _ _ 22 rfl w3.heap.size 3 i0 1 Tryz.underlying22 hi v2 1 [zv 0] rfl HOWN2.out rfl ?_))
    go_roundw
    case rel =>
     refine ⟨1, by omega, rfl, [0], ⟨rfl, by simp, by simp⟩, ?_, by omega, ?_⟩
     ·exact HOWN2.out.mono hsz3.out
     ·exact ⟨grown_trans HS3.out.1 (grown_none HG2.out _), HS3.out.2.keep HG2.out⟩
    case measure => simp [RowKit.intOf]; omega
   ·have hj1 : 0 < j := by omega
    obtain ⟨g, cap, rfl, hgb⟩ := own_form HOWN3.out hj1
    obtain ⟨hcap1, hcap2⟩ := own_cap HOWN3.out
    have hcap3 : cap ≤ 9223372036854775807 := by unfold maxLen at hcap2; omega
    have hgl := (HOWN3.out.lt g rfl).2
    have hll := HO.out.1
    have HLL := Lib.hid hll
    have hkc : k ≤ cap := by omega
    have hkl : (l.take k).length = k := by rw [List.length_take]; omega
    have hdl : (l.drop k).length = j - k := by rw [List.length_drop]; omega
    have HKL := Lib.hid hkl
    have HDL := Lib.hid hdl
    have hj9 : j ≤ 1000 := by omega
    have hsz3 := Lib.hid HS3.out.1.size
    have N1 : Hid (∀ ad, some (⟨g, 0, none⟩ : Addr) = some ad → ∀ i u, ((l.take k).map zv)[i]? = some u → w3.cell? (ad.add i) = some u) := by
     refine Lib.hid ?_
     intro ad h i u hu
     obtain rfl := Option.some.inj h
     refine HOWN3.out.cells rfl i u ?_
     rw [List.map_take, List.getElem?_take] at hu
     split at hu
     ·exact hu
     ·cases hu
    clear hll hkl hdl hv0 hcap2
    generalize hT1 : l.take k = t1 at *
    generalize hT2 : l.drop k = t2 at *
    have HT1 := Lib.hid hT1
    have HT2 := Lib.hid hT2
    clear hT1
    by_cases hkj : k < j
    ·have hkcap : k < cap := by omega
     have news : Hid (∀ (W : World) c, W.ownsRow w.heap.size 3 1 (.slice (some ⟨g, 0, none⟩) j c) j (l.map zv) → ∀ i u, (t2.map zv)[i]? = some u → W.cell? ⟨g, k + i, none⟩ = some u) := by
      refine Lib.hid ?_
      intro W c h i u hu
      rw [← hT2, List.map_drop, List.getElem?_drop] at hu
      have := h.cells rfl (k + i) u hu
      rw [add_plain, Nat.zero_add] at this
      exact this
     clear hT2
     go_wp2_with (first
      | (at_builtin; refine wpList_append_ints rfl _ _ rfl w3.heap.size (.slice none 0 0) 0 [] rfl (World.ownsRow_nil _ _ _ _) (some ⟨g, 0, none⟩) k cap t1 rfl HKL.out.symm (by intro h; cases h) N1.out (by rw [HKL.out]; omega) (Nat.le_refl _) ?_; intro v1 w4 hown1 hg1; rw [Nat.zero_add, List.nil_append, HKL.out] at hown1; have HOWN1 := Lib.hid hown1; have HO4 := Lib.hid (own_apart HOWN3.out (World.ownsRow_nil w3 w3.heap.size 3 1) hgl hg1); have HS4 := Lib.hid (HS3.out.own_grow (World.ownsRow_nil w3 w3.heap.size 3 1) hsz3.out ha hg1); have HZ4 := Lib.hid hg1.size; clear hown1 hg1)
      | (at_builtin; refine wpList_append_ints rfl _ _ rfl w3.heap.size v1 k t1 rfl (HOWN1.out.alloc _) (some ⟨w4.heap.size, 0, none⟩) 1 1 [j] rfl rfl (by intro h; cases h) (by intro ad h; obtain rfl := Option.some.inj h; exact cell_one _ _ _) (by simp; omega) (by have := HZ4.out; simp; omega) ?_; intro v2 w5 hown2 hg2; have HOWN2 : Hid (w5.ownsRow w3.heap.size 3 1 v2 (k + 1) ((t1 ++ [j]).map zv)) := Lib.hid hown2; have HO5 := Lib.hid (own_apart (HO4.out.alloc _) (HOWN1.out.alloc _) hgl hg2); have HS5 := Lib.hid ((HS4.out.none_ (World.grownBy_alloc w4 _ none)).own_grow (HOWN1.out.alloc _) hsz3.out ha hg2); have HZ5 : Hid (w3.heap.size ≤ w5.heap.size) := Lib.hid (Nat.le_trans HZ4.out (Nat.le_trans (by simp) hg2.size)); clear hown2 hg2)
      | (at_builtin; refine wpList_append_ints rfl _ _ rfl w3.heap.size v2 (k + 1) (t1 ++ [j]) rfl HOWN2.out _ _ _ t2 rfl (by have := HDL.out; omega) (by intro h; cases h) (by intro ad h; obtain rfl := Option.some.inj h; intro i u hu; rw [add_plain]; exact news.out w5 cap HO5.out i u hu) (by have := HDL.out; omega) HZ5.out ?_; intro v3 w6 hown3 hg3; have HOWN6 := Lib.hid hown3; have HS6 := Lib.hid (HS5.out.own_grow HOWN2.out hsz3.out ha hg3); clear hown3 hg3))
     go_roundw
     case rel =>
      refine ⟨j + 1, by omega, by go_num, l.take k ++ [j] ++ l.drop k, ord_next HO.out, ?_, by omega, HS6.out⟩
      have h6 := HOWN6.out.mono hsz3.out
      rw [← HT1.out, ← HT2.out, show k + 1 + (l.drop k).length = j + 1 by rw [List.length_drop, HLL.out]; omega] at h6
      exact h6
     case measure => simp [RowKit.intOf]; omega
    ·obtain rfl : k = j := by omega
     have ht2 : t2 = [] := by
      rw [← hT2]
      exact List.drop_of_length_le (Nat.le_of_eq HLL.out)
     clear hT2
     have HN2 : Hid (∀ (i : Nat) (u : Value), (t2.map zv)[i]? = some u → False) := Lib.hid (by intro i u hu; rw [ht2] at hu; simp at hu)
     clear ht2
     by_cases hcj : k = cap
     ·subst hcj
      go_wp2_with (first
       | (at_builtin; refine wpList_append_ints rfl _ _ rfl w3.heap.size (.slice none 0 0) 0 [] rfl (World.ownsRow_nil _ _ _ _) (some ⟨g, 0, none⟩) k k t1 rfl HKL.out.symm (by intro h; cases h) N1.out (by rw [HKL.out]; omega) (Nat.le_refl _) ?_; intro v1 w4 hown1 hg1; rw [Nat.zero_add, List.nil_append, HKL.out] at hown1; have HOWN1 := Lib.hid hown1; have HO4 := Lib.hid (own_apart HOWN3.out (World.ownsRow_nil w3 w3.heap.size 3 1) hgl hg1); have HS4 := Lib.hid (HS3.out.own_grow (World.ownsRow_nil w3 w3.heap.size 3 1) hsz3.out ha hg1); have HZ4 := Lib.hid hg1.size; clear hown1 hg1)
       | (at_builtin; refine wpList_append_ints rfl _ _ rfl w3.heap.size v1 k t1 rfl (HOWN1.out.alloc _) (some ⟨w4.heap.size, 0, none⟩) 1 1 [k] rfl rfl (by intro h; cases h) (by intro ad h; obtain rfl := Option.some.inj h; exact cell_one _ _ _) (by simp; omega) (by have := HZ4.out; simp; omega) ?_; intro v2 w5 hown2 hg2; have HOWN2 : Hid (w5.ownsRow w3.heap.size 3 1 v2 (k + 1) ((t1 ++ [k]).map zv)) := Lib.hid hown2; have HO5 := Lib.hid (own_apart (HO4.out.alloc _) (HOWN1.out.alloc _) hgl hg2); have HS5 := Lib.hid ((HS4.out.none_ (World.grownBy_alloc w4 _ none)).own_grow (HOWN1.out.alloc _) hsz3.out ha hg2); have HZ5 : Hid (w3.heap.size ≤ w5.heap.size) := Lib.hid (Nat.le_trans HZ4.out (Nat.le_trans (by simp) hg2.size)); clear hown2 hg2)
       | (at_builtin; refine wpList_append_ints rfl _ _ rfl w3.heap.size v2 (k + 1) (t1 ++ [k]) rfl HOWN2.out _ _ _ t2 rfl (by have := HDL.out; omega) (by intro h; cases h) (by intro ad h i u hu; exact (HN2.out i u hu).elim) (by have := HDL.out; omega) HZ5.out ?_; intro v3 w6 hown3 hg3; have HOWN6 := Lib.hid hown3; have HS6 := Lib.hid (HS5.out.own_grow HOWN2.out hsz3.out ha hg3); clear hown3 hg3))
      go_roundw
      case rel =>
       refine ⟨k + 1, by omega, by go_num, l.take k ++ [k] ++ l.drop k, ord_next HO.out, ?_, by omega, HS6.out⟩
       have h6 := HOWN6.out.mono hsz3.out
       rw [← HT1.out, ← HT2.out, show k + 1 + (l.drop k).length = k + 1 by rw [List.length_drop, HLL.out]; omega] at h6
       exact h6
      case measure => simp [RowKit.intOf]; omega
     ·have hkcap : k < cap := by omega
      go_wp2_with (first
       | (at_builtin; refine wpList_append_ints rfl _ _ rfl w3.heap.size (.slice none 0 0) 0 [] rfl (World.ownsRow_nil _ _ _ _) (some ⟨g, 0, none⟩) k cap t1 rfl HKL.out.symm (by intro h; cases h) N1.out (by rw [HKL.out]; omega) (Nat.le_refl _) ?_; intro v1 w4 hown1 hg1; rw [Nat.zero_add, List.nil_append, HKL.out] at hown1; have HOWN1 := Lib.hid hown1; have HO4 := Lib.hid (own_apart HOWN3.out (World.ownsRow_nil w3 w3.heap.size 3 1) hgl hg1); have HS4 := Lib.hid (HS3.out.own_grow (World.ownsRow_nil w3 w3.heap.size 3 1) hsz3.out ha hg1); have HZ4 := Lib.hid hg1.size; clear hown1 hg1)
       | (at_builtin; refine wpList_append_ints rfl _ _ rfl w3.heap.size v1 k t1 rfl (HOWN1.out.alloc _) (some ⟨w4.heap.size, 0, none⟩) 1 1 [k] rfl rfl (by intro h; cases h) (by intro ad h; obtain rfl := Option.some.inj h; exact cell_one _ _ _) (by simp; omega) (by have := HZ4.out; simp; omega) ?_; intro v2 w5 hown2 hg2; have HOWN2 : Hid (w5.ownsRow w3.heap.size 3 1 v2 (k + 1) ((t1 ++ [k]).map zv)) := Lib.hid hown2; have HO5 := Lib.hid (own_apart (HO4.out.alloc _) (HOWN1.out.alloc _) hgl hg2); have HS5 := Lib.hid ((HS4.out.none_ (World.grownBy_alloc w4 _ none)).own_grow (HOWN1.out.alloc _) hsz3.out ha hg2); have HZ5 : Hid (w3.heap.size ≤ w5.heap.size) := Lib.hid (Nat.le_trans HZ4.out (Nat.le_trans (by simp) hg2.size)); clear hown2 hg2)
       | (at_builtin; refine wpList_append_ints rfl _ _ rfl w3.heap.size v2 (k + 1) (t1 ++ [k]) rfl HOWN2.out _ _ _ t2 rfl (by have := HDL.out; omega) (by intro h; cases h) (by intro ad h i u hu; exact (HN2.out i u hu).elim) (by have := HDL.out; omega) HZ5.out ?_; intro v3 w6 hown3 hg3; have HOWN6 := Lib.hid hown3; have HS6 := Lib.hid (HS5.out.own_grow HOWN2.out hsz3.out ha hg3); clear hown3 hg3))
      go_roundw
      case rel =>
       refine ⟨k + 1, by omega, by go_num, l.take k ++ [k] ++ l.drop k, ord_next HO.out, ?_, by omega, HS6.out⟩
       have h6 := HOWN6.out.mono hsz3.out
       rw [← HT1.out, ← HT2.out, show k + 1 + (l.drop k).length = k + 1 by rw [List.length_drop, HLL.out]; omega] at h6
       exact h6
      case measure => simp [RowKit.intOf]; omega
  ·obtain rfl : j = n := by omega
   go_wp2_with fail
   go_ret
   exact ⟨_, rfl, HR.out⟩
end Go.Proofs.YtpogblengagpaaaGreatDoor

/- The tape's plans: the mathematics. -/
namespace Go.Proofs.YtpogblengagpaaaGreatDoor
set_option maxRecDepth 100000
open Go.RowKit Bs
def ridR (R : List Rt) (k : Nat) : Int := (R[k]?.map Rt.id).getD 0
theorem ridR_at {R : List Rt} {k : Nat} {r : Rt} (h : R[k]? = some r) : ridR R k = r.id := by unfold ridR; rw [h]; rfl
structure PlE (R : List Rt) (O : List Nat) (i : Nat) (id : Int) (E : List Ed) : Prop where
 sub : (E.map Ed.r).Sublist ((O.take i).map (ridR R))
 ids : ∀ e ∈ E, 1 ≤ e.i ∧ e.i ≤ id ∧ e.i ≤ 256
 asc : E.Pairwise (fun x y => x.i < y.i)
theorem PlE.nil (R : List Rt) (O : List Nat) : PlE R O 0 0 [] := ⟨List.nil_sublist _, fun e h => (by cases h), List.Pairwise.nil⟩
theorem take_map_succ {O : List Nat} {i k : Nat} (hk : O[i]? = some k) (f : Nat → Int) : (O.take (i + 1)).map f = (O.take i).map f ++ [f k] := by
 rw [List.take_add_one, hk, List.map_append]; rfl
theorem PlE.skip {R : List Rt} {O : List Nat} {i : Nat} {id : Int} {E : List Ed} (h : PlE R O i id E) : PlE R O (i + 1) id E := by
 refine ⟨h.sub.trans ?_, h.ids, h.asc⟩
 exact List.Sublist.map _ (List.take_sublist_take_left (by omega))
theorem PlE.more {R : List Rt} {O : List Nat} {i : Nat} {id id2 : Int} {E : List Ed} (h : PlE R O i id E) (h2 : id ≤ id2) : PlE R O i id2 E :=
 ⟨h.sub, fun e he => by have := h.ids e he; omega, h.asc⟩
theorem PlE.add {R : List Rt} {O : List Nat} {i k : Nat} {id id2 r : Int} {E : List Ed} (h : PlE R O i id E) (hk : O[i]? = some k) (hr : ridR R k = r) (h0 : 0 ≤ id) (h1 : id < id2) (h2 : id2 ≤ 256) : PlE R O (i + 1) id2 (E ++ [⟨r, id2⟩]) := by
 refine ⟨?_, fun e he => ?_, ?_⟩
 ·rw [List.map_append, take_map_succ hk, hr]
  exact List.Sublist.append h.sub (List.Sublist.refl _)
 ·rcases List.mem_append.1 he with he | he
  ·have := h.ids e he; omega
  ·obtain rfl : e = ⟨r, id2⟩ := by simpa using he
   exact ⟨by show 1 ≤ id2; omega, Int.le_refl _, h2⟩
 ·refine List.pairwise_append.2 ⟨h.asc, List.pairwise_singleton _ _, fun x hx y hy => ?_⟩
  obtain rfl : y = ⟨r, id2⟩ := by simpa using hy
  have := h.ids x hx
  show x.i < id2
  omega
theorem PlE.len {R : List Rt} {O : List Nat} {i : Nat} {id : Int} {E : List Ed} (h : PlE R O i id E) : E.length ≤ i := by
 have := h.sub.length_le
 rw [List.length_map, List.length_map, List.length_take] at this
 omega
theorem rep_noT {L : List Int} (h : ∀ k x, L[k]? = some x → x ∉ L.take k) : repI L = false := by
 unfold repI
 rw [List.any_eq_false]
 intro k hk
 have hk := List.mem_range.1 hk
 rw [List.getD_eq_getElem?_getD, List.getElem?_eq_getElem hk]
 simpa using h k _ (List.getElem?_eq_getElem hk)
theorem repI_nodup {L : List Int} (h : L.Nodup) : repI L = false := by
 refine rep_noT fun k x hx hm => ?_
 obtain ⟨hk, e⟩ := List.getElem?_eq_some_iff.1 hx
 obtain ⟨j, hj, hj2⟩ := List.mem_iff_getElem.1 hm
 rw [List.length_take] at hj
 rw [List.getElem_take] at hj2
 have := (List.nodup_iff_pairwise_ne.1 h)
 have h3 := List.pairwise_iff_getElem.1 this j k (by omega) hk (by omega)
 exact h3 (by rw [hj2, e])
theorem ascR_nodup : ∀ R : List Rt, ascB ltR R = true → R.Pairwise (fun x y => x.id < y.id)
 | [], _ => List.Pairwise.nil
 | [a], _ => List.pairwise_singleton _ _
 | a :: b :: t, h => by
  rw [ascB, Bool.and_eq_true] at h
  have ih := ascR_nodup (b :: t) h.2
  have hab : a.id < b.id := of_decide_eq_true h.1
  refine List.pairwise_cons.2 ⟨fun y hy => ?_, ih⟩
  rcases List.mem_cons.1 hy with rfl | hy
  ·exact hab
  ·have := (List.pairwise_cons.1 ih).1 y hy; omega
theorem chk0 {R : List Rt} {L : List Lk} (h : chk R L = 0) : R.length ≤ 24 ∧ R.any wrId = false ∧ ascB ltR R = true := by
 unfold chk at h
 split at h
 ·cases h
 ·rename_i h1
  split at h
  ·cases h
  ·rename_i h2
   split at h
   ·cases h
   ·rename_i h3
    exact ⟨by omega, by simpa using h2, by simpa using h3⟩
theorem PlE.valid {R : List Rt} {L : List Lk} {O : List Nat} {i : Nat} {id : Int} {E : List Ed} (h : PlE R O i id E) (hc : chk R L = 0) (hO : Ord O R.length) {s n : Int} (hs : inV s 0 7 = true) (hn : vl n = true) :
  vPl s n E = true ∧ E.length ≤ R.length ∧ ∀ e ∈ E, hasR R e.r = true := by
 obtain ⟨c1, c2, c3⟩ := chk0 hc
 have hmem : ∀ e ∈ E, ∃ r ∈ R, r.id = e.r := fun e he => by
  have h1 := h.sub.subset (List.mem_map.2 ⟨e, he, rfl⟩)
  obtain ⟨k, hk, hke⟩ := List.mem_map.1 h1
  have hk2 := hO.2.2 k (List.mem_of_mem_take hk)
  refine ⟨R[k], List.getElem_mem hk2, ?_⟩
  rw [← hke, ridR_at (List.getElem?_eq_getElem hk2)]
 have hnd : (E.map Ed.r).Nodup := by
  refine List.Nodup.sublist (h.sub.trans (List.Sublist.map _ (List.take_sublist i O))) ?_
  rw [List.Nodup, List.pairwise_map]
  refine List.Pairwise.imp_of_mem (fun {x y} hx hy hne => ?_) hO.2.1
  have hx := hO.2.2 x hx
  have hy := hO.2.2 y hy
  rw [ridR_at (List.getElem?_eq_getElem hx), ridR_at (List.getElem?_eq_getElem hy)]
  have hp := List.pairwise_iff_getElem.1 (ascR_nodup R c3)
  rcases Nat.lt_or_gt_of_ne hne with hlt | hlt
  ·have := hp x y hx hy hlt; omega
  ·have := hp y x hy hx hlt; omega
 have hlen : E.length ≤ R.length := by
  have h1 := (h.sub.trans (List.Sublist.map _ (List.take_sublist i O))).length_le
  rw [List.length_map, List.length_map, hO.1] at h1
  exact h1
 refine ⟨?_, hlen, fun e he => ?_⟩
 ·unfold vPl
  rw [hs, hn, repI_nodup hnd, pair_ascE E h.asc, decide_eq_true (show E.length ≤ 24 by omega)]
  have hw : E.any wrE = false := by
   rw [List.any_eq_false]
   intro e he
   obtain ⟨r, hr, hre⟩ := hmem e he
   have h1 := any_mem c2 hr
   have h2 := h.ids e he
   unfold wrId at h1
   rw [hre] at h1
   unfold wrE inV
   rw [decide_eq_true (show 1 ≤ e.i ∧ e.i ≤ 256 by omega)]
   have h3 : decide (1 ≤ e.r ∧ e.r ≤ 99) = true := by
    cases hh : decide (1 ≤ e.r ∧ e.r ≤ 99)
    ·rw [hh] at h1; cases h1
    ·rfl
   rw [h3]; simp
  rw [hw]; rfl
 ·obtain ⟨r, hr, hre⟩ := hmem e he
  exact List.any_eq_true.2 ⟨r, hr, decide_eq_true hre⟩
end Go.Proofs.YtpogblengagpaaaGreatDoor

/- tables: what build makes is valid. -/
namespace Go.Proofs.YtpogblengagpaaaGreatDoor
set_option maxRecDepth 100000
open Go.RowKit Bs
theorem asc_ofW {α : Type} {f : α → α → Bool} : ∀ l : List α, l.Pairwise (fun a b => f a b = true) → ascB f l = true
 | [], _ => rfl
 | [a], _ => rfl
 | a :: b :: t, h => by
  have h1 := List.pairwise_cons.1 h
  rw [ascB, Bool.and_eq_true]
  exact ⟨h1.1 b (by simp), asc_ofW (b :: t) h1.2⟩
theorem asc_pairT : ∀ E : List Ed, ascB ltE E = true → E.Pairwise (fun x y => x.i < y.i)
 | [], _ => List.Pairwise.nil
 | [a], _ => List.pairwise_singleton _ _
 | a :: b :: t, h => by
  rw [ascB, Bool.and_eq_true] at h
  have ih := asc_pairT (b :: t) h.2
  have hab : a.i < b.i := of_decide_eq_true h.1
  refine List.pairwise_cons.2 ⟨fun y hy => ?_, ih⟩
  rcases List.mem_cons.1 hy with rfl | hy
  ·exact hab
  ·have := (List.pairwise_cons.1 ih).1 y hy; omega
theorem ids_inT {R : List Rt} {L0 : List Lk} (hok : okT R L0 = true) {y : Int} (hy : y ∈ ids R) : 1 ≤ y ∧ y ≤ 99 := by
 obtain ⟨r, hr, rfl⟩ := List.mem_map.1 hy
 have := List.any_eq_false.1 (okT_all hok).id r hr
 unfold wrId at this
 simpa using this
theorem chk_idsT {R R0 : List Rt} {L : List Lk} (h : R.map (·.id) = R0.map (·.id)) : chk R L = chk R0 L := by
 have h1 : R.length = R0.length := by have := congrArg List.length h; simpa using this
 have h2 : ∀ R : List Rt, R.any wrId = (R.map (·.id)).any (fun x => !decide (1 ≤ x ∧ x ≤ 99)) := fun R => by rw [List.any_map]; rfl
 have h3 : ∀ R : List Rt, ascB ltR R = ascB (fun x y : Int => decide (x < y)) (R.map (·.id)) := by
  intro R
  induction R with
  | nil => rfl
  | cons a t ih =>
   cases t with
   | nil => rfl
   | cons b t => rw [List.map_cons, List.map_cons, ascB, ascB, ih]; rfl
 have h4 : ∀ x, hasR R x = hasR R0 x := fun x => by
  have e : ∀ R : List Rt, hasR R x = (R.map (·.id)).any (fun y => decide (y = x)) := fun R => by unfold hasR; rw [List.any_map]; rfl
  rw [e, e, h]
 have h5 : unk R = unk R0 := by funext l; unfold unk; rw [h4, h4]
 unfold chk
 rw [h1, h2, h2, h3, h3, h, h5]
end Go.Proofs.YtpogblengagpaaaGreatDoor

/- empty -/
namespace Go.Proofs.YtpogblengagpaaaGreatDoor
set_option maxRecDepth 100000
end Go.Proofs.YtpogblengagpaaaGreatDoor

/- Take, of the program and of the reference. -/
namespace Go.Proofs.YtpogblengagpaaaGreatDoor
set_option maxRecDepth 100000
open Go.RowKit Bs
theorem one_box (w : World) (A : Array Value) (t : TypeId) : (w.alloc (.cells A t)).heap[w.heap.size]? = some (.cells A t (0, 0)) ∧ w.grownBy (w.alloc (.cells A t)) none := ⟨heap_alloc_new w _, World.grownBy_alloc w _ _⟩
end Go.Proofs.YtpogblengagpaaaGreatDoor

/- empty -/
namespace Go.Proofs.YtpogblengagpaaaGreatDoor
set_option maxRecDepth 100000
end Go.Proofs.YtpogblengagpaaaGreatDoor

/- empty -/
namespace Go.Proofs.YtpogblengagpaaaGreatDoor
set_option maxRecDepth 100000
end Go.Proofs.YtpogblengagpaaaGreatDoor

/- empty -/
namespace Go.Proofs.YtpogblengagpaaaGreatDoor
set_option maxRecDepth 100000
end Go.Proofs.YtpogblengagpaaaGreatDoor

/- empty -/
namespace Go.Proofs.YtpogblengagpaaaGreatDoor
set_option maxRecDepth 100000
end Go.Proofs.YtpogblengagpaaaGreatDoor

/- empty -/
namespace Go.Proofs.YtpogblengagpaaaGreatDoor
set_option maxRecDepth 100000
end Go.Proofs.YtpogblengagpaaaGreatDoor

/- The program's check number. -/
namespace Go.Proofs.YtpogblengagpaaaGreatDoor
set_option maxRecDepth 100000
open Go.RowKit Bs
namespace Bs
def stp (r : Nat) (b : Bool) : Nat := if (r.testBit 15 != b) = true then (2 * r % 65536) ^^^ 4129 else 2 * r % 65536
def crcB (f : Nat → Bool) : Nat → Nat
 | 0 => 65535
 | k + 1 => stp (crcB f k) (f k)
end Bs
end Go.Proofs.YtpogblengagpaaaGreatDoor

/- Spread, Gather, Nth, Rank as plain functions of numbers. No program is named here. -/
namespace Go.Proofs.YtpogblengagpaaaGreatDoor
set_option maxRecDepth 100000
open Go.RowKit
namespace Bs
def put (t : Bool) (k : Nat) : Nat := if t then b2 k else 0
theorem compl_test {f : Nat} (h : U64 f) (i : Nat) : (18446744073709551615 - f).testBit i = (decide (i < 64) && !f.testBit i) := by
 have := Nat.testBit_two_pow_sub_succ h.pow i
 rw [← this]
 congr 1
 have := h.lt
 omega
theorem and_compl (z : Nat) {f : Nat} (h : U64 f) : (z &&& f) &&& (18446744073709551615 - f) = 0 := by
 apply Nat.eq_of_testBit_eq
 intro i
 rw [Nat.testBit_and, Nat.testBit_and, compl_test h, Nat.zero_testBit]
 cases f.testBit i <;> simp
end Bs
end Go.Proofs.YtpogblengagpaaaGreatDoor

/- Full, Valid, Count, First, Rank of the program; Full, Valid of the reference. -/
namespace Go.Proofs.YtpogblengagpaaaGreatDoor
set_option maxRecDepth 100000
open Go.RowKit Bs

def full (n : Int) : Nat := if vl n then lo n.toNat else 0
theorem full_val : full 8 = 255 ∧ full 16 = 65535 ∧ full 32 = 4294967295 ∧ full 64 = 18446744073709551615 := by decide +kernel
theorem full_false {n : Int} (h : vl n = false) : full n = 0 := by unfold full; rw [h]; rfl
theorem full_true {n : Int} (h : vl n = true) : full n = lo n.toNat := by unfold full; rw [h]; rfl
theorem full_u64 (n : Int) : U64 (full n) := by
 by_cases h : vl n = true
 ·rcases vl_cases h with rfl | rfl | rfl | rfl <;> (unfold U64; decide +kernel)
 ·rw [full_false (by simpa using h)]; unfold U64; decide
set_option maxHeartbeats 400000 in
theorem fullp_any (n : Int) (w : World) :
  Calls Tryz.prog 124 #[.int .i64 n] w fun e w' => e = .returned (.int .u64 ((full n : Nat) : Int)) ∧ w = w' := by
 by_cases h : vl n = true
 ·obtain ⟨v1, v2, v3, v4⟩ := full_val
  rcases vl_cases h with rfl | rfl | rfl | rfl
  all_goals clear h
  ·have V := Lib.hid v1; clear v1 v2 v3 v4
   go_enter Tryz.func124, Tryz.ntmps124
   go_wp2
   go_ret
   exact ⟨ret_int (by rw [V.out]; rfl), rfl⟩
  ·have V := Lib.hid v2; clear v1 v2 v3 v4
   go_enter Tryz.func124, Tryz.ntmps124
   go_wp2
   go_ret
   exact ⟨ret_int (by rw [V.out]; rfl), rfl⟩
  ·have V := Lib.hid v3; clear v1 v2 v3 v4
   go_enter Tryz.func124, Tryz.ntmps124
   go_wp2
   go_ret
   exact ⟨ret_int (by rw [V.out]; rfl), rfl⟩
  ·have V := Lib.hid v4; clear v1 v2 v3 v4
   go_enter Tryz.func124, Tryz.ntmps124
   go_wp2
   go_ret
   exact ⟨ret_int (by rw [V.out]; rfl), rfl⟩
 ·have hv : vl n = false := by simpa using h
  have V := Lib.hid (full_false hv)
  clear h
  go_enter Tryz.func124, Tryz.ntmps124
  go_wp2_with (go_at_call 111; refine (vlp_any _ _).mono ?_; rintro e w' ⟨rfl, rfl⟩)
  go_ret
  exact ⟨ret_int (by rw [V.out]; rfl), rfl⟩

set_option maxHeartbeats 400000 in
theorem fullr_any (n : Int) (w : World) :
  Calls Tryz.prog 49 #[.int .i64 n] w fun e w' => e = .returned (.int .u64 ((full n : Nat) : Int)) ∧ w = w' := by
 by_cases h : vl n = true
 ·have hv := h
  obtain ⟨N, rfl⟩ : ∃ N : Nat, n = (N : Int) := ⟨n.toNat, by rcases vl_cases h with rfl | rfl | rfl | rfl <;> rfl⟩
  have hN : N ≤ 64 := by rcases vl_cases h with h | h | h | h <;> omega
  have V := Lib.hid (full_true h)
  clear h
  go_enter Tryz.func49, Tryz.ntmps49
  go_wp2_with (go_at_call 72; refine (vlr_any _ _).mono ?_; rintro e w' ⟨rfl, rfl⟩)
  go_loop [3, 4] (fun b k => ∃ j : Nat, j ≤ N ∧ k = .int .i64 (j : Int) ∧ b = .int .u64 ((lo j : Nat) : Int)) (fun _ k => N - (RowKit.intOf k).toNat)
  case atStart => exact ⟨0, Nat.zero_le _, rfl, rfl⟩
  case round =>
   obtain ⟨j, hj, rfl, rfl⟩ := hrel
   by_cases hlt : j < N
   ·have hj64 : j < 64 := by omega
    have O := Lib.hid (or_lo j hj64)
    go_wp2_with (go_at_call 48; refine (bit_any _ hj64 _).mono ?_; rintro e w' ⟨rfl, rfl⟩)
    go_round
    case rel => exact ⟨j + 1, by omega, by go_num, by rw [O.out]⟩
    case measure => simp [RowKit.intOf]; omega
   ·go_wp2_with fail
    go_ret
    have hjN : j = N := by omega
    exact ⟨ret_int (by rw [V.out, hjN]; rfl), rfl⟩
 ·have hv : vl n = false := by simpa using h
  have V := Lib.hid (full_false hv)
  clear h
  go_enter Tryz.func49, Tryz.ntmps49
  go_wp2_with (go_at_call 72; refine (vlr_any _ _).mono ?_; rintro e w' ⟨rfl, rfl⟩)
  go_ret
  exact ⟨ret_int (by rw [V.out]; rfl), rfl⟩

def vb (b : Nat) (n : Int) : Bool := vl n && b &&& (18446744073709551615 - full n) == 0
set_option maxHeartbeats 400000 in
theorem bvalidp_any (b : Nat) (n : Int) (hb : U64 b) (w : World) :
  Calls Tryz.prog 101 #[.int .u64 (b : Int), .int .i64 n] w fun e w' => e = .returned (.bool (vb b n)) ∧ w = w' := by
 by_cases h : vl n = true
 ·have hv := h
  clear h
  go_enter Tryz.func101, Tryz.ntmps101
  go_wp2_with (first | (go_at_call 111; refine (vlp_any _ _).mono ?_; rintro e w' ⟨rfl, rfl⟩) | (go_at_call 124; refine (fullp_any _ _).mono ?_; rintro e w' ⟨rfl, rfl⟩))
  go_ret
  exact ⟨ret_bool (by unfold vb; rw [hv]; exact andNot_zero b _ hb (full_u64 n)), rfl⟩
 ·have hv : vl n = false := by simpa using h
  clear h
  go_enter Tryz.func101, Tryz.ntmps101
  go_wp2_with (go_at_call 111; refine (vlp_any _ _).mono ?_; rintro e w' ⟨rfl, rfl⟩)
  go_ret
  exact ⟨ret_bool (by unfold vb; rw [hv]; rfl), rfl⟩
set_option maxHeartbeats 400000 in
theorem bvalidr_any (b : Nat) (n : Int) (hb : U64 b) (w : World) :
  Calls Tryz.prog 75 #[.int .u64 (b : Int), .int .i64 n] w fun e w' => e = .returned (.bool (vb b n)) ∧ w = w' := by
 by_cases h : vl n = true
 ·have hv := h
  clear h
  go_enter Tryz.func75, Tryz.ntmps75
  go_wp2_with (first | (go_at_call 72; refine (vlr_any _ _).mono ?_; rintro e w' ⟨rfl, rfl⟩) | (go_at_call 49; refine (fullr_any _ _).mono ?_; rintro e w' ⟨rfl, rfl⟩))
  go_ret
  exact ⟨ret_bool (by unfold vb; rw [hv]; exact andNot_zero b _ hb (full_u64 n)), rfl⟩
 ·have hv : vl n = false := by simpa using h
  clear h
  go_enter Tryz.func75, Tryz.ntmps75
  go_wp2_with (go_at_call 72; refine (vlr_any _ _).mono ?_; rintro e w' ⟨rfl, rfl⟩)
  go_ret
  exact ⟨ret_bool (by unfold vb; rw [hv]; rfl), rfl⟩

def fst (b : Nat) : Int := if b = 0 then -1 else ((Lib.ctz 64 b : Nat) : Int)
set_option maxHeartbeats 400000 in
theorem firstp_any (b : Nat) (hb : U64 b) (w : World) (hT : Tb w) :
  Calls Tryz.prog 40 #[.int .u64 (b : Int)] w fun e w' => e = .returned (.int .i64 (fst b)) ∧ w = w' := by
 by_cases h0 : b = 0
 ·subst h0
  go_enter Tryz.func40, Tryz.ntmps40
  go_wp2
  go_ret
  exact ⟨rfl, rfl⟩
 ·have hz : ((b : Int) == 0) = false := by simp; omega
  have F : Hid (fst b = ((Lib.ctz 64 b : Nat) : Int)) := by show fst b = _; unfold fst; rw [if_neg h0]
  clear h0
  go_enter Tryz.func40, Tryz.ntmps40
  go_wp2_with (go_at_call 69; refine (tz_any _ hb _ hT).mono ?_; rintro e w' ⟨rfl, rfl⟩)
  go_ret
  exact ⟨ret_int (by rw [F.out]), rfl⟩
end Go.Proofs.YtpogblengagpaaaGreatDoor

/- Streams as lists of bits; the encoding of a packet as a list of bits. -/
namespace Go.Proofs.YtpogblengagpaaaGreatDoor
set_option maxRecDepth 100000
open Go.RowKit Bs
def nb (v k : Nat) : List Bool := (List.range k).map fun t => v.testBit (k - 1 - t)
def bf (B : List Bool) (i : Nat) : Bool := B.getD i false
def pk (B : List Bool) : List Nat := pz (bf B) B.length ((B.length + 7) / 8)
def pb (l : List Nat) : List Bool := (List.range (8 * l.length)).map (bt l)
structure Pk where
 mode : Int
 sub : Int
 set : Int
 len : Int
 ttl : Int
 ent : Int
 ing : Int
 pro : Int
 bits : Nat
 pay : ByteArray
def Pk.val (P : Pk) : Value := .agg #[.int .i64 P.mode, .int .i64 P.sub, .int .i64 P.set, .int .i64 P.len, .int .i64 P.ttl, .int .i64 P.ent, .int .i64 P.ing, .int .i64 P.pro, .int .u64 (P.bits : Int), .string P.pay]
structure Pk.Wf (P : Pk) : Prop where
 mode : I64 P.mode
 sub : I64 P.sub
 set : I64 P.set
 len : I64 P.len
 ttl : I64 P.ttl
 ent : I64 P.ent
 ing : I64 P.ing
 pro : I64 P.pro
 bits : U64 P.bits
 pay : P.pay.size ≤ maxLen
def vpk (P : Pk) : Bool := decide ((1 ≤ P.mode ∧ P.mode ≤ 3) ∧ (0 ≤ P.sub ∧ P.sub ≤ 7) ∧ (0 ≤ P.set ∧ P.set ≤ 31) ∧ (0 ≤ P.ttl ∧ P.ttl ≤ 63) ∧ (0 ≤ P.ent ∧ P.ent ≤ 1023) ∧ (0 ≤ P.ing ∧ P.ing ≤ 256) ∧ (0 ≤ P.pro ∧ P.pro ≤ 7) ∧ P.pay.size ≤ 64 ∧ vb P.bits P.len = true)
def lcode (n : Int) : Nat := if n = 8 then 0 else if n = 16 then 1 else if n = 32 then 2 else 3
def fl (P : Pk) : List (Nat × Nat) := [(2, 2), (P.mode.toNat, 2), (P.sub.toNat, 3), (P.set.toNat, 5), (lcode P.len, 2), (P.ttl.toNat, 6), (P.ent.toNat, 10), (P.ing.toNat, 9), (P.pro.toNat, 3), (P.pay.size, 7)]
def flb (f : List (Nat × Nat)) : List Bool := f.flatMap fun x => nb x.1 x.2
def byl (s : ByteArray) : List Nat := s.data.toList.map fun b => b.toNat
def body (P : Pk) : List Bool := flb (fl P) ++ nb P.bits P.len.toNat ++ pb (byl P.pay)
def ck (B : List Bool) : Nat := crcB (bf B) B.length
def enc (P : Pk) : List Nat := pk (body P ++ nb (ck (body P)) 16)
end Go.Proofs.YtpogblengagpaaaGreatDoor

/- packet: the table of the fields. -/
namespace Go.Proofs.YtpogblengagpaaaGreatDoor
set_option maxRecDepth 100000
open Go.RowKit Bs
theorem vpk_parts {P : Pk} (h : vpk P = true) : ((1 ≤ P.mode ∧ P.mode ≤ 3) ∧ (0 ≤ P.sub ∧ P.sub ≤ 7) ∧ (0 ≤ P.set ∧ P.set ≤ 31) ∧ (0 ≤ P.ttl ∧ P.ttl ≤ 63) ∧ (0 ≤ P.ent ∧ P.ent ≤ 1023) ∧ (0 ≤ P.ing ∧ P.ing ≤ 256) ∧ (0 ≤ P.pro ∧ P.pro ≤ 7) ∧ P.pay.size ≤ 64 ∧ vb P.bits P.len = true) := of_decide_eq_true h
theorem vb_vl {b : Nat} {n : Int} (h : vb b n = true) : vl n = true := by
 unfold vb at h
 exact (Bool.and_eq_true _ _ ▸ h).1
end Go.Proofs.YtpogblengagpaaaGreatDoor

/- The program's functions on bits: List, Nth, Rank, Spread, Gather. -/
namespace Go.Proofs.YtpogblengagpaaaGreatDoor
set_option maxRecDepth 100000
open Go.RowKit Bs

theorem Tb.grown {w w' : World} {r : Option Nat} (h : Tb w) (g : w.grownBy w' r) (hr : r ≠ some 0) : Tb w' := by
 intro j hj
 exact g.cell (h j hj) (fun e => hr e.symm)
theorem Tb.keep {w w' : World} (h : Tb w) (g : w.grownBy w' none) : Tb w' := h.grown g (by simp)

end Go.Proofs.YtpogblengagpaaaGreatDoor

/- The reference's functions on bits: Count, Nth, First, Rank, Spread, Gather. -/
namespace Go.Proofs.YtpogblengagpaaaGreatDoor
set_option maxRecDepth 100000
open Go.RowKit Bs

theorem Rd.at1_ {w : World} {q : Nat → Prop} {p : Option Addr} {n c : Nat} {vs : List Value} {i : Nat} {x : Value} (h : Rd w q (.slice p n c) vs) (hi : vs[i]? = some x) :
  ∃ b off, p = some ⟨b, off, none⟩ ∧ w.cell? ⟨b, off + i, none⟩ = some x := by
 obtain ⟨p', c', hv, hc⟩ := h
 injection hv with e1 e2 e3
 subst e1
 obtain ⟨b, off, hp, _, hx⟩ := hc (by intro e; rw [e] at hi; simp at hi)
 exact ⟨b, off, hp, hx i x hi⟩
end Go.Proofs.YtpogblengagpaaaGreatDoor

/- The tape's bit strings. -/
namespace Go.Proofs.YtpogblengagpaaaGreatDoor
set_option maxRecDepth 100000
open Go.RowKit Bs

theorem vb_full {n : Int} (h : vl n = true) (z : Nat) : vb (z &&& full n) n = true := by
 unfold vb
 rw [h, and_compl z (full_u64 n)]; rfl
def BitsPost (n : Int) (a : Nat) (w : World) (e : Ending) (w' : World) : Prop := ∃ x : Nat, e = .returned (.int .u64 (x : Int)) ∧ U64 x ∧ vb x n = true ∧ St a w w'
theorem bits_end {n : Int} (h : vl n = true) (z : Nat) (hz : U64 z) : ∃ x : Nat, bits .and .u64 (z : Int) ((full n : Nat) : Int) = (x : Int) ∧ U64 x ∧ vb x n = true :=
 ⟨z &&& full n, andU z _ hz (full_u64 n), u64_and_le z _ hz, vb_full h z⟩
theorem all_ones : (18446744073709551615 : Int) = ((lo 64 : Nat) : Int) := by decide +kernel
set_option maxHeartbeats 800000 in
theorem bits_any (a : Nat) (n : Int) (hn : vl n = true) (w : World) (hT : Tp w a) :
  Calls Tryz.prog 17 #[.pointer (some ⟨a, 0, none⟩), .int .i64 n] w fun e w' => BitsPost n a w e w' := by
 have hn1 : 1 ≤ n := by rcases vl_cases hn with h | h | h | h <;> omega
 have hn2 : n ≤ 64 := by rcases vl_cases hn with h | h | h | h <;> omega
 have HV := Lib.hid hn
 clear hn
 go_enter Tryz.func17, Tryz.ntmps17
 go_wp2_with fail
 refine (raw_any a _ hT).mono ?_
 rintro e w1 ⟨x1, rfl, hx1, hs1⟩
 go_wp2_with fail
 refine (raw_any a _ hs1.2).mono ?_
 rintro e w2 ⟨x2, rfl, hx2, hs2⟩
 have h12 := hs1.trans hs2
 clear hx1 hx2 hs1 hs2
 go_wp2_with fail
 generalize hB : bits BinOp.xor IntKind.u64 _ _ = B
 obtain ⟨z, hz, hzB⟩ : ∃ z : Nat, U64 z ∧ B = (z : Int) := by rw [← hB]; exact bitsU _ _ _
 subst hzB
 clear hB
 refine (next_any a 6 (by unfold I64; omega) _ h12.2).mono ?_
 rintro e w3 ⟨r, rfl, hr, hs3⟩
 have h13 := h12.trans hs3
 have hr0 : 0 ≤ r := hr.1
 have hr1 : r < 6 := hr.2.1 (by omega)
 clear hr h12 hs3
 by_cases c0 : r = 0
 ·subst c0
  obtain ⟨y, hy, hyu, hyv⟩ := bits_end HV.out 0 (by unfold U64; decide)
  have HY := Lib.hid hy
  clear hy
  go_wp2_with (go_at_call 49; refine (fullr_any _ _).mono ?_; rintro e w' ⟨rfl, rfl⟩)
  go_ret
  exact ⟨y, ret_int HY.out, hyu, hyv, h13⟩
 ·by_cases c1 : r = 1
  ·subst c1
   clear c0
   go_wp2_with fail
   refine (next_any a n (by unfold I64; omega) _ h13.2).mono ?_
   rintro e w4 ⟨k, rfl, hk, hs4⟩
   have h14 := h13.trans hs4
   obtain ⟨K, rfl⟩ := Int.eq_ofNat_of_zero_le hk.1
   have hK : K < 64 := by have := hk.2.1 hn1; omega
   clear hk hs4
   obtain ⟨y, hy, hyu, hyv⟩ := bits_end HV.out (b2 K) (b2_u64 hK)
   have HY := Lib.hid hy
   clear hy
   go_wp2_with (first
    | (go_at_call 48; refine (bit_any K hK _).mono ?_; rintro e w' ⟨rfl, rfl⟩)
    | (go_at_call 49; refine (fullr_any _ _).mono ?_; rintro e w' ⟨rfl, rfl⟩))
   go_ret
   exact ⟨y, ret_int HY.out, hyu, hyv, h14⟩
  ·by_cases c2 : r = 2
   ·subst c2
    clear c0 c1
    obtain ⟨y, hy, hyu, hyv⟩ := bits_end HV.out (lo 64) (lo_u64 (by omega))
    rw [← all_ones] at hy
    have HY := Lib.hid hy
    clear hy
    go_wp2_with (go_at_call 49; refine (fullr_any _ _).mono ?_; rintro e w' ⟨rfl, rfl⟩)
    go_ret
    exact ⟨y, ret_int HY.out, hyu, hyv, h13⟩
   ·have b0 : (r == 0) = false := by simpa using c0
    have b1 : (r == 1) = false := by simpa using c1
    have b2' : (r == 2) = false := by simpa using c2
    clear c0 c1 c2
    obtain ⟨y, hy, hyu, hyv⟩ := bits_end HV.out z hz
    have HY := Lib.hid hy
    clear hy
    go_wp2_with (go_at_call 49; refine (fullr_any _ _).mono ?_; rintro e w' ⟨rfl, rfl⟩)
    go_ret
    exact ⟨y, ret_int HY.out, hyu, hyv, h13⟩
end Go.Proofs.YtpogblengagpaaaGreatDoor
