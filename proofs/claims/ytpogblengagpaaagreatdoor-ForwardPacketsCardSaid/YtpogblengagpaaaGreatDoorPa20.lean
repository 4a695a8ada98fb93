/- Parts of the proof, packed: IoOrder, IdTpM, TaVal, FwForM, PkTapeN, PkList. -/
import Derived.Test.YtpogblengagpaaaGreatDoorPa2
import Derived.Test.YtpogblengagpaaaGreatDoorPa3
import Derived.Test.YtpogblengagpaaaGreatDoorPa11
import Derived.Test.YtpogblengagpaaaGreatDoorPa19
import Derived.Test.YtpogblengagpaaaGreatDoorPa4
import Derived.Test.YtpogblengagpaaaGreatDoorPa7
import Derived.Test.YtpogblengagpaaaGreatDoorPa8
import Derived.Test.YtpogblengagpaaaGreatDoorPa1
import Derived.Deep.CutRange
import Derived.Deep.RegionHeld3
/- The tape's orders. -/
namespace Go.Proofs.YtpogblengagpaaaGreatDoor
set_option maxRecDepth 100000
open Go.RowKit Bs
def Ord (l : List Nat) (i : Nat) : Prop := l.length = i ∧ l.Nodup ∧ ∀ x ∈ l, x < i
theorem ord_next {l : List Nat} {i k : Nat} (h : Ord l i) : Ord (l.take k ++ [i] ++ l.drop k) (i + 1) := by
 obtain ⟨h1, h2, h3⟩ := h
 refine ⟨?_, ?_, ?_⟩
 ·simp; omega
 ·have e : (l.take k ++ [i] ++ l.drop k).Perm (i :: l) := by
   rw [List.append_assoc]
   have e2 : (l.take k ++ ([i] ++ l.drop k)).Perm (([i] ++ l.drop k) ++ l.take k) := List.perm_append_comm
   refine e2.trans ?_
   rw [List.append_assoc]
   show (i :: (l.drop k ++ l.take k)).Perm (i :: l)
   refine List.Perm.cons i ?_
   refine List.perm_append_comm.trans ?_
   rw [List.take_append_drop]
  rw [e.nodup_iff, List.nodup_cons]
  exact ⟨fun hm => by have := h3 i hm; omega, h2⟩
 ·intro x hx
  rw [List.mem_append, List.mem_append] at hx
  rcases hx with (hx | hx) | hx
  ·have := h3 x (List.mem_of_mem_take hx); omega
  ·have : x = i := by simpa using hx
   omega
  ·have := h3 x (List.mem_of_mem_drop hx); omega
def OrdRel (a : Nat) (W : World) (i : Nat) (v : Value) (w' : World) : Prop := ∃ l, Ord l i ∧ w'.ownsRow W.heap.size 3 1 v i (l.map zv) ∧ (i = 0 → v = .slice none 0 0) ∧ St a W w'
def OrdPost (a : Nat) (n : Nat) (W : World) (e : Ending) (w' : World) : Prop := ∃ v, e = .returned v ∧ OrdRel a W n v w'
set_option maxHeartbeats 3200000 in
theorem order_any (a n : Nat) (hn : n ≤ 1000) (w : World) (hT : Tp w a) :
  Calls Tryz.prog 58 #[.pointer (some ⟨a, 0, none⟩), .int .i64 (n : Int)] w fun e w' => OrdPost a n w e w' := by
 have ha := hT.lt
 have hS0 : Hid (OrdRel a w 0 (.slice none 0 0) w) := Lib.hid ⟨[], ⟨rfl, List.nodup_nil, fun x hx => by cases hx⟩, World.ownsRow_nil _ _ _ _, fun _ => rfl, grown_refl _ _, hT⟩
 clear hT
 go_enter Tryz.func58, Tryz.ntmps58
 go_wp2_with fail
 go_loopw [5, 6] (fun v i wr => ∃ j : Nat, j ≤ n ∧ i = .int .i64 (j : Int) ∧ OrdRel a w j v wr) (fun _ i _ => (n - (RowKit.intOf i).toNat))
 case atStart => exact ⟨0, Nat.zero_le _, rfl, hS0.out⟩
 case round =>
  obtain ⟨j, hj, rfl, hR⟩ := hrel
  have HR := Lib.hid hR
  clear hR hS0
  by_cases hlt : j < n
  ·obtain ⟨l, hO, hown, hv0, hSt⟩ := HR.out
   have HO := Lib.hid hO
   have hT := hSt.2
   have HOWN := Lib.hid hown
   have HST := Lib.hid hSt
   clear hO hown hSt HR
   go_wp2_with fail
   refine (next_any a ((j : Int) + 1) (by unfold I64; omega) _ hT).mono ?_
   rintro e w3 ⟨r, rfl, hr, hs⟩
   obtain ⟨k, rfl⟩ := Int.eq_ofNat_of_zero_le hr.1
   have hkj : k ≤ j := by have := hr.2.1 (by omega); omega
   have HS3 := Lib.hid (HST.out.trans hs)
   have HOWN3 := Lib.hid (own_kept ha HOWN.out hs.1)
   clear hr hs hT HST HOWN
   by_cases hj0 : j = 0
   ·subst hj0
    obtain rfl : k = 0 := by omega
    obtain rfl := hv0 rfl
    have hl : l = [] := List.eq_nil_of_length_eq_zero HO.out.1
    clear hv0
    obtain ⟨i0, hi, hz0, hz1, hz2⟩ := info_parts info_int
    have hsz3 := Lib.hid HS3.out.1.size
    go_wp2_with (first
     | (at_builtin; refine wpList_append_own_none rfl _ _ 22 rfl w3.heap.size 3 i0 1 Tryz.underlying22 hi (.slice none 0 0) 0 [] rfl (World.ownsRow_nil _ _ _ _) rfl ?_)
     | (at_builtin; refine wpList_append_ints rfl _ _ rfl w3.heap.size (.slice none 0 0) 0 [] rfl (World.ownsRow_nil _ _ _ _) (some ⟨w3.heap.size, 0, none⟩) 1 1 [0] rfl rfl (by intro h; cases h) (by intro ad h; obtain rfl := Option.some.inj h; exact cell_one _ _ _) (by simp) (by simp) ?_; intro v2 w5 hown2 hg2; have HOWN2 := Lib.hid hown2; have HG2 := Lib.hid (grown_trans (World.grownBy_alloc w3 _ none) hg2); clear hown2 hg2)
     | (at_builtin; refine wpList_append_own_none rfl _ _ 22 rfl w3.heap.size 3 i0 1 Tryz.underlying22 hi v2 1 [zv 0] rfl HOWN2.out rfl ?_))
    go_roundw
    case rel =>
     refine ⟨1, by omega, rfl, [0], ⟨rfl, by simp, by simp⟩, ?_, by omega, ?_⟩
     ·exact HOWN2.out.mono hsz3.out
     ·exact ⟨grown_trans HS3.out.1 (grown_none HG2.out _), HS3.out.2.keep HG2.out⟩
    case measure => simp [RowKit.intOf]; omega
   ·have hj1 : 0 < j := by omega
    obtain ⟨g, cap, rfl, hgb⟩ := own_form HOWN3.out hj1
    obtain ⟨hcap1, hcap2⟩ := own_cap HOWN3.out
    have hcap3 : cap ≤ 9223372036854775807 := by unfold maxLen at hcap2; omega
    have hgl := (HOWN3.out.lt g rfl).2
    have hll := HO.out.1
    have HLL := Lib.hid hll
    have hkc : k ≤ cap := by omega
    have hkl : (l.take k).length = k := by rw [List.length_take]; omega
    have hdl : (l.drop k).length = j - k := by rw [List.length_drop]; omega
    have HKL := Lib.hid hkl
    have HDL := Lib.hid hdl
    have hj9 : j ≤ 1000 := by omega
    have hsz3 := Lib.hid HS3.out.1.size
    have N1 : Hid (∀ ad, some (⟨g, 0, none⟩ : Addr) = some ad → ∀ i u, ((l.take k).map zv)[i]? = some u → w3.cell? (ad.add i) = some u) := by
     refine Lib.hid ?_
     intro ad h i u hu
     obtain rfl := Option.some.inj h
     refine HOWN3.out.cells rfl i u ?_
     rw [List.map_take, List.getElem?_take] at hu
     split at hu
     ·exact hu
     ·cases hu
    clear hll hkl hdl hv0 hcap2
    generalize hT1 : l.take k = t1 at *
    generalize hT2 : l.drop k = t2 at *
    have HT1 := Lib.hid hT1
    have HT2 := Lib.hid hT2
    clear hT1
    by_cases hkj : k < j
    ·have hkcap : k < cap := by omega
     have news : Hid (∀ (W : World) c, W.ownsRow w.heap.size 3 1 (.slice (some ⟨g, 0, none⟩) j c) j (l.map zv) → ∀ i u, (t2.map zv)[i]? = some u → W.cell? ⟨g, k + i, none⟩ = some u) := by
      refine Lib.hid ?_
      intro W c h i u hu
      rw [← hT2, List.map_drop, List.getElem?_drop] at hu
      have := h.cells rfl (k + i) u hu
      rw [add_plain, Nat.zero_add] at this
      exact this
     clear hT2
     go_wp2_with (first
      | (at_builtin; refine wpList_append_ints rfl _ _ rfl w3.heap.size (.slice none 0 0) 0 [] rfl (World.ownsRow_nil _ _ _ _) (some ⟨g, 0, none⟩) k cap t1 rfl HKL.out.symm (by intro h; cases h) N1.out (by rw [HKL.out]; omega) (Nat.le_refl _) ?_; intro v1 w4 hown1 hg1; rw [Nat.zero_add, List.nil_append, HKL.out] at hown1; have HOWN1 := Lib.hid hown1; have HO4 := Lib.hid (own_apart HOWN3.out (World.ownsRow_nil w3 w3.heap.size 3 1) hgl hg1); have HS4 := Lib.hid (HS3.out.own_grow (World.ownsRow_nil w3 w3.heap.size 3 1) hsz3.out ha hg1); have HZ4 := Lib.hid hg1.size; clear hown1 hg1)
      | (at_builtin; refine wpList_append_ints rfl _ _ rfl w3.heap.size v1 k t1 rfl (HOWN1.out.alloc _) (some ⟨w4.heap.size, 0, none⟩) 1 1 [j] rfl rfl (by intro h; cases h) (by intro ad h; obtain rfl := Option.some.inj h; exact cell_one _ _ _) (by simp; omega) (by have := HZ4.out; simp; omega) ?_; intro v2 w5 hown2 hg2; have HOWN2 : Hid (w5.ownsRow w3.heap.size 3 1 v2 (k + 1) ((t1 ++ [j]).map zv)) := Lib.hid hown2; have HO5 := Lib.hid (own_apart (HO4.out.alloc _) (HOWN1.out.alloc _) hgl hg2); have HS5 := Lib.hid ((HS4.out.none_ (World.grownBy_alloc w4 _ none)).own_grow (HOWN1.out.alloc _) hsz3.out ha hg2); have HZ5 : Hid (w3.heap.size ≤ w5.heap.size) := Lib.hid (Nat.le_trans HZ4.out (Nat.le_trans (by simp) hg2.size)); clear hown2 hg2)
      | (at_builtin; refine wpList_append_ints rfl _ _ rfl w3.heap.size v2 (k + 1) (t1 ++ [j]) rfl HOWN2.out _ _ _ t2 rfl (by have := HDL.out; omega) (by intro h; cases h) (by intro ad h; obtain rfl := Option.some.inj h; intro i u hu; rw [add_plain]; exact news.out w5 cap HO5.out i u hu) (by have := HDL.out; omega) HZ5.out ?_; intro v3 w6 hown3 hg3; have HOWN6 := Lib.hid hown3; have HS6 := Lib.hid (HS5.out.own_grow HOWN2.out hsz3.out ha hg3); clear hown3 hg3))
     go_roundw
     case rel =>
      refine ⟨j + 1, by omega, by go_num, l.take k ++ [j] ++ l.drop k, ord_next HO.out, ?_, by omega, HS6.out⟩
      have h6 := HOWN6.out.mono hsz3.out
      rw [← HT1.out, ← HT2.out, show k + 1 + (l.drop k).length = j + 1 by rw [List.length_drop, HLL.out]; omega] at h6
      exact h6
     case measure => simp [RowKit.intOf]; omega
    ·obtain rfl : k = j := by omega
     have ht2 : t2 = [] := by
      rw [← hT2]
      exact List.drop_of_length_le (Nat.le_of_eq HLL.out)
     clear hT2
     have HN2 : Hid (∀ (i : Nat) (u : Value), (t2.map zv)[i]? = some u → False) := Lib.hid (by intro i u hu; rw [ht2] at hu; simp at hu)
     clear ht2
     by_cases hcj : k = cap
     ·subst hcj
      go_wp2_with (first
       | (at_builtin; refine wpList_append_ints rfl _ _ rfl w3.heap.size (.slice none 0 0) 0 [] rfl (World.ownsRow_nil _ _ _ _) (some ⟨g, 0, none⟩) k k t1 rfl HKL.out.symm (by intro h; cases h) N1.out (by rw [HKL.out]; omega) (Nat.le_refl _) ?_; intro v1 w4 hown1 hg1; rw [Nat.zero_add, List.nil_append, HKL.out] at hown1; have HOWN1 := Lib.hid hown1; have HO4 := Lib.hid (own_apart HOWN3.out (World.ownsRow_nil w3 w3.heap.size 3 1) hgl hg1); have HS4 := Lib.hid (HS3.out.own_grow (World.ownsRow_nil w3 w3.heap.size 3 1) hsz3.out ha hg1); have HZ4 := Lib.hid hg1.size; clear hown1 hg1)
       | (at_builtin; refine wpList_append_ints rfl _ _ rfl w3.heap.size v1 k t1 rfl (HOWN1.out.alloc _) (some ⟨w4.heap.size, 0, none⟩) 1 1 [k] rfl rfl (by intro h; cases h) (by intro ad h; obtain rfl := Option.some.inj h; exact cell_one _ _ _) (by simp; omega) (by have := HZ4.out; simp; omega) ?_; intro v2 w5 hown2 hg2; have HOWN2 : Hid (w5.ownsRow w3.heap.size 3 1 v2 (k + 1) ((t1 ++ [k]).map zv)) := Lib.hid hown2; have HO5 := Lib.hid (own_apart (HO4.out.alloc _) (HOWN1.out.alloc _) hgl hg2); have HS5 := Lib.hid ((HS4.out.none_ (World.grownBy_alloc w4 _ none)).own_grow (HOWN1.out.alloc _) hsz3.out ha hg2); have HZ5 : Hid (w3.heap.size ≤ w5.heap.size) := Lib.hid (Nat.le_trans HZ4.out (Nat.le_trans (by simp) hg2.size)); clear hown2 hg2)
       | (at_builtin; refine wpList_append_ints rfl _ _ rfl w3.heap.size v2 (k + 1) (t1 ++ [k]) rfl HOWN2.out _ _ _ t2 rfl (by have := HDL.out; omega) (by intro h; cases h) (by intro ad h i u hu; exact (HN2.out i u hu).elim) (by have := HDL.out; omega) HZ5.out ?_; intro v3 w6 hown3 hg3; have HOWN6 := Lib.hid hown3; have HS6 := Lib.hid (HS5.out.own_grow HOWN2.out hsz3.out ha hg3); clear hown3 hg3))
      go_roundw
      case rel =>
       refine ⟨k + 1, by omega, by go_num, l.take k ++ [k] ++ l.drop k, ord_next HO.out, ?_, by omega, HS6.out⟩
       have h6 := HOWN6.out.mono hsz3.out
       rw [← HT1.out, ← HT2.out, show k + 1 + (l.drop k).length = k + 1 by rw [List.length_drop, HLL.out]; omega] at h6
       exact h6
      case measure => simp [RowKit.intOf]; omega
     ·have hkcap : k < cap := by omega
      go_wp2_with (first
       | (at_builtin; refine wpList_append_ints rfl _ _ rfl w3.heap.size (.slice none 0 0) 0 [] rfl (World.ownsRow_nil _ _ _ _) (some ⟨g, 0, none⟩) k cap t1 rfl HKL.out.symm (by intro h; cases h) N1.out (by rw [HKL.out]; omega) (Nat.le_refl _) ?_; intro v1 w4 hown1 hg1; rw [Nat.zero_add, List.nil_append, HKL.out] at hown1; have HOWN1 := Lib.hid hown1; have HO4 := Lib.hid (own_apart HOWN3.out (World.ownsRow_nil w3 w3.heap.size 3 1) hgl hg1); have HS4 := Lib.hid (HS3.out.own_grow (World.ownsRow_nil w3 w3.heap.size 3 1) hsz3.out ha hg1); have HZ4 := Lib.hid hg1.size; clear hown1 hg1)
       | (at_builtin; refine wpList_append_ints rfl _ _ rfl w3.heap.size v1 k t1 rfl (HOWN1.out.alloc _) (some ⟨w4.heap.size, 0, none⟩) 1 1 [k] rfl rfl (by intro h; cases h) (by intro ad h; obtain rfl := Option.some.inj h; exact cell_one _ _ _) (by simp; omega) (by have := HZ4.out; simp; omega) ?_; intro v2 w5 hown2 hg2; have HOWN2 : Hid (w5.ownsRow w3.heap.size 3 1 v2 (k + 1) ((t1 ++ [k]).map zv)) := Lib.hid hown2; have HO5 := Lib.hid (own_apart (HO4.out.alloc _) (HOWN1.out.alloc _) hgl hg2); have HS5 := Lib.hid ((HS4.out.none_ (World.grownBy_alloc w4 _ none)).own_grow (HOWN1.out.alloc _) hsz3.out ha hg2); have HZ5 : Hid (w3.heap.size ≤ w5.heap.size) := Lib.hid (Nat.le_trans HZ4.out (Nat.le_trans (by simp) hg2.size)); clear hown2 hg2)
       | (at_builtin; refine wpList_append_ints rfl _ _ rfl w3.heap.size v2 (k + 1) (t1 ++ [k]) rfl HOWN2.out _ _ _ t2 rfl (by have := HDL.out; omega) (by intro h; cases h) (by intro ad h i u hu; exact (HN2.out i u hu).elim) (by have := HDL.out; omega) HZ5.out ?_; intro v3 w6 hown3 hg3; have HOWN6 := Lib.hid hown3; have HS6 := Lib.hid (HS5.out.own_grow HOWN2.out hsz3.out ha hg3); clear hown3 hg3))
      go_roundw
      case rel =>
       refine ⟨k + 1, by omega, by go_num, l.take k ++ [k] ++ l.drop k, ord_next HO.out, ?_, by omega, HS6.out⟩
       have h6 := HOWN6.out.mono hsz3.out
       rw [← HT1.out, ← HT2.out, show k + 1 + (l.drop k).length = k + 1 by rw [List.length_drop, HLL.out]; omega] at h6
       exact h6
      case measure => simp [RowKit.intOf]; omega
  ·obtain rfl : j = n := by omega
   go_wp2_with fail
   go_ret
   exact ⟨_, rfl, HR.out⟩
end Go.Proofs.YtpogblengagpaaaGreatDoor

/- The tape's plans: the mathematics. -/
namespace Go.Proofs.YtpogblengagpaaaGreatDoor
set_option maxRecDepth 100000
open Go.RowKit Bs
def ridR (R : List Rt) (k : Nat) : Int := (R[k]?.map Rt.id).getD 0
theorem ridR_at {R : List Rt} {k : Nat} {r : Rt} (h : R[k]? = some r) : ridR R k = r.id := by unfold ridR; rw [h]; rfl
structure PlE (R : List Rt) (O : List Nat) (i : Nat) (id : Int) (E : List Ed) : Prop where
 sub : (E.map Ed.r).Sublist ((O.take i).map (ridR R))
 ids : ∀ e ∈ E, 1 ≤ e.i ∧ e.i ≤ id ∧ e.i ≤ 256
 asc : E.Pairwise (fun x y => x.i < y.i)
theorem PlE.nil (R : List Rt) (O : List Nat) : PlE R O 0 0 [] := ⟨List.nil_sublist _, fun e h => (by cases h), List.Pairwise.nil⟩
theorem take_map_succ {O : List Nat} {i k : Nat} (hk : O[i]? = some k) (f : Nat → Int) : (O.take (i + 1)).map f = (O.take i).map f ++ [f k] := by
 rw [List.take_add_one, hk, List.map_append]; rfl
theorem PlE.skip {R : List Rt} {O : List Nat} {i : Nat} {id : Int} {E : List Ed} (h : PlE R O i id E) : PlE R O (i + 1) id E := by
 refine ⟨h.sub.trans ?_, h.ids, h.asc⟩
 exact List.Sublist.map _ (List.take_sublist_take_left (by omega))
theorem PlE.more {R : List Rt} {O : List Nat} {i : Nat} {id id2 : Int} {E : List Ed} (h : PlE R O i id E) (h2 : id ≤ id2) : PlE R O i id2 E :=
 ⟨h.sub, fun e he => by have := h.ids e he; omega, h.asc⟩
theorem PlE.add {R : List Rt} {O : List Nat} {i k : Nat} {id id2 r : Int} {E : List Ed} (h : PlE R O i id E) (hk : O[i]? = some k) (hr : ridR R k = r) (h0 : 0 ≤ id) (h1 : id < id2) (h2 : id2 ≤ 256) : PlE R O (i + 1) id2 (E ++ [⟨r, id2⟩]) := by
 refine ⟨?_, fun e he => ?_, ?_⟩
 ·rw [List.map_append, take_map_succ hk, hr]
  exact List.Sublist.append h.sub (List.Sublist.refl _)
 ·rcases List.mem_append.1 he with he | he
  ·have := h.ids e he; omega
  ·obtain rfl : e = ⟨r, id2⟩ := by simpa using he
   exact ⟨by show 1 ≤ id2; omega, Int.le_refl _, h2⟩
 ·refine List.pairwise_append.2 ⟨h.asc, List.pairwise_singleton _ _, fun x hx y hy => ?_⟩
  obtain rfl : y = ⟨r, id2⟩ := by simpa using hy
  have := h.ids x hx
  show x.i < id2
  omega
theorem PlE.len {R : List Rt} {O : List Nat} {i : Nat} {id : Int} {E : List Ed} (h : PlE R O i id E) : E.length ≤ i := by
 have := h.sub.length_le
 rw [List.length_map, List.length_map, List.length_take] at this
 omega
theorem rep_noT {L : List Int} (h : ∀ k x, L[k]? = some x → x ∉ L.take k) : repI L = false := by
 unfold repI
 rw [List.any_eq_false]
 intro k hk
 have hk := List.mem_range.1 hk
 rw [List.getD_eq_getElem?_getD, List.getElem?_eq_getElem hk]
 simpa using h k _ (List.getElem?_eq_getElem hk)
theorem repI_nodup {L : List Int} (h : L.Nodup) : repI L = false := by
 refine rep_noT fun k x hx hm => ?_
 obtain ⟨hk, e⟩ := List.getElem?_eq_some_iff.1 hx
 obtain ⟨j, hj, hj2⟩ := List.mem_iff_getElem.1 hm
 rw [List.length_take] at hj
 rw [List.getElem_take] at hj2
 have := (List.nodup_iff_pairwise_ne.1 h)
 have h3 := List.pairwise_iff_getElem.1 this j k (by omega) hk (by omega)
 exact h3 (by rw [hj2, e])
theorem ascR_nodup : ∀ R : List Rt, ascB ltR R = true → R.Pairwise (fun x y => x.id < y.id)
 | [], _ => List.Pairwise.nil
 | [a], _ => List.pairwise_singleton _ _
 | a :: b :: t, h => by
  rw [ascB, Bool.and_eq_true] at h
  have ih := ascR_nodup (b :: t) h.2
  have hab : a.id < b.id := of_decide_eq_true h.1
  refine List.pairwise_cons.2 ⟨fun y hy => ?_, ih⟩
  rcases List.mem_cons.1 hy with rfl | hy
  ·exact hab
  ·have := (List.pairwise_cons.1 ih).1 y hy; omega
theorem chk0 {R : List Rt} {L : List Lk} (h : chk R L = 0) : R.length ≤ 24 ∧ R.any wrId = false ∧ ascB ltR R = true := by
 unfold chk at h
 split at h
 ·cases h
 ·rename_i h1
  split at h
  ·cases h
  ·rename_i h2
   split at h
   ·cases h
   ·rename_i h3
    exact ⟨by omega, by simpa using h2, by simpa using h3⟩
theorem PlE.valid {R : List Rt} {L : List Lk} {O : List Nat} {i : Nat} {id : Int} {E : List Ed} (h : PlE R O i id E) (hc : chk R L = 0) (hO : Ord O R.length) {s n : Int} (hs : inV s 0 7 = true) (hn : vl n = true) :
  vPl s n E = true ∧ E.length ≤ R.length ∧ ∀ e ∈ E, hasR R e.r = true := by
 obtain ⟨c1, c2, c3⟩ := chk0 hc
 have hmem : ∀ e ∈ E, ∃ r ∈ R, r.id = e.r := fun e he => by
  have h1 := h.sub.subset (List.mem_map.2 ⟨e, he, rfl⟩)
  obtain ⟨k, hk, hke⟩ := List.mem_map.1 h1
  have hk2 := hO.2.2 k (List.mem_of_mem_take hk)
  refine ⟨R[k], List.getElem_mem hk2, ?_⟩
  rw [← hke, ridR_at (List.getElem?_eq_getElem hk2)]
 have hnd : (E.map Ed.r).Nodup := by
  refine List.Nodup.sublist (h.sub.trans (List.Sublist.map _ (List.take_sublist i O))) ?_
  rw [List.Nodup, List.pairwise_map]
  refine List.Pairwise.imp_of_mem (fun {x y} hx hy hne => ?_) hO.2.1
  have hx := hO.2.2 x hx
  have hy := hO.2.2 y hy
  rw [ridR_at (List.getElem?_eq_getElem hx), ridR_at (List.getElem?_eq_getElem hy)]
  have hp := List.pairwise_iff_getElem.1 (ascR_nodup R c3)
  rcases Nat.lt_or_gt_of_ne hne with hlt | hlt
  ·have := hp x y hx hy hlt; omega
  ·have := hp y x hy hx hlt; omega
 have hlen : E.length ≤ R.length := by
  have h1 := (h.sub.trans (List.Sublist.map _ (List.take_sublist i O))).length_le
  rw [List.length_map, List.length_map, hO.1] at h1
  exact h1
 refine ⟨?_, hlen, fun e he => ?_⟩
 ·unfold vPl
  rw [hs, hn, repI_nodup hnd, pair_ascE E h.asc, decide_eq_true (show E.length ≤ 24 by omega)]
  have hw : E.any wrE = false := by
   rw [List.any_eq_false]
   intro e he
   obtain ⟨r, hr, hre⟩ := hmem e he
   have h1 := any_mem c2 hr
   have h2 := h.ids e he
   unfold wrId at h1
   rw [hre] at h1
   unfold wrE inV
   rw [decide_eq_true (show 1 ≤ e.i ∧ e.i ≤ 256 by omega)]
   have h3 : decide (1 ≤ e.r ∧ e.r ≤ 99) = true := by
    cases hh : decide (1 ≤ e.r ∧ e.r ≤ 99)
    ·rw [hh] at h1; cases h1
    ·rfl
   rw [h3]; simp
  rw [hw]; rfl
 ·obtain ⟨r, hr, hre⟩ := hmem e he
  exact List.any_eq_true.2 ⟨r, hr, decide_eq_true hre⟩
end Go.Proofs.YtpogblengagpaaaGreatDoor

/- tables: what build makes is valid. -/
namespace Go.Proofs.YtpogblengagpaaaGreatDoor
set_option maxRecDepth 100000
open Go.RowKit Bs
theorem price_pos {R : List Rt} {L : List Lk} (h : okT R L = true) {a b : Int} (hp : (priceV L a b).2 = true) : 1 ≤ (priceV L a b).1 := by
 unfold priceV at hp ⊢
 cases hf : L.findSome? (priceB a b) with
 | none => rw [hf] at hp; cases hp
 | some c =>
  obtain ⟨l, hl, hc⟩ := List.exists_of_findSome?_eq_some hf
  have hn := List.any_eq_false.1 (okT_all h).nm l hl
  unfold wrNum at hn
  simp only [Bool.not_eq_true, Bool.not_eq_false', decide_eq_true_eq] at hn
  unfold priceB at hc
  split at hc
  ·have := Option.some.inj hc; show 1 ≤ c; have := hn.1; omega
  ·split at hc
   ·have := Option.some.inj hc; show 1 ≤ c; have := hn.2.1; omega
   ·cases hc
theorem st_lt {R : List Rt} {L : List Lk} {D : Int → Int} (h : okT R L = true) {a b : Int} (hb : b ∈ stV R L D a) : atV R D b < atV R D a := by
 unfold stV at hb
 split at hb
 ·cases hb
 ·obtain ⟨h1, h2⟩ := List.mem_filter.1 hb
  unfold okS at h2
  rw [Bool.and_eq_true] at h2
  have h3 := of_decide_eq_true h2.2
  unfold nearR at h1
  obtain ⟨r, hr, rfl⟩ := List.mem_map.1 h1
  have := price_pos h (List.mem_filter.1 hr).2
  omega
theorem hop_lt {R : List Rt} {L : List Lk} {D : Int → Int} (h : okT R L = true) {x y : Int} (hy : HopM R L D x y) : atV R D y < atV R D x := by
 obtain ⟨s, hs, hy, -⟩ := hy
 have h1 := hs (fun a => atV R D a ≤ atV R D x) (Int.le_refl _) (fun a b ha hb _ => by have := st_lt h hb; omega)
 have h2 := st_lt h hy
 omega
theorem NxB.ok {R : List Rt} {L0 : List Lk} {ro r : Int} {X : List Int} (h : NxB R L0 ro r X) (hok : okT R L0 = true) (hro : ro ∈ ids R) : X.Pairwise (· < ·) ∧ (∀ y ∈ X, y ∈ ids R) ∧ (1 < X.length → ro ∉ X) := by
 unfold NxB at h
 split at h
 ·subst h
  exact ⟨List.pairwise_singleton _ _, fun y hy => by rw [List.mem_singleton.1 hy]; exact hro, fun h => absurd h (by show ¬ 1 < 1; omega)⟩
 ·split at h
  ·refine ⟨h.1, h.2.1, fun _ hm => ?_⟩
   have h3 := h.2.2
   unfold HopsIs at h3
   split at h3
   ·have := hop_lt hok ((h3 ro).1 hm); omega
   ·subst h3; cases hm
  ·subst h
   exact ⟨List.Pairwise.nil, fun y hy => (by cases hy), fun _ hm => (by cases hm)⟩
theorem bldM_congr {R : List Rt} {L0 : List Lk} {ro : Int} {E : List Ed} {L M : List Rw} (h : BldM R L0 ro E L) (hm : M.map rw0 = L.map rw0) : BldM R L0 ro E M := by
 have hl : M.length = L.length := by have := congrArg List.length hm; simpa using this
 refine ⟨hl.trans h.1, fun i e x he hx => ?_⟩
 have h1 : (M.map rw0)[i]? = some (rw0 x) := by rw [List.getElem?_map, hx]; rfl
 rw [hm, List.getElem?_map] at h1
 cases hy : L[i]? with
 | none => rw [hy] at h1; cases h1
 | some y =>
  rw [hy] at h1
  have h2 : rw0 y = rw0 x := Option.some.inj h1
  have h3 : y.id = x.id := congrArg Prod.fst h2
  have h4 : y.nx = x.nx := congrArg Prod.snd h2
  have := h.2 i e y he hy
  rw [← h3, ← h4]; exact this
theorem asc_ofW {α : Type} {f : α → α → Bool} : ∀ l : List α, l.Pairwise (fun a b => f a b = true) → ascB f l = true
 | [], _ => rfl
 | [a], _ => rfl
 | a :: b :: t, h => by
  have h1 := List.pairwise_cons.1 h
  rw [ascB, Bool.and_eq_true]
  exact ⟨h1.1 b (by simp), asc_ofW (b :: t) h1.2⟩
theorem asc_pairT : ∀ E : List Ed, ascB ltE E = true → E.Pairwise (fun x y => x.i < y.i)
 | [], _ => List.Pairwise.nil
 | [a], _ => List.pairwise_singleton _ _
 | a :: b :: t, h => by
  rw [ascB, Bool.and_eq_true] at h
  have ih := asc_pairT (b :: t) h.2
  have hab : a.i < b.i := of_decide_eq_true h.1
  refine List.pairwise_cons.2 ⟨fun y hy => ?_, ih⟩
  rcases List.mem_cons.1 hy with rfl | hy
  ·exact hab
  ·have := (List.pairwise_cons.1 ih).1 y hy; omega
theorem ids_inT {R : List Rt} {L0 : List Lk} (hok : okT R L0 = true) {y : Int} (hy : y ∈ ids R) : 1 ≤ y ∧ y ≤ 99 := by
 obtain ⟨r, hr, rfl⟩ := List.mem_map.1 hy
 have := List.any_eq_false.1 (okT_all hok).id r hr
 unfold wrId at this
 simpa using this
theorem tab_valid {R : List Rt} {L0 : List Lk} {ro s n : Int} {E : List Ed} {M : List Rw} (hB : BldM R L0 ro E M) (hok : okT R L0 = true) (hp : vPl s n E = true) (hro : ro ∈ ids R) : ckT ro s n M = 0 := by
 have hv := hp
 unfold vPl at hv
 simp only [Bool.and_eq_true, Bool.not_eq_true', decide_eq_true_eq, Bool.or_eq_true] at hv
 obtain ⟨⟨⟨⟨⟨v1, v2⟩, v3⟩, v4⟩, v5⟩, -⟩ := hv
 have hat : ∀ x ∈ M, ∃ e ∈ E, x.id = e.i ∧ NxB R L0 ro e.r x.nx := fun x hx => by
  obtain ⟨i, hi, rfl⟩ := List.getElem_of_mem hx
  have hi2 : i < E.length := by have := hB.1; omega
  exact ⟨E[i], List.getElem_mem hi2, hB.2 i E[i] M[i] (List.getElem?_eq_getElem hi2) (List.getElem?_eq_getElem hi)⟩
 have hE : ∀ e ∈ E, 1 ≤ e.i ∧ e.i ≤ 256 := fun e he => by
  have := List.any_eq_false.1 v4 e he
  unfold wrE inV at this
  simp only [Bool.not_eq_true, Bool.not_eq_false', Bool.and_eq_true, decide_eq_true_eq] at this
  exact this.2
 have hro2 := ids_inT hok hro
 have hnd : ∀ x ∈ M, x.nx.length ≤ 24 := fun x hx => by
  obtain ⟨e, he, -, h2⟩ := hat x hx
  obtain ⟨p1, p2, -⟩ := h2.ok hok hro
  have := nodup_leH x.nx (ids R) (p1.imp (fun h => by omega)) p2
  rw [ids_len] at this
  have := (okT_len hok).1
  omega
 have c1 : hdT ro s n M = false := by
  unfold hdT
  rw [Bool.not_eq_false']
  simp only [Bool.and_eq_true, Bool.or_eq_true, decide_eq_true_eq]
  refine ⟨⟨by unfold inV; simpa using hro2, v1⟩, ?_⟩
  rcases v2 with v2 | v2
  ·exact Or.inl v2
  ·exact Or.inr ⟨v2.1, by rw [hB.1]; exact v2.2⟩
 have c2 : M.any wrW = false := List.any_eq_false.2 fun x hx => by
  obtain ⟨e, he, h1, h2⟩ := hat x hx
  unfold wrW
  simp only [Bool.not_eq_true, Bool.or_eq_false_iff, Bool.not_eq_false']
  refine ⟨by unfold inV; have := hE e he; rw [h1]; simpa using this, List.any_eq_false.2 fun z hz => ?_⟩
  have := ids_inT hok ((h2.ok hok hro).2.1 z hz)
  unfold inV
  simpa using this
 have c4 : M.any lgW = false := List.any_eq_false.2 fun x hx => by
  unfold lgW
  have := hnd x hx
  simp only [decide_eq_true_eq]
  omega
 have c5 : ascB ltW M = true := by
  refine asc_ofW M (List.pairwise_iff_getElem.2 fun i j hi hj hij => ?_)
  have hi2 : i < E.length := by have := hB.1; omega
  have hj2 : j < E.length := by have := hB.1; omega
  have h1 := (hB.2 i E[i] M[i] (List.getElem?_eq_getElem hi2) (List.getElem?_eq_getElem hi)).1
  have h2 := (hB.2 j E[j] M[j] (List.getElem?_eq_getElem hj2) (List.getElem?_eq_getElem hj)).1
  have h3 := List.pairwise_iff_getElem.1 (asc_pairT E v5) i j hi2 hj2 hij
  unfold ltW
  simp only [decide_eq_true_eq]
  omega
 have c6 : M.any dsW = false := List.any_eq_false.2 fun x hx => by
  obtain ⟨e, he, -, h2⟩ := hat x hx
  unfold dsW
  have : ascB ltI x.nx = true := asc_ofW x.nx ((h2.ok hok hro).1.imp (fun h => by unfold ltI; simpa using h))
  rw [this]; decide
 have c7 : M.any (cfW ro) = false := List.any_eq_false.2 fun x hx => by
  obtain ⟨e, he, -, h2⟩ := hat x hx
  unfold cfW
  simp only [Bool.and_eq_true, decide_eq_true_eq, List.any_eq_true, not_and, not_exists]
  exact fun h1 z hz h3 => (h2.ok hok hro).2.2 h1 (h3 ▸ hz)
 have c3 : M.length ≤ 256 := by have := hB.1; omega
 unfold ckT
 rw [c1, c2, c4, c5, c6, c7]
 simp; omega
theorem all_valid {R : List Rt} {L0 : List Lk} {s n : Int} {E : List Ed} {Ts : List TbS} (h : AllM R L0 s n E R Ts) (hok : okT R L0 = true) (hp : vPl s n E = true) {x : TbS} (hx : x ∈ Ts) : x.s = s ∧ x.n = n ∧ x.r ∈ ids R ∧ (∃ y ∈ R, y.cap = true ∧ y.id = x.r) ∧ BldM R L0 x.r E x.L := by
 have h1 : x.r ∈ Ts.map (·.r) := List.mem_map.2 ⟨x, hx, rfl⟩
 rw [h.1] at h1
 obtain ⟨y, hy, he⟩ := List.mem_map.1 h1
 obtain ⟨hy1, hy2⟩ := List.mem_filter.1 hy
 obtain ⟨h2, h3, h4⟩ := h.2 x hx
 exact ⟨h2, h3, List.mem_map.2 ⟨y, hy1, he⟩, ⟨y, hy1, hy2, he⟩, h4⟩
theorem chk_idsT {R R0 : List Rt} {L : List Lk} (h : R.map (·.id) = R0.map (·.id)) : chk R L = chk R0 L := by
 have h1 : R.length = R0.length := by have := congrArg List.length h; simpa using this
 have h2 : ∀ R : List Rt, R.any wrId = (R.map (·.id)).any (fun x => !decide (1 ≤ x ∧ x ≤ 99)) := fun R => by rw [List.any_map]; rfl
 have h3 : ∀ R : List Rt, ascB ltR R = ascB (fun x y : Int => decide (x < y)) (R.map (·.id)) := by
  intro R
  induction R with
  | nil => rfl
  | cons a t ih =>
   cases t with
   | nil => rfl
   | cons b t => rw [List.map_cons, List.map_cons, ascB, ascB, ih]; rfl
 have h4 : ∀ x, hasR R x = hasR R0 x := fun x => by
  have e : ∀ R : List Rt, hasR R x = (R.map (·.id)).any (fun y => decide (y = x)) := fun R => by unfold hasR; rw [List.any_map]; rfl
  rw [e, e, h]
 have h5 : unk R = unk R0 := by funext l; unfold unk; rw [h4, h4]
 unfold chk
 rw [h1, h2, h2, h3, h3, h, h5]
end Go.Proofs.YtpogblengagpaaaGreatDoor

/- The tape's For: what is known of its packet. -/
namespace Go.Proofs.YtpogblengagpaaaGreatDoor
set_option maxRecDepth 100000
open Go.RowKit Bs
structure ForOk (s n : Int) (Q : Pk) : Prop where
 v : vpk Q = true
 mode : Q.mode = 1
 sub : Q.sub = s
 len : Q.len = n
 wf : Q.Wf
theorem vb_or {a b : Nat} {n : Int} (h : vb a n = true) (k : vb b n = true) : vb (a ||| b) n = true := by
 unfold vb at h k ⊢
 simp only [Bool.and_eq_true, beq_iff_eq] at h k ⊢
 refine ⟨h.1, ?_⟩
 rw [Nat.and_or_distrib_right, h.2, k.2]
 rfl
theorem vb_zero {n : Int} (h : vl n = true) : vb 0 n = true := by
 unfold vb
 rw [h, Nat.zero_and]
 rfl
theorem vb_pl {id n : Int} (h : plOk id n = true) : 0 ≤ plB id n ∧ plB id n < 64 ∧ vb (b2 (plB id n).toNat) n = true := by
 obtain ⟨hl, h1, h2⟩ := pl_fields h
 have hn : 0 < n := by omega
 have e : plB id n = (id - 1) % n := by unfold plB; rw [if_pos h]
 have h3 : 0 ≤ plB id n := by rw [e]; exact Int.emod_nonneg _ (by omega)
 have h4 : plB id n < n := by rw [e]; exact Int.emod_lt_of_pos _ hn
 refine ⟨h3, by omega, ?_⟩
 obtain ⟨k, hk⟩ := Int.eq_ofNat_of_zero_le h3
 rw [hk] at h4 ⊢
 rw [Int.toNat_natCast]
 unfold vb
 rcases hl with rfl | rfl | rfl | rfl
 ·rw [show vl 8 = true by decide, show full 8 = 255 from full_val.1]
  have : k < 8 := by omega
  clear hk h4 e h3 hn
  revert k
  decide
 ·rw [show vl 16 = true by decide, show full 16 = 65535 from full_val.2.1]
  have : k < 16 := by omega
  clear hk h4 e h3 hn
  revert k
  decide
 ·rw [show vl 32 = true by decide, show full 32 = 4294967295 from full_val.2.2.1]
  have : k < 32 := by omega
  clear hk h4 e h3 hn
  revert k
  decide
 ·rw [show vl 64 = true by decide, show full 64 = 18446744073709551615 from full_val.2.2.2]
  simp
theorem ForOk.bits {s n : Int} {Q : Pk} (h : ForOk s n Q) {b : Nat} (hu : U64 b) (hb : vb b n = true) : ForOk s n { Q with bits := b } := by
 have hw := h.wf
 refine ⟨?_, h.mode, h.sub, h.len, ⟨hw.mode, hw.sub, hw.set, hw.len, hw.ttl, hw.ent, hw.ing, hw.pro, hu, hw.pay⟩⟩
 have hv := h.v
 unfold vpk at hv ⊢
 simp only [decide_eq_true_eq] at hv ⊢
 have hl := h.len
 exact ⟨hv.1, hv.2.1, hv.2.2.1, hv.2.2.2.1, hv.2.2.2.2.1, hv.2.2.2.2.2.1, hv.2.2.2.2.2.2.1, hv.2.2.2.2.2.2.2.1, by rw [hl]; exact hb⟩
theorem ForOk.set_ {s n : Int} {Q : Pk} (h : ForOk s n Q) {x : Int} (hx : 0 ≤ x ∧ x ≤ 31) : ForOk s n { Q with set := x } := by
 have hw := h.wf
 refine ⟨?_, h.mode, h.sub, h.len, ⟨hw.mode, hw.sub, by show I64 x; unfold I64; omega, hw.len, hw.ttl, hw.ent, hw.ing, hw.pro, hw.bits, hw.pay⟩⟩
 have hv := h.v
 unfold vpk at hv ⊢
 simp only [decide_eq_true_eq] at hv ⊢
 exact ⟨hv.1, hv.2.1, hx, hv.2.2.2⟩
theorem ForOk.ttl_ {s n : Int} {Q : Pk} (h : ForOk s n Q) {x : Int} (hx : 0 ≤ x ∧ x ≤ 63) : ForOk s n { Q with ttl := x } := by
 have hw := h.wf
 refine ⟨?_, h.mode, h.sub, h.len, ⟨hw.mode, hw.sub, hw.set, hw.len, by show I64 x; unfold I64; omega, hw.ent, hw.ing, hw.pro, hw.bits, hw.pay⟩⟩
 have hv := h.v
 unfold vpk at hv ⊢
 simp only [decide_eq_true_eq] at hv ⊢
 exact ⟨hv.1, hv.2.1, hv.2.2.1, hx, hv.2.2.2.2⟩
theorem forOk_start {s n : Int} {Q : Pk} (hv : vpk Q = true) (hw : Q.Wf) (hs : 0 ≤ s ∧ s ≤ 7) (hn : vl n = true) : ForOk s n { Q with mode := 1, sub := s, len := n, set := 0, bits := 0 } := by
 have hl : 0 ≤ n ∧ n ≤ 64 := by rcases vl_cases hn with rfl | rfl | rfl | rfl <;> omega
 refine ⟨?_, rfl, rfl, rfl, ⟨by show I64 1; unfold I64; omega, by show I64 s; unfold I64; omega, by show I64 0; unfold I64; omega, by show I64 n; unfold I64; omega, hw.ttl, hw.ent, hw.ing, hw.pro, u64_zero, hw.pay⟩⟩
 unfold vpk at hv ⊢
 simp only [decide_eq_true_eq] at hv ⊢
 exact ⟨by omega, hs, by omega, hv.2.2.2.1, hv.2.2.2.2.1, hv.2.2.2.2.2.1, hv.2.2.2.2.2.2.1, hv.2.2.2.2.2.2.2.1, vb_zero hn⟩
theorem plS_inF {id n : Int} : 0 ≤ plS id n ∧ plS id n ≤ 31 := by
 unfold plS
 split
 ·rename_i h
  obtain ⟨hl, h1, h2⟩ := pl_fields h
  rw [Int.tdiv_eq_ediv_of_nonneg (by omega)]
  rcases hl with rfl | rfl | rfl | rfl <;> omega
 ·omega
end Go.Proofs.YtpogblengagpaaaGreatDoor

/- The tape's packets, also with a mistake. -/
namespace Go.Proofs.YtpogblengagpaaaGreatDoor
set_option maxRecDepth 100000
open Go.RowKit Bs
def AnyPacketPost (a : Nat) (w : World) (e : Ending) (w' : World) : Prop := ∃ P : Pk, e = .returned P.val ∧ P.Wf ∧ P.pay.size ≤ 100 ∧ St a w w'
structure TK (a : Nat) (W : World) (B : Nat) (P : Pk) (w : World) : Prop where
 pb : w.heap[B]? = some (.cells (pcells P) 28 (0, 0))
 rb : w.heap[W.heap.size]? = some (.cells zpk 28 (0, 0))
 st : St a W w
 wf : P.Wf
 sm : P.pay.size ≤ 100
section
variable {a B : Nat} {W w w1 : World} {P P' : Pk}
theorem TK.tape (H : TK a W B P w) (ha : a < W.heap.size) (hB : W.heap.size < B) (g : St a w w1) : TK a W B P w1 :=
 ⟨kept_row H.pb g.1 (fun e => by have := Option.some.inj e; omega), kept_row H.rb g.1 (fun e => by have := Option.some.inj e; omega), H.st.trans g, H.wf, H.sm⟩
theorem TK.turn (H : TK a W B P w) (ha : a < W.heap.size) (hB : W.heap.size < B) {k : Nat} {v : Value} (h : (pcells P).setIfInBounds k v = pcells P') (hw : P'.Wf) (hs : P'.pay.size ≤ 100) : TK a W B P' (w.setCell ⟨B, k, none⟩ v) := by
 have j := grown_setCell w ⟨B, k, none⟩ v
 refine ⟨?_, kept_row H.rb j (fun e => by have : W.heap.size = B := Option.some.inj e; omega), H.st.store (b := B) j (by omega) ha, hw, hs⟩
 rw [← h]
 exact heap_setCell_same w _ k _ _ _ H.pb
theorem TK.at_mode (H : TK a W B P w) (ha : a < W.heap.size) (hB : W.heap.size < B) {x : Int} (hx : I64 x) : TK a W B { P with mode := x } (w.setCell ⟨B, 0, none⟩ (.int .i64 x)) :=
 H.turn ha hB rfl ⟨hx, H.wf.sub, H.wf.set, H.wf.len, H.wf.ttl, H.wf.ent, H.wf.ing, H.wf.pro, H.wf.bits, H.wf.pay⟩ H.sm
theorem TK.at_sub (H : TK a W B P w) (ha : a < W.heap.size) (hB : W.heap.size < B) {x : Int} (hx : I64 x) : TK a W B { P with sub := x } (w.setCell ⟨B, 1, none⟩ (.int .i64 x)) :=
 H.turn ha hB rfl ⟨H.wf.mode, hx, H.wf.set, H.wf.len, H.wf.ttl, H.wf.ent, H.wf.ing, H.wf.pro, H.wf.bits, H.wf.pay⟩ H.sm
theorem TK.at_set (H : TK a W B P w) (ha : a < W.heap.size) (hB : W.heap.size < B) {x : Int} (hx : I64 x) : TK a W B { P with set := x } (w.setCell ⟨B, 2, none⟩ (.int .i64 x)) :=
 H.turn ha hB rfl ⟨H.wf.mode, H.wf.sub, hx, H.wf.len, H.wf.ttl, H.wf.ent, H.wf.ing, H.wf.pro, H.wf.bits, H.wf.pay⟩ H.sm
theorem TK.at_len (H : TK a W B P w) (ha : a < W.heap.size) (hB : W.heap.size < B) {x : Int} (hx : I64 x) : TK a W B { P with len := x } (w.setCell ⟨B, 3, none⟩ (.int .i64 x)) :=
 H.turn ha hB rfl ⟨H.wf.mode, H.wf.sub, H.wf.set, hx, H.wf.ttl, H.wf.ent, H.wf.ing, H.wf.pro, H.wf.bits, H.wf.pay⟩ H.sm
theorem TK.at_ttl (H : TK a W B P w) (ha : a < W.heap.size) (hB : W.heap.size < B) {x : Int} (hx : I64 x) : TK a W B { P with ttl := x } (w.setCell ⟨B, 4, none⟩ (.int .i64 x)) :=
 H.turn ha hB rfl ⟨H.wf.mode, H.wf.sub, H.wf.set, H.wf.len, hx, H.wf.ent, H.wf.ing, H.wf.pro, H.wf.bits, H.wf.pay⟩ H.sm
theorem TK.at_ent (H : TK a W B P w) (ha : a < W.heap.size) (hB : W.heap.size < B) {x : Int} (hx : I64 x) : TK a W B { P with ent := x } (w.setCell ⟨B, 5, none⟩ (.int .i64 x)) :=
 H.turn ha hB rfl ⟨H.wf.mode, H.wf.sub, H.wf.set, H.wf.len, H.wf.ttl, hx, H.wf.ing, H.wf.pro, H.wf.bits, H.wf.pay⟩ H.sm
theorem TK.at_ing (H : TK a W B P w) (ha : a < W.heap.size) (hB : W.heap.size < B) {x : Int} (hx : I64 x) : TK a W B { P with ing := x } (w.setCell ⟨B, 6, none⟩ (.int .i64 x)) :=
 H.turn ha hB rfl ⟨H.wf.mode, H.wf.sub, H.wf.set, H.wf.len, H.wf.ttl, H.wf.ent, hx, H.wf.pro, H.wf.bits, H.wf.pay⟩ H.sm
theorem TK.at_pro (H : TK a W B P w) (ha : a < W.heap.size) (hB : W.heap.size < B) {x : Int} (hx : I64 x) : TK a W B { P with pro := x } (w.setCell ⟨B, 7, none⟩ (.int .i64 x)) :=
 H.turn ha hB rfl ⟨H.wf.mode, H.wf.sub, H.wf.set, H.wf.len, H.wf.ttl, H.wf.ent, H.wf.ing, hx, H.wf.bits, H.wf.pay⟩ H.sm
theorem TK.at_pay (H : TK a W B P w) (ha : a < W.heap.size) (hB : W.heap.size < B) {s : ByteArray} (hs : s.size ≤ 100) : TK a W B { P with pay := s } (w.setCell ⟨B, 9, none⟩ (.string s)) :=
 H.turn ha hB rfl ⟨H.wf.mode, H.wf.sub, H.wf.set, H.wf.len, H.wf.ttl, H.wf.ent, H.wf.ing, H.wf.pro, H.wf.bits, Nat.le_trans hs (by decide)⟩ hs
end
def payLeft (w : World) (B : Nat) : Nat := match w.cell? ⟨B, 9, none⟩ with | some (.string s) => 62 - s.size | _ => 0
set_option maxHeartbeats 3200000 in
theorem packetN_any (a : Nat) (n : Int) (hn : 1 ≤ n) (hn2 : n ≤ 1000) (w : World) (hT : Tp w a) :
  Calls Tryz.prog 9 #[.pointer (some ⟨a, 0, none⟩), .int .i64 n] w fun e w' => AnyPacketPost a w e w' := by
 have ha := hT.lt
 obtain ⟨k1, k2⟩ := one_box w zpk 28
 have HB := Lib.hid k1
 have S0 : St a w (w.alloc (.cells zpk 28)) := ⟨grown_none k2 _, hT.keep k2⟩
 clear k1 k2
 unfold zpk at HB S0
 go_enter Tryz.func9, Tryz.ntmps9
 go_wp2_with fail
 generalize w.alloc _ = wa at *
 change Hid (wa.heap[w.heap.size]? = some (.cells zpk 28 (0, 0))) at HB
 refine (length_any a _ S0.2).mono ?_
 rintro e w1 ⟨len, rfl, hlen, hs1⟩
 have S1 := S0.trans hs1
 go_wp2_with fail
 refine (range_any a 1 3 (by decide) (by decide) (by decide) (by decide) _ S1.2).mono ?_
 rintro e w2 ⟨mode, rfl, hmode, hs2⟩
 go_wp2_with fail
 refine (range_any a 0 7 (by decide) (by decide) (by decide) (by decide) _ hs2.2).mono ?_
 rintro e w3 ⟨sub, rfl, hsub, hs3⟩
 go_wp2_with fail
 refine (pick_any (fun r => 0 ≤ r ∧ r ≤ 31) a _ 0 5 5 (by omega) (by omega) _ (hs3.2.alloc _) (among_list _ w3 a [0, 0, 1, 2, 31] _ _ hs3.2.lt rfl (by decide))).mono ?_
 rintro e w4 ⟨set, rfl, hset, hs4⟩
 go_wp2_with fail
 refine (pick_any (fun r => 0 ≤ r ∧ r ≤ 63) a _ 0 5 5 (by omega) (by omega) _ (hs4.2.alloc _) (among_list _ w4 a [0, 1, 2, 5, 63] _ _ hs4.2.lt rfl (by decide))).mono ?_
 rintro e w5 ⟨ttl, rfl, httl, hs5⟩
 go_wp2_with fail
 refine (next_any a 1024 (by unfold I64; omega) _ hs5.2).mono ?_
 rintro e w6 ⟨ent, rfl, hent, hs6⟩
 go_wp2_with fail
 refine (pick_any (fun r => 0 ≤ r ∧ r ≤ 256) a _ 0 5 5 (by omega) (by omega) _ (hs6.2.alloc _) (among_list _ w6 a [0, 1, 8, 255, 256] _ _ hs6.2.lt rfl (by decide))).mono ?_
 rintro e w7 ⟨ing, rfl, hing, hs7⟩
 go_wp2_with fail
 refine (next_any a 8 (by unfold I64; omega) _ hs7.2).mono ?_
 rintro e w8 ⟨pro, rfl, hpro, hs8⟩
 go_wp2_with fail
 refine (bits_any a len hlen _ hs8.2).mono ?_
 rintro e w9 ⟨bits, rfl, hbu, hbv, hs9⟩
 go_wp2_with fail
 refine (text_any a 6 (by decide) _ hs9.2).mono ?_
 rintro e w10 ⟨pay, rfl, hpay, hs10⟩
 have S' := ((((((((hs1.trans hs2).trans hs3).trans hs4.alloc_left).trans hs5.alloc_left).trans hs6).trans hs7.alloc_left).trans hs8).trans hs9).trans hs10
 have S := Lib.hid (S0.trans S')
 have HR := Lib.hid (kept_row HB.out S'.1 (fun e => by have := Option.some.inj e; omega))
 have hV : Hid (vpk ⟨mode, sub, set, len, ttl, ent, ing, pro, bits, pay⟩ = true ∧ (⟨mode, sub, set, len, ttl, ent, ing, pro, bits, pay⟩ : Pk).Wf) := by
  have r1 := hmode.1
  have r2 := hmode.2.1 (by decide)
  have r3 := hsub.1
  have r4 := hsub.2.1 (by decide)
  have r5 := hent.1
  have r6 := hent.2.1 (by decide)
  have r7 := hpro.1
  have r8 := hpro.2.1 (by decide)
  refine Lib.hid ⟨decide_eq_true ⟨⟨r1, r2⟩, ⟨r3, r4⟩, hset, httl, ⟨r5, by show ent ≤ 1023; omega⟩, hing, ⟨r7, by show pro ≤ 7; omega⟩, Nat.le_trans hpay (by decide), hbv⟩, ?_⟩
  have hl : I64 len := by rcases vl_cases hlen with h | h | h | h <;> rw [h] <;> (unfold I64; decide)
  obtain ⟨q1, q2⟩ := hset
  obtain ⟨q3, q4⟩ := httl
  obtain ⟨q5, q6⟩ := hing
  exact ⟨i64_small (x := mode) (by omega) (by omega), i64_small (x := sub) (by omega) (by omega), i64_small (x := set) (by omega) (by omega), hl, i64_small (x := ttl) (by omega) (by omega), i64_small (x := ent) (by omega) (by omega), i64_small (x := ing) (by omega) (by omega), i64_small (x := pro) (by omega) (by omega), hbu, Nat.le_trans hpay (by decide)⟩
 have g11 := World.grownBy_alloc w10 (.cells #[.int .i64 mode, .int .i64 sub, .int .i64 set, .int .i64 len, .int .i64 ttl, .int .i64 ent, .int .i64 ing, .int .i64 pro, .int .u64 (bits : Int), .string pay] 28) none
 have HR2 := Lib.hid (kept_row HR.out g11 (by simp))
 have S2 := Lib.hid (S.out.none_ g11)
 have K0 : Hid (TK a w w10.heap.size ⟨mode, sub, set, len, ttl, ent, ing, pro, bits, pay⟩ (w10.alloc (.cells #[.int .i64 mode, .int .i64 sub, .int .i64 set, .int .i64 len, .int .i64 ttl, .int .i64 ent, .int .i64 ing, .int .i64 pro, .int .u64 (bits : Int), .string pay] 28))) := Lib.hid ⟨heap_alloc_new w10 _, HR2.out, S2.out, hV.out.2, Nat.le_trans hpay (by decide)⟩
 have hB : w.heap.size < w10.heap.size := by have h := S.out.1.size; have h2 := World.lt_of_row' HR.out; omega
 have HBB := Lib.hid hB
 have HPY := Lib.hid hpay
 clear S' S HR HR2 S2 hV hB HB S0 S1 hs1 hs2 hs3 hs4 hs5 hs6 hs7 hs8 hs9 hs10 hmode hsub hset httl hent hing hpro hbu hbv hpay hlen g11
 go_upto_region 3 with fail
 generalize w10.alloc (.cells #[.int .i64 mode, .int .i64 sub, .int .i64 set, .int .i64 len, .int .i64 ttl, .int .i64 ent, .int .i64 ing, .int .i64 pro, .int .u64 (bits : Int), .string pay] 28) = w11 at *
 have hT11 := K0.out.st.2
 go_wp2_with fail
 refine (one_any a n (by unfold I64; omega) _ hT11).mono ?_
 rintro e w12 ⟨b, rfl, hs⟩
 have K1 := Lib.hid (K0.out.tape ha HBB.out hs)
 clear K0 hT11 hs
 go_upto_if 39 with fail
 go_cut [] from 40 to 96 (fun wx => ∃ P, Hid (TK a w w10.heap.size P wx))
 case first =>
  cases b with
  | false =>
   go_wp2_with fail
   go_meet
   exact ⟨_, K1⟩
  | true =>
   have hT12 := K1.out.st.2
   go_wp2_with fail
   refine (next_any a 9 (by unfold I64; omega) _ hT12).mono ?_
   rintro e w13 ⟨r, rfl, hr, hs⟩
   have K2 := Lib.hid (K1.out.tape ha HBB.out hs)
   clear K1 hT12 hs
   have hr9 : 0 ≤ r ∧ r < 9 := ⟨hr.1, hr.2.1 (by decide)⟩
   obtain ⟨p0, p1, p2, p3, p4, p5, p6, p7, p8, p9⟩ := p_facts K2.out.pb
   have hT13 := K2.out.st.2
   rcases (show r = 0 ∨ r = 1 ∨ r = 2 ∨ r = 3 ∨ r = 4 ∨ r = 5 ∨ r = 6 ∨ r = 7 ∨ r = 8 by omega) with rfl | rfl | rfl | rfl | rfl | rfl | rfl | rfl | rfl
   ·go_wp2_with fail
    refine (wild_any a _ hT13).mono ?_
    rintro e w14 ⟨x, rfl, hx, hs⟩
    have K3 := Lib.hid (K2.out.tape ha HBB.out hs)
    have c0 : w14.cell? ⟨w10.heap.size, 0, none⟩ = some (.int .i64 mode) := cell_of_row _ _ _ _ _ _ K3.out.pb
    have c1 := frozen_of_row _ _ 0 _ _ K3.out.pb
    have K4 := Lib.hid (K3.out.at_mode ha HBB.out hx)
    clear K2 K3 hs p0 p1 p2 p3 p4 p5 p6 p7 p8 p9
    go_wp2_with fail
    go_meet
    exact ⟨_, K4⟩
   ·go_wp2_with fail
    refine (wild_any a _ hT13).mono ?_
    rintro e w14 ⟨x, rfl, hx, hs⟩
    have K3 := Lib.hid (K2.out.tape ha HBB.out hs)
    have c0 : w14.cell? ⟨w10.heap.size, 1, none⟩ = some (.int .i64 sub) := cell_of_row _ _ _ _ _ _ K3.out.pb
    have c1 := frozen_of_row _ _ 1 _ _ K3.out.pb
    have K4 := Lib.hid (K3.out.at_sub ha HBB.out hx)
    clear K2 K3 hs p0 p1 p2 p3 p4 p5 p6 p7 p8 p9
    go_wp2_with fail
    go_meet
    exact ⟨_, K4⟩
   ·go_wp2_with fail
    refine (wild_any a _ hT13).mono ?_
    rintro e w14 ⟨x, rfl, hx, hs⟩
    have K3 := Lib.hid (K2.out.tape ha HBB.out hs)
    have c0 : w14.cell? ⟨w10.heap.size, 2, none⟩ = some (.int .i64 set) := cell_of_row _ _ _ _ _ _ K3.out.pb
    have c1 := frozen_of_row _ _ 2 _ _ K3.out.pb
    have K4 := Lib.hid (K3.out.at_set ha HBB.out hx)
    clear K2 K3 hs p0 p1 p2 p3 p4 p5 p6 p7 p8 p9
    go_wp2_with fail
    go_meet
    exact ⟨_, K4⟩
   ·go_wp2_with fail
    refine (pick_any (fun r => I64 r) a _ 0 8 8 (by omega) (by omega) _ (hT13.alloc _) (among_list _ w13 a [0, 8, 16, 24, 63, 64, 65, -8] _ _ hT13.lt rfl (by unfold I64; decide))).mono ?_
    rintro e w14 ⟨x, rfl, hx, hs0⟩
    have hs := hs0.alloc_left
    have K3 := Lib.hid (K2.out.tape ha HBB.out hs)
    have c0 : w14.cell? ⟨w10.heap.size, 3, none⟩ = some (.int .i64 len) := cell_of_row _ _ _ _ _ _ K3.out.pb
    have c1 := frozen_of_row _ _ 3 _ _ K3.out.pb
    have K4 := Lib.hid (K3.out.at_len ha HBB.out hx)
    clear K2 K3 hs hs0 p0 p1 p2 p3 p4 p5 p6 p7 p8 p9
    go_wp2_with fail
    go_meet
    exact ⟨_, K4⟩
   ·go_wp2_with fail
    refine (wild_any a _ hT13).mono ?_
    rintro e w14 ⟨x, rfl, hx, hs⟩
    have K3 := Lib.hid (K2.out.tape ha HBB.out hs)
    have c0 : w14.cell? ⟨w10.heap.size, 4, none⟩ = some (.int .i64 ttl) := cell_of_row _ _ _ _ _ _ K3.out.pb
    have c1 := frozen_of_row _ _ 4 _ _ K3.out.pb
    have K4 := Lib.hid (K3.out.at_ttl ha HBB.out hx)
    clear K2 K3 hs p0 p1 p2 p3 p4 p5 p6 p7 p8 p9
    go_wp2_with fail
    go_meet
    exact ⟨_, K4⟩
   ·go_wp2_with fail
    refine (wild_any a _ hT13).mono ?_
    rintro e w14 ⟨x, rfl, hx, hs⟩
    have K3 := Lib.hid (K2.out.tape ha HBB.out hs)
    have c0 : w14.cell? ⟨w10.heap.size, 5, none⟩ = some (.int .i64 ent) := cell_of_row _ _ _ _ _ _ K3.out.pb
    have c1 := frozen_of_row _ _ 5 _ _ K3.out.pb
    have K4 := Lib.hid (K3.out.at_ent ha HBB.out hx)
    clear K2 K3 hs p0 p1 p2 p3 p4 p5 p6 p7 p8 p9
    go_wp2_with fail
    go_meet
    exact ⟨_, K4⟩
   ·go_wp2_with fail
    refine (wild_any a _ hT13).mono ?_
    rintro e w14 ⟨x, rfl, hx, hs⟩
    have K3 := Lib.hid (K2.out.tape ha HBB.out hs)
    have c0 : w14.cell? ⟨w10.heap.size, 6, none⟩ = some (.int .i64 ing) := cell_of_row _ _ _ _ _ _ K3.out.pb
    have c1 := frozen_of_row _ _ 6 _ _ K3.out.pb
    have K4 := Lib.hid (K3.out.at_ing ha HBB.out hx)
    clear K2 K3 hs p0 p1 p2 p3 p4 p5 p6 p7 p8 p9
    go_wp2_with fail
    go_meet
    exact ⟨_, K4⟩
   ·go_wp2_with fail
    refine (wild_any a _ hT13).mono ?_
    rintro e w14 ⟨x, rfl, hx, hs⟩
    have K3 := Lib.hid (K2.out.tape ha HBB.out hs)
    have c0 : w14.cell? ⟨w10.heap.size, 7, none⟩ = some (.int .i64 pro) := cell_of_row _ _ _ _ _ _ K3.out.pb
    have c1 := frozen_of_row _ _ 7 _ _ K3.out.pb
    have K4 := Lib.hid (K3.out.at_pro ha HBB.out hx)
    clear K2 K3 hs p0 p1 p2 p3 p4 p5 p6 p7 p8 p9
    go_wp2_with fail
    go_meet
    exact ⟨_, K4⟩
   ·go_wp2_with fail
    go_loopw [44] (fun _ wr => ∃ P : Pk, P.pay.size ≤ 64 ∧ Hid (TK a w w10.heap.size P wr)) (fun _ wr => payLeft wr w10.heap.size)
    case atStart => exact ⟨_, Nat.le_trans HPY.out (by decide), K2⟩
    case round =>
     obtain ⟨P, hP64, HK⟩ := hrel
     clear K2 p0 p1 p2 p3 p4 p5 p6 p7 p8 p9 hT13
     have c9 : wr.cell? ⟨w10.heap.size, 9, none⟩ = some (.string P.pay) := cell_of_row _ _ _ _ _ _ HK.out.pb
     have d9 := frozen_of_row _ _ 9 _ _ HK.out.pb
     by_cases hlt : P.pay.size < 62
     ·have hsz : (P.pay ++ ⟨#[97, 98, 99]⟩ : ByteArray).size = P.pay.size + 3 := by rw [ByteArray.size_append]; rfl
      have K' := HK.out.at_pay ha HBB.out (s := P.pay ++ ⟨#[97, 98, 99]⟩) (by rw [hsz]; omega)
      have c9' : (wr.setCell ⟨w10.heap.size, 9, none⟩ (.string (P.pay ++ ⟨#[97, 98, 99]⟩))).cell? ⟨w10.heap.size, 9, none⟩ = some (.string (P.pay ++ ⟨#[97, 98, 99]⟩)) := cell_of_row _ _ _ _ _ _ K'.pb
      have H9 := Lib.hid (And.intro c9 (And.intro c9' hsz))
      have HK' := Lib.hid K'
      clear c9' hsz K'
      go_wp2_with fail
      go_roundw
      case rel => exact ⟨_, by show (P.pay ++ ⟨#[97, 98, 99]⟩ : ByteArray).size ≤ 64; rw [H9.out.2.2]; omega, HK'⟩
      case measure =>
       unfold payLeft
       rw [H9.out.1, H9.out.2.1]
       show 62 - (P.pay ++ ⟨#[97, 98, 99]⟩ : ByteArray).size < 62 - P.pay.size
       rw [H9.out.2.2]; omega
     ·have hT14 := HK.out.st.2
      go_wp2_with fail
      go_region_law (first
       | (go_simp; go_at_call 32; refine (text_any a 4 (by decide) _ hT14.drew).mono ?_; rintro e w15 ⟨s, rfl, hs4, hs⟩; have K5 := Lib.hid (HK.out.tape ha HBB.out (w1 := w15) ⟨grown_trans (grown_drew (grown_refl wr _)) hs.1, hs.2⟩); have e9 : w15.cell? ⟨w10.heap.size, 9, none⟩ = some (.string P.pay) := cell_of_row _ _ _ _ _ _ K5.out.pb; have f9 := frozen_of_row _ _ 9 _ _ K5.out.pb; have K6 := Lib.hid (K5.out.at_pay ha HBB.out (s := P.pay ++ s) (by rw [ByteArray.size_append]; omega)); have hcat : ¬ 9223372036854775807 < P.pay.size + s.size := (by omega); clear hs))
      all_goals
       clear K5 c9 d9 e9 f9 hcat hs4
       go_wp2_with fail
       go_meet
       exact ⟨_, K6⟩
 case rest =>
  obtain ⟨P, HK⟩ := hcut
  obtain ⟨⟨r0, r1, r2, r3, r4, r5, r6, r7, r8, r9⟩, f0, f1, f2, f3, f4, f5, f6, f7, f8, f9⟩ := zp_cells HK.out.rb
  obtain ⟨p0, p1, p2, p3, p4, p5, p6, p7, p8, p9⟩ := p_facts HK.out.pb
  clear K1
  go_wp2_with fail
  refine bodyPost_ret (res_packet rfl _ _ w.heap.size _ rfl rfl (pput_row _ _ _ _ _ _ _ _ _ _ HK.out.rb)) rfl ?_
  exact ⟨P, rfl, HK.out.wf, HK.out.sm, HK.out.st.store (pput_grown _ w.heap.size _ _ _ _ _ _ _ _ _ _) (Nat.le_refl _) ha⟩
end Go.Proofs.YtpogblengagpaaaGreatDoor

/- A list of three packets that a statement draws, and its members. -/
namespace Go.Proofs.YtpogblengagpaaaGreatDoor
set_option maxRecDepth 100000
open Go.RowKit Bs
theorem ints_keep {w w1 : World} {v : Value} (h : IntsIn w v) (g : w.grownBy w1 none) : IntsIn w1 v := by
 obtain ⟨p, n, c, hv, h1, h2, h3⟩ := h
 refine ⟨p, n, c, hv, h1, h2, fun hn => ?_⟩
 obtain ⟨b, off, hp, hb, hx⟩ := h3 hn
 refine ⟨b, off, hp, Nat.lt_of_lt_of_le hb g.size, fun i hi => ?_⟩
 obtain ⟨x, hx1, hx2⟩ := hx i hi
 exact ⟨x, hx1, g.cell hx2 (by simp)⟩
theorem grown_undrew_some {a : Nat} {w w1 : World} (g : w.drew.grownBy w1 (some a)) : w.grownBy w1 (some a) := ⟨g.os, g.tape, g.output, g.size, g.block⟩
theorem St.tp {a : Nat} {w w1 : World} (h : St a w w1) : Tp w1 a := h.2
theorem St.gr {a : Nat} {w w1 : World} (h : St a w w1) : w.grownBy w1 (some a) := h.1
def AggPost (a : Nat) (w : World) (e : Ending) (w' : World) : Prop := ∃ P : Pk, e = .returned (.agg #[.int .i64 P.mode, .int .i64 P.sub, .int .i64 P.set, .int .i64 P.len, .int .i64 P.ttl, .int .i64 P.ent, .int .i64 P.ing, .int .i64 P.pro, .int .u64 (P.bits : Int), .string P.pay]) ∧ P.Wf ∧ St a w w'
theorem packetN_agg (a : Nat) (n : Int) (hn : 1 ≤ n) (hn2 : n ≤ 1000) (w : World) (hT : Tp w a) :
  Calls Tryz.prog 9 #[.pointer (some ⟨a, 0, none⟩), .int .i64 n] w fun e w' => AggPost a w e w' := by
 refine (packetN_any a n hn hn2 w hT).mono ?_
 rintro e w' ⟨P, rfl, h1, _, h2⟩
 exact ⟨P, rfl, h1, h2⟩
end Go.Proofs.YtpogblengagpaaaGreatDoor
