/- Parts of the proof, packed: ShNst, ShDel, ShStp, ToDfs, ToDfsK, ToDfsW, ToComp, ToComp2, ShCfM, ShCf, ShDst, ShCst. -/
import Derived.Test.YtahafijpcmphaaaGreatQt5
import Derived.WalkMore
import Derived.Test.YtahafijpcmphaaaGreatQt4
import Derived.Deep.AppendLies
import Derived.Test.YtahafijpcmphaaaGreatQt3
import Derived.Deep.LoopGhost
/- shortest.nearest. -/
namespace Go.Proofs.YtahafijpcmphaaaGreat
set_option maxRecDepth 100000
open Go.RowKit Go.Maps Bs
def LeastAt (l : List Int) (g : Int → Int) (i : Nat) : Prop := ∃ r, l[i]? = some r ∧ ∀ x ∈ l, g r ≤ g x
theorem leastq_ex (g : Int → Int) : ∀ l : List Int, l ≠ [] → ∃ r ∈ l, ∀ x ∈ l, g r ≤ g x
 | [], h => absurd rfl h
 | [a], _ => ⟨a, by simp, fun x hx => by rw [List.mem_singleton.1 hx]; exact Int.le_refl _⟩
 | a :: b :: t, _ => by
  obtain ⟨r, hr, hm⟩ := leastq_ex g (b :: t) (by simp)
  rcases Int.le_total (g a) (g r) with h | h
  ·refine ⟨a, by simp, fun x hx => ?_⟩
   rcases List.mem_cons.1 hx with rfl | hx
   ·exact Int.le_refl _
   ·exact Int.le_trans h (hm x hx)
  ·refine ⟨r, List.mem_cons_of_mem _ hr, fun x hx => ?_⟩
   rcases List.mem_cons.1 hx with rfl | hx
   ·exact h
   ·exact hm x hx
def NoneLeast (l : List Int) (g : Int → Int) (k : Nat) : Prop := ∀ j x, j < k → l[j]? = some x → ∃ y ∈ l, g y < g x
theorem NoneLeast.next {l : List Int} {g : Int → Int} {k : Nat} {x y : Int} (h : NoneLeast l g k) (hx : l[k]? = some x) (hy : y ∈ l) (hlt : g y < g x) : NoneLeast l g (k + 1) := fun j z hj hz => by
 rcases Nat.lt_or_ge j k with h1 | h1
 ·exact h j z h1 hz
 ·obtain rfl : j = k := by omega
  rw [hx] at hz
  obtain rfl := Option.some.inj hz
  exact ⟨y, hy, hlt⟩
theorem NoneLeast.all {l : List Int} {g : Int → Int} (h : NoneLeast l g l.length) : l = [] := by
 cases hl : l with
 | nil => rfl
 | cons a t =>
  obtain ⟨r, hr, hm⟩ := leastq_ex g l (by rw [hl]; simp)
  obtain ⟨j, hj, he⟩ := List.mem_iff_getElem.1 hr
  obtain ⟨y, hy, hlt⟩ := h j r hj (by rw [List.getElem?_eq_getElem hj, he])
  have := hm y hy
  omega
def NstPost (l : List Int) (g : Int → Int) (w : World) (e : Ending) (w' : World) : Prop := w = w' ∧ ((l = [] ∧ e = .returned (.tuple #[.int .i64 0, .bool false])) ∨ ∃ i : Nat, LeastAt l g i ∧ e = .returned (.tuple #[.int .i64 (i : Int), .bool true]))
set_option maxHeartbeats 3200000 in
theorem tnst_any (l : List Int) (f : Int → Option Int) (v : Value) (p : Option Addr) (c : Nat) (q q2 : Nat → Prop) (w : World) (hR : Rd w q (.slice p l.length c) (l.map tv)) (hM : MV w q2 v f) (hI : ∀ x ∈ l, I64 x) (hm : l.length ≤ 1000) :
  Calls Tryz.prog 152 #[.slice p l.length c, v] w fun e w' => NstPost l (fun x => (f x).getD 0) w e w' := by
 obtain ⟨g, hg⟩ : ∃ g : Int → Int, (fun x => (f x).getD 0) = g := ⟨_, rfl⟩
 have HL : Hid (∀ x ∈ l, (Instr.lookup 114 v (.int .i64 x) false).run Tryz.prog w = .ok (.int .i64 (g x)) w) := Lib.hid (fun x hx => by rw [← hg]; exact (hM.look (hI x hx)).1)
 have HR := Lib.hid hR
 have HN0 : Hid (NoneLeast l g 0) := Lib.hid (fun j x hj => absurd hj (by omega))
 rw [hg]
 clear hR hM hI hg
 go_enter Tryz.func152, Tryz.ntmps152
 go_wp2_with fail
 go_step3
 go_wp2_with fail
 go_step3
 go_wp2_with fail
 go_loopw [12] (fun a wr => ∃ k : Nat, k ≤ l.length ∧ a = .int .i64 (k : Int) ∧ Hid (NoneLeast l g k) ∧ wr = w) (fun a _ => l.length - (RowKit.intOf a).toNat)
 case atStart => exact ⟨0, Nat.zero_le _, rfl, HN0, rfl⟩
 case round =>
  obtain ⟨k, hk, rfl, HN, rfl⟩ := hrel
  clear HN0
  by_cases hlt : k < l.length
  ·obtain ⟨-, b, off, rfl, -, hc⟩ := rdi_at HR.out (by omega)
   obtain ⟨x, hx⟩ : ∃ x, l[k]? = some x := ⟨_, List.getElem?_eq_getElem hlt⟩
   have d0 := hc k x hx
   have HX := Lib.hid hx
   have HC := Lib.hid hc
   have q0 := HL.out x (List.mem_of_getElem? hx)
   have HJ0 : Hid (∀ j y, j < 0 → l[j]? = some y → g x ≤ g y) := Lib.hid (fun j y hj => absurd hj (by omega))
   clear hc hx
   go_wp2_with fail
   go_loopw [19] (fun a wq => ∃ j : Nat, j ≤ l.length ∧ a = .int .i64 (j : Int) ∧ Hid (∀ i y, i < j → l[i]? = some y → g x ≤ g y) ∧ wq = wr) (fun a _ => l.length - (RowKit.intOf a).toNat)
   case atStart => exact ⟨0, Nat.zero_le _, rfl, HJ0, rfl⟩
   case round =>
    obtain ⟨j, hj, rfl, HJ, rfl⟩ := hrel
    clear HJ0
    by_cases hlt2 : j < l.length
    ·obtain ⟨y, hy⟩ : ∃ y, l[j]? = some y := ⟨_, List.getElem?_eq_getElem hlt2⟩
     have d1 := HC.out j y hy
     have HY := Lib.hid hy
     have q1 := HL.out y (List.mem_of_getElem? hy)
     clear hy
     by_cases hgt : g y < g x
     ·have HN2 := Lib.hid (HN.out.next HX.out (List.mem_of_getElem? HY.out) hgt)
      go_wp2_with fail
      exact ⟨⟨k + 1, by omega, congrArg _ (by omega), HN2, (by first | rfl | trivial)⟩, by simp only [RowKit.intOf]; omega⟩
     ·have HJ2 : Hid (∀ i y, i < j + 1 → l[i]? = some y → g x ≤ g y) := Lib.hid (fun i z hi hz => by
       rcases Nat.lt_or_ge i j with h1 | h1
       ·exact HJ.out i z h1 hz
       ·obtain rfl : i = j := by omega
        rw [HY.out] at hz
        obtain rfl := Option.some.inj hz
        omega)
      go_wp2_with fail
      exact ⟨⟨j + 1, by omega, congrArg _ (by omega), HJ2, (by first | rfl | trivial)⟩, by simp only [RowKit.intOf]; omega⟩
    ·obtain rfl : j = l.length := by omega
     go_wp2_with fail
     rw [Exit.noGoto_ret]
     go_ret2
     exact ⟨rfl, Or.inr ⟨k, ⟨x, HX.out, fun y hy => by
      obtain ⟨i, hi, he⟩ := List.mem_iff_getElem.1 hy
      exact HJ.out i y hi (by rw [List.getElem?_eq_getElem hi, he])⟩, rfl⟩⟩
  ·obtain rfl : k = l.length := by omega
   have HE := Lib.hid HN.out.all
   go_wp2_with fail
   rw [Exit.noGoto_ret]
   go_ret2
   exact ⟨rfl, Or.inl ⟨HE.out, rfl⟩⟩
end Go.Proofs.YtahafijpcmphaaaGreat

/- slices.Delete of one number. -/
namespace Go.Proofs.YtahafijpcmphaaaGreat
set_option maxRecDepth 100000
open Go.RowKit Bs
theorem zero_in : (Builtin.zeroCells (Value.int .i64 0).cells 1).toList = [.int .i64 0] := by kernel_rfl
theorem erase_map (L : List Int) (i : Nat) : (L.eraseIdx i).map tv = (L.map tv).take i ++ (L.map tv).drop (i + 1) := by
 rw [List.eraseIdx_eq_take_drop_succ, List.map_append, List.map_take, List.map_drop]
theorem deli_cells (xs zs : List Value) (N i : Nat) (hx : xs.length = N) (hz : zs.length = 1) (hi : i < N) : (setAt (setAt xs i (xs.drop (i + 1))) (N - 1) zs).take (N - 1) = xs.take i ++ xs.drop (i + 1) := by
 have hd : (xs.drop (i + 1)).length = N - (i + 1) := by rw [List.length_drop, hx]
 have hl1 : (setAt xs i (xs.drop (i + 1))).length = N := by rw [setAt_len, hx]
 refine list_eq ?_ (fun j hj => ?_)
 ·rw [List.length_take, setAt_len, hl1, List.length_append, List.length_take, hd, hx]
  omega
 ·rw [List.length_take, setAt_len, hl1] at hj
  rw [List.getElem?_take_of_lt (by omega), setAt_get _ _ _ _ (by rw [hl1, hz]; omega), if_neg (by omega), setAt_get _ _ _ _ (by rw [hd, hx]; omega)]
  by_cases h1 : j < i
  ·rw [if_neg (by omega), List.getElem?_append_left (by rw [List.length_take, hx]; omega), List.getElem?_take_of_lt h1]
  ·rw [if_pos (by rw [hd]; omega), List.getElem?_append_right (by rw [List.length_take, hx]; omega), List.length_take, hx, Nat.min_eq_left (by omega)]
set_option maxHeartbeats 3200000 in
theorem tdeli_any (L : List Int) (g cap base i : Nat) (w : World) (h : w.ownsRow base 3 1 (.slice (some ⟨g, 0, none⟩) L.length cap) L.length (L.map tv)) (hi : i < L.length) (hm : L.length ≤ 1000) :
  Calls Tryz.prog 153 #[.slice (some ⟨g, 0, none⟩) L.length cap, .int .i64 (i : Int), .int .i64 ((i : Int) + 1)] w fun e w' => ∃ N, N = (L.eraseIdx i).length ∧ e = .returned (.slice (some ⟨g, 0, none⟩) N cap) ∧ w'.ownsRow base 3 1 (.slice (some ⟨g, 0, none⟩) N cap) N ((L.eraseIdx i).map tv) ∧ w.grownBy w' (some g) := by
 obtain ⟨ii, hii, hi0, hi1, hi2⟩ := info_parts info_int
 have hcap : L.length ≤ cap ∧ cap ≤ 9223372036854775807 := by
  obtain ⟨p', c', e, k1, k2⟩ := own_shape h
  injection e with e1 e2 e3
  subst e3
  exact ⟨k1, k2⟩
 obtain ⟨N, hN⟩ : ∃ N, L.length = N := ⟨_, rfl⟩
 obtain ⟨K, hK⟩ : ∃ K, i + (N - (i + 1)) = K := ⟨_, rfl⟩
 have hlf : (L.map tv).length = L.length := List.length_map _
 rw [hN] at h hi hm hcap hlf ⊢
 have HN := Lib.hid (And.intro hN hK)
 have hKN : Hid (K = N - 1 ∧ N - K = 1) := Lib.hid (by omega)
 obtain ⟨xs, hxs⟩ : ∃ xs, L.map tv = xs := ⟨_, rfl⟩
 have HXS := Lib.hid (And.intro hxs (show xs.length = N by rw [← hxs]; exact hlf))
 rw [hxs] at h
 have hdl : (xs.drop (i + 1)).length = N - (i + 1) := by rw [List.length_drop, HXS.out.2]
 have H := Lib.hid h
 obtain ⟨o, HQ, HO⟩ : ∃ o, Hid ((if cap = i + 1 then some (⟨g, 0, none⟩ : Addr) else some ⟨g, (i + 1), none⟩) = some ⟨g, o, none⟩) ∧ (N - (i + 1) = 0 ∨ o = (i + 1)) := by
  by_cases hc : cap = i + 1
  ·exact ⟨0, Lib.hid (by rw [if_pos hc]), Or.inl (by omega)⟩
  ·exact ⟨_, Lib.hid (by rw [if_neg hc]), Or.inr rfl⟩
 -- the append
 have hone : ∀ u ∈ xs, u.oneCell' = true := fun u hu => by
  rw [← hxs] at hu
  obtain ⟨y, -, rfl⟩ := List.mem_map.1 hu
  rfl
 have hrun : ∀ ty, (Builtin.append_ #[22, 22] ty #[.slice (some ⟨g, 0, none⟩) i cap, .slice (some ⟨g, o, none⟩) (N - (i + 1)) (cap - (i + 1))]).run Tryz.prog w.drew = .ok (.slice (some ⟨g, 0, none⟩) (i + (N - (i + 1))) cap) (w.drew.setCells g (0 + i) (xs.drop (i + 1))) := fun ty => by
  have hr := run_append_room_cells (P := Tryz.prog) w.drew 22 ty 3 ii Tryz.underlying22 hii g 0 i cap ⟨g, o, none⟩ (N - (i + 1)) (cap - (i + 1)) (xs.drop (i + 1)) (by rw [hi1, Nat.mul_one]; exact hdl) (fun j u hj => by
   have hjl : j < N - (i + 1) := by rw [← hdl]; exact (List.getElem?_eq_some_iff.1 hj).1
   rw [add_plain, show o = (i + 1) by omega]
   rw [List.getElem?_drop] at hj
   have := h.drew.cells (g := g) rfl _ u hj
   rw [add_plain, Nat.zero_add] at this
   exact this) (fun u hu => hone u (List.mem_of_mem_drop hu)) (by omega) (fun j hj => (own_cellOk h.drew _ (by rw [hi1, hdl] at *; omega)).1) (fun j hj => (own_cellOk h.drew _ (by rw [hi1, hdl] at *; omega)).2)
  rw [hi1, Nat.mul_one] at hr
  exact hr
 obtain ⟨s1, s2⟩ := own_setCells (xs.drop (i + 1)) i w.drew xs h.drew
 have HS1 := Lib.hid (And.intro s1 (grown_trans (grown_drew (grown_refl w (some g))) s2))
 obtain ⟨w1, hw1⟩ : ∃ w1, w1 = w.drew.setCells g i (xs.drop (i + 1)) := ⟨_, rfl⟩
 rw [← hw1] at HS1
 rw [Nat.zero_add, ← hw1, hK] at hrun
 have HRUN := Lib.hid hrun
 have hclr : ∀ ty c, (Builtin.clear_ #[22] ty #[.slice (some ⟨g, K, none⟩) (N - K) c]).run Tryz.prog w1 = .ok (.tuple #[]) (w1.setCells g (K) (Builtin.zeroCells (Value.int .i64 0).cells 1).toList) := fun ty c => by
  rw [hKN.out.2]
  exact run_clear_k Tryz.underlying22 hii w1 ty _ hi0 (by rw [zero_in]; intro v hv; simp at hv; subst hv; rfl) g (K) c (fun j hj => (own_cellOk HS1.out.1 _ (by rw [zero_in] at hj; simp at hj; have := hKN.out; omega)).1) (fun j hj => (own_cellOk HS1.out.1 _ (by rw [zero_in] at hj; simp at hj; have := hKN.out; omega)).2)
 have HCLR := Lib.hid hclr
 obtain ⟨t1, t2⟩ := own_setCells (Builtin.zeroCells (Value.int .i64 0).cells 1).toList (K) w1 _ HS1.out.1
 have HT : Hid ((w1.setCells g (K) (Builtin.zeroCells (Value.int .i64 0).cells 1).toList).ownsRow base 3 1 (.slice (some ⟨g, 0, none⟩) K cap) K ((L.eraseIdx i).map tv) ∧ w.grownBy (w1.setCells g (K) (Builtin.zeroCells (Value.int .i64 0).cells 1).toList) (some g)) := Lib.hid (by
  obtain ⟨ys, hy1, hy2⟩ := own_len t1 K (by have := hKN.out; omega)
  refine ⟨?_, grown_trans HS1.out.2 t2⟩
  have e1 : min N K = K := by have := hKN.out; omega
  have hyl : ys.length = K := by have := hy2.1; omega
  rw [e1, Nat.mul_one, List.take_of_length_le (by omega), hKN.out.1, deli_cells xs _ N i HXS.out.2 (by rw [zero_in]; rfl) hi, ← HXS.out.1, ← erase_map L i] at hy1
  rw [← hy1]
  exact hy2)
 have HL : Hid (K = (L.eraseIdx i).length) := Lib.hid (by rw [List.length_eraseIdx, if_pos (by rw [HN.out.1]; exact hi), HN.out.1]; exact hKN.out.1)
 have n1 : K ≤ cap := by have := hKN.out; omega
 have n2 : (K : Int) ≤ (N : Int) := by have := hKN.out; omega
 have n3 : (N : Int) ≤ (cap : Int) := by omega
 have n4 : ¬ cap - K = 0 := by have := hKN.out; omega
 have n5 : ¬ (i : Int) = (i : Int) + 1 := by omega
 have n6 : i ≤ cap := by omega
 have n7 : (0 : Int) ≤ (i : Int) + 1 := by omega
 have n8 : (i : Int) + 1 ≤ (N : Int) := by omega
 have n9 : (i : Int) ≤ (cap : Int) := by omega
 clear HO hrun hclr s1 s2 t1 t2 hw1 h hone hdl hlf hxs hN hK
 go_enter Tryz.func153, Tryz.ntmps153
 go_upto_region 5 with fail
 refine wp_region_held_drew (S := fun _ => True) (by kernel_rfl) (trivial) (fun hHeld => ?_)
 refine zT (i := 0) (v := ?_) rfl ?_ hHeld ?_
 rotate_left 1
 ·intro u hSu
  go_simp
  first | done | with_reducible rfl
 try simp only [Act.put, zA, zB, zC]
 refine zT (i := 1) (v := ?_) rfl ?_ hHeld ?_
 rotate_left 1
 ·intro u hSu
  go_simp
  first | done | with_reducible rfl
 try simp only [Act.put, zA, zB, zC]
 refine zT (i := 2) (v := ?_) rfl ?_ hHeld ?_
 rotate_left 1
 ·intro u hSu
  go_simp
  first | done | with_reducible rfl
 try simp only [Act.put, zA, zB, zC]
 refine zT (i := 3) (v := ?_) rfl ?_ hHeld ?_
 rotate_left 1
 ·intro u hSu
  go_simp
  first | done | with_reducible rfl
 try simp only [Act.put, zA, zB, zC]
 refine zT (i := 4) (v := ?_) rfl ?_ hHeld ?_
 rotate_left 1
 ·intro u hSu
  go_simp
  first | done | with_reducible rfl
 try simp only [Act.put, zA, zB, zC]
 refine zT (i := 5) (v := (Value.slice (some ⟨g, o, none⟩) (N - (i + 1)) (cap - (i + 1)))) rfl ?_ hHeld ?_
 ·intro u hSu
  go_simp
  rw [HQ.out]
 try simp only [Act.put, zA, zB, zC]
 refine wpAnyH_ready (rs := [6]) (by kernel_rfl) (by simp) ?_
 refine AllReadyH.cons (o := ⟨_, _, _, _, _, _⟩) rfl (fun Kz hK => ?_) AllReadyH.nil
 refine step_append_run rfl _ _ _ _ rfl _ _ rfl rfl (HRUN.out _) ?_
 refine hK.out _ _ (trivial) (fun hH2 => ?_)
 clear hK Kz hHeld
 have hHeld := hH2
 clear hH2
 try simp only [Act.put, zA, zB, zC]
 refine zT (i := 7) (v := ?_) rfl ?_ hHeld ?_
 rotate_left 1
 ·intro u hSu
  go_simp
  first | done | with_reducible rfl
 try simp only [Act.put, zA, zB, zC]
 refine wpAnyH_done (by kernel_rfl) ?_ _
 clear hHeld
 go_wp2_with (refine wpList_clear_run rfl _ 22 rfl _ rfl (HCLR.out _ _) ?_)
 go_wp2_with fail
 go_ret
 exact ⟨K, HL.out, rfl, HT.out⟩
end Go.Proofs.YtahafijpcmphaaaGreat

/- The neighbours with which least walks go on; flipped links. -/
namespace Go.Proofs.YtahafijpcmphaaaGreat
set_option maxRecDepth 100000
def flipL (L : List Lk) : List Lk := L.map fun l => ⟨l.a, l.b, l.cb, l.ca, l.cp⟩
theorem edg_flip {L : List Lk} {u v c : Int} : edg (flipL L) u v c ↔ edg L v u c := by
 unfold edg flipL
 constructor
 ·rintro ⟨m, hm, h⟩
  obtain ⟨l, hl, rfl⟩ := List.mem_map.1 hm
  rcases h with ⟨e1, e2, e3⟩ | ⟨e1, e2, e3⟩
  ·exact ⟨l, hl, .inr ⟨e2, e1, e3⟩⟩
  ·exact ⟨l, hl, .inl ⟨e2, e1, e3⟩⟩
 ·rintro ⟨l, hl, h⟩
  refine ⟨_, List.mem_map.2 ⟨l, hl, rfl⟩, ?_⟩
  rcases h with ⟨e1, e2, e3⟩ | ⟨e1, e2, e3⟩
  ·exact .inr ⟨e2, e1, e3⟩
  ·exact .inl ⟨e2, e1, e3⟩
theorem Pos.flip {L : List Lk} (h : Pos L) : Pos (flipL L) := fun m hm => by
 obtain ⟨l, hl, rfl⟩ := List.mem_map.1 hm
 exact ⟨(h l hl).2, (h l hl).1⟩
theorem Ends.flip {L : List Lk} {V : List Int} (h : Ends L V) : Ends (flipL L) V := fun m hm => by
 obtain ⟨l, hl, rfl⟩ := List.mem_map.1 hm
 exact h l hl
def nextV (L : List Lk) (f : Int → Option Int) (r : Int) : List Int :=
 ((nbD L r).filter fun n => match f n.1 with
  | some x => decide (n.2 + x = (f r).getD 0)
  | none => false).map (·.1)
theorem nbD_fst (L : List Lk) (r : Int) : (nbD L r).map (·.1) = nbL L r := by
 unfold nbD nbL
 rw [List.map_flatMap]
 refine congrArg (fun g => List.flatMap g L) (funext fun l => ?_)
 unfold nb1
 rw [List.map_append]
 by_cases h1 : l.b = r <;> by_cases h2 : l.a = r <;> simp [h1, h2]
theorem next_lt {L : List Lk} (hp : Pos L) {f : Int → Option Int} {r d u : Int} (hr : f r = some d) (hu : u ∈ nextV L f r) : ∃ x c, f u = some x ∧ edg L r u c ∧ c + x = d ∧ x < d := by
 unfold nextV at hu
 obtain ⟨⟨v, c⟩, hm, rfl⟩ := List.mem_map.1 hu
 obtain ⟨h1, h2⟩ := List.mem_filter.1 hm
 simp only at h2 ⊢
 cases hv : f v with
 | none => rw [hv] at h2; cases h2
 | some x =>
  rw [hv, hr] at h2
  have h3 := of_decide_eq_true h2
  have he := nbD_mem.1 h1
  have hc := hp.edg he
  simp only [Option.getD_some] at h3
  exact ⟨x, c, rfl, he, h3, by omega⟩
theorem next_end {L : List Lk} (hp : Pos L) {f : Int → Option Int} (hf0 : ∀ v x, f v = some x → 0 ≤ x) {r : Int} (hr : f r = some 0) : nextV L f r = [] := by
 cases h : nextV L f r with
 | nil => rfl
 | cons u t =>
  obtain ⟨x, c, hx, -, -, hlt⟩ := next_lt hp hr (u := u) (by rw [h]; simp)
  have := hf0 u x hx
  omega
theorem next_none {L : List Lk} (hp : Pos L) {f : Int → Option Int} (hf0 : ∀ v x, f v = some x → 0 ≤ x) {r : Int} (hr : f r = none) : nextV L f r = [] := by
 unfold nextV
 rw [List.filter_eq_nil_iff.2]
 ·rfl
 ·rintro ⟨v, c⟩ hm h
  simp only at h
  cases hv : f v with
  | none => rw [hv] at h; cases h
  | some x =>
   rw [hv, hr] at h
   have h3 := of_decide_eq_true h
   have hc := hp.edg (nbD_mem.1 hm)
   have := hf0 v x hv
   simp only [Option.getD_none] at h3
   omega
end Go.Proofs.YtahafijpcmphaaaGreat

/- topology: what Components' join visits; what memory holds while it runs. -/
namespace Go.Proofs.YtahafijpcmphaaaGreat
set_option maxRecDepth 100000
open Go.RowKit Bs
theorem hasI_app (S T : List Int) (x : Int) : hasI (S ++ T) x = (hasI S x || hasI T x) := by
 unfold hasI
 rw [List.any_append]
def sn (S : List Int) : List Value := (List.range 100).map fun i : Nat => .bool (hasI S (i : Int))
theorem sn_at {S : List Int} {i : Nat} (hi : i < 100) : (sn S)[i]? = some (.bool (hasI S (i : Int))) := by
 unfold sn
 rw [List.getElem?_map, List.getElem?_eq_getElem (by simpa using hi), List.getElem_range]; rfl
theorem sn_snoc {S : List Int} {n : Nat} (hn : n < 100) : (sn S).set n (.bool true) = sn (S ++ [(n : Int)]) := by
 apply List.ext_getElem?
 intro i
 rw [List.getElem?_set]
 have hl : (sn S).length = 100 := by unfold sn; simp
 by_cases hi : i < 100
 ·rw [sn_at hi, sn_at hi, hasI_app]
  have h1 : hasI [(n : Int)] (i : Int) = decide ((n : Int) = (i : Int)) := by unfold hasI; simp
  rw [h1]
  by_cases e : n = i
  ·subst e
   rw [if_pos rfl, if_pos (by omega), decide_eq_true rfl, Bool.or_true]
  ·rw [if_neg e]
   have : decide ((n : Int) = (i : Int)) = false := decide_eq_false (by omega)
   rw [this, Bool.or_false]
 ·have e1 : (sn (S ++ [(n : Int)]))[i]? = none := List.getElem?_eq_none (by unfold sn; simp; omega)
  have e2 : (sn S)[i]? = none := List.getElem?_eq_none (by omega)
  rw [e1, e2, if_neg (by omega)]
structure JF (H : Nat) (w : World) (vc : Value) (w' : World) (vc' : Value) : Prop where
 os : w'.os = w.os
 tape : w'.tape = w.tape
 output : w'.output = w.output
 size : w.heap.size ≤ w'.heap.size
 block : ∀ b, b < w.heap.size → b ≠ H + 1 → b ≠ H + 2 → vc.ownBlock ≠ some b → w'.heap[b]? = w.heap[b]?
 row : vc'.ownBlock = vc.ownBlock ∨ ∃ g, vc'.ownBlock = some g ∧ w.heap.size ≤ g
theorem JF.refl (H : Nat) (w : World) (vc : Value) : JF H w vc w vc := ⟨rfl, rfl, rfl, Nat.le_refl _, fun _ _ _ _ _ => rfl, .inl rfl⟩
theorem JF.trans {H : Nat} {w w1 w2 : World} {v v1 v2 : Value} (h : JF H w v w1 v1) (k : JF H w1 v1 w2 v2) : JF H w v w2 v2 := by
 refine ⟨k.os.trans h.os, k.tape.trans h.tape, k.output.trans h.output, Nat.le_trans h.size k.size, fun b hb h1 h2 h3 => ?_, ?_⟩
 ·refine (k.block b (Nat.lt_of_lt_of_le hb h.size) h1 h2 (fun e => ?_)).trans (h.block b hb h1 h2 h3)
  rcases h.row with hr | ⟨g, hr, hg⟩
  ·exact h3 (hr ▸ e)
  ·rw [hr] at e
   have := Option.some.inj e
   omega
 ·rcases k.row with hr | ⟨g, hr, hg⟩
  ·rw [hr]; exact h.row
  ·exact .inr ⟨g, hr, Nat.le_trans h.size hg⟩
theorem JF.grown {H : Nat} {w w1 : World} (v : Value) (g : w.grownBy w1 none) : JF H w v w1 v := ⟨g.os, g.tape, g.output, g.size, fun b hb _ _ _ => g.block b hb (by simp), .inl rfl⟩
theorem JF.to {H : Nat} {w w1 : World} {v v1 : Value} (h : JF H w v w1 v1) (w0 : World) (g : w0.grownBy w none) (h0 : w0.heap.size ≤ H) (hv : ∀ g, v.ownBlock = some g → H ≤ g) : w0.grownBy w1 none :=
 ⟨h.os.trans g.os, h.tape.trans g.tape, h.output.trans g.output, Nat.le_trans g.size h.size, fun b hb _ => (h.block b (Nat.lt_of_lt_of_le hb g.size) (by omega) (by omega) (fun e => by have := hv b e; omega)).trans (g.block b hb (by simp))⟩
theorem Rd.jf {H : Nat} {w w1 : World} {v v1 x : Value} {q : Nat → Prop} {vs : List Value} (hr : Rd w q x vs) (h : JF H w v w1 v1) (hq : ∀ b, q b → b < w.heap.size → b ≠ H + 1 ∧ b ≠ H + 2 ∧ v.ownBlock ≠ some b) : Rd w1 q x vs := by
 obtain ⟨p, c, hv, hc⟩ := hr
 refine ⟨p, c, hv, fun hne => ?_⟩
 obtain ⟨b, off, hp, hb, hx⟩ := hc hne
 refine ⟨b, off, hp, hb, fun i x hi => ?_⟩
 have hcell := hx i x hi
 have hlt : b < w.heap.size := by
  rcases Nat.lt_or_ge b w.heap.size with h1 | h1
  ·exact h1
  ·unfold World.cell? at hcell
   rw [Array.getElem?_eq_none h1] at hcell
   cases hcell
 obtain ⟨h1, h2, h3⟩ := hq b hb hlt
 rw [World.cell?_of_block (h.block b hlt h1 h2 h3)]
 exact hcell
theorem RdF.jf {H : Nat} {w w1 : World} {v v1 x : Value} {q : Nat → Prop} {n : Nat} {vs : List Value} (hr : RdF w q x n vs) (h : JF H w v w1 v1) (hq : ∀ b, q b → b < w.heap.size → b ≠ H + 1 ∧ b ≠ H + 2 ∧ v.ownBlock ≠ some b) : RdF w1 q x n vs := by
 obtain ⟨p, c, hv, hc⟩ := hr
 refine ⟨p, c, hv, fun hne => ?_⟩
 obtain ⟨b, off, hp, hb, hx⟩ := hc hne
 refine ⟨b, off, hp, hb, fun i x hi => ?_⟩
 have hcell := hx i x hi
 have hlt : b < w.heap.size := by
  rcases Nat.lt_or_ge b w.heap.size with h1 | h1
  ·exact h1
  ·unfold World.cell? at hcell
   rw [Array.getElem?_eq_none h1] at hcell
   cases hcell
 obtain ⟨h1, h2, h3⟩ := hq b hb hlt
 rw [World.cell?_of_block (h.block b hlt h1 h2 h3)]
 exact hcell
end Go.Proofs.YtahafijpcmphaaaGreat

/- empty -/
namespace Go.Proofs.YtahafijpcmphaaaGreat
set_option maxRecDepth 100000
end Go.Proofs.YtahafijpcmphaaaGreat

/- empty -/
namespace Go.Proofs.YtahafijpcmphaaaGreat
set_option maxRecDepth 100000
end Go.Proofs.YtahafijpcmphaaaGreat

/- topology: Components: the mathematics; what memory holds while it runs. -/
namespace Go.Proofs.YtahafijpcmphaaaGreat
set_option maxRecDepth 100000
open Go.RowKit Bs
theorem Rd.lt {w : World} {q : Nat → Prop} {v : Value} {vs : List Value} (h : Rd w q v vs) : Rd w (fun b => q b ∧ b < w.heap.size) v vs := by
 obtain ⟨p, c, hv, hc⟩ := h
 refine ⟨p, c, hv, fun hne => ?_⟩
 obtain ⟨b, off, hp, hb, hx⟩ := hc hne
 refine ⟨b, off, hp, ⟨hb, ?_⟩, hx⟩
 cases vs with
 | nil => exact absurd rfl hne
 | cons x vs =>
  have hcell := hx 0 x rfl
  rcases Nat.lt_or_ge b w.heap.size with h1 | h1
  ·exact h1
  ·unfold World.cell? at hcell
   rw [Array.getElem?_eq_none h1] at hcell
   cases hcell
theorem JF.sort {H : Nat} {w w1 w2 : World} {g n c : Nat} (h : JF H w (.slice none 0 0) w1 (.slice (some ⟨g, 0, none⟩) n c)) (k : w1.grownBy w2 (some g)) : JF H w (.slice none 0 0) w2 (.slice (some ⟨g, 0, none⟩) n c) := by
 have hg : w.heap.size ≤ g := by
  rcases h.row with e | ⟨g', e, hg⟩
  ·cases e
  ·have : g = g' := Option.some.inj e
   omega
 exact ⟨k.os.trans h.os, k.tape.trans h.tape, k.output.trans h.output, Nat.le_trans h.size k.size, fun b hb h1 h2 h3 => (k.block b (Nat.lt_of_lt_of_le hb h.size) (fun e => by have := Option.some.inj e; omega)).trans (h.block b hb h1 h2 h3), h.row⟩
end Go.Proofs.YtahafijpcmphaaaGreat

/- topology: Components: a component is appended; the beginning; a valid topology. -/
namespace Go.Proofs.YtahafijpcmphaaaGreat
set_option maxRecDepth 100000
open Go.RowKit Bs
theorem unk_not {R : List Rt} {L : List Lk} (h : L.any (unk R) = false) : ∀ l ∈ L, hasR R l.a = true ∧ hasR R l.b = true := by
 intro l hl
 have := List.any_eq_false.1 h l hl
 unfold unk at this
 simpa using this
end Go.Proofs.YtahafijpcmphaaaGreat

/- shortest.costsFrom: what its loops keep. -/
namespace Go.Proofs.YtahafijpcmphaaaGreat
set_option maxRecDepth 100000
open Go.RowKit Go.Maps Bs
def ids (R : List Rt) : List Int := R.map (·.id)
theorem ids_has {R : List Rt} {x : Int} : x ∈ ids R ↔ hasR R x = true := by
 unfold ids hasR
 rw [List.any_eq_true, List.mem_map]
 constructor
 ·rintro ⟨r, hr, e⟩; exact ⟨r, hr, decide_eq_true e⟩
 ·rintro ⟨r, hr, e⟩; exact ⟨r, hr, of_decide_eq_true e⟩
structure GOk (R : List Rt) (L : List Lk) : Prop where
 pos : Pos L
 ends : Ends L (ids R)
 le : ∀ l ∈ L, l.ca ≤ 1000 ∧ l.cb ≤ 1000
 len : (ids R).length ≤ 24 ∧ L.length ≤ 60
 rng : ∀ x ∈ ids R, 1 ≤ x ∧ x ≤ 99
theorem okT_g {R : List Rt} {L : List Lk} (h : okT R L = true) : GOk R L := by
 have ho := okT_all h
 have hn : ∀ l ∈ L, (1 ≤ l.ca ∧ l.ca ≤ 1000) ∧ (1 ≤ l.cb ∧ l.cb ≤ 1000) := fun l hl => by
  have := List.any_eq_false.1 ho.nm l hl
  unfold wrNum at this
  simp only [Bool.not_eq_true, Bool.not_eq_false', decide_eq_true_eq] at this
  exact ⟨this.1, this.2.1⟩
 have hu := unk_not ho.un
 refine ⟨fun l hl => ⟨(hn l hl).1.1, (hn l hl).2.1⟩, fun l hl => ⟨ids_has.2 (hu l hl).1, ids_has.2 (hu l hl).2⟩, fun l hl => ⟨(hn l hl).1.2, (hn l hl).2.2⟩, ⟨by unfold ids; rw [List.length_map]; exact ho.l1, ho.l2⟩, fun x hx => hasR_range ho.id (ids_has.1 hx)⟩
theorem GOk.edg {R : List Rt} {L : List Lk} (h : GOk R L) {u v c : Int} (e : edg L u v c) : (1 ≤ c ∧ c ≤ 1000) ∧ (1 ≤ u ∧ u ≤ 99) ∧ 1 ≤ v ∧ v ≤ 99 := by
 refine ⟨⟨h.pos.edg e, ?_⟩, h.rng u (h.ends.edg e).1, h.rng v (h.ends.edg e).2⟩
 obtain ⟨l, hl, ⟨-, -, rfl⟩ | ⟨-, -, rfl⟩⟩ := e
 ·exact (h.le l hl).1
 ·exact (h.le l hl).2
theorem rlx_none {r dr : Int} {o : List Int} {f : Int → Option Int} {n : Int × Int} (hr : f r = some dr) (hn : f n.1 = none) : rlxD r (o, f) n = (o ++ [n.1], putF f n.1 (dr + n.2)) := by
 unfold rlxD
 simp only
 rw [hn, hr]
 rfl
theorem rlx_lt {r dr x : Int} {o : List Int} {f : Int → Option Int} {n : Int × Int} (hr : f r = some dr) (hn : f n.1 = some x) (hlt : dr + n.2 < x) : rlxD r (o, f) n = (o, putF f n.1 (dr + n.2)) := by
 unfold rlxD
 simp only
 rw [hn, hr]
 simp only [Option.getD_some]
 rw [if_pos hlt]
 rfl
theorem rlx_ge {r dr x : Int} {o : List Int} {f : Int → Option Int} {n : Int × Int} (hr : f r = some dr) (hn : f n.1 = some x) (hlt : ¬ dr + n.2 < x) : rlxD r (o, f) n = (o, f) := by
 unfold rlxD
 simp only
 rw [hn, hr]
 simp only [Option.getD_some]
 rw [if_neg hlt]
def Bd (f : Int → Option Int) (m : Int) : Prop := ∀ v d, f v = some d → 0 ≤ d ∧ d ≤ m
theorem Bd.put {f : Int → Option Int} {m x d : Int} (h : Bd f m) (h0 : 0 ≤ d) (h1 : d ≤ m) : Bd (putF f x d) m := fun v e hv => by
 by_cases e1 : v = x
 ·subst e1
  rw [putF_same] at hv
  have := Option.some.inj hv
  omega
 ·rw [putF_other f x d e1] at hv
  exact h v e hv
theorem Bd.mono {f : Int → Option Int} {m n : Int} (h : Bd f m) (hn : m ≤ n) : Bd f n := fun v d hv => by
 have := h v d hv
 omega
structure CostsOf (R : List Rt) (L : List Lk) (s : Int) (f : Int → Option Int) : Prop where
 yes : hasV R L s = true → ∀ v d, f v = some d ↔ IsD L s v d
 no : hasV R L s = false → ∀ v, f v = none
 bd : ∀ v d, f v = some d → (1 ≤ v ∧ v ≤ 99) ∧ 0 ≤ d ∧ d ≤ 100000
def CV (w : World) (q : Nat → Prop) (v : Value) (f : Int → Option Int) (ok : Bool) : Prop :=
 (ok = false ∧ v = .map none ∧ ∀ x, f x = none) ∨ (ok = true ∧ ∃ b n, v = .map (some b) ∧ q b ∧ n ≤ 1000000 ∧ OMp w b n f)
theorem CV.grown {w w' : World} {q : Nat → Prop} {v : Value} {f : Int → Option Int} {ok : Bool} {r : Option Nat} (h : CV w q v f ok) (g : w.grownBy w' r) (hr : ∀ b, q b → some b ≠ r) : CV w' q v f ok := by
 rcases h with h | ⟨e0, b, n, e, hq, hn, h⟩
 ·exact .inl h
 ·exact .inr ⟨e0, b, n, e, hq, hn, h.kept g (hr b hq)⟩
theorem CV.keep {w w' : World} {q : Nat → Prop} {v : Value} {f : Int → Option Int} {ok : Bool} (h : CV w q v f ok) (g : w.grownBy w' none) : CV w' q v f ok := h.grown g (fun _ _ => by simp)
theorem CV.mono {w : World} {q q' : Nat → Prop} {v : Value} {f : Int → Option Int} {ok : Bool} (h : CV w q v f ok) (hq : ∀ b, q b → b < w.heap.size → q' b) : CV w q' v f ok := by
 rcases h with h | ⟨e0, b, n, e, h1, hn, h⟩
 ·exact .inl h
 ·exact .inr ⟨e0, b, n, e, hq b h1 h.lt, hn, h⟩
theorem CV.look {w : World} {q : Nat → Prop} {v : Value} {f : Int → Option Int} {ok : Bool} (h : CV w q v f ok) {x : Int} (hx : I64 x) :
  (Instr.lookup 114 v (.int .i64 x) false).run Tryz.prog w = .ok (.int .i64 ((f x).getD 0)) w ∧ (Instr.lookup 114 v (.int .i64 x) true).run Tryz.prog w = .ok (.tuple #[.int .i64 ((f x).getD 0), .bool (f x).isSome]) w := by
 rcases h with ⟨-, h⟩ | ⟨-, b, n, e, hq, hn, h⟩
 ·exact MV.look (q := q) (.inl h) hx
 ·exact MV.look (.inr ⟨b, n, e, hq, hn, h⟩) hx
theorem look_none (w : World) (x : Int) :
  (Instr.lookup 114 (.map none) (.int .i64 x) false).run Tryz.prog w = .ok (.int .i64 0) w ∧ (Instr.lookup 114 (.map none) (.int .i64 x) true).run Tryz.prog w = .ok (.tuple #[.int .i64 0, .bool false]) w := by
 have hc : ∀ e, (Instr.checkKey e 10000 3 (.int .i64 x)).run Tryz.prog w = .ok () w := fun e => Go.MapKept.run_checkKey (k := .int .i64 x) Tryz.underlying3 (by trivial) e 9999
 have hf : (Instr.findKey 3 (.int .i64 x) []).run Tryz.prog w = .ok none w := Go.MapKept.run_findKey Tryz.underlying3 rfl
 constructor
 ·unfold Instr.lookup
  simp [run_underlying Tryz.underlying114, hc, hf, zeroZ w, Result.andThen]
 ·unfold Instr.lookup
  simp [run_underlying Tryz.underlying114, hc, hf, zeroZ w, Result.andThen]
structure CQ (w : World) (G Bm : Nat) (T : Tg) (o : List Int) (f : Int → Option Int) (vo : Value) (N : Nat) (wr : World) : Prop where
 gb : wr.heap[G]? = some (.cells #[.slice T.pR T.R.length T.cR, .slice T.pL T.L.length T.cL] 45 (0, 0))
 t : TgOk wr (· < Bm) T
 m : OMp wr Bm N f
 o : wr.ownsRow (Bm + 1) 3 1 vo o.length (o.map tv)
 gr : w.grownBy wr none
 lt : w.heap.size ≤ G ∧ G < Bm
theorem CQ.size {w wr : World} {G Bm N : Nat} {T : Tg} {o : List Int} {f : Int → Option Int} {vo : Value} (h : CQ w G Bm T o f vo N wr) : Bm < wr.heap.size := h.m.lt
theorem CQ.row {w wr w' : World} {G Bm N : Nat} {T : Tg} {o o' : List Int} {f : Int → Option Int} {vo vo' : Value} (h : CQ w G Bm T o f vo N wr) (g : wr.grownBy w' vo.ownBlock) (ho : w'.ownsRow (Bm + 1) 3 1 vo' o'.length (o'.map tv)) : CQ w G Bm T o' f vo' N w' := by
 have key : ∀ b, b ≤ Bm → some b ≠ vo.ownBlock := fun b hb e => by
  have := (h.o.lt b e.symm).1
  omega
 have hl := h.lt
 exact ⟨kept_row h.gb g (key G (by omega)), h.t.grown g (fun b hb => key b (by omega)), h.m.kept g (key Bm (Nat.le_refl _)), ho, grown_any h.gr g (fun b hb => key b (by omega)), h.lt⟩
theorem CQ.keep {w wr w' : World} {G Bm N : Nat} {T : Tg} {o : List Int} {f : Int → Option Int} {vo : Value} (h : CQ w G Bm T o f vo N wr) (g : wr.grownBy w' none) : CQ w G Bm T o f vo N w' :=
 h.row (grown_none g _) (h.o.kept g (by cases hv : vo.ownBlock <;> simp))
theorem CQ.put {w wr w' : World} {G Bm N N' : Nat} {T : Tg} {o : List Int} {f f' : Int → Option Int} {vo : Value} (h : CQ w G Bm T o f vo N wr) (g : wr.grownBy w' (some Bm)) (hm : OMp w' Bm N' f') : CQ w G Bm T o f' vo N' w' := by
 have hl := h.lt
 have key : ∀ b, b < Bm → some b ≠ some Bm := fun b hb e => by have := Option.some.inj e; omega
 exact ⟨kept_row h.gb g (key G hl.2), h.t.grown g (fun b hb => key b hb), hm, h.o.kept g (Or.inr (fun e => by have := (h.o.lt Bm e).1; omega)), grown_any h.gr g (fun b hb => key b (by omega)), h.lt⟩
def Apart (vo : Value) (h1 h2 : Nat) : Prop := ∀ g, vo.ownBlock = some g → g < h1 ∨ h2 ≤ g
structure CN (w : World) (G Bm : Nat) (T : Tg) (o : List Int) (f : Int → Option Int) (vo : Value) (N : Nat) (p : Option Addr) (c : Nat) (M : List (Int × Int)) (h1 h2 : Nat) (wr : World) : Prop where
 k : CQ w G Bm T o f vo N wr
 n : RdF wr (fun b => h1 ≤ b ∧ b < h2) (.slice p M.length c) M.length (M.flatMap dsC)
 ap : Apart vo h1 h2
 lt : Bm < h1 ∧ h1 ≤ h2 ∧ h2 ≤ wr.heap.size
theorem CN.keep {w wr w' : World} {G Bm N : Nat} {T : Tg} {o : List Int} {f : Int → Option Int} {vo : Value} {p : Option Addr} {c h1 h2 : Nat} {M : List (Int × Int)} (h : CN w G Bm T o f vo N p c M h1 h2 wr) (g : wr.grownBy w' none) : CN w G Bm T o f vo N p c M h1 h2 w' :=
 ⟨h.k.keep g, h.n.keep g, h.ap, by have := h.lt; have := g.size; omega⟩
theorem CN.put {w wr w' : World} {G Bm N N' : Nat} {T : Tg} {o : List Int} {f f' : Int → Option Int} {vo : Value} {p : Option Addr} {c h1 h2 : Nat} {M : List (Int × Int)} (h : CN w G Bm T o f vo N p c M h1 h2 wr) (g : wr.grownBy w' (some Bm)) (hm : OMp w' Bm N' f') : CN w G Bm T o f' vo N' p c M h1 h2 w' :=
 ⟨h.k.put g hm, h.n.grown g (fun b hb e => by have := Option.some.inj e; have := h.lt; omega), h.ap, by have := h.lt; have := g.size; omega⟩
theorem CN.more {w wr w1 : World} {G Bm N gq capq n : Nat} {T : Tg} {o : List Int} {f : Int → Option Int} {vo : Value} {p : Option Addr} {c h1 h2 : Nat} {M : List (Int × Int)} {ob : Obj} {x : Int} (h : CN w G Bm T o f vo N p c M h1 h2 wr) (hn : n = o.length + 1)
  (hown : w1.ownsRow (Bm + 1) 3 1 (.slice (some ⟨gq, 0, none⟩) n capq) n (o.map tv ++ [.int .i64 x])) (hg : (wr.alloc ob).grownBy w1 vo.ownBlock) (hat : vo.ownBlock = some gq ∨ wr.heap.size ≤ gq) :
  CN w G Bm T (o ++ [x]) f (.slice (some ⟨gq, 0, none⟩) n capq) N p c M h1 h2 w1 ∧ (∀ b o', vo.ownBlock ≠ some b → wr.heap[b]? = some o' → w1.heap[b]? = some o') := by
 have hg2 := grown_trans (World.grownBy_alloc wr ob vo.ownBlock) hg
 subst hn
 refine ⟨⟨h.k.row hg2 (by rw [List.length_append, List.map_append]; exact hown), h.n.grown hg2 (fun b hb e => by have := h.ap b e.symm; omega), fun g hgq => ?_, by have := h.lt; have := hg2.size; omega⟩, fun b o' hb he => kept_row he hg2 (fun e => hb e.symm)⟩
 obtain rfl : gq = g := Option.some.inj hgq
 rcases hat with h3 | h3
 ·exact h.ap gq h3
 ·have := h.lt
  omega
theorem dsn_cells {w : World} {q : Nat → Prop} {p : Option Addr} {n c : Nat} {M : List (Int × Int)} (h : RdF w q (.slice p n c) M.length (M.flatMap dsC)) (hn : 0 < M.length) :
  n = M.length ∧ ∃ b off, p = some ⟨b, off, none⟩ ∧ q b ∧ ∀ i x, M[i]? = some x → w.cell? ⟨b, off + i * 2, none⟩ = some (.int .i64 x.1) ∧ w.cell? ⟨b, off + i * 2 + 1, none⟩ = some (.int .i64 x.2) := by
 obtain ⟨h0, b, off, hp, hq, hc⟩ := RdF.cells (f := dsC) (k := 2) (fun _ => rfl) (by decide) h hn
 exact ⟨h0, b, off, hp, hq, fun i x hi => ⟨hc i x hi 0 _ rfl, hc i x hi 1 _ rfl⟩⟩
end Go.Proofs.YtahafijpcmphaaaGreat

/- shortest.costsFrom. -/
namespace Go.Proofs.YtahafijpcmphaaaGreat
set_option maxRecDepth 100000
open Go.RowKit Go.Maps Bs
def CfPost (R : List Rt) (L : List Lk) (s : Int) (w : World) (e : Ending) (w' : World) : Prop := ∃ f v, e = .returned v ∧ CV w' (w.heap.size ≤ ·) v f (hasV R L s) ∧ CostsOf R L s f ∧ w.grownBy w' none
set_option maxHeartbeats 12800000 in
theorem tcf_any (T : Tg) (s : Int) (q : Nat → Prop) (w : World) (hT : TgOk w q T) (h1 : T.R.length ≤ 1000) (h2 : T.L.length ≤ 1000) :
  Calls Tryz.prog 120 #[.agg #[.slice T.pR T.R.length T.cR, .slice T.pL T.L.length T.cL], .int .i64 s] w fun e w' => CfPost T.R T.L s w e w' := by
 obtain ⟨i0, hi, hz0, hz1, hz2⟩ := info_parts info_int
 obtain ⟨R, L, pR, cR, pL, cL⟩ := T
 simp only at h1 h2 ⊢
 obtain ⟨k1, k2⟩ := tone_box w #[.slice pR R.length cR, .slice pL L.length cL] 45
 have HB := Lib.hid (And.intro k1 (And.intro k2 (hT.old.keep k2)))
 clear k1 k2 hT
 obtain ⟨c0, c1⟩ := row_cells HB.out.1
 have hmm := fun t w => run_makeMap (P := Tryz.prog) t w
 obtain ⟨z, hz⟩ : ∃ z, hasV R L s = z := ⟨_, rfl⟩
 have HZ := Lib.hid hz
 clear hz
 go_enter Tryz.func120, Tryz.ntmps120
 go_wp2_with fail
 refine (thas_any ⟨R, L, pR, cR, pL, cL⟩ s _ _ HB.out.2.2 (by simp only; omega)).mono ?_
 simp only
 rw [HZ.out]
 rintro e w1 ⟨rfl, g1⟩
 have HG1 := Lib.hid g1
 clear g1 c0 c1
 cases z with
 | false =>
  go_wp2_with fail
  go_ret
  exact ⟨fun _ => none, _, rfl, Or.inl ⟨HZ.out, rfl, fun _ => rfl⟩, ⟨fun h => (by rw [HZ.out] at h; cases h), fun _ _ => rfl, fun v d (h : none = some d) => (by cases h)⟩, grown_trans HB.out.2.1 HG1.out⟩
 | true =>
  have hok : okT R L = true := by have := HZ.out; unfold hasV at this; simp only [Bool.and_eq_true] at this; exact this.1
  have hsR : s ∈ ids R := ids_has.2 (by have := HZ.out; unfold hasV at this; simp only [Bool.and_eq_true] at this; exact this.2)
  have HGO := Lib.hid (okT_g hok)
  have hs99 := HGO.out.rng s hsR
  have HS := Lib.hid (And.intro hsR hs99)
  obtain ⟨w3, hput, hm3, hg3⟩ := (OMp.made w1).put (x := s) (d := 0) (by omega) (by unfold I64; omega) (by unfold I64; omega)
  have g13 : w1.grownBy w3 none := grown_any (World.grownBy_alloc w1 (.map #[] 0) none) hg3 (fun b hb e => by have := Option.some.inj e; omega)
  obtain ⟨Bm, hBm⟩ : ∃ Bm, w1.heap.size = Bm := ⟨_, rfl⟩
  have e0 := kept_row HB.out.1 (grown_trans HG1.out g13) (by simp)
  have hlt3 : w.heap.size < Bm := by
   have := HB.out.1
   have h3 := (Array.getElem?_eq_some_iff.1 (kept_row this HG1.out (by simp))).1
   omega
  have hrow := World.ownsRow_lit (base := Bm + 1) (e := 3) (size := 1) w3 #[.int .i64 s] 1 (by have := hm3.lt; omega) (by decide) rfl
  have K0 : Hid (CQ w w.heap.size Bm ⟨R, L, pR, cR, pL, cL⟩ [s] (putF (fun _ => none) s 0) (.slice (some ⟨w3.heap.size, 0, none⟩) 1 1) 1 (w3.alloc (.cells #[.int .i64 s] 3))) := Lib.hid (by
   have ga := World.grownBy_alloc w3 (.cells #[.int .i64 s] 3) none
   refine ⟨kept_row e0 ga (by simp), ((((HB.out.2.2).keep HG1.out).keep g13).keep ga).mono (fun b hb => ?_), by rw [← hBm]; exact hm3.kept ga (by simp), hrow, grown_trans (grown_trans (grown_trans HB.out.2.1 HG1.out) g13) ga, Nat.le_refl _, hlt3⟩
   have : b < w.heap.size := hb
   omega)
  have D0 : Hid (DI L (ids R) s [s] (putF (fun _ => none) s 0)) := Lib.hid (DI.start L (ids R) s HS.out.1)
  have B0 : Hid (Bd (putF (fun _ => none) s 0) 0) := Lib.hid (Bd.put (fun v d h => by cases h) (by omega) (by omega))
  have hu0 : unkD (ids R) (putF (fun _ => none) s 0) ≤ 24 := by
   have h3 := List.length_filter_le (fun v => (putF (fun _ => none) s 0 v).isNone) (ids R)
   have := HGO.out.len.1
   unfold unkD
   omega
  have HU0 : Hid (2 * unkD (ids R) (putF (fun _ => none) s 0) + 1 ≤ 100) := Lib.hid (by omega)
  obtain ⟨va, hva⟩ : ∃ va, Value.slice (some ⟨w3.heap.size, 0, none⟩) 1 1 = va := ⟨_, rfl⟩
  clear hm3 hg3 g13 e0 hrow hs99 hsR hok hu0 hlt3
  rw [hBm] at hput
  go_upto_block 0 with fail
  rw [hva] at K0
  clear hva hput hmm hBm
  generalize w3.alloc _ = w4 at *
  go_wp2_with fail
  go_loopg [6] (2 * unkD (ids R) (putF (fun _ => none) s 0) + 1) (fun g vo wr => ∃ (o : List Int) (f : Int → Option Int) (N : Nat) (va : Value), va = vo ∧ g ≤ 100 ∧ N ≤ 1 + 2000 * (100 - g) ∧ Hid (2 * unkD (ids R) f + o.length = g) ∧ Hid (CQ w w.heap.size Bm ⟨R, L, pR, cR, pL, cL⟩ o f va N wr) ∧ Hid (DI L (ids R) s o f) ∧ Hid (Bd f (1000 * (100 - (g : Int)))))
  case atStart => exact ⟨_, _, _, _, rfl, HU0.out, by have := HU0.out; omega, Lib.hid rfl, K0, D0, Lib.hid (B0.out.mono (by have := HU0.out; omega))⟩
  case round =>
  obtain ⟨o, f, N, va, rfl, hg, hN, HM, K, D, HBd⟩ := hrel
  clear K0 D0 B0 HU0
  have hol : o.length ≤ 100 := by have := HM.out; omega
  have hoI : ∀ x ∈ o, 1 ≤ x ∧ x ≤ 99 := fun x hx => by
   obtain ⟨e, he⟩ := D.out.dm x hx
   exact HGO.out.rng x (D.out.wk x e he).2
  have HOI := Lib.hid hoI
  obtain ⟨po, co, rfl, hc1, hc2⟩ := own_shape K.out.o
  clear hoI
  have HMV : Hid (MV wr (fun _ => True) (.map (some Bm)) f) := Lib.hid (Or.inr ⟨Bm, N, rfl, trivial, by omega, K.out.m⟩)
  go_wp2_with fail
  refine (tnst_any o f _ po co _ _ wr (rd_of_own K.out.o) HMV.out (fun x hx => by have := HOI.out x hx; unfold I64; omega) (by omega)).mono ?_
  rintro e w5 ⟨rfl, ⟨hoe, rfl⟩ | ⟨i, hL, rfl⟩⟩
  ·have HOE := Lib.hid hoe
   clear hoe
   go_wp2_with fail
   go_ret
   refine ⟨f, _, rfl, Or.inr ⟨HZ.out, Bm, N, rfl, by have := K.out.lt; omega, by omega, K.out.m⟩, ⟨fun _ v d => ?_, fun h => (by rw [HZ.out] at h; cases h), fun v d h => ⟨HGO.out.rng v (D.out.wk v d h).2, (by have := HBd.out v d h; omega)⟩⟩, K.out.gr⟩
   have hD := D.out
   rw [HOE.out] at hD
   exact hD.done v d
  ·have HL := Lib.hid hL
   obtain ⟨r, hr, hmin⟩ := hL
   have hi' : i < o.length := (List.getElem?_eq_some_iff.1 hr).1
   obtain ⟨dr, hdr⟩ := D.out.dm r (List.mem_of_getElem? hr)
   have HJ : Hid (DJ L (ids R) s r dr [] (o.eraseIdx i) f) := Lib.hid (D.out.take hr hdr (fun x hx e he => by
    have := hmin x hx
    simp only at this
    rw [hdr, he] at this
    exact this))
   have hrb := HOI.out r (List.mem_of_getElem? hr)
   have hdb := HBd.out r dr hdr
   have HR := Lib.hid (And.intro hr hdr)
   obtain ⟨g0, cap, rfl⟩ : ∃ g0, ∃ cap : Nat, po = some ⟨g0, 0, none⟩ := by
    rcases Joins.ownsRow_forms K.out.o with ⟨e, e0⟩ | ⟨g1, cap, e⟩
    ·omega
    ·injection e with e1 e2 e3
     exact ⟨g1, cap, e1⟩
   have d0 : wr.cell? ⟨g0, i, none⟩ = some (.int .i64 r) := by
    rw [World.ownsRow.cellAt K.out.o i (by omega), List.getElem?_map, hr]
    rfl
   clear hr hdr hmin
   have hi2 : (i : Int) ≤ 100 := by omega
   have hi3 : (i : Int) < (o.length : Int) := by omega
   go_wp2_with fail
   refine (tdeli_any o g0 co (Bm + 1) i wr K.out.o hi' (by omega)).mono ?_
   rintro e w6 ⟨n1, hn1, rfl, hown6, hg6⟩
   have HN1 := Lib.hid hn1
   have K1 : Hid (CQ w w.heap.size Bm ⟨R, L, pR, cR, pL, cL⟩ (o.eraseIdx i) f (.slice (some ⟨g0, 0, none⟩) n1 co) N w6) := Lib.hid (K.out.row hg6 (by rw [← hn1]; exact hown6))
   have HM1 : Hid (2 * unkD (ids R) f + (o.eraseIdx i).length = gk - 1 ∧ 1 ≤ gk) := Lib.hid (by
    rw [List.length_eraseIdx, if_pos hi']
    have := HM.out
    omega)
   clear hown6 hg6 d0 hn1 hi' hol hc1 hc2 hi2 hi3
   obtain ⟨o1, ho1⟩ : ∃ o1, o.eraseIdx i = o1 := ⟨_, rfl⟩
   rw [ho1] at HN1 K1 HM1 HJ
   clear ho1
   obtain ⟨c0, c1⟩ := row_cells K1.out.gb
   go_wp2_with fail
   refine (tnearby_any L r pL cL _ w6 K1.out.t.l h2).mono ?_
   rintro e w7 ⟨vn, rfl, hown7, hg7⟩
   obtain ⟨pn, cn, rfl, hcn1, hcn2⟩ := own_shape hown7
   have hml := nbD_len r L
   obtain ⟨M, hM⟩ : ∃ M, nbD L r = M := ⟨_, rfl⟩
   have HMM := Lib.hid hM
   rw [hM] at hown7 hcn1 hml ⊢
   have C0 : Hid (CN w w.heap.size Bm ⟨R, L, pR, cR, pL, cL⟩ o1 f (.slice (some ⟨g0, 0, none⟩) n1 co) N pn cn M w6.heap.size w7.heap.size w7) := Lib.hid ⟨K1.out.keep hg7, rdf_of_own2 hown7, fun g hgg => Or.inl (K1.out.o.lt g hgg).2, by have := K1.out.size; have := hg7.size; omega⟩
   have B1 : Hid (Bd f (1000 * (100 - ((gk - 1 : Nat) : Int)) - 1000) ∧ dr ≤ 1000 * (100 - ((gk - 1 : Nat) : Int)) - 1000) := Lib.hid (by
    have h1 := HM1.out.2
    have h3 := hdb.2
    exact ⟨HBd.out.mono (by omega), by omega⟩)
   have HMl := Lib.hid hml
   have hm2 : M.length ≤ 2000 := by omega
   clear hM hown7 hg7 hml c0 c1 HBd
   obtain ⟨h7, hh7⟩ : ∃ h7, w6.heap.size = h7 := ⟨_, rfl⟩
   obtain ⟨h8, hh8⟩ : ∃ h8, w7.heap.size = h8 := ⟨_, rfl⟩
   rw [hh7, hh8] at C0
   clear hh7 hh8
   go_wp2_with fail
   go_loopw [6, 46] (fun vo a wq => ∃ (k N2 : Nat) (o2 : List Int) (f2 : Int → Option Int) (va : Value), va = vo ∧ k ≤ M.length ∧ a = .int .i64 (k : Int) ∧ N2 ≤ N + k ∧ Hid (CN w w.heap.size Bm ⟨R, L, pR, cR, pL, cL⟩ o2 f2 va N2 pn cn M h7 h8 wq) ∧ Hid (DJ L (ids R) s r dr (M.take k) o2 f2) ∧ Hid (Bd f2 (1000 * (100 - ((gk - 1 : Nat) : Int)))) ∧ Hid (2 * unkD (ids R) f2 + o2.length ≤ gk - 1)) (fun _ a _ => M.length - (RowKit.intOf a).toNat)
   case atStart => exact ⟨0, N, o1, f, _, rfl, Nat.zero_le _, rfl, Nat.le_refl _, C0, HJ, Lib.hid (B1.out.1.mono (by omega)), Lib.hid (Nat.le_of_eq HM1.out.1)⟩
   case round =>
   obtain ⟨k, N2, o2, f2, va, rfl, hk, rfl, hN2, C, J, B2, HU⟩ := hrel
   clear C0 HJ K1
   by_cases hlt : k < M.length
   ·obtain ⟨-, b, off, rfl, hq, hc⟩ := dsn_cells C.out.n (by omega)
    obtain ⟨y, hy⟩ : ∃ y, M[k]? = some y := ⟨_, List.getElem?_eq_getElem hlt⟩
    obtain ⟨a0, a1⟩ := hc k y hy
    have he : edg L r y.1 y.2 := nbD_mem.1 (by rw [HMM.out]; exact List.mem_of_getElem? hy)
    have HE := Lib.hid he
    obtain ⟨hy2, -, hy1⟩ := HGO.out.edg he
    obtain ⟨j1, j2⟩ := J.out.step HGO.out.pos HGO.out.ends he
    have htk : M.take (k + 1) = M.take k ++ [y] := by rw [List.take_add_one, hy]; rfl
    rw [← htk] at j1
    have HJ1 := Lib.hid (And.intro j1 j2)
    have gal := World.grownBy_alloc wr (.cells #[.int .i64 y.1, .int .i64 y.2] 131) none
    have hbx := heap_alloc_new wr (.cells #[.int .i64 y.1, .int .i64 y.2] 131)
    have HG := Lib.hid gal
    have HBX := Lib.hid hbx
    clear hc hy he htk j1 j2 gal hbx
    go_upto_region 13 with fail
    clear a0 a1
    generalize wr.alloc _ = wy at *
    have CY := Lib.hid (C.out.keep HG.out)
    obtain ⟨d0, d1⟩ := row_cells HBX.out
    have hb2 : (1 ≤ r ∧ r ≤ 99) ∧ (0 ≤ dr ∧ dr ≤ 100000) := ⟨hrb, hdb.1, by have := hdb.2; omega⟩
    have HD2 := Lib.hid (And.intro J.out.fr.1 hb2)
    obtain ⟨q1, q2⟩ := CY.out.k.m.look (x := y.1) (by unfold I64; omega)
    have q3 := (CY.out.k.m.look (x := r) (by unfold I64; omega)).1
    rw [HD2.out.1] at q3
    simp only [Option.getD_some] at q3
    have hapb : Hid (∀ bb, wr.heap.size ≤ bb → va.ownBlock ≠ some bb) := Lib.hid (fun bb hbb e => by have := (C.out.k.o.lt bb e).2; omega)
    cases hf : f2 y.1 with
    | none =>
     rw [hf] at q1 q2
     simp only [Option.getD_none, Option.isSome_none] at q1 q2
     have HF := Lib.hid hf
     clear hf
     have hown := CY.out.k.o
     have hsz : Bm + 1 ≤ wy.heap.size := CY.out.k.m.lt
     have hol2 : o2.length ≤ 100 := by have := HU.out; omega
     go_wp2_with (at_builtin; refine hold_on ?_)
     refine Lib.hid ?_
     refine wpList_append_lies _ rfl _ _ 22 rfl (Bm + 1) 3 i0 (.int .i64 0) 1 8 Tryz.underlying22 hi hz0 hz1 hz2 rfl (by decide) _ _ _ rfl (hown.alloc _) ⟨wy.heap.size, 0, none⟩ 1 1 [.int .i64 y.1] rfl rfl ?c1 ?c2 (by decide) ?c3 ?c4 ?c5 _ rfl ?_
     try (case c1 => exact cell_one _ _ _)
     case c2 => (intro u hu; simp at hu; rcases hu with rfl; rfl)
     case c3 => first | omega | (unfold maxLen; omega)
     case c4 => omega
     case c5 => first | omega | (simp; omega)
     intro gq capq w8 hown8 hg8 hat8 hlt8
     have hat9 : va.ownBlock = some gq ∨ wy.heap.size ≤ gq := by
      rcases hat8 with h | h
      ·exact Or.inl h
      ·exact Or.inr (by rw [h]; simp)
     obtain ⟨m1, m2⟩ := CY.out.more rfl hown8 hg8 hat9
     have C8 := Lib.hid m1
     have HBX8 := Lib.hid (m2 wr.heap.size _ (hapb.out _ (Nat.le_refl _)) HBX.out)
     obtain ⟨vq, hvq⟩ : ∃ vq, Value.slice (some ⟨gq, 0, none⟩) (o2.length + 1) capq = vq := ⟨_, rfl⟩
     rw [hvq] at C8 ⊢
     clear hvq hat8 hat9 hlt8 m1 m2 hown8 hg8 hown d0 d1 q1 q2 q3 hsz
     obtain ⟨d0, d1⟩ := row_cells HBX8.out
     have q3 := (C8.out.k.m.look (x := r) (by unfold I64; omega)).1
     rw [HD2.out.1] at q3
     simp only [Option.getD_some] at q3
     obtain ⟨w9, hput, hm9, hg9⟩ := C8.out.k.m.put (x := y.1) (d := dr + y.2) (by omega) (by unfold I64; omega) (by unfold I64; omega)
     have C9 := Lib.hid (C8.out.put hg9 hm9)
     have J9 := HJ1.out
     rw [rlx_none HD2.out.1 HF.out] at J9
     have HJ9 := Lib.hid J9
     have B9 := Lib.hid (B2.out.put (x := y.1) (d := dr + y.2) (by omega) (by have := B1.out.2; omega))
     clear J9 hm9 hg9
     go_wp2_with fail
     exact ⟨⟨k + 1, N2 + 1, o2 ++ [y.1], _, _, rfl, by omega, congrArg _ (by omega), by omega, C9, Lib.hid HJ9.out.1, B9, Lib.hid (Nat.le_trans HJ9.out.2 HU.out)⟩, by simp only [RowKit.intOf]; omega⟩
    | some x =>
     rw [hf] at q1 q2
     simp only [Option.getD_some, Option.isSome_some] at q1 q2
     have HF := Lib.hid hf
     have hxb := B2.out y.1 x hf
     clear hf
     by_cases hxl : dr + y.2 < x
     ·obtain ⟨w9, hput, hm9, hg9⟩ := CY.out.k.m.put (x := y.1) (d := dr + y.2) (by omega) (by unfold I64; omega) (by unfold I64; omega)
      have C9 := Lib.hid (CY.out.put hg9 hm9)
      have J9 := HJ1.out
      rw [rlx_lt HD2.out.1 HF.out hxl] at J9
      have HJ9 := Lib.hid J9
      have B9 := Lib.hid (B2.out.put (x := y.1) (d := dr + y.2) (by omega) (by omega))
      clear J9 hm9 hg9
      go_wp2_with fail
      exact ⟨⟨k + 1, N2 + 1, o2, _, _, rfl, by omega, congrArg _ (by omega), by omega, C9, Lib.hid HJ9.out.1, B9, Lib.hid (Nat.le_trans HJ9.out.2 HU.out)⟩, by simp only [RowKit.intOf]; omega⟩
     ·have J9 := HJ1.out
      rw [rlx_ge HD2.out.1 HF.out hxl] at J9
      have HJ9 := Lib.hid J9
      clear J9
      go_wp2_with fail
      exact ⟨⟨k + 1, N2, o2, _, _, rfl, by omega, congrArg _ (by omega), by omega, CY, Lib.hid HJ9.out.1, B2, HU⟩, by simp only [RowKit.intOf]; omega⟩
   ·obtain rfl : k = M.length := by omega
    have JF := J.out
    rw [List.take_length, ← HMM.out] at JF
    have HJF := Lib.hid JF.fin
    clear JF
    go_wp2_with fail
    go_roundg (2 * unkD (ids R) f2 + o2.length)
    case measure => have := HU.out; have := HM1.out; omega
    case rel => exact ⟨o2, f2, N2, _, rfl, by have := HU.out; omega, by have := HU.out; have := HM1.out; omega, Lib.hid rfl, Lib.hid C.out.k, HJF, Lib.hid (B2.out.mono (by have := HU.out; have := HM1.out; omega))⟩
end Go.Proofs.YtahafijpcmphaaaGreat

/- The least costs as a function; both directions. -/
namespace Go.Proofs.YtahafijpcmphaaaGreat
set_option maxRecDepth 100000
open Go.RowKit Go.Maps Bs
theorem Wk.front {L : List Lk} {v u s c m : Int} (e : edg L v u c) (h : Wk L u s m) : Wk L v s (c + m) :=
 Wk.ind (Q := fun x n => Wk L v x (c + n)) (by have := (Wk.nil L v).step e; rw [Int.zero_add] at this; rw [Int.add_zero]; exact this) (fun a n b d _ hq he => by rw [← Int.add_assoc]; exact hq.step he) h
theorem Wk.flip {L : List Lk} {s v n : Int} (h : Wk L s v n) : Wk (flipL L) v s n :=
 Wk.ind (Q := fun x n => Wk (flipL L) x s n) (Wk.nil _ _) (fun a n b d _ hq he => by rw [Int.add_comm]; exact Wk.front (edg_flip.2 he) hq) h
theorem flipL_flipL (L : List Lk) : flipL (flipL L) = L := by
 unfold flipL
 rw [List.map_map]
 conv => rhs; rw [← List.map_id L]
 rfl
theorem IsD.flip {L : List Lk} {s v d : Int} : IsD (flipL L) s v d ↔ IsD L v s d := by
 constructor
 ·rintro ⟨h1, h2⟩
  have h3 := h1.flip
  rw [flipL_flipL] at h3
  exact ⟨h3, fun n hn => h2 n hn.flip⟩
 ·rintro ⟨h1, h2⟩
  refine ⟨h1.flip, fun n hn => h2 n ?_⟩
  have h3 := hn.flip
  rwa [flipL_flipL] at h3
theorem Wk.ids {L : List Lk} {V : List Int} (hV : Ends L V) {s v n : Int} (h : Wk L s v n) : v = s ∨ (s ∈ V ∧ v ∈ V) := by
 rcases h.last with ⟨e, -⟩ | ⟨u, m, c, hu, e, -⟩
 ·exact .inl e
 ·refine .inr ⟨?_, (hV.edg e).2⟩
  have key : u = s ∨ s ∈ V := Wk.ind (Q := fun x _ => x = s ∨ s ∈ V) (.inl rfl) (fun a n b d _ hq he => by
   rcases hq with rfl | hq
   ·exact .inr (hV.edg he).1
   ·exact .inr hq) hu
  rcases key with rfl | h1
  ·exact (hV.edg e).1
  ·exact h1
theorem okT_flip (R : List Rt) (L : List Lk) : okT R (flipL L) = okT R L := by
 have ha : ∀ (p : Lk → Bool), (∀ l : Lk, p ⟨l.a, l.b, l.cb, l.ca, l.cp⟩ = p l) → (flipL L).any p = L.any p := fun p hp => by
  unfold flipL
  rw [List.any_map]
  exact congrArg (fun q => L.any q) (funext hp)
 have hs : ascB ltL (flipL L) = ascB ltL L := by
  unfold flipL
  induction L with
  | nil => rfl
  | cons a t ih =>
   cases t with
   | nil => rfl
   | cons b t =>
    have ih' := ih (fun p hp => by
     unfold flipL
     rw [List.any_map]
     exact congrArg (fun q => (b :: t).any q) (funext hp))
    rw [List.map_cons, List.map_cons, ascB, ascB]
    rw [List.map_cons] at ih'
    rw [ih']
    rfl
 unfold okT chk
 rw [ha wrNum (fun l => by unfold wrNum; simp only; rw [decide_eq_decide.2]; constructor <;> rintro ⟨h1, h2, h3⟩ <;> exact ⟨h2, h1, h3⟩), ha (unk R) (fun _ => rfl), ha wrEnd (fun _ => rfl), hs]
 unfold flipL
 rw [List.length_map]
theorem hasV_flip (R : List Rt) (L : List Lk) (x : Int) : hasV R (flipL L) x = hasV R L x := by unfold hasV; rw [okT_flip]
theorem hasV_iff {R : List Rt} {L : List Lk} {x : Int} : hasV R L x = true ↔ okT R L = true ∧ x ∈ ids R := by
 unfold hasV
 rw [Bool.and_eq_true, ids_has]
open Classical in
noncomputable def dst (R : List Rt) (L : List Lk) (a b : Int) : Option Int := if h : hasV R L a = true ∧ ∃ d, IsD L a b d then some h.2.choose else none
theorem dst_some {R : List Rt} {L : List Lk} {a b d : Int} : dst R L a b = some d ↔ hasV R L a = true ∧ IsD L a b d := by
 unfold dst
 constructor
 ·intro h
  split at h
  ·rename_i hc
   rw [← Option.some.inj h]
   exact ⟨hc.1, hc.2.choose_spec⟩
  ·cases h
 ·rintro ⟨h1, h2⟩
  rw [dif_pos ⟨h1, d, h2⟩]
  have := (⟨h1, d, h2⟩ : hasV R L a = true ∧ ∃ d, IsD L a b d)
  exact congrArg some (this.2.choose_spec.uniq h2)
theorem CostsOf.eq {R : List Rt} {L : List Lk} {s : Int} {f : Int → Option Int} (h : CostsOf R L s f) : f = dst R L s := by
 funext v
 cases hz : hasV R L s with
 | false =>
  rw [h.no hz v]
  cases hd : dst R L s v with
  | none => rfl
  | some d => rw [(dst_some.1 hd).1] at hz; cases hz
 | true =>
  cases hf : f v with
  | some d => exact (dst_some.2 ⟨hz, (h.yes hz v d).1 hf⟩).symm
  | none =>
   cases hd : dst R L s v with
   | none => rfl
   | some d =>
    rw [(h.yes hz v d).2 (dst_some.1 hd).2] at hf
    cases hf
theorem dst_both {R : List Rt} {L : List Lk} {a b d : Int} (h : dst R L a b = some d) : okT R L = true ∧ a ∈ ids R ∧ b ∈ ids R := by
 obtain ⟨h1, h2⟩ := dst_some.1 h
 obtain ⟨ho, ha⟩ := hasV_iff.1 h1
 refine ⟨ho, ha, ?_⟩
 rcases h2.1.ids (okT_g ho).ends with rfl | h3
 ·exact ha
 ·exact h3.2
theorem dst_flip (R : List Rt) (L : List Lk) (a b : Int) : dst R (flipL L) a b = dst R L b a := by
 cases hd : dst R L b a with
 | some d =>
  obtain ⟨h1, h2⟩ := dst_some.1 hd
  obtain ⟨h3, h4, h5⟩ := dst_both hd
  exact dst_some.2 ⟨by rw [hasV_flip]; exact hasV_iff.2 ⟨h3, h5⟩, IsD.flip.2 h2⟩
 | none =>
  cases hf : dst R (flipL L) a b with
  | none => rfl
  | some d =>
   obtain ⟨h1, h2⟩ := dst_some.1 hf
   obtain ⟨h3, h4, h5⟩ := dst_both hf
   rw [dst_some.2 ⟨hasV_iff.2 ⟨by rw [okT_flip] at h3; exact h3, h5⟩, IsD.flip.1 h2⟩] at hd
   cases hd
theorem dst_bd {R : List Rt} {L : List Lk} {a b d : Int} (h : dst R L a b = some d) : (0 ≤ d ∧ d ≤ 24000) ∧ (1 ≤ a ∧ a ≤ 99) ∧ (1 ≤ b ∧ b ≤ 99) := by
 obtain ⟨h1, h2⟩ := dst_some.1 h
 obtain ⟨h3, h4, h5⟩ := dst_both h
 have hg := okT_g h3
 refine ⟨⟨h2.1.ge hg.pos, ?_⟩, hg.rng a h4, hg.rng b h5⟩
 have h6 := D_le hg.pos hg.ends hg.le (by decide) (ids R).length b d h2 (by unfold rnk; exact List.length_filter_le _ _)
 have := hg.len.1
 omega
theorem dst_self {R : List Rt} {L : List Lk} {a : Int} (h : hasV R L a = true) : dst R L a a = some 0 :=
 dst_some.2 ⟨h, IsD.self (okT_g (hasV_iff.1 h).1).pos a⟩
end Go.Proofs.YtahafijpcmphaaaGreat

/- shortest.costsFrom and Cost over the least costs. -/
namespace Go.Proofs.YtahafijpcmphaaaGreat
set_option maxRecDepth 100000
open Go.RowKit Go.Maps Bs
def CgPost (f : Int → Option Int) (ok : Bool) (w : World) (e : Ending) (w' : World) : Prop := ∃ v, e = .returned v ∧ CV w' (w.heap.size ≤ ·) v f ok ∧ w.grownBy w' none
theorem tcg_any (T : Tg) (s : Int) (q : Nat → Prop) (w : World) (hT : TgOk w q T) (h1 : T.R.length ≤ 1000) (h2 : T.L.length ≤ 1000) :
  Calls Tryz.prog 120 #[.agg #[.slice T.pR T.R.length T.cR, .slice T.pL T.L.length T.cL], .int .i64 s] w fun e w' => CgPost (dst T.R T.L s) (hasV T.R T.L s) w e w' :=
 (tcf_any T s q w hT h1 h2).mono fun e w' ⟨f, v, he, h, hc, hg⟩ => ⟨v, he, by rw [← hc.eq]; exact h, hg⟩
end Go.Proofs.YtahafijpcmphaaaGreat
