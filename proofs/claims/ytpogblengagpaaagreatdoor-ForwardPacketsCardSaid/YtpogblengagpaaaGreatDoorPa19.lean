/- Parts of the proof, packed: IdRvp, TaRAl, TaCpM, TaCpy. -/
import Derived.Test.YtpogblengagpaaaGreatDoorPa18
import Derived.Test.YtpogblengagpaaaGreatDoorPa3
import Derived.Test.YtpogblengagpaaaGreatDoorPa7
import Derived.Test.YtpogblengagpaaaGreatDoorPa12
/- The reference's ValidPlan. -/
namespace Go.Proofs.YtpogblengagpaaaGreatDoor
set_option maxRecDepth 100000
open Go.RowKit Bs
structure RQ (W : World) (sub n : Int) (E : List Ed) (p : Option Addr) (c : Nat) (v : Value) (M : List Int) (w : World) : Prop where
 bx : w.heap[W.heap.size]? = some (.cells #[.int .i64 sub, .int .i64 n, .slice p E.length c] 72 (0, 0))
 rd : RdF w (· < W.heap.size) (.slice p E.length c) E.length (E.flatMap edC)
 own : w.ownsRow (W.heap.size + 1) 3 1 v M.length (M.flatMap ivC)
 gr : W.grownBy w none
 sz : W.heap.size + 1 ≤ w.heap.size
section
variable {W w w1 : World} {sub n : Int} {E : List Ed} {p : Option Addr} {c : Nat} {v v' : Value} {M N : List Int}
theorem RQ.keep (h : RQ W sub n E p c v M w) (g : w.grownBy w1 none) : RQ W sub n E p c v M w1 :=
 ⟨kept_row h.bx g (by simp), h.rd.keep g, h.own.kept g (by cases v.ownBlock <;> simp), grown_trans h.gr g, Nat.le_trans h.sz g.size⟩
theorem RQ.app {o : Obj} (h : RQ W sub n E p c v M w) (hown : w1.ownsRow (W.heap.size + 1) 3 1 v' N.length (N.flatMap ivC)) (hg : (w.alloc o).grownBy w1 v.ownBlock) : RQ W sub n E p c v' N w1 := by
 have h1 := h.keep (World.grownBy_alloc w o none)
 have hne : ∀ b, b < W.heap.size + 1 → some b ≠ v.ownBlock := fun b hb e => by have := (h.own.lt b e.symm).1; omega
 exact ⟨kept_row h1.bx hg (hne _ (by omega)), h1.rd.grown hg (fun b hb => hne b (by omega)), hown, grown_any h1.gr hg (fun b hb => hne b (by omega)), Nat.le_trans h1.sz hg.size⟩
theorem keep4q {a1 a2 a3 a4 : Addr} {x1 x2 x3 x4 : Value} (h : w.cell? a1 = some x1 ∧ w.cell? a2 = some x2 ∧ w.cell? a3 = some x3 ∧ w.cell? a4 = some x4) (hg : Hid (w.grownBy w1 none)) :
  w1.cell? a1 = some x1 ∧ w1.cell? a2 = some x2 ∧ w1.cell? a3 = some x3 ∧ w1.cell? a4 = some x4 ∧ Hid (w.grownBy w1 none) := ⟨hg.out.cell h.1 (by simp), hg.out.cell h.2.1 (by simp), hg.out.cell h.2.2.1 (by simp), hg.out.cell h.2.2.2 (by simp), hg⟩
end
theorem vpl_wr {sub n : Int} {E : List Ed} {k : Nat} {y : Ed} (hy : E[k]? = some y) (h : wrE y = true) : vPl sub n E = false := by
 unfold vPl
 rw [any_at hy h]
 simp
theorem vpl_as {sub n : Int} {E : List Ed} {j : Nat} {x y : Ed} (hx : E[j]? = some x) (hy : E[j + 1]? = some y) (h : ¬ x.i < y.i) : vPl sub n E = false := by
 have : ascB ltE E = false := by
  rw [Bool.eq_false_iff]
  intro ha
  exact h (of_decide_eq_true ((ascB_iff ltE E).1 ha j x y hx hy))
 unfold vPl
 rw [this]
 simp
theorem rsE_snoc {E : List Ed} {k : Nat} {y : Ed} (hy : E[k]? = some y) : rsE (E.take (k + 1)) = rsE (E.take k) ++ [y.r] := by
 unfold rsE
 rw [List.take_add_one, hy, List.map_append]
 rfl
set_option maxHeartbeats 12800000 in
theorem irvplan_any (sub n : Int) (E : List Ed) (p : Option Addr) (c : Nat) (q : Nat → Prop) (w : World) (hR : RdF w q (.slice p E.length c) E.length (E.flatMap edC)) (hm : E.length ≤ 9223372036854775807) :
  Calls Tryz.prog 62 #[.agg #[.int .i64 sub, .int .i64 n, .slice p E.length c]] w fun e w' => e = .returned (.bool (vPl sub n E)) ∧ w.grownBy w' none := by
 obtain ⟨ii, hi, hi0, hi1, hi2⟩ := info_parts info_int
 obtain ⟨k1, k2⟩ := tone_box w #[.int .i64 sub, .int .i64 n, .slice p E.length c] 72
 have H0 : Hid (RQ w sub n E p c (.slice none 0 0) (rsE (E.take 0)) _) := Lib.hid ⟨k1, hR.old.keep k2, World.ownsRow_nil _ _ _ _, k2, by simp⟩
 clear k1 k2 hR
 go_enter Tryz.func62, Tryz.ntmps62
 go_upto_region 1 with fail
 generalize w.alloc _ = w1 at *
 obtain ⟨⟨d0, d1, d2⟩, -⟩ := row3i H0.out.bx
 obtain ⟨b1, hb1⟩ : ∃ b, inV sub 0 7 = b := ⟨_, rfl⟩
 have B1 := Lib.hid hb1
 clear hb1
 go_wp2_with fail
 refine (rin10_lit sub 0 7 _ B1.out w1).mono ?_
 rintro e w' ⟨rfl, rfl⟩
 cases b1
 case false =>
  go_wp2_with fail
  go_ret
  exact ⟨by unfold vPl; rw [B1.out]; rfl, H0.out.gr⟩
 obtain ⟨b2, hb2⟩ : ∃ b, vl n = b := ⟨_, rfl⟩
 have B2 := Lib.hid hb2
 clear hb2
 go_wp2_with fail
 refine (vlr10_lit n _ B2.out w1).mono ?_
 rintro e w' ⟨rfl, rfl⟩
 cases b2
 case true =>
  have HP : Hid (E.length ≤ 24 → vPl sub n E = (!E.any wrE && ascB ltE E && !repI (rsE E))) := Lib.hid (fun h => by
   unfold vPl rsE
   rw [B1.out, B2.out, decide_eq_true h]
   simp)
  by_cases h24 : 24 < E.length
  case pos =>
   have h24' : (24 : Int) < (E.length : Int) := by omega
   have HF0 : Hid (vPl sub n E = false) := Lib.hid (by unfold vPl; rw [decide_eq_false (show ¬ E.length ≤ 24 by omega)]; simp)
   go_wp2_with fail
   go_ret
   rw [HF0.out]
   exact ⟨rfl, H0.out.gr⟩
  have h24' : ¬ (24 : Int) < (E.length : Int) := by omega
  have HP2 := Lib.hid (HP.out (by omega))
  have HA0 : Hid ((E.take 0).any wrE = false ∧ ∀ i x y, i + 1 < 0 → E[i]? = some x → E[i + 1]? = some y → ltE x y = true) := Lib.hid ⟨rfl, fun i x y h => by omega⟩
  clear HP
  go_wp2_with fail
  clear d0 d1 d2
  go_loopw [3, 4] (fun u a wr => ∃ (k : Nat) (v : Value), v = u ∧ k ≤ E.length ∧ a = .int .i64 (k : Int) ∧ Hid ((E.take k).any wrE = false ∧ ∀ i x y, i + 1 < k → E[i]? = some x → E[i + 1]? = some y → ltE x y = true) ∧ Hid (RQ w sub n E p c v (rsE (E.take k)) wr)) (fun _ a _ => E.length - (RowKit.intOf a).toNat)
  case atStart => exact ⟨0, _, rfl, Nat.zero_le _, rfl, HA0, H0⟩
  case round =>
  clear HA0 H0
  obtain ⟨k, v, rfl, hk, rfl, HN, N⟩ := hrel
  obtain ⟨w2, hw2⟩ : ∃ w2, w2 = wr := ⟨_, rfl⟩
  rw [← hw2] at N ⊢
  clear hw2
  obtain ⟨⟨d0, d1, d2⟩, -⟩ := row3i N.out.bx
  by_cases hlt : k < E.length
  case neg =>
   obtain rfl : k = E.length := by omega
   have hnl : ¬ (E.length : Int) < (E.length : Int) := by omega
   have HV : Hid (vPl sub n E = !repI (rsE E)) := Lib.hid (by
    have h1 : E.any wrE = false := any_end HN.out.1 (Nat.le_refl _)
    have h2 : ascB ltE E = true := (ascB_iff ltE E).2 fun i x y hx hy => HN.out.2 i x y (List.getElem?_eq_some_iff.1 hy).1 hx hy
    rw [HP2.out, h1, h2]
    rfl)
   have hown := N.out.own
   rw [List.take_length] at hown
   obtain ⟨pv, cv, rfl, -, -⟩ := own_shape hown
   have HR2 := Lib.hid (rd_of_own (xs := (rsE E).map fun z => Value.int .i64 z) (by rw [← flat_iv]; exact hown))
   have hrl : (rsE E).length ≤ 24 := by unfold rsE; rw [List.length_map]; omega
   clear hown
   go_wp2_with fail
   refine (irep_any (rsE E) pv cv _ w2 HR2.out (by omega)).mono ?_
   rintro e w4 ⟨rfl, hg⟩
   have G2 := Lib.hid (grown_trans N.out.gr hg)
   clear hg N
   go_wp2_with fail
   go_ret
   rw [HV.out]
   exact ⟨rfl, G2.out⟩
  have hlt' : (k : Int) < (E.length : Int) := by omega
  obtain ⟨-, b, off, rfl, -, hcc⟩ := ed_cells N.out.rd (by omega)
  obtain ⟨y, hy⟩ : ∃ y, E[k]? = some y := ⟨_, List.getElem?_eq_getElem hlt⟩
  obtain ⟨a0, a1⟩ := hcc k y hy
  have HCC := Lib.hid hcc
  have HY := Lib.hid hy
  have HB0 := Lib.hid (tone_box w2 #[.int .i64 y.r, .int .i64 y.i] 78)
  clear hcc hy
  go_upto_region 8 with fail
  clear a0 a1 d0 d1 d2
  generalize w2.alloc _ = w3 at *
  generalize w2.heap.size = By at *
  have N1 := Lib.hid (N.out.keep HB0.out.2)
  have HB := Lib.hid HB0.out.1
  have GZ : Hid (w3.grownBy w3 none) := Lib.hid (grown_refl _ _)
  obtain ⟨b3, hb3⟩ : ∃ z, inV y.i 1 256 = z := ⟨_, rfl⟩
  obtain ⟨b4, hb4⟩ : ∃ z, inV y.r 1 99 = z := ⟨_, rfl⟩
  have HW : Hid (wrE y = !(b4 && b3)) := Lib.hid (by unfold wrE; rw [hb3, hb4])
  have B3 := Lib.hid hb3
  have B4 := Lib.hid hb4
  clear hb3 hb4
  have HK3 : Hid (w3.heap[By]? = some (.cells #[.int .i64 y.r, .int .i64 y.i] 78 (0, 0))) := HB
  obtain ⟨e0, e1⟩ := row_cells HB.out
  obtain ⟨⟨d0, d1, d2⟩, -⟩ := row3i N1.out.bx
  cases b3
  case false =>
   have HF0 : Hid (vPl sub n E = false) := Lib.hid (vpl_wr HY.out (by rw [HW.out]; cases b4 <;> rfl))
   have HF := Lib.hid (And.intro e0 (And.intro e1 d2))
   clear d0 d1
   refine wp_region_held_drew (S := fun w' => Hid (w3.grownBy w' none)) (by kernel_rfl) (hid_drew GZ) (fun hHeld => ?_)
   refine zT (i := 0) (v := ?_) rfl ?_ hHeld ?_
   rotate_left 1
   ·intro u hSu
    go_simp
    first | done | with_reducible rfl
   try simp only [Act.put, zA, zB, zC]
   refine zT (i := 1) (v := ?_) rfl ?_ hHeld ?_
   rotate_left 1
   ·intro u hSu
    have c0 := hSu.out.cell HF.out.1 (by simp)
    have c1 := hSu.out.cell HF.out.2.1 (by simp)
    have c2 := hSu.out.cell HF.out.2.2 (by simp)
    go_simp
    first | done | with_reducible rfl
   try simp only [Act.put, zA, zB, zC]
   refine wpAnyH_ready (rs := [2]) (by kernel_rfl) (by simp) ?_
   refine AllReadyH.cons (o := ⟨_, _, _, _, _, _⟩) rfl (fun Kz hK => ?_) AllReadyH.nil
   go_simp
   go_at_call 86
   refine (rin10_lit y.i 1 256 _ B3.out _).mono ?_
   rintro e w5 ⟨rfl, rfl⟩
   refine hK.out _ _ (hHeld) (fun hH2 => ?_)
   clear hK Kz hHeld
   have hHeld := hH2
   clear hH2
   try simp only [Act.put, zA, zB, zC]
   refine zT (i := 3) (v := ?_) rfl ?_ hHeld ?_
   rotate_left 1
   ·intro u hSu
    go_simp
    first | done | with_reducible rfl
   try simp only [Act.put, zA, zB, zC]
   refine zT (i := 4) (v := ?_) rfl ?_ hHeld ?_
   rotate_left 1
   ·intro u hSu
    go_simp
    first | done | with_reducible rfl
   try simp only [Act.put, zA, zB, zC]
   refine zS (i := 5) rfl hHeld ?_
   try simp only [Act.put, zA, zB, zC]
   refine zS (i := 6) rfl hHeld ?_
   try simp only [Act.put, zA, zB, zC]
   refine zS (i := 7) rfl hHeld ?_
   try simp only [Act.put, zA, zB, zC]
   refine zS (i := 8) rfl hHeld ?_
   try simp only [Act.put, zA, zB, zC]
   refine zT (i := 9) (v := ?_) rfl ?_ hHeld ?_
   rotate_left 1
   ·intro u hSu
    go_simp
    first | done | with_reducible rfl
   try simp only [Act.put, zA, zB, zC]
   refine zT (i := 10) (v := ?_) rfl ?_ hHeld ?_
   rotate_left 1
   ·intro u hSu
    go_simp
    first | done | with_reducible rfl
   try simp only [Act.put, zA, zB, zC]
   refine zS (i := 11) rfl hHeld ?_
   try simp only [Act.put, zA, zB, zC]
   refine zS (i := 12) rfl hHeld ?_
   try simp only [Act.put, zA, zB, zC]
   refine zS (i := 13) rfl hHeld ?_
   try simp only [Act.put, zA, zB, zC]
   refine zS (i := 14) rfl hHeld ?_
   try simp only [Act.put, zA, zB, zC]
   refine zS (i := 15) rfl hHeld ?_
   try simp only [Act.put, zA, zB, zC]
   refine zS (i := 16) rfl hHeld ?_
   try simp only [Act.put, zA, zB, zC]
   refine zS (i := 17) rfl hHeld ?_
   try simp only [Act.put, zA, zB, zC]
   refine zS (i := 18) rfl hHeld ?_
   try simp only [Act.put, zA, zB, zC]
   refine zS (i := 19) rfl hHeld ?_
   try simp only [Act.put, zA, zB, zC]
   refine zS (i := 20) rfl hHeld ?_
   try simp only [Act.put, zA, zB, zC]
   refine zS (i := 21) rfl hHeld ?_
   try simp only [Act.put, zA, zB, zC]
   refine zS (i := 22) rfl hHeld ?_
   try simp only [Act.put, zA, zB, zC]
   refine zS (i := 23) rfl hHeld ?_
   try simp only [Act.put, zA, zB, zC]
   refine zS (i := 24) rfl hHeld ?_
   try simp only [Act.put, zA, zB, zC]
   refine zT (i := 25) (v := ?_) rfl ?_ hHeld ?_
   rotate_left 1
   ·intro u hSu
    go_simp
    first | done | with_reducible rfl
   try simp only [Act.put, zA, zB, zC]
   refine wpAnyH_done (by kernel_rfl) ?_ _
   have G2 := Lib.hid (grown_trans N1.out.gr hHeld.out)
   clear hHeld N1 N
   go_wp2_with fail
   go_ret
   rw [HF0.out]
   exact ⟨rfl, G2.out⟩
  cases b4
  case false =>
   have HF0 : Hid (vPl sub n E = false) := Lib.hid (vpl_wr HY.out (by rw [HW.out]; rfl))
   have HF := Lib.hid (And.intro e0 (And.intro e1 d2))
   clear d0 d1
   refine wp_region_held_drew (S := fun w' => Hid (w3.grownBy w' none)) (by kernel_rfl) (hid_drew GZ) (fun hHeld => ?_)
   refine zT (i := 0) (v := ?_) rfl ?_ hHeld ?_
   rotate_left 1
   ·intro u hSu
    go_simp
    first | done | with_reducible rfl
   try simp only [Act.put, zA, zB, zC]
   refine zT (i := 1) (v := ?_) rfl ?_ hHeld ?_
   rotate_left 1
   ·intro u hSu
    have c0 := hSu.out.cell HF.out.1 (by simp)
    have c1 := hSu.out.cell HF.out.2.1 (by simp)
    have c2 := hSu.out.cell HF.out.2.2 (by simp)
    go_simp
    first | done | with_reducible rfl
   try simp only [Act.put, zA, zB, zC]
   refine wpAnyH_ready (rs := [2]) (by kernel_rfl) (by simp) ?_
   refine AllReadyH.cons (o := ⟨_, _, _, _, _, _⟩) rfl (fun Kz hK => ?_) AllReadyH.nil
   go_simp
   go_at_call 86
   refine (rin10_lit y.i 1 256 _ B3.out _).mono ?_
   rintro e w5 ⟨rfl, rfl⟩
   refine hK.out _ _ (hHeld) (fun hH2 => ?_)
   clear hK Kz hHeld
   have hHeld := hH2
   clear hH2
   try simp only [Act.put, zA, zB, zC]
   refine zT (i := 3) (v := ?_) rfl ?_ hHeld ?_
   rotate_left 1
   ·intro u hSu
    go_simp
    first | done | with_reducible rfl
   try simp only [Act.put, zA, zB, zC]
   refine zT (i := 4) (v := ?_) rfl ?_ hHeld ?_
   rotate_left 1
   ·intro u hSu
    go_simp
    first | done | with_reducible rfl
   try simp only [Act.put, zA, zB, zC]
   refine zT (i := 5) (v := ?_) rfl ?_ hHeld ?_
   rotate_left 1
   ·intro u hSu
    go_simp
    first | done | with_reducible rfl
   try simp only [Act.put, zA, zB, zC]
   refine zT (i := 6) (v := ?_) rfl ?_ hHeld ?_
   rotate_left 1
   ·intro u hSu
    have c0 := hSu.out.cell HF.out.1 (by simp)
    have c1 := hSu.out.cell HF.out.2.1 (by simp)
    have c2 := hSu.out.cell HF.out.2.2 (by simp)
    go_simp
    first | done | with_reducible rfl
   try simp only [Act.put, zA, zB, zC]
   refine wpAnyH_ready (rs := [7]) (by kernel_rfl) (by simp) ?_
   refine AllReadyH.cons (o := ⟨_, _, _, _, _, _⟩) rfl (fun Kz hK => ?_) AllReadyH.nil
   go_simp
   go_at_call 86
   refine (rin10_lit y.r 1 99 _ B4.out _).mono ?_
   rintro e w5 ⟨rfl, rfl⟩
   refine hK.out _ _ (hHeld) (fun hH2 => ?_)
   clear hK Kz hHeld
   have hHeld := hH2
   clear hH2
   try simp only [Act.put, zA, zB, zC]
   refine zT (i := 8) (v := ?_) rfl ?_ hHeld ?_
   rotate_left 1
   ·intro u hSu
    go_simp
    first | done | with_reducible rfl
   try simp only [Act.put, zA, zB, zC]
   refine zT (i := 9) (v := ?_) rfl ?_ hHeld ?_
   rotate_left 1
   ·intro u hSu
    go_simp
    first | done | with_reducible rfl
   try simp only [Act.put, zA, zB, zC]
   refine zT (i := 10) (v := ?_) rfl ?_ hHeld ?_
   rotate_left 1
   ·intro u hSu
    go_simp
    first | done | with_reducible rfl
   try simp only [Act.put, zA, zB, zC]
   refine zS (i := 11) rfl hHeld ?_
   try simp only [Act.put, zA, zB, zC]
   refine zS (i := 12) rfl hHeld ?_
   try simp only [Act.put, zA, zB, zC]
   refine zS (i := 13) rfl hHeld ?_
   try simp only [Act.put, zA, zB, zC]
   refine zS (i := 14) rfl hHeld ?_
   try simp only [Act.put, zA, zB, zC]
   refine zS (i := 15) rfl hHeld ?_
   try simp only [Act.put, zA, zB, zC]
   refine zS (i := 16) rfl hHeld ?_
   try simp only [Act.put, zA, zB, zC]
   refine zS (i := 17) rfl hHeld ?_
   try simp only [Act.put, zA, zB, zC]
   refine zS (i := 18) rfl hHeld ?_
   try simp only [Act.put, zA, zB, zC]
   refine zS (i := 19) rfl hHeld ?_
   try simp only [Act.put, zA, zB, zC]
   refine zS (i := 20) rfl hHeld ?_
   try simp only [Act.put, zA, zB, zC]
   refine zS (i := 21) rfl hHeld ?_
   try simp only [Act.put, zA, zB, zC]
   refine zS (i := 22) rfl hHeld ?_
   try simp only [Act.put, zA, zB, zC]
   refine zS (i := 23) rfl hHeld ?_
   try simp only [Act.put, zA, zB, zC]
   refine zS (i := 24) rfl hHeld ?_
   try simp only [Act.put, zA, zB, zC]
   refine zT (i := 25) (v := ?_) rfl ?_ hHeld ?_
   rotate_left 1
   ·intro u hSu
    go_simp
    first | done | with_reducible rfl
   try simp only [Act.put, zA, zB, zC]
   refine wpAnyH_done (by kernel_rfl) ?_ _
   have G2 := Lib.hid (grown_trans N1.out.gr hHeld.out)
   clear hHeld N1 N
   go_wp2_with fail
   go_ret
   rw [HF0.out]
   exact ⟨rfl, G2.out⟩
  have HWY : Hid (wrE y = false) := Lib.hid (by rw [HW.out]; rfl)
  clear HW
  have HA : Hid ((E.take (k + 1)).any wrE = false) := Lib.hid (any_take HN.out.1 HY.out HWY.out)
  by_cases hk1 : 0 < k
  case neg =>
   have hk0 : ¬ (0 : Int) < (k : Int) := by omega
   have HF := Lib.hid (And.intro e0 (And.intro e1 d2))
   have HS2 : Hid ((E.take (k + 1)).any wrE = false ∧ ∀ i x z, i + 1 < k + 1 → E[i]? = some x → E[i + 1]? = some z → ltE x z = true) := Lib.hid ⟨HA.out, fun i x z h => by omega⟩
   clear d0 d1 HA
   refine wp_region_held_drew (S := fun w' => Hid (w3.grownBy w' none)) (by kernel_rfl) (hid_drew GZ) (fun hHeld => ?_)
   refine zT (i := 0) (v := ?_) rfl ?_ hHeld ?_
   rotate_left 1
   ·intro u hSu
    go_simp
    first | done | with_reducible rfl
   try simp only [Act.put, zA, zB, zC]
   refine zT (i := 1) (v := ?_) rfl ?_ hHeld ?_
   rotate_left 1
   ·intro u hSu
    have c0 := hSu.out.cell HF.out.1 (by simp)
    have c1 := hSu.out.cell HF.out.2.1 (by simp)
    have c2 := hSu.out.cell HF.out.2.2 (by simp)
    go_simp
    first | done | with_reducible rfl
   try simp only [Act.put, zA, zB, zC]
   refine wpAnyH_ready (rs := [2]) (by kernel_rfl) (by simp) ?_
   refine AllReadyH.cons (o := ⟨_, _, _, _, _, _⟩) rfl (fun Kz hK => ?_) AllReadyH.nil
   go_simp
   go_at_call 86
   refine (rin10_lit y.i 1 256 _ B3.out _).mono ?_
   rintro e w5 ⟨rfl, rfl⟩
   refine hK.out _ _ (hHeld) (fun hH2 => ?_)
   clear hK Kz hHeld
   have hHeld := hH2
   clear hH2
   try simp only [Act.put, zA, zB, zC]
   refine zT (i := 3) (v := ?_) rfl ?_ hHeld ?_
   rotate_left 1
   ·intro u hSu
    go_simp
    first | done | with_reducible rfl
   try simp only [Act.put, zA, zB, zC]
   refine zT (i := 4) (v := ?_) rfl ?_ hHeld ?_
   rotate_left 1
   ·intro u hSu
    go_simp
    first | done | with_reducible rfl
   try simp only [Act.put, zA, zB, zC]
   refine zT (i := 5) (v := ?_) rfl ?_ hHeld ?_
   rotate_left 1
   ·intro u hSu
    go_simp
    first | done | with_reducible rfl
   try simp only [Act.put, zA, zB, zC]
   refine zT (i := 6) (v := ?_) rfl ?_ hHeld ?_
   rotate_left 1
   ·intro u hSu
    have c0 := hSu.out.cell HF.out.1 (by simp)
    have c1 := hSu.out.cell HF.out.2.1 (by simp)
    have c2 := hSu.out.cell HF.out.2.2 (by simp)
    go_simp
    first | done | with_reducible rfl
   try simp only [Act.put, zA, zB, zC]
   refine wpAnyH_ready (rs := [7]) (by kernel_rfl) (by simp) ?_
   refine AllReadyH.cons (o := ⟨_, _, _, _, _, _⟩) rfl (fun Kz hK => ?_) AllReadyH.nil
   go_simp
   go_at_call 86
   refine (rin10_lit y.r 1 99 _ B4.out _).mono ?_
   rintro e w5 ⟨rfl, rfl⟩
   refine hK.out _ _ (hHeld) (fun hH2 => ?_)
   clear hK Kz hHeld
   have hHeld := hH2
   clear hH2
   try simp only [Act.put, zA, zB, zC]
   refine zT (i := 8) (v := ?_) rfl ?_ hHeld ?_
   rotate_left 1
   ·intro u hSu
    go_simp
    first | done | with_reducible rfl
   try simp only [Act.put, zA, zB, zC]
   refine zT (i := 9) (v := ?_) rfl ?_ hHeld ?_
   rotate_left 1
   ·intro u hSu
    go_simp
    first | done | with_reducible rfl
   try simp only [Act.put, zA, zB, zC]
   refine zT (i := 10) (v := ?_) rfl ?_ hHeld ?_
   rotate_left 1
   ·intro u hSu
    go_simp
    first | done | with_reducible rfl
   try simp only [Act.put, zA, zB, zC]
   refine zT (i := 11) (v := ?_) rfl ?_ hHeld ?_
   rotate_left 1
   ·intro u hSu
    go_simp
    first | done | with_reducible rfl
   try simp only [Act.put, zA, zB, zC]
   refine zT (i := 12) (v := ?_) rfl ?_ hHeld ?_
   rotate_left 1
   ·intro u hSu
    go_simp
    first | done | with_reducible rfl
   try simp only [Act.put, zA, zB, zC]
   refine zT (i := 13) (v := ?_) rfl ?_ hHeld ?_
   rotate_left 1
   ·intro u hSu
    go_simp
    first | done | with_reducible rfl
   try simp only [Act.put, zA, zB, zC]
   refine zS (i := 14) rfl hHeld ?_
   try simp only [Act.put, zA, zB, zC]
   refine zS (i := 15) rfl hHeld ?_
   try simp only [Act.put, zA, zB, zC]
   refine zS (i := 16) rfl hHeld ?_
   try simp only [Act.put, zA, zB, zC]
   refine zS (i := 17) rfl hHeld ?_
   try simp only [Act.put, zA, zB, zC]
   refine zS (i := 18) rfl hHeld ?_
   try simp only [Act.put, zA, zB, zC]
   refine zS (i := 19) rfl hHeld ?_
   try simp only [Act.put, zA, zB, zC]
   refine zS (i := 20) rfl hHeld ?_
   try simp only [Act.put, zA, zB, zC]
   refine zS (i := 21) rfl hHeld ?_
   try simp only [Act.put, zA, zB, zC]
   refine zS (i := 22) rfl hHeld ?_
   try simp only [Act.put, zA, zB, zC]
   refine zS (i := 23) rfl hHeld ?_
   try simp only [Act.put, zA, zB, zC]
   refine zT (i := 24) (v := ?_) rfl ?_ hHeld ?_
   rotate_left 1
   ·intro u hSu
    go_simp
    first | done | with_reducible rfl
   try simp only [Act.put, zA, zB, zC]
   refine zT (i := 25) (v := ?_) rfl ?_ hHeld ?_
   rotate_left 1
   ·intro u hSu
    go_simp
    first | done | with_reducible rfl
   try simp only [Act.put, zA, zB, zC]
   refine wpAnyH_done (by kernel_rfl) ?_ _
   have N2 := Lib.hid (And.intro (N1.out.keep hHeld.out) (kept_row HB.out hHeld.out (by simp)))
   clear hHeld N1 N HB HF GZ HK3 HB0
   generalize w3.drew = w5 at *
   obtain ⟨d0, d1⟩ := row_cells N2.out.2
   have hbs : w.heap.size + 1 ≤ w5.heap.size := N2.out.1.sz
   have hml : (rsE (E.take (k))).length ≤ 24 := by unfold rsE; rw [List.length_map, List.length_take]; omega
   have HRS : Hid (rsE (E.take (k + 1)) = rsE (E.take (k)) ++ [y.r]) := Lib.hid (rsE_snoc HY.out)
   obtain ⟨M, hM⟩ : ∃ M, rsE (E.take (k)) = M := ⟨_, rfl⟩
   rw [hM] at HRS hml N2
   clear hM
   obtain ⟨pv, cv, rfl, -, -⟩ := own_shape N2.out.1.own
   have HO := Lib.hid N2.out.1.own
   go_wp2_with (at_builtin; refine wpList_append_f ivC 1 8 (by decide) (fun _ => rfl) ivC_one 3 22 ii _ Tryz.underlying22 hi hi0 hi1 hi2 rfl (by decide) rfl _ _ rfl (w.heap.size + 1) _ M _ ?c0 rfl (HO.out.alloc _) (some ⟨w5.heap.size, 0, none⟩) 1 1 [y.r] rfl rfl (by simp) (fun _ => True) (rdf_one _ trivial (fun j u hu => iv_rowI _ _ _ _ _ hu) 1) (by decide) (by simp; omega) (by simp; omega) ?_)
   try (case c0 => rfl)
   intro v' w9 hown' hg
   have N3 : Hid (RQ w sub n E (some ⟨b, off, none⟩) c v' (rsE (E.take (k + 1))) w9) := Lib.hid (by rw [HRS.out]; exact N2.out.1.app (by simpa using hown') hg)
   obtain ⟨p1, c1, rfl, -, -⟩ := own_shape hown'
   clear hown' hg HO N2 d0 d1
   go_wp2_with fail
   exact ⟨⟨k + 1, _, rfl, by omega, congrArg _ (by omega), HS2, N3⟩, by simp only [RowKit.intOf]; omega⟩
  obtain ⟨j, rfl⟩ : ∃ j, k = j + 1 := ⟨k - 1, by omega⟩
  obtain ⟨x, hx⟩ : ∃ x, E[j]? = some x := ⟨_, List.getElem?_eq_getElem (by omega)⟩
  have a1 := HB0.out.2.cell (HCC.out j x hx).2 (by simp)
  have HF := Lib.hid (And.intro e0 (And.intro e1 (And.intro d2 a1)))
  have HX := Lib.hid hx
  have ew1 : ((j : Int) + 1 - 1) = (j : Int) := by omega
  have ew2 : IntKind.i64.wrap ((j : Int) + 1 - 1) = (j : Int) := by rw [ew1, IntWalk.i64_in _ (by omega)]
  have ew3 : IntKind.i64.wrap (j : Int) = (j : Int) := IntWalk.i64_in _ (by omega)
  have j0 : (0 : Int) ≤ (j : Int) := by omega
  have j1 : (0 : Int) < (j : Int) + 1 := by omega
  have j2 : (j : Int) < (E.length : Int) := by omega
  clear d0 d1 hx hk1
  by_cases hxy : x.i < y.i
  case neg =>
   have hxy' : y.i ≤ x.i := by omega
   have HF0 : Hid (vPl sub n E = false) := Lib.hid (vpl_as HX.out HY.out hxy)
   have hcast : ((j + 1 : Nat) : Int) = (j : Int) + 1 := by omega
   rw [hcast]
   clear hcast hxy
   go_region_held3 (fun w' => w'.cell? ⟨By, 0, none⟩ = some (.int .i64 y.r) ∧ w'.cell? ⟨By, 1, none⟩ = some (.int .i64 y.i) ∧ w'.cell? ⟨w.heap.size, 2, none⟩ = some (.slice (some ⟨b, off, none⟩) E.length c) ∧ w'.cell? ⟨b, off + j * 2 + 1, none⟩ = some (.int .i64 x.i) ∧ Hid (w3.grownBy w' none))
    (first | with_reducible exact keep4q HF.out (hid_drew GZ) | (go_split_ands; with_reducible refine keep4q HF.out ?_; with_reducible assumption) | (go_split_ands; with_reducible refine keep4q HF.out (hid_drew ?_); with_reducible assumption))
    ((go_at_call 86; go_split_ands; (first | with_reducible refine (rin10_lit y.i 1 256 _ B3.out _).mono ?_ | with_reducible refine (rin10_lit y.r 1 99 _ B4.out _).mono ?_); rintro e w' ⟨rfl, rfl⟩))
   all_goals
    go_split_ands
    have HG1 := (by assumption : Hid (w3.grownBy _ none))
    have G2 := Lib.hid (grown_trans N1.out.gr HG1.out)
    clear HG1 N1 N
    go_wp2_with fail
    go_ret
    rw [HF0.out]
    exact ⟨rfl, G2.out⟩
  have hxy' : ¬ y.i ≤ x.i := by omega
  have HS2 : Hid ((E.take (j + 1 + 1)).any wrE = false ∧ ∀ i x z, i + 1 < j + 1 + 1 → E[i]? = some x → E[i + 1]? = some z → ltE x z = true) := Lib.hid ⟨HA.out, fun i u z h hu hz => by
   by_cases hij : i + 1 < j + 1
   ·exact HN.out.2 i u z hij hu hz
   ·obtain rfl : i = j := by omega
    rw [HX.out] at hu
    rw [HY.out] at hz
    obtain rfl := Option.some.inj hu
    obtain rfl := Option.some.inj hz
    exact decide_eq_true hxy⟩
  have hcast : ((j + 1 : Nat) : Int) = (j : Int) + 1 := by omega
  rw [hcast]
  clear hcast HA
  go_region_held3 (fun w' => w'.cell? ⟨By, 0, none⟩ = some (.int .i64 y.r) ∧ w'.cell? ⟨By, 1, none⟩ = some (.int .i64 y.i) ∧ w'.cell? ⟨w.heap.size, 2, none⟩ = some (.slice (some ⟨b, off, none⟩) E.length c) ∧ w'.cell? ⟨b, off + j * 2 + 1, none⟩ = some (.int .i64 x.i) ∧ Hid (w3.grownBy w' none))
   (first | with_reducible exact keep4q HF.out (hid_drew GZ) | (go_split_ands; with_reducible refine keep4q HF.out ?_; with_reducible assumption) | (go_split_ands; with_reducible refine keep4q HF.out (hid_drew ?_); with_reducible assumption))
   ((go_at_call 86; go_split_ands; (first | with_reducible refine (rin10_lit y.i 1 256 _ B3.out _).mono ?_ | with_reducible refine (rin10_lit y.r 1 99 _ B4.out _).mono ?_); rintro e w' ⟨rfl, rfl⟩))
  all_goals
   go_split_ands
   have HG1 := (by assumption : Hid (w3.grownBy _ none))
   have N2 := Lib.hid (And.intro (N1.out.keep HG1.out) (kept_row HB.out HG1.out (by simp)))
   clear HG1 N1 N HB HF GZ HK3 HB0
   generalize w3.drew = w5 at *
   obtain ⟨d0, d1⟩ := row_cells N2.out.2
   have hbs : w.heap.size + 1 ≤ w5.heap.size := N2.out.1.sz
   have hml : (rsE (E.take (j + 1))).length ≤ 24 := by unfold rsE; rw [List.length_map, List.length_take]; omega
   have HRS : Hid (rsE (E.take (j + 1 + 1)) = rsE (E.take (j + 1)) ++ [y.r]) := Lib.hid (rsE_snoc HY.out)
   obtain ⟨M, hM⟩ : ∃ M, rsE (E.take (j + 1)) = M := ⟨_, rfl⟩
   rw [hM] at HRS hml N2
   clear hM
   obtain ⟨pv, cv, rfl, -, -⟩ := own_shape N2.out.1.own
   have HO := Lib.hid N2.out.1.own
   go_wp2_with (at_builtin; refine wpList_append_f ivC 1 8 (by decide) (fun _ => rfl) ivC_one 3 22 ii _ Tryz.underlying22 hi hi0 hi1 hi2 rfl (by decide) rfl _ _ rfl (w.heap.size + 1) _ M _ ?c0 rfl (HO.out.alloc _) (some ⟨w5.heap.size, 0, none⟩) 1 1 [y.r] rfl rfl (by simp) (fun _ => True) (rdf_one _ trivial (fun j u hu => iv_rowI _ _ _ _ _ hu) 1) (by decide) (by simp; omega) (by simp; omega) ?_)
   try (case c0 => rfl)
   intro v' w9 hown' hg
   have N3 : Hid (RQ w sub n E (some ⟨b, off, none⟩) c v' (rsE (E.take (j + 1 + 1))) w9) := Lib.hid (by rw [HRS.out]; exact N2.out.1.app (by simpa using hown') hg)
   obtain ⟨p1, c1, rfl, -, -⟩ := own_shape hown'
   clear hown' hg HO N2 d0 d1
   go_wp2_with fail
   exact ⟨⟨j + 1 + 1, _, rfl, by omega, congrArg _ (by omega), HS2, N3⟩, by simp only [RowKit.intOf]; omega⟩
 by_cases hn0 : n = 0
 case neg =>
  have hn0' : (n != 0) = true := by simpa using hn0
  have HF : Hid (vPl sub n E = false) := Lib.hid (by unfold vPl; rw [B2.out, decide_eq_false hn0]; simp)
  clear hn0
  go_wp2_with fail
  go_ret
  rw [HF.out]
  exact ⟨rfl, H0.out.gr⟩
 have hn0' : (n != 0) = false := by simpa using hn0
 by_cases hE : 0 < E.length
 case pos =>
  have hE' : (0 : Int) < (E.length : Int) := by omega
  have HF : Hid (vPl sub n E = false) := Lib.hid (by unfold vPl; rw [B2.out, decide_eq_false (show ¬ E.length = 0 by omega)]; simp)
  clear hn0
  go_wp2_with fail
  go_ret
  rw [HF.out]
  exact ⟨rfl, H0.out.gr⟩
 have hE' : ¬ (0 : Int) < (E.length : Int) := by omega
 have HP : Hid (E.length ≤ 24 → vPl sub n E = (!E.any wrE && ascB ltE E && !repI (rsE E))) := Lib.hid (fun h => by
  unfold vPl rsE
  rw [B1.out, decide_eq_true h, decide_eq_true hn0, decide_eq_true (show E.length = 0 by omega)]
  simp)
 clear hn0
 by_cases h24 : 24 < E.length
 case pos => omega
 have h24' : ¬ (24 : Int) < (E.length : Int) := by omega
 have HP2 := Lib.hid (HP.out (by omega))
 have HA0 : Hid ((E.take 0).any wrE = false ∧ ∀ i x y, i + 1 < 0 → E[i]? = some x → E[i + 1]? = some y → ltE x y = true) := Lib.hid ⟨rfl, fun i x y h => by omega⟩
 clear HP
 go_wp2_with fail
 clear d0 d1 d2
 go_loopw [3, 4] (fun u a wr => ∃ (k : Nat) (v : Value), v = u ∧ k ≤ E.length ∧ a = .int .i64 (k : Int) ∧ Hid ((E.take k).any wrE = false ∧ ∀ i x y, i + 1 < k → E[i]? = some x → E[i + 1]? = some y → ltE x y = true) ∧ Hid (RQ w sub n E p c v (rsE (E.take k)) wr)) (fun _ a _ => E.length - (RowKit.intOf a).toNat)
 case atStart => exact ⟨0, _, rfl, Nat.zero_le _, rfl, HA0, H0⟩
 case round =>
 clear HA0 H0
 obtain ⟨k, v, rfl, hk, rfl, HN, N⟩ := hrel
 obtain ⟨w2, hw2⟩ : ∃ w2, w2 = wr := ⟨_, rfl⟩
 rw [← hw2] at N ⊢
 clear hw2
 obtain ⟨⟨d0, d1, d2⟩, -⟩ := row3i N.out.bx
 by_cases hlt : k < E.length
 case neg =>
  obtain rfl : k = E.length := by omega
  have hnl : ¬ (E.length : Int) < (E.length : Int) := by omega
  have HV : Hid (vPl sub n E = !repI (rsE E)) := Lib.hid (by
   have h1 : E.any wrE = false := any_end HN.out.1 (Nat.le_refl _)
   have h2 : ascB ltE E = true := (ascB_iff ltE E).2 fun i x y hx hy => HN.out.2 i x y (List.getElem?_eq_some_iff.1 hy).1 hx hy
   rw [HP2.out, h1, h2]
   rfl)
  have hown := N.out.own
  rw [List.take_length] at hown
  obtain ⟨pv, cv, rfl, -, -⟩ := own_shape hown
  have HR2 := Lib.hid (rd_of_own (xs := (rsE E).map fun z => Value.int .i64 z) (by rw [← flat_iv]; exact hown))
  have hrl : (rsE E).length ≤ 24 := by unfold rsE; rw [List.length_map]; omega
  clear hown
  go_wp2_with fail
  refine (irep_any (rsE E) pv cv _ w2 HR2.out (by omega)).mono ?_
  rintro e w4 ⟨rfl, hg⟩
  have G2 := Lib.hid (grown_trans N.out.gr hg)
  clear hg N
  go_wp2_with fail
  go_ret
  rw [HV.out]
  exact ⟨rfl, G2.out⟩
 omega
end Go.Proofs.YtpogblengagpaaaGreatDoor

/- tables, the reference's functions: All. -/
namespace Go.Proofs.YtpogblengagpaaaGreatDoor
set_option maxRecDepth 100000
open Go.RowKit Bs
set_option maxHeartbeats 12800000 in
theorem rall11_any (T : Tg) (s n : Int) (E : List Ed) (pE : Option Addr) (cE : Nat) (q q2 : Nat → Prop) (w : World) (hT : TgOk w q T) (hE : RdF w q2 (.slice pE E.length cE) E.length (E.flatMap edC)) (hm : E.length ≤ 9223372036854775807) :
  Calls Tryz.prog 34 #[.agg #[.slice T.pR T.R.length T.cR, .slice T.pL T.L.length T.cL], .agg #[.int .i64 s, .int .i64 n, .slice pE E.length cE]] w fun e w' => RAllPost T.R T.L s n E w e w' := by
 obtain ⟨R, L0, pR, cR, pL, cL⟩ := T
 simp only
 obtain ⟨ii, hii, hi0, hi1, hi2⟩ := info_parts info_tabT
 have H0 := Lib.hid (alT_start s n hT hE)
 clear hT hE
 go_enter Tryz.func34, Tryz.ntmps34
 go_upto_region 1 with fail
 generalize (w.alloc _).alloc _ = wa at *
 have hnil : ∀ w', ¬ (okT R L0 = true ∧ vPl s n E = true) → w.grownBy w' none → RAllPost R L0 s n E w (.returned (.tuple #[.slice none 0 0, .int .i64 1])) w' := fun w' hno g => ⟨[], none, 0, 1, rfl, Or.inr ⟨rfl, hno, rfl⟩, World.ownsRow_nil _ _ _ _, fun x hx => (by cases hx), g⟩
 have HNIL := Lib.hid hnil
 clear hnil
 obtain ⟨t0, t1⟩ := row_cells H0.out.bT
 obtain ⟨q0, q1, q2⟩ := row3B H0.out.bP
 go_wp2_with fail
 refine (rcheck_any ⟨R, L0, pR, cR, pL, cL⟩ _ wa H0.out.t).mono ?_
 rintro e w1 ⟨rfl, hg⟩
 have H1 := Lib.hid (H0.out.keep hg)
 clear hg H0 t0 t1 q0 q1 q2
 simp only
 by_cases hck : chk R L0 = 0
 case neg =>
  have hck' : (chk R L0 != 0) = true := by simpa using hck
  have HF := Lib.hid hck
  clear hck
  go_wp2_with fail
  go_ret2
  exact HNIL.out _ (fun h => HF.out (by have := h.1; unfold okT at this; simpa using this)) H1.out.gr
 have HOK : Hid (okT R L0 = true) := Lib.hid (by unfold okT; simpa using hck)
 rw [hck]
 clear hck
 obtain ⟨t0, t1⟩ := row_cells H1.out.bT
 obtain ⟨q0, q1, q2⟩ := row3B H1.out.bP
 go_wp2_with fail
 refine (irvplan_any s n E pE cE _ w1 H1.out.e hm).mono ?_
 rintro e w2 ⟨rfl, hg⟩
 have H2 := Lib.hid (H1.out.keep hg)
 clear hg H1 t0 t1 q0 q1 q2
 simp only
 cases hvp : vPl s n E
 case false =>
  have HF := Lib.hid hvp
  clear hvp
  go_wp2_with fail
  go_ret2
  exact HNIL.out _ (fun h => by rw [HF.out] at h; cases h.2) H2.out.gr
 have HVP := Lib.hid hvp
 clear hvp HNIL hm
 have hRl := (okT_len HOK.out).1
 have hEl : E.length ≤ 1000 := by
  have h := HVP.out
  unfold vPl at h
  simp only [Bool.and_eq_true, decide_eq_true_eq] at h
  omega
 go_wp2_with fail
 go_loopw [6, 7] (fun v a wr => ∃ (k : Nat) (Ts : List TbS) (p : Option Addr) (c : Nat), k ≤ R.length ∧ v = .slice p Ts.length c ∧ a = .int .i64 (k : Int) ∧ Hid (AllM R L0 s n E (R.take k) Ts) ∧ Hid (AlT w ⟨R, L0, pR, cR, pL, cL⟩ s n E pE cE (.slice p Ts.length c) Ts wr)) (fun _ a _ => R.length - (RowKit.intOf a).toNat)
 case atStart => exact ⟨0, [], none, 0, Nat.zero_le _, rfl, rfl, Lib.hid (by rw [List.take_zero]; exact AllM.nil), H2⟩
 case round =>
 clear H2
 obtain ⟨k, Ts, p, c, hk, rfl, rfl, HB, K⟩ := hrel
 obtain ⟨w5, hw5⟩ : ∃ w5, w5 = wr := ⟨_, rfl⟩
 rw [← hw5] at K ⊢
 clear hw5
 obtain ⟨t0, t1⟩ := row_cells K.out.bT
 by_cases hlt : k < R.length
 case neg =>
  obtain rfl : k = R.length := by omega
  have hnl : ¬ (R.length : Int) < (R.length : Int) := by omega
  rw [List.take_length] at HB
  have HK := Lib.hid K.out
  clear K
  go_wp2_with fail
  go_ret2
  exact ⟨Ts, p, c, 0, rfl, Or.inl ⟨rfl, HOK.out, HVP.out, HB.out⟩, HK.out.own.mono (by omega), fun x hx => by
   have h := HK.out.tabs x hx
   exact ⟨h.rd.mono (fun b hb => ⟨by have := hb.1; omega, hb.2⟩), h.hn, h.hc, h.hy⟩, HK.out.gr⟩
 have hlt' : (k : Int) < (R.length : Int) := by omega
 have hk0 : (0 : Int) ≤ (k : Int) := by omega
 obtain ⟨y, hy⟩ : ∃ y, R[k]? = some y := ⟨_, List.getElem?_eq_getElem hlt⟩
 obtain ⟨-, b, off, rfl, -, hc⟩ := rdr_cells (R := R) K.out.t.r (by omega)
 obtain ⟨a0, a1⟩ := hc k y hy
 have HY := Lib.hid hy
 clear hc hy
 cases hcap : y.cap
 case false =>
  rw [hcap] at a1
  have HB2 := Lib.hid (HB.out.skip HY.out hcap)
  clear hcap HB a0
  go_wp2_with fail
  exact ⟨⟨k + 1, Ts, p, c, by omega, rfl, congrArg _ (by omega), HB2, K⟩, by simp only [RowKit.intOf]; omega⟩
 rw [hcap] at a1
 have HC := Lib.hid hcap
 clear hcap
 have hLE : Hid (Ts.length ≤ 1000) := Lib.hid (by have := HB.out.len; rw [List.length_take] at this; omega)
 have hLl := hLE.out
 go_upto_region 8 with fail
 refine region_until (S := fun w' => Hid (w5.grownBy w' none)) (fun j => j == 11 || j == 12) (by kernel_rfl) (Lib.hid (grown_drew (grown_refl _ none))) (fun hHeld => ?_)
 refine zU (i := 0) (v := ?_) rfl ?_ hHeld ?_
 rotate_left 1
 ·intro u hSu
  go_simp
  first | done | with_reducible rfl
 try simp only [Act.put, zA, zB, zC]
 refine zU (i := 1) (v := ?_) rfl ?_ hHeld ?_
 rotate_left 1
 ·intro u hSu
  obtain ⟨t0u, t1u⟩ := row_cells (kept_row K.out.bT hSu.out (by simp))
  obtain ⟨q0u, q1u, q2u⟩ := row3B (kept_row K.out.bP hSu.out (by simp))
  have a0u := hSu.out.cell a0 (by simp)
  go_simp
  first | done | with_reducible rfl
 try simp only [Act.put, zA, zB, zC]
 refine zU (i := 2) (v := ?_) rfl ?_ hHeld ?_
 rotate_left 1
 ·intro u hSu
  obtain ⟨t0u, t1u⟩ := row_cells (kept_row K.out.bT hSu.out (by simp))
  obtain ⟨q0u, q1u, q2u⟩ := row3B (kept_row K.out.bP hSu.out (by simp))
  have a0u := hSu.out.cell a0 (by simp)
  go_simp
  first | done | with_reducible rfl
 try simp only [Act.put, zA, zB, zC]
 refine zU (i := 3) (v := ?_) rfl ?_ hHeld ?_
 rotate_left 1
 ·intro u hSu
  go_simp
  first | done | with_reducible rfl
 try simp only [Act.put, zA, zB, zC]
 refine zU (i := 4) (v := ?_) rfl ?_ hHeld ?_
 rotate_left 1
 ·intro u hSu
  obtain ⟨t0u, t1u⟩ := row_cells (kept_row K.out.bT hSu.out (by simp))
  obtain ⟨q0u, q1u, q2u⟩ := row3B (kept_row K.out.bP hSu.out (by simp))
  have a0u := hSu.out.cell a0 (by simp)
  go_simp
  first | done | with_reducible rfl
 try simp only [Act.put, zA, zB, zC]
 refine zU (i := 5) (v := ?_) rfl ?_ hHeld ?_
 rotate_left 1
 ·intro u hSu
  go_simp
  first | done | with_reducible rfl
 try simp only [Act.put, zA, zB, zC]
 refine zU (i := 6) (v := ?_) rfl ?_ hHeld ?_
 rotate_left 1
 ·intro u hSu
  go_simp
  first | done | with_reducible rfl
 try simp only [Act.put, zA, zB, zC]
 refine zU (i := 7) (v := ?_) rfl ?_ hHeld ?_
 rotate_left 1
 ·intro u hSu
  go_simp
  first | done | with_reducible rfl
 try simp only [Act.put, zA, zB, zC]
 refine zU (i := 8) (v := ?_) rfl ?_ hHeld ?_
 rotate_left 1
 ·intro u hSu
  obtain ⟨t0u, t1u⟩ := row_cells (kept_row K.out.bT hSu.out (by simp))
  obtain ⟨q0u, q1u, q2u⟩ := row3B (kept_row K.out.bP hSu.out (by simp))
  have a0u := hSu.out.cell a0 (by simp)
  go_simp
  first | done | with_reducible rfl
 try simp only [Act.put, zA, zB, zC]
 refine anyU_ready (rs := [9]) (by kernel_rfl) (by simp) ?_
 refine EachU.cons (o := ⟨_, _, _, _, _, _⟩) rfl (fun Kz hK => ?_) EachU.nil
 go_simp
 go_at_call 63
 refine (rbuild_any ⟨R, L0, some ⟨b, off, none⟩, cR, pL, cL⟩ s n y.id E pE cE _ _ _ (K.out.keep hHeld.out).t (K.out.keep hHeld.out).e hEl).mono ?_
 rintro e' w7 ⟨L, p2, c2, rfl, hown, hrows, hM, hg⟩
 have HBL := Lib.hid (And.intro (hown.mono (base := _) hHeld.out.size) (And.intro (fun x hx => (⟨(hrows x hx).1.mono (fun b hb => ⟨Nat.le_trans hHeld.out.size hb.1, hb.2⟩), (hrows x hx).2⟩ : RdX w5.heap.size w7 _ _ _ _)) hM))
 have HN := Lib.hid (grown_trans hHeld.out hg)
 clear hown hrows hM hg
 simp only
 refine hK.out _ _ (fun _ => HN) (fun hH2 => ?_)
 clear hK Kz hHeld
 have hHeld := hH2 rfl
 clear hH2
 try simp only [Act.put, zA, zB, zC]
 refine anyU_ready (rs := [10]) (by kernel_rfl) (by simp) ?_
 refine EachU.cons (o := ⟨_, _, _, _, _, _⟩) rfl (fun Kz hK => ?_) EachU.nil
 have K7 := Lib.hid (K.out.keep hHeld.out)
 go_simp
 refine hK.out _ _ (fun _ => hid_more hHeld (World.grownBy_alloc _ _ _)) (fun hH2 => ?_)
 clear hK Kz hHeld
 have hHeld := hH2 rfl
 clear hH2
 try simp only [Act.put, zA, zB, zC]
 refine anyU_ready (rs := [11]) (by kernel_rfl) (by simp) ?_
 refine EachU.cons (o := ⟨_, _, _, _, _, _⟩) rfl (fun Kz hK => ?_) EachU.nil
 refine step_append_lies _ (by rfl) _ _ 85 (by rfl) (w.heap.size + 2) 25 ii (.agg #[.int .i64 0, .int .i64 0, .int .i64 0, .slice none 0 0]) 4 48 Tryz.underlying85 hii hi0 hi1 hi2 rfl (by decide) (.slice p Ts.length c) Ts.length (Ts.flatMap tbC) (by rfl) (K7.out.own.alloc _) ⟨w7.heap.size, 0, none⟩ 1 1 (tbC ⟨y.id, s, n, L, p2, c2⟩) (by rfl) (by rfl) (tb_row w7 ⟨y.id, s, n, L, p2, c2⟩ _) (tb_one ⟨y.id, s, n, L, p2, c2⟩) (by decide) (by unfold maxLen; omega) (by omega) (by have := K7.out.lo; simp; omega) _ rfl ?_
 intro g cap w8 hown8 hgrow hat hlt8
 have ga := World.grownBy_alloc w7 (.cells #[.int .i64 y.id, .int .i64 s, .int .i64 n, .slice p2 L.length c2] 25) none
 have hv : (Value.slice (some ⟨g, 0, none⟩) (Ts.length + 1) cap).ownBlock = (Value.slice p Ts.length c).ownBlock ∨ ∀ b, some b = (Value.slice (some ⟨g, 0, none⟩) (Ts.length + 1) cap).ownBlock → (w7.alloc (.cells #[.int .i64 y.id, .int .i64 s, .int .i64 n, .slice p2 L.length c2] 25)).heap.size ≤ b := by
  rcases hat with h | h
  ·exact Or.inl h.symm
  ·refine Or.inr fun b e => ?_
   have e2 : some b = some g := e
   have := Option.some.inj e2
   rw [this, h]
   exact Nat.le_refl _
 have K8 := (K7.out.keep ga).push (x := ⟨y.id, s, n, L, p2, c2⟩) (v' := .slice (some ⟨g, 0, none⟩) (Ts.length + 1) cap) ((tbx_of_bld y.id s n HBL.out.1 HBL.out.2.1 (fun b e => (K.out.own.lt b e).2) K.out.lo).keep ga) (by rw [List.length_append, List.flatMap_append]; simpa [tbC] using hown8) hgrow hv
 have HB2 := Lib.hid (HB.out.push HY.out HC.out HBL.out.2.2 p2 c2)
 have HLL : Hid ((Ts ++ [(⟨y.id, s, n, L, p2, c2⟩ : TbS)]).length = Ts.length + 1) := Lib.hid (by rw [List.length_append]; rfl)
 have K8 := Lib.hid K8
 clear hown8 hgrow hat hlt8 ga hv K7 HBL
 refine hK.out _ _ (fun h => by cases h) (fun _ => ?_)
 clear hK Kz
 try simp only [Act.put, zA, zB, zC]
 refine anyU_ready (rs := [12]) (by kernel_rfl) (by simp) ?_
 refine EachU.cons (o := ⟨_, _, _, _, _, _⟩) rfl (fun Kz hK => ?_) EachU.nil
 go_simp
 refine hK.out _ _ (fun h => by cases h) (fun _ => ?_)
 clear hK Kz
 try simp only [Act.put, zA, zB, zC]
 refine anyU_done (by kernel_rfl) ?_ _
 clear hHeld t0 t1 a0 a1
 go_wp2_with fail
 exact ⟨⟨k + 1, Ts ++ [⟨y.id, s, n, L, p2, c2⟩], some ⟨g, 0, none⟩, cap, by omega, by rw [HLL.out], congrArg _ (by omega), HB2, by rw [HLL.out]; exact K8⟩, by simp only [RowKit.intOf]; omega⟩
end Go.Proofs.YtpogblengagpaaaGreatDoor

/- tables: rows that are their owner's. -/
namespace Go.Proofs.YtpogblengagpaaaGreatDoor
set_option maxRecDepth 100000
open Go.RowKit Bs
def Rw.v (x : Rw) : Value := .slice x.p x.nx.length x.c
structure OwnT (lo : Nat) (w : World) (v : Value) (M : List Rw) : Prop where
 own : w.ownsRow lo 80 2 v M.length (M.flatMap rwC)
 nx : ∀ x ∈ M, w.ownsRow lo 3 1 x.v x.nx.length (x.nx.map tv)
 ap : ∀ x ∈ M, ∀ g, x.v.ownBlock = some g → v.ownBlock ≠ some g
 pw : M.Pairwise fun x y => ∀ g, x.v.ownBlock = some g → y.v.ownBlock ≠ some g
theorem own_keptN {w w1 : World} {base size n : Nat} {e : TypeId} {v : Value} {xs : List Value} (h : w.ownsRow base e size v n xs) (g : w.grownBy w1 none) : w1.ownsRow base e size v n xs := h.kept g (by cases v.ownBlock <;> simp)
theorem own_keptV {w w1 : World} {base size n : Nat} {e : TypeId} {v : Value} {u : Value} {xs : List Value} (h : w.ownsRow base e size v n xs) (g : w.grownBy w1 u.ownBlock) (hne : ∀ b, v.ownBlock = some b → u.ownBlock ≠ some b) : w1.ownsRow base e size v n xs := by
 refine h.kept g ?_
 cases hv : v.ownBlock with
 | none => exact .inl rfl
 | some b => exact .inr (fun e => hne b hv e.symm)
theorem own_otherL {w w' : World} {base size n b : Nat} {e : TypeId} {v : Value} {xs : List Value} (h : w.ownsRow base e size v n xs) (g : w.grownBy w' (some b)) (hb : b < base) : w'.ownsRow base e size v n xs := by
 refine h.kept g ?_
 cases hv : v.ownBlock with
 | none => exact .inl rfl
 | some k => exact .inr (fun e => by have := (h.lt k hv).1; have := Option.some.inj e; omega)
theorem OwnT.nil (lo : Nat) (w : World) : OwnT lo w (.slice none 0 0) [] := ⟨World.ownsRow_nil _ _ _ _, fun x hx => (by cases hx), fun x hx => (by cases hx), List.Pairwise.nil⟩
theorem OwnT.keep {lo : Nat} {w w1 : World} {v : Value} {M : List Rw} (h : OwnT lo w v M) (g : w.grownBy w1 none) : OwnT lo w1 v M := ⟨own_keptN h.own g, fun x hx => own_keptN (h.nx x hx) g, h.ap, h.pw⟩
theorem OwnT.mono {lo lo2 : Nat} {w : World} {v : Value} {M : List Rw} (h : OwnT lo w v M) (hl : lo2 ≤ lo) : OwnT lo2 w v M := ⟨h.own.mono hl, fun x hx => (h.nx x hx).mono hl, h.ap, h.pw⟩
theorem OwnT.over {lo r : Nat} {w w1 : World} {v : Value} {M : List Rw} (h : OwnT lo w v M) (g : w.grownBy w1 (some r)) (hr : r < lo) : OwnT lo w1 v M :=
 ⟨own_otherL h.own g hr, fun x hx => own_otherL (h.nx x hx) g hr, h.ap, h.pw⟩
theorem OwnT.push {lo : Nat} {w0 w w1 : World} {v v' : Value} {M : List Rw} {x : Rw} (h : OwnT lo w0 v M) (hlo : lo ≤ w0.heap.size) (g0 : w0.grownBy w none) (hx : w.ownsRow w0.heap.size 3 1 x.v x.nx.length (x.nx.map tv)) (hown : w1.ownsRow lo 80 2 v' (M ++ [x]).length ((M ++ [x]).flatMap rwC)) (g : w.grownBy w1 v.ownBlock) (hv : v'.ownBlock = v.ownBlock ∨ ∀ b, some b = v'.ownBlock → w.heap.size ≤ b) : OwnT lo w1 v' (M ++ [x]) := by
 have hvl : ∀ b, v.ownBlock = some b → b < w0.heap.size := fun b e => (h.own.lt b e).2
 have hyl : ∀ y ∈ M, ∀ b, y.v.ownBlock = some b → b < w0.heap.size := fun y hy b e => ((h.nx y hy).lt b e).2
 have hxl : ∀ b, x.v.ownBlock = some b → w0.heap.size ≤ b ∧ b < w.heap.size := fun b e => hx.lt b e
 have hv' : ∀ b, v'.ownBlock = some b → (v.ownBlock = some b ∨ w.heap.size ≤ b) := fun b e => by
  rcases hv with hv | hv
  ·exact Or.inl (hv ▸ e)
  ·exact Or.inr (hv b e.symm)
 refine ⟨hown, fun y hy => ?_, fun y hy b hb e => ?_, ?_⟩
 ·rcases List.mem_append.1 hy with hy | hy
  ·exact own_keptV (own_keptN (h.nx y hy) g0) g (h.ap y hy)
  ·rw [List.mem_singleton.1 hy]
   exact (own_keptV hx g (fun b hb e => by have := hxl b hb; have := hvl b e; omega)).mono hlo
 ·have h0 := g0.size
  rcases List.mem_append.1 hy with hy | hy
  ·rcases hv' b e with e | e
   ·exact h.ap y hy b hb e
   ·have := hyl y hy b hb; omega
  ·rw [List.mem_singleton.1 hy] at hb
   have := hxl b hb
   rcases hv' b e with e | e
   ·have := hvl b e; omega
   ·omega
 ·refine List.pairwise_append.2 ⟨h.pw, List.pairwise_singleton _ _, fun y hy z hz b hb e => ?_⟩
  rw [List.mem_singleton.1 hz] at e
  have := hyl y hy b hb
  have := hxl b e
  omega
theorem RdW.old {w : World} {q : Nat → Prop} {p : Option Addr} {c : Nat} {L : List Rw} (h : RdW w q p c L) : RdW w (· < w.heap.size) p c L := ⟨h.rd.old, fun x hx => ⟨(h.ok x hx).rd.old, (h.ok x hx).hc⟩⟩
structure CP (W : World) (r s n : Int) (L : List Rw) (p : Option Addr) (c : Nat) (v : Value) (M : List Rw) (w : World) : Prop where
 bT : w.heap[W.heap.size]? = some (.cells #[.int .i64 r, .int .i64 s, .int .i64 n, .slice p L.length c] 25 (0, 0))
 bR : w.heap[W.heap.size + 1]? = some (.cells #[.int .i64 0, .int .i64 0, .int .i64 0, .slice none 0 0] 25 (0, 0))
 rd : RdW w (· < W.heap.size) p c L
 own : OwnT (W.heap.size + 2) w v M
 gr : W.grownBy w none
 lo : W.heap.size + 2 ≤ w.heap.size
theorem CP.keep {W : World} {r s n : Int} {L : List Rw} {p : Option Addr} {c : Nat} {v : Value} {M : List Rw} {w w1 : World} (h : CP W r s n L p c v M w) (g : w.grownBy w1 none) : CP W r s n L p c v M w1 :=
 ⟨kept_row h.bT g (by simp), kept_row h.bR g (by simp), h.rd.keep g, h.own.keep g, grown_trans h.gr g, Nat.le_trans h.lo g.size⟩
theorem CP.push {W : World} {r s n : Int} {L : List Rw} {p : Option Addr} {c : Nat} {v v' : Value} {M : List Rw} {x : Rw} {w0 w w1 : World} (h : CP W r s n L p c v M w0) (g0 : w0.grownBy w none) (hx : w.ownsRow w0.heap.size 3 1 x.v x.nx.length (x.nx.map tv)) (hown : w1.ownsRow (W.heap.size + 2) 80 2 v' (M ++ [x]).length ((M ++ [x]).flatMap rwC)) (g : w.grownBy w1 v.ownBlock) (hv : v'.ownBlock = v.ownBlock ∨ ∀ b, some b = v'.ownBlock → w.heap.size ≤ b) : CP W r s n L p c v' (M ++ [x]) w1 := by
 have hk := h.keep g0
 have hne : ∀ b, b < W.heap.size + 2 → some b ≠ v.ownBlock := fun b hb e => by have := (h.own.own.lt b e.symm).1; omega
 exact ⟨kept_row hk.bT g (hne _ (by omega)), kept_row hk.bR g (hne _ (by omega)), hk.rd.grown g (fun b hb => hne b (by omega)), h.own.push h.lo g0 hx hown g hv, grown_any hk.gr g (fun b hb => hne b (by omega)), Nat.le_trans hk.lo g.size⟩
theorem cp_start {w : World} {q : Nat → Prop} (r s n : Int) {L : List Rw} {p : Option Addr} {c : Nat} (hR : RdW w q p c L) :
  CP w r s n L p c (.slice none 0 0) [] ((w.alloc (.cells #[.int .i64 r, .int .i64 s, .int .i64 n, .slice p L.length c] 25)).alloc (.cells #[.int .i64 0, .int .i64 0, .int .i64 0, .slice none 0 0] 25)) := by
 obtain ⟨a1, g1, z1⟩ := alloc_row (w := w) #[.int .i64 r, .int .i64 s, .int .i64 n, .slice p L.length c] 25 rfl
 generalize w.alloc _ = w1 at *
 obtain ⟨a2, g2, z2⟩ := alloc_row (w := w1) #[.int .i64 0, .int .i64 0, .int .i64 0, .slice none 0 0] 25 z1
 generalize w1.alloc _ = w2 at *
 have gg := grown_trans g1 g2
 exact ⟨kept_row a1 g2 (by simp), a2, hR.old.keep gg, OwnT.nil _ _, gg, by omega⟩
def rw0 (x : Rw) : Int × List Int := (x.id, x.nx)
end Go.Proofs.YtpogblengagpaaaGreatDoor

/- tables: bitcastmake.copied. -/
namespace Go.Proofs.YtpogblengagpaaaGreatDoor
set_option maxRecDepth 100000
open Go.RowKit Bs
set_option maxHeartbeats 12800000 in
theorem copiedT_any (r s n : Int) (L : List Rw) (p : Option Addr) (c : Nat) (q : Nat → Prop) (w : World) (hR : RdW w q p c L) (hy0 : ∀ y ∈ L, y.p = none → y.c = 0) (hl : L.length ≤ 1000) (hl2 : ∀ y ∈ L, y.nx.length ≤ 1000) :
  Calls Tryz.prog 35 #[.agg #[.int .i64 r, .int .i64 s, .int .i64 n, .slice p L.length c]] w fun e w' => ∃ (M : List Rw) (p2 : Option Addr) (c2 : Nat), e = .returned (.agg #[.int .i64 r, .int .i64 s, .int .i64 n, .slice p2 M.length c2]) ∧ OwnT w.heap.size w' (.slice p2 M.length c2) M ∧ M.map rw0 = L.map rw0 ∧ w.grownBy w' none := by
 obtain ⟨ii, hii, hi0, hi1, hi2⟩ := info_parts info_rowT
 obtain ⟨ie, hie, he0, he1, he2⟩ := info_parts info_int
 have H0 := Lib.hid (cp_start r s n hR)
 have HY0 := Lib.hid (And.intro hy0 hl2)
 clear hR hy0 hl2
 go_enter Tryz.func35, Tryz.ntmps35
 go_upto_region 1 with fail
 generalize (w.alloc _).alloc _ = wa at *
 go_wp2_with fail
 go_loopw [3, 4] (fun v a wr => ∃ (k : Nat) (M : List Rw) (p2 : Option Addr) (c2 : Nat), k ≤ L.length ∧ v = .slice p2 M.length c2 ∧ a = .int .i64 (k : Int) ∧ Hid (M.map rw0 = (L.take k).map rw0) ∧ Hid (CP w r s n L p c (.slice p2 M.length c2) M wr)) (fun _ a _ => L.length - (RowKit.intOf a).toNat)
 case atStart => exact ⟨0, [], none, 0, Nat.zero_le _, rfl, rfl, Lib.hid (by rw [List.take_zero]), H0⟩
 case round =>
 clear H0
 obtain ⟨k, M, p2, c2, hk, rfl, rfl, HB, K⟩ := hrel
 obtain ⟨w5, hw5⟩ : ∃ w5, w5 = wr := ⟨_, rfl⟩
 rw [← hw5] at K ⊢
 clear hw5
 obtain ⟨t0, t1, t2, t3⟩ := row4T K.out.bT
 by_cases hlt : k < L.length
 case neg =>
  obtain rfl : k = L.length := by omega
  have hnl : ¬ (L.length : Int) < (L.length : Int) := by omega
  rw [List.take_length] at HB
  have f3 := frozen_of_row _ _ 3 _ _ K.out.bT
  have hset := heap_setCell_same w5 w.heap.size 3 _ _ (.slice p2 M.length c2) K.out.bT
  have gset : w5.grownBy (w5.setCell ⟨w.heap.size, 3, none⟩ (.slice p2 M.length c2)) (some w.heap.size) := grown_setCell w5 ⟨w.heap.size, 3, none⟩ _
  have HK := Lib.hid (And.intro hset (And.intro (kept_row K.out.bR gset (fun e => by have := Option.some.inj e; omega)) (And.intro (K.out.own.over gset (by omega)) (grown_new K.out.gr gset (Nat.le_refl _)))))
  clear K hset gset
  go_upto_region 7 with fail
  clear t0 t1 t2 t3 f3
  generalize (w5.setCell _ _) = w6 at *
  obtain ⟨t0, t1, t2, t3⟩ := row4T HK.out.1
  obtain ⟨z0, z1, z2, z3⟩ := row4T HK.out.2.1
  have f0 := frozen_of_row _ _ 0 _ _ HK.out.2.1
  have f1 := frozen_of_row _ _ 1 _ _ HK.out.2.1
  have f2 := frozen_of_row _ _ 2 _ _ HK.out.2.1
  have f3 := frozen_of_row _ _ 3 _ _ HK.out.2.1
  have HT := Lib.hid (store4B (.int .i64 r) (.int .i64 s) (.int .i64 n) (.slice p2 M.length c2) HK.out.2.1)
  go_wp2_with fail
  refine bodyPost_ret (res_tabB rfl _ _ (w.heap.size + 1) _ _ _ _ rfl HT.out.1) rfl ?_
  exact ⟨M, p2, c2, rfl, (HK.out.2.2.1.over HT.out.2 (by omega)).mono (by omega), HB.out, grown_new HK.out.2.2.2 HT.out.2 (by omega)⟩
 have hlt' : (k : Int) < (L.length : Int) := by omega
 have hk0 : (0 : Int) ≤ (k : Int) := by omega
 obtain ⟨y, hy⟩ : ∃ y, L[k]? = some y := ⟨_, List.getElem?_eq_getElem hlt⟩
 obtain ⟨-, b, off, rfl, -, hc⟩ := rw_cells K.out.rd.rd (by omega)
 obtain ⟨a0, a1⟩ := hc k y hy
 have HY := Lib.hid hy
 clear hc hy
 have hLE : Hid (M.length ≤ 1000) := Lib.hid (by have := congrArg List.length HB.out; rw [List.length_map, List.length_map, List.length_take] at this; omega)
 have hLl := hLE.out
 have hLn := HY0.out.2 y (List.mem_of_getElem? HY.out)
 go_upto_region 5 with fail
 refine region_until (S := fun w' => Hid (w5.grownBy w' none)) (fun j => j == 17 || j == 18) (by kernel_rfl) (Lib.hid (grown_drew (grown_refl _ none))) (fun hHeld => ?_)
 refine zU (i := 0) (v := ?_) rfl ?_ hHeld ?_
 rotate_left 1
 ·intro u hSu
  go_simp
  first | done | with_reducible rfl
 try simp only [Act.put, zA, zB, zC]
 refine zU (i := 1) (v := ?_) rfl ?_ hHeld ?_
 rotate_left 1
 ·intro u hSu
  go_simp
  first | done | with_reducible rfl
 try simp only [Act.put, zA, zB, zC]
 refine zU (i := 2) (v := ?_) rfl ?_ hHeld ?_
 rotate_left 1
 ·intro u hSu
  obtain ⟨t0u, t1u, t2u, t3u⟩ := row4T (kept_row K.out.bT hSu.out (by simp))
  have a0u := hSu.out.cell a0 (by simp)
  have a1u := hSu.out.cell a1 (by simp)
  go_simp
  first | done | with_reducible rfl
 try simp only [Act.put, zA, zB, zC]
 refine zU (i := 3) (v := ?_) rfl ?_ hHeld ?_
 rotate_left 1
 ·intro u hSu
  go_simp
  first | done | with_reducible rfl
 try simp only [Act.put, zA, zB, zC]
 refine zU (i := 4) (v := ?_) rfl ?_ hHeld ?_
 rotate_left 1
 ·intro u hSu
  go_simp
  first | done | with_reducible rfl
 try simp only [Act.put, zA, zB, zC]
 refine zU (i := 5) (v := ?_) rfl ?_ hHeld ?_
 rotate_left 1
 ·intro u hSu
  go_simp
  first | done | with_reducible rfl
 try simp only [Act.put, zA, zB, zC]
 refine zU (i := 6) (v := ?_) rfl ?_ hHeld ?_
 rotate_left 1
 ·intro u hSu
  obtain ⟨t0u, t1u, t2u, t3u⟩ := row4T (kept_row K.out.bT hSu.out (by simp))
  have a0u := hSu.out.cell a0 (by simp)
  have a1u := hSu.out.cell a1 (by simp)
  go_simp
  first | done | with_reducible rfl
 try simp only [Act.put, zA, zB, zC]
 refine zU (i := 8) (v := ?_) rfl ?_ hHeld ?_
 rotate_left 1
 ·intro u hSu
  go_simp
  first | done | with_reducible rfl
 try simp only [Act.put, zA, zB, zC]
 refine zU (i := 9) (v := ?_) rfl ?_ hHeld ?_
 rotate_left 1
 ·intro u hSu
  obtain ⟨t0u, t1u, t2u, t3u⟩ := row4T (kept_row K.out.bT hSu.out (by simp))
  have a0u := hSu.out.cell a0 (by simp)
  have a1u := hSu.out.cell a1 (by simp)
  go_simp
  first | done | with_reducible rfl
 try simp only [Act.put, zA, zB, zC]
 refine zU (i := 10) (v := ?_) rfl ?_ hHeld ?_
 rotate_left 1
 ·intro u hSu
  go_simp
  first | done | with_reducible rfl
 try simp only [Act.put, zA, zB, zC]
 refine zU (i := 11) (v := ?_) rfl ?_ hHeld ?_
 rotate_left 1
 ·intro u hSu
  go_simp
  first | done | with_reducible rfl
 try simp only [Act.put, zA, zB, zC]
 refine zU (i := 12) (v := ?_) rfl ?_ hHeld ?_
 rotate_left 1
 ·intro u hSu
  go_simp
  first | done | with_reducible rfl
 try simp only [Act.put, zA, zB, zC]
 refine zU (i := 13) (v := ?_) rfl ?_ hHeld ?_
 rotate_left 1
 ·intro u hSu
  obtain ⟨t0u, t1u, t2u, t3u⟩ := row4T (kept_row K.out.bT hSu.out (by simp))
  have a0u := hSu.out.cell a0 (by simp)
  have a1u := hSu.out.cell a1 (by simp)
  go_simp
  first | done | with_reducible rfl
 try simp only [Act.put, zA, zB, zC]
 refine anyU_ready (rs := [7]) (by kernel_rfl) (by simp) ?_
 refine EachU.cons (o := ⟨_, _, _, _, _, _⟩) rfl (fun Kz hK => ?_) EachU.nil
 go_simp
 refine hK.out _ _ (fun _ => hid_more hHeld (World.grownBy_alloc _ _ _)) (fun hH2 => ?_)
 clear hK Kz hHeld
 have hHeld := hH2 rfl
 clear hH2
 try simp only [Act.put, zA, zB, zC]
 refine anyU_ready (rs := [14]) (by kernel_rfl) (by simp) ?_
 refine EachU.cons (o := ⟨_, _, _, _, _, _⟩) rfl (fun Kz hK => ?_) EachU.nil
 have k0 := World.grownBy_alloc w5.drew (.cells #[] 3) none
 have hlit : (w5.drew.alloc (.cells #[] 3)).ownsRow w5.heap.size 3 1 (.slice (some ⟨w5.heap.size, 0, none⟩) 0 0) ([] : List Int).length (([] : List Int).flatMap ivF) := World.ownsRow_lit w5.drew #[] 0 (Nat.le_refl _) (by decide) rfl
 refine step_append_f ivF 1 8 (by decide) (fun _ => rfl) ivF_one 3 22 ie _ Tryz.underlying22 hie he0 he1 he2 rfl (by decide) (by rfl) _ _ (by rfl) w5.heap.size (.slice (some ⟨w5.heap.size, 0, none⟩) 0 0) [] (by rfl) hlit y.p y.nx.length y.c y.nx (by rfl) rfl (HY0.out.1 y (List.mem_of_getElem? HY.out)) _ (rdf_ints ((K.out.keep hHeld.out).rd.ok y (List.mem_of_getElem? HY.out)).rd) ((K.out.rd.ok y (List.mem_of_getElem? HY.out)).hc.1) (by simp; omega) (by simp) ?_
 intro p3 c3 w8 hown8 hg8 hat8
 simp only [List.length_nil, Nat.zero_add, List.nil_append] at hown8 hat8 ⊢
 rw [flat_ivF] at hown8
 have HN14 := Lib.hid (old_grow (grown_trans (grown_drew (grown_refl w5 none)) k0) hlit (Nat.le_refl _) hg8)
 have H14 := Lib.hid (And.intro hown8 HN14.out)
 clear hown8 hg8 hat8 k0 hlit
 refine hK.out _ _ (fun _ => HN14) (fun hH2 => ?_)
 clear hK Kz hHeld
 have hHeld := hH2 rfl
 clear hH2
 try simp only [Act.put, zA, zB, zC]
 refine zU (i := 15) (v := ?_) rfl ?_ hHeld ?_
 rotate_left 1
 ·intro u hSu
  obtain ⟨t0u, t1u, t2u, t3u⟩ := row4T (kept_row K.out.bT hSu.out (by simp))
  have a0u := hSu.out.cell a0 (by simp)
  have a1u := hSu.out.cell a1 (by simp)
  go_simp
  first | done | with_reducible rfl
 try simp only [Act.put, zA, zB, zC]
 refine anyU_ready (rs := [16]) (by kernel_rfl) (by simp) ?_
 refine EachU.cons (o := ⟨_, _, _, _, _, _⟩) rfl (fun Kz hK => ?_) EachU.nil
 have K8 := Lib.hid (K.out.keep hHeld.out)
 go_simp
 refine hK.out _ _ (fun _ => hid_more hHeld (World.grownBy_alloc _ _ _)) (fun hH2 => ?_)
 clear hK Kz hHeld
 have hHeld := hH2 rfl
 clear hH2
 try simp only [Act.put, zA, zB, zC]
 refine anyU_ready (rs := [17]) (by kernel_rfl) (by simp) ?_
 refine EachU.cons (o := ⟨_, _, _, _, _, _⟩) rfl (fun Kz hK => ?_) EachU.nil
 refine step_append_lies _ (by rfl) _ _ 23 (by rfl) (w.heap.size + 2) 80 ii (.agg #[.int .i64 0, .slice none 0 0]) 2 32 Tryz.underlying23 hii hi0 hi1 hi2 rfl (by decide) (.slice p2 M.length c2) M.length (M.flatMap rwC) (by rfl) (K8.out.own.own.alloc _) ⟨w8.heap.size, 0, none⟩ 1 1 (rwC ⟨y.id, y.nx, p3, c3⟩) (by rfl) (by rfl) (rwB_row w8 ⟨y.id, y.nx, p3, c3⟩ _) (rw_one ⟨y.id, y.nx, p3, c3⟩) (by decide) (by unfold maxLen; omega) (by omega) (by have := K8.out.lo; simp; omega) _ rfl ?_
 intro g cap w9 hown9 hgrow hat hlt9
 have ga := World.grownBy_alloc w8 (.cells #[.int .i64 y.id, .slice p3 y.nx.length c3] 80) none
 have hv : (Value.slice (some ⟨g, 0, none⟩) (M.length + 1) cap).ownBlock = (Value.slice p2 M.length c2).ownBlock ∨ ∀ b, some b = (Value.slice (some ⟨g, 0, none⟩) (M.length + 1) cap).ownBlock → (w8.alloc (.cells #[.int .i64 y.id, .slice p3 y.nx.length c3] 80)).heap.size ≤ b := by
  rcases hat with h | h
  ·exact Or.inl h.symm
  ·refine Or.inr fun b e => ?_
   have e2 : some b = some g := e
   have := Option.some.inj e2
   rw [this, h]
   exact Nat.le_refl _
 have K9 := K.out.push (x := ⟨y.id, y.nx, p3, c3⟩) (v' := .slice (some ⟨g, 0, none⟩) (M.length + 1) cap) (grown_trans H14.out.2 ga) (own_keptN H14.out.1 ga) (by rw [List.length_append, List.flatMap_append]; simpa [rwC] using hown9) hgrow hv
 have HB2 : Hid ((M ++ [(⟨y.id, y.nx, p3, c3⟩ : Rw)]).map rw0 = (L.take (k + 1)).map rw0) := Lib.hid (by rw [List.take_add_one, HY.out, List.map_append, List.map_append, HB.out]; rfl)
 have HLL : Hid ((M ++ [(⟨y.id, y.nx, p3, c3⟩ : Rw)]).length = M.length + 1) := Lib.hid (by rw [List.length_append]; rfl)
 have K9 := Lib.hid K9
 clear hown9 hgrow hat hlt9 ga hv K8 H14
 refine hK.out _ _ (fun h => by cases h) (fun _ => ?_)
 clear hK Kz
 try simp only [Act.put, zA, zB, zC]
 refine anyU_ready (rs := [18]) (by kernel_rfl) (by simp) ?_
 refine EachU.cons (o := ⟨_, _, _, _, _, _⟩) rfl (fun Kz hK => ?_) EachU.nil
 go_simp
 refine hK.out _ _ (fun h => by cases h) (fun _ => ?_)
 clear hK Kz
 try simp only [Act.put, zA, zB, zC]
 refine anyU_done (by kernel_rfl) ?_ _
 clear hHeld t0 t1 t2 t3 a0 a1 K
 go_wp2_with fail
 exact ⟨⟨k + 1, M ++ [⟨y.id, y.nx, p3, c3⟩], some ⟨g, 0, none⟩, cap, by omega, by rw [HLL.out], congrArg _ (by omega), HB2, by rw [HLL.out]; exact K9⟩, by simp only [RowKit.intOf]; omega⟩
end Go.Proofs.YtpogblengagpaaaGreatDoor
