/- Parts of the proof, packed: ToBs, ToOrdM, ToWoM, ToLkM, ToLook, ToCln, ToDel, ShMath. -/
import Derived.Test.YtahafijpcmphaaaGreatQt3
import Derived.Deep.CutBlock
import Derived.Test.YtahafijpcmphaaaGreatQt1
import Derived.Lib.SliceRun
/- slices.BinarySearchFunc, for routers and for links. -/
namespace Go.Proofs.YtahafijpcmphaaaGreat
set_option maxRecDepth 100000
open Go.RowKit Bs
structure BsP {α : Type} (s : α → α → Int) (R : List α) (t : α) (i : Nat) (b : Bool) : Prop where
 le : i ≤ R.length
 lo : ∀ x, 0 < i → R[i - 1]? = some x → s x t < 0
 hi : ∀ x, R[i]? = some x → 0 ≤ s x t
 eq : b = (match R[i]? with | some x => s x t == 0 | none => false)
def BsPost {α : Type} (s : α → α → Int) (R : List α) (t : α) (w : World) (e : Ending) (w' : World) : Prop := ∃ (i : Nat) (b : Bool), e = .returned (.tuple #[.int .i64 (i : Int), .bool b]) ∧ Hid (BsP s R t i b) ∧ w.grownBy w' none
def cvR (x t : Rt) : Int := cmpV x.id t.id
set_option maxHeartbeats 3200000 in
theorem bsR_any (R : List Rt) (t : Rt) (p : Option Addr) (c : Nat) (q : Nat → Prop) (w : World) (hR : RdR w q (.slice p R.length c) R) (hm : R.length ≤ 1000000) :
  Calls Tryz.prog 123 #[.slice p R.length c, .agg #[.int .i64 t.id, .bool t.cap], .func (.func 124) #[] #[]] w fun e w' => BsPost cvR R t w e w' := by
 have eg : EnterF 124 := enters_of Tryz.func124 (by kernel_rfl) rfl
 obtain ⟨k1, k2⟩ := tone_box w #[.int .i64 t.id, .bool t.cap] 92
 have HB := Lib.hid (And.intro k1 (And.intro k2 (hR.keep k2)))
 clear k1 k2 hR
 go_enter Tryz.func123, Tryz.ntmps123
 go_upto_region 1 with fail
 generalize w.alloc _ = wa at *
 have GZ : Hid (wa.grownBy wa none) := Lib.hid (grown_refl _ _)
 go_wp2_with fail
 go_loopw [9, 10] (fun vi vj wr => ∃ I J : Nat, I ≤ J ∧ J ≤ R.length ∧ vi = .int .i64 (I : Int) ∧ vj = .int .i64 (J : Int) ∧ Hid ((∀ x, 0 < I → R[I - 1]? = some x → cvR x t < 0) ∧ ∀ x, R[J]? = some x → 0 ≤ cvR x t) ∧ Hid (wa.grownBy wr none)) (fun vi vj _ => ((RowKit.intOf vj) - (RowKit.intOf vi)).toNat)
 case atStart => exact ⟨0, R.length, Nat.zero_le _, Nat.le_refl _, rfl, rfl, Lib.hid ⟨fun x h => by omega, fun x h => by rw [List.getElem?_eq_none (Nat.le_refl _)] at h; cases h⟩, GZ⟩
 case round =>
 obtain ⟨I, J, hIJ, hJ, rfl, rfl, HI, G⟩ := hrel
 clear GZ
 by_cases hlt : I < J
 ·have hlt' : (I : Int) < (J : Int) := by omega
  obtain ⟨h, hh⟩ : ∃ h, (I + J) / 2 = h := ⟨_, rfl⟩
  have h1 : I ≤ h := by omega
  have h2 : h < J := by omega
  have hsum : (I : Int) + (J : Int) ≤ 2000000 := by omega
  go_upto_region 4 with fail
  go_cut [11] from 18 to 23 (fun v wx => v = .int .i64 (h : Int) ∧ wr = wx)
  case first =>
   go_wp2_with fail
   go_meet
   exact ⟨congrArg _ (by omega), rfl⟩
  case rest =>
  obtain ⟨rfl, rfl⟩ := hcut
  clear hh hsum
  obtain ⟨-, b, off, rfl, -, -⟩ := rdr_cells (R := R) (HB.out.2.2.keep G.out) (by omega)
  obtain ⟨y, hy⟩ : ∃ y, R[h]? = some y := ⟨_, List.getElem?_eq_getElem (by omega)⟩
  have HC : ∀ u, Hid (wa.grownBy u none) → u.cell? ⟨b, off + h * 2, none⟩ = some (.int .i64 y.id) ∧ u.cell? ⟨b, off + h * 2 + 1, none⟩ = some (.bool y.cap) := fun u hu => by
   obtain ⟨-, b', off', e, -, hc⟩ := rdr_cells (R := R) (HB.out.2.2.keep hu.out) (by omega)
   injection e with e
   injection e with e4 e5
   subst e4
   subst e5
   exact hc h y hy
  have HCH := Lib.hid HC
  have HY := Lib.hid hy
  have i0 : (0 : Int) ≤ (h : Int) := by omega
  have i1 : (h : Int) < (R.length : Int) := by omega
  obtain ⟨z, hz⟩ : ∃ z, cvR y t = z := ⟨_, rfl⟩
  have HZ := Lib.hid hz
  clear HC hy hz
  go_upto_region 5 with fail
  by_cases hzn : z < 0
  ·have hzd : decide (z < 0) = true := decide_eq_true hzn
   refine wp_region_held_drew (S := fun w' => Hid (wa.grownBy w' none)) (by kernel_rfl) (Lib.hid (grown_drew G.out)) (fun hHeld => ?_)
   refine zT (i := 0) (v := ?_) rfl ?_ hHeld ?_
   rotate_left 1
   ·intro u hSu
    go_simp
    first | done | with_reducible rfl
   try simp only [Act.put, zA, zB, zC]
   refine zT (i := 1) (v := ?_) rfl ?_ hHeld ?_
   rotate_left 1
   ·intro u hSu
    go_simp
    first | done | with_reducible rfl
   try simp only [Act.put, zA, zB, zC]
   refine zT (i := 2) (v := ?_) rfl ?_ hHeld ?_
   rotate_left 1
   ·intro u hSu
    go_simp
    first | done | with_reducible rfl
   try simp only [Act.put, zA, zB, zC]
   refine zT (i := 3) (v := ?_) rfl ?_ hHeld ?_
   rotate_left 1
   ·intro u hSu
    go_simp
    first | done | with_reducible rfl
   try simp only [Act.put, zA, zB, zC]
   refine zT (i := 4) (v := ?_) rfl ?_ hHeld ?_
   rotate_left 1
   ·intro u hSu
    obtain ⟨q0, q1⟩ := HCH.out _ hSu
    obtain ⟨q5, q6⟩ := rt_facts (kept_row HB.out.1 hSu.out (by simp))
    go_simp
    first | done | with_reducible rfl
   try simp only [Act.put, zA, zB, zC]
   refine zT (i := 5) (v := ?_) rfl ?_ hHeld ?_
   rotate_left 1
   ·intro u hSu
    obtain ⟨q0, q1⟩ := HCH.out _ hSu
    obtain ⟨q5, q6⟩ := rt_facts (kept_row HB.out.1 hSu.out (by simp))
    go_simp
    first | done | with_reducible rfl
   try simp only [Act.put, zA, zB, zC]
   refine wpAnyH_ready (rs := [6]) (by kernel_rfl) (by simp) ?_
   refine AllReadyH.cons (o := ⟨_, _, _, _, _, _⟩) rfl (fun Kz hK => ?_) AllReadyH.nil
   go_simp
   go_at_call 124
   refine (tcmpid_any y t _).mono ?_
   rintro e w5 ⟨rfl, hg⟩
   have hz2 := HZ.out
   unfold cvR at hz2
   rw [hz2]
   clear hz2
   refine hK.out _ _ (Lib.hid (grown_trans hHeld.out hg)) (fun hH2 => ?_)
   clear hK Kz hHeld
   have hHeld := hH2
   clear hH2
   try simp only [Act.put, zA, zB, zC]
   refine zT (i := 7) (v := (.bool true)) rfl ?_ hHeld ?_
   ·intro u hSu
    go_simp
    first | done | with_reducible rfl | (simp [hzd]; done) | exact hzd
   try simp only [Act.put, zA, zB, zC]
   refine wpAnyH_done (by kernel_rfl) ?_ _
   have H9 := hHeld
   clear hHeld
   go_wp2_with fail
   exact ⟨⟨h + 1, J, by omega, hJ, congrArg _ (by omega), rfl, Lib.hid ⟨fun x _ hx => by rw [Nat.add_sub_cancel, HY.out] at hx; obtain rfl := Option.some.inj hx; rw [HZ.out]; exact hzn, HI.out.2⟩, H9⟩, by simp only [RowKit.intOf]; omega⟩
  ·have hzd : decide (z < 0) = false := decide_eq_false hzn
   refine wp_region_held_drew (S := fun w' => Hid (wa.grownBy w' none)) (by kernel_rfl) (Lib.hid (grown_drew G.out)) (fun hHeld => ?_)
   refine zT (i := 0) (v := ?_) rfl ?_ hHeld ?_
   rotate_left 1
   ·intro u hSu
    go_simp
    first | done | with_reducible rfl
   try simp only [Act.put, zA, zB, zC]
   refine zT (i := 1) (v := ?_) rfl ?_ hHeld ?_
   rotate_left 1
   ·intro u hSu
    go_simp
    first | done | with_reducible rfl
   try simp only [Act.put, zA, zB, zC]
   refine zT (i := 2) (v := ?_) rfl ?_ hHeld ?_
   rotate_left 1
   ·intro u hSu
    go_simp
    first | done | with_reducible rfl
   try simp only [Act.put, zA, zB, zC]
   refine zT (i := 3) (v := ?_) rfl ?_ hHeld ?_
   rotate_left 1
   ·intro u hSu
    go_simp
    first | done | with_reducible rfl
   try simp only [Act.put, zA, zB, zC]
   refine zT (i := 4) (v := ?_) rfl ?_ hHeld ?_
   rotate_left 1
   ·intro u hSu
    obtain ⟨q0, q1⟩ := HCH.out _ hSu
    obtain ⟨q5, q6⟩ := rt_facts (kept_row HB.out.1 hSu.out (by simp))
    go_simp
    first | done | with_reducible rfl
   try simp only [Act.put, zA, zB, zC]
   refine zT (i := 5) (v := ?_) rfl ?_ hHeld ?_
   rotate_left 1
   ·intro u hSu
    obtain ⟨q0, q1⟩ := HCH.out _ hSu
    obtain ⟨q5, q6⟩ := rt_facts (kept_row HB.out.1 hSu.out (by simp))
    go_simp
    first | done | with_reducible rfl
   try simp only [Act.put, zA, zB, zC]
   refine wpAnyH_ready (rs := [6]) (by kernel_rfl) (by simp) ?_
   refine AllReadyH.cons (o := ⟨_, _, _, _, _, _⟩) rfl (fun Kz hK => ?_) AllReadyH.nil
   go_simp
   go_at_call 124
   refine (tcmpid_any y t _).mono ?_
   rintro e w5 ⟨rfl, hg⟩
   have hz2 := HZ.out
   unfold cvR at hz2
   rw [hz2]
   clear hz2
   refine hK.out _ _ (Lib.hid (grown_trans hHeld.out hg)) (fun hH2 => ?_)
   clear hK Kz hHeld
   have hHeld := hH2
   clear hH2
   try simp only [Act.put, zA, zB, zC]
   refine zT (i := 7) (v := (.bool false)) rfl ?_ hHeld ?_
   ·intro u hSu
    go_simp
    first | done | with_reducible rfl | (simp [hzd]; done) | exact hzd
   try simp only [Act.put, zA, zB, zC]
   refine wpAnyH_done (by kernel_rfl) ?_ _
   have H9 := hHeld
   clear hHeld
   go_wp2_with fail
   exact ⟨⟨I, h, h1, by omega, rfl, rfl, Lib.hid ⟨HI.out.1, fun x hx => by rw [HY.out] at hx; obtain rfl := Option.some.inj hx; rw [HZ.out]; omega⟩, H9⟩, by simp only [RowKit.intOf]; omega⟩
 ·obtain rfl : I = J := by omega
  have hnl : ¬ ((I : Int) < (I : Int)) := by omega
  by_cases hn : I < R.length
  ·obtain ⟨-, b, off, rfl, -, -⟩ := rdr_cells (R := R) (HB.out.2.2.keep G.out) (by omega)
   obtain ⟨y, hy⟩ : ∃ y, R[I]? = some y := ⟨_, List.getElem?_eq_getElem hn⟩
   have HC : ∀ u, Hid (wa.grownBy u none) → u.cell? ⟨b, off + I * 2, none⟩ = some (.int .i64 y.id) ∧ u.cell? ⟨b, off + I * 2 + 1, none⟩ = some (.bool y.cap) := fun u hu => by
    obtain ⟨-, b', off', e, -, hc⟩ := rdr_cells (R := R) (HB.out.2.2.keep hu.out) (by omega)
    injection e with e
    injection e with e4 e5
    subst e4
    subst e5
    exact hc I y hy
   have HCH := Lib.hid HC
   have HY := Lib.hid hy
   have i0 : (0 : Int) ≤ (I : Int) := by omega
   have i1 : (I : Int) < (R.length : Int) := by omega
   obtain ⟨z, hz⟩ : ∃ z, cvR y t = z := ⟨_, rfl⟩
   have HZ := Lib.hid hz
   clear HC hy hz
   go_upto_region 8 with fail
   refine wp_region_held_drew (S := fun w' => Hid (wa.grownBy w' none)) (by kernel_rfl) (Lib.hid (grown_drew G.out)) (fun hHeld => ?_)
   refine zT (i := 0) (v := ?_) rfl ?_ hHeld ?_
   rotate_left 1
   ·intro u hSu
    go_simp
    first | done | with_reducible rfl
   try simp only [Act.put, zA, zB, zC]
   refine zT (i := 1) (v := ?_) rfl ?_ hHeld ?_
   rotate_left 1
   ·intro u hSu
    go_simp
    first | done | with_reducible rfl
   try simp only [Act.put, zA, zB, zC]
   refine zT (i := 2) (v := ?_) rfl ?_ hHeld ?_
   rotate_left 1
   ·intro u hSu
    go_simp
    first | done | with_reducible rfl
   try simp only [Act.put, zA, zB, zC]
   refine zT (i := 3) (v := (.bool true)) rfl ?_ hHeld ?_
   ·intro u hSu
    go_simp
    first | done | with_reducible rfl | (simp; done) | (simp; omega)
   try simp only [Act.put, zA, zB, zC]
   refine zT (i := 4) (v := ?_) rfl ?_ hHeld ?_
   rotate_left 1
   ·intro u hSu
    go_simp
    first | done | with_reducible rfl
   try simp only [Act.put, zA, zB, zC]
   refine zT (i := 5) (v := ?_) rfl ?_ hHeld ?_
   rotate_left 1
   ·intro u hSu
    go_simp
    first | done | with_reducible rfl
   try simp only [Act.put, zA, zB, zC]
   refine zT (i := 6) (v := ?_) rfl ?_ hHeld ?_
   rotate_left 1
   ·intro u hSu
    go_simp
    first | done | with_reducible rfl
   try simp only [Act.put, zA, zB, zC]
   refine zT (i := 7) (v := ?_) rfl ?_ hHeld ?_
   rotate_left 1
   ·intro u hSu
    go_simp
    first | done | with_reducible rfl
   try simp only [Act.put, zA, zB, zC]
   refine zT (i := 8) (v := ?_) rfl ?_ hHeld ?_
   rotate_left 1
   ·intro u hSu
    go_simp
    first | done | with_reducible rfl
   try simp only [Act.put, zA, zB, zC]
   refine zT (i := 9) (v := ?_) rfl ?_ hHeld ?_
   rotate_left 1
   ·intro u hSu
    obtain ⟨q0, q1⟩ := HCH.out _ hSu
    obtain ⟨q5, q6⟩ := rt_facts (kept_row HB.out.1 hSu.out (by simp))
    go_simp
    first | done | with_reducible rfl
   try simp only [Act.put, zA, zB, zC]
   refine zT (i := 10) (v := ?_) rfl ?_ hHeld ?_
   rotate_left 1
   ·intro u hSu
    obtain ⟨q0, q1⟩ := HCH.out _ hSu
    obtain ⟨q5, q6⟩ := rt_facts (kept_row HB.out.1 hSu.out (by simp))
    go_simp
    first | done | with_reducible rfl
   try simp only [Act.put, zA, zB, zC]
   refine wpAnyH_ready (rs := [11]) (by kernel_rfl) (by simp) ?_
   refine AllReadyH.cons (o := ⟨_, _, _, _, _, _⟩) rfl (fun Kz hK => ?_) AllReadyH.nil
   go_simp
   go_at_call 124
   refine (tcmpid_any y t _).mono ?_
   rintro e w5 ⟨rfl, hg⟩
   have hz2 := HZ.out
   unfold cvR at hz2
   rw [hz2]
   clear hz2
   refine hK.out _ _ (Lib.hid (grown_trans hHeld.out hg)) (fun hH2 => ?_)
   clear hK Kz hHeld
   have hHeld := hH2
   clear hH2
   try simp only [Act.put, zA, zB, zC]
   refine zT (i := 12) (v := ?_) rfl ?_ hHeld ?_
   rotate_left 1
   ·intro u hSu
    go_simp
    first | done | with_reducible rfl
   try simp only [Act.put, zA, zB, zC]
   refine zT (i := 13) (v := ?_) rfl ?_ hHeld ?_
   rotate_left 1
   ·intro u hSu
    go_simp
    first | done | with_reducible rfl
   try simp only [Act.put, zA, zB, zC]
   refine zT (i := 14) (v := ?_) rfl ?_ hHeld ?_
   rotate_left 1
   ·intro u hSu
    go_simp
    first | done | with_reducible rfl
   try simp only [Act.put, zA, zB, zC]
   refine zT (i := 15) (v := ?_) rfl ?_ hHeld ?_
   rotate_left 1
   ·intro u hSu
    go_simp
    first | done | with_reducible rfl
   try simp only [Act.put, zA, zB, zC]
   refine wpAnyH_done (by kernel_rfl) ?_ _
   have H9 := hHeld
   clear hHeld
   go_wp2_with fail
   go_ret2
   refine ⟨I, _, rfl, Lib.hid ⟨hJ, HI.out.1, HI.out.2, ?_⟩, grown_trans HB.out.2.1 H9.out⟩
   rw [HY.out]
   simp only [HZ.out]
   try rfl
  ·obtain rfl : I = R.length := by omega
   have hn' : decide ((R.length : Int) < (R.length : Int)) = false := decide_eq_false (by omega)
   go_upto_region 8 with fail
   refine wp_region_held_drew (S := fun w' => Hid (wa.grownBy w' none)) (by kernel_rfl) (Lib.hid (grown_drew G.out)) (fun hHeld => ?_)
   refine zT (i := 0) (v := ?_) rfl ?_ hHeld ?_
   rotate_left 1
   ·intro u hSu
    go_simp
    first | done | with_reducible rfl
   try simp only [Act.put, zA, zB, zC]
   refine zT (i := 1) (v := ?_) rfl ?_ hHeld ?_
   rotate_left 1
   ·intro u hSu
    go_simp
    first | done | with_reducible rfl
   try simp only [Act.put, zA, zB, zC]
   refine zT (i := 2) (v := ?_) rfl ?_ hHeld ?_
   rotate_left 1
   ·intro u hSu
    go_simp
    first | done | with_reducible rfl
   try simp only [Act.put, zA, zB, zC]
   refine zT (i := 3) (v := (.bool false)) rfl ?_ hHeld ?_
   ·intro u hSu
    go_simp
    first | done | with_reducible rfl | (simp; done) | (simp; omega)
   try simp only [Act.put, zA, zB, zC]
   refine zT (i := 4) (v := ?_) rfl ?_ hHeld ?_
   rotate_left 1
   ·intro u hSu
    go_simp
    first | done | with_reducible rfl
   try simp only [Act.put, zA, zB, zC]
   refine zS (i := 5) rfl hHeld ?_
   try simp only [Act.put, zA, zB, zC]
   refine zS (i := 6) rfl hHeld ?_
   try simp only [Act.put, zA, zB, zC]
   refine zS (i := 7) rfl hHeld ?_
   try simp only [Act.put, zA, zB, zC]
   refine zS (i := 8) rfl hHeld ?_
   try simp only [Act.put, zA, zB, zC]
   refine zS (i := 9) rfl hHeld ?_
   try simp only [Act.put, zA, zB, zC]
   refine zS (i := 10) rfl hHeld ?_
   try simp only [Act.put, zA, zB, zC]
   refine zS (i := 11) rfl hHeld ?_
   try simp only [Act.put, zA, zB, zC]
   refine zS (i := 12) rfl hHeld ?_
   try simp only [Act.put, zA, zB, zC]
   refine zT (i := 13) (v := ?_) rfl ?_ hHeld ?_
   rotate_left 1
   ·intro u hSu
    go_simp
    first | done | with_reducible rfl
   try simp only [Act.put, zA, zB, zC]
   refine zT (i := 14) (v := ?_) rfl ?_ hHeld ?_
   rotate_left 1
   ·intro u hSu
    go_simp
    first | done | with_reducible rfl
   try simp only [Act.put, zA, zB, zC]
   refine zT (i := 15) (v := ?_) rfl ?_ hHeld ?_
   rotate_left 1
   ·intro u hSu
    go_simp
    first | done | with_reducible rfl
   try simp only [Act.put, zA, zB, zC]
   refine wpAnyH_done (by kernel_rfl) ?_ _
   have H9 := hHeld
   clear hHeld
   go_wp2_with fail
   go_ret2
   refine ⟨R.length, _, rfl, Lib.hid ⟨hJ, HI.out.1, HI.out.2, ?_⟩, grown_trans HB.out.2.1 H9.out⟩
   rw [List.getElem?_eq_none (Nat.le_refl _)]

end Go.Proofs.YtahafijpcmphaaaGreat

/- Links in order, and the tape's topologies: the mathematics. -/
namespace Go.Proofs.YtahafijpcmphaaaGreat
set_option maxRecDepth 100000
open Go.RowKit Bs
def insL (O : List Lk) (y : Lk) : List Lk := O.takeWhile (fun x => ltL x y) ++ y :: O.dropWhile (fun x => ltL x y)
def ordL (L : List Lk) : List Lk := L.foldl insL []
theorem insL_cons (a : Lk) (t : List Lk) (y : Lk) : insL (a :: t) y = if ltL a y then a :: insL t y else y :: a :: t := by
 unfold insL
 rw [List.takeWhile_cons, List.dropWhile_cons]
 split <;> rfl
theorem insL_len (O : List Lk) (y : Lk) : (insL O y).length = O.length + 1 := by
 unfold insL
 rw [List.length_append, List.length_cons]
 have := congrArg List.length (List.takeWhile_append_dropWhile (p := fun x => ltL x y) (l := O))
 rw [List.length_append] at this
 omega
theorem ordL_take (L : List Lk) (k : Nat) (y : Lk) (h : L[k]? = some y) : ordL (L.take (k + 1)) = insL (ordL (L.take k)) y := by
 unfold ordL
 rw [List.take_add_one, h, List.foldl_append]
 rfl
theorem foldl_insL_len : ∀ (L O : List Lk), (L.foldl insL O).length = O.length + L.length
 | [], O => by simp
 | a :: t, O => by rw [List.foldl_cons, foldl_insL_len t, insL_len, List.length_cons]; omega
theorem ordL_len (L : List Lk) : (ordL L).length = L.length := by
 unfold ordL
 rw [foldl_insL_len]; simp
theorem insL_at (y : Lk) : ∀ (O : List Lk) (j : Nat), j ≤ O.length → (∀ i x, i < j → O[i]? = some x → ltL x y = true) → (∀ x, O[j]? = some x → ltL x y = false) → insL O y = O.take j ++ y :: O.drop j
 | [], j, hj, _, _ => by
  obtain rfl : j = 0 := by simpa using hj
  rfl
 | a :: t, 0, _, _, h2 => by
  rw [insL_cons, h2 a rfl]
  rfl
 | a :: t, j + 1, hj, h1, h2 => by
  rw [insL_cons, if_pos (h1 0 a (by omega) rfl), insL_at y t j (by simpa using hj) (fun i x hi hx => h1 (i + 1) x (by omega) (by simpa using hx)) (fun x hx => h2 x (by simpa using hx))]
  rfl
theorem mem_insL (y z : Lk) : ∀ O : List Lk, z ∈ insL O y ↔ z = y ∨ z ∈ O
 | [] => by simp [insL]
 | a :: t => by
  rw [insL_cons]
  split
  ·rw [List.mem_cons, List.mem_cons, mem_insL y z t]
   constructor
   ·rintro (h | h | h)
    ·exact .inr (.inl h)
    ·exact .inl h
    ·exact .inr (.inr h)
   ·rintro (h | h | h)
    ·exact .inr (.inl h)
    ·exact .inl h
    ·exact .inr (.inr h)
  ·simp
theorem ltL_trans {x y z : Lk} (h1 : ltL x y = true) (h2 : ltL y z = true) : ltL x z = true := by
 unfold ltL at *
 have h1 := of_decide_eq_true h1
 have h2 := of_decide_eq_true h2
 exact decide_eq_true (by omega)
def EndsNe (x y : Lk) : Prop := x.a ≠ y.a ∨ x.b ≠ y.b
theorem ltL_flip {x y : Lk} (h : ltL x y = false) (hn : EndsNe x y) : ltL y x = true := by
 unfold ltL at *
 have h := of_decide_eq_false h
 unfold EndsNe at hn
 exact decide_eq_true (by omega)
theorem insL_pair (y : Lk) : ∀ O : List Lk, O.Pairwise (fun x z => ltL x z = true) → (∀ x ∈ O, EndsNe x y) → (insL O y).Pairwise (fun x z => ltL x z = true)
 | [], _, _ => by simp [insL]
 | a :: t, hp, hn => by
  rw [insL_cons]
  obtain ⟨h1, h2⟩ := List.pairwise_cons.1 hp
  split
  ·next hlt =>
   refine List.pairwise_cons.2 ⟨fun z hz => ?_, insL_pair y t h2 (fun x hx => hn x (List.mem_cons_of_mem _ hx))⟩
   rcases (mem_insL y z t).1 hz with rfl | hz
   ·exact hlt
   ·exact h1 z hz
  ·next hlt =>
   have hya := ltL_flip (by simpa using hlt) (hn a (by simp))
   refine List.pairwise_cons.2 ⟨fun z hz => ?_, hp⟩
   rcases List.mem_cons.1 hz with rfl | hz
   ·exact hya
   ·exact ltL_trans hya (h1 z hz)
theorem foldl_insL_pair : ∀ (L O : List Lk), O.Pairwise (fun x z => ltL x z = true) → L.Pairwise EndsNe → (∀ x ∈ O, ∀ y ∈ L, EndsNe x y) → (L.foldl insL O).Pairwise (fun x z => ltL x z = true)
 | [], O, h, _, _ => h
 | a :: t, O, h, hL, hx => by
  obtain ⟨h1, h2⟩ := List.pairwise_cons.1 hL
  rw [List.foldl_cons]
  refine foldl_insL_pair t _ (insL_pair a O h (fun x hx1 => hx x hx1 a (by simp))) h2 (fun x hx1 y hy => ?_)
  rcases (mem_insL a x O).1 hx1 with rfl | h3
  ·exact h1 y hy
  ·exact hx x h3 y (List.mem_cons_of_mem _ hy)
theorem foldl_insL_mem (z : Lk) : ∀ (L O : List Lk), z ∈ L.foldl insL O ↔ z ∈ O ∨ z ∈ L
 | [], O => by simp
 | a :: t, O => by
  rw [List.foldl_cons, foldl_insL_mem z t, mem_insL, List.mem_cons]
  constructor
  ·rintro ((h | h) | h)
   ·exact .inr (.inl h)
   ·exact .inl h
   ·exact .inr (.inr h)
  ·rintro (h | h | h)
   ·exact .inl (.inr h)
   ·exact .inl (.inl h)
   ·exact .inr h
theorem ordL_mem (L : List Lk) (z : Lk) : z ∈ ordL L ↔ z ∈ L := by
 unfold ordL
 rw [foldl_insL_mem]
 simp
theorem ordL_pair (L : List Lk) (h : L.Pairwise EndsNe) : (ordL L).Pairwise (fun x z => ltL x z = true) :=
 foldl_insL_pair L [] List.Pairwise.nil h (fun x hx => by simp at hx)
theorem asc_of_pair {α : Type} (f : α → α → Bool) : ∀ l : List α, l.Pairwise (fun x z => f x z = true) → ascB f l = true
 | [], _ => rfl
 | [a], _ => rfl
 | a :: b :: t, h => by
  obtain ⟨h1, h2⟩ := List.pairwise_cons.1 h
  rw [ascB, h1 b (by simp), asc_of_pair f (b :: t) h2]
  rfl
def rts (k : Nat) : List Rt := (List.range k).map fun (i : Nat) => (⟨(i : Int) + 1, true⟩ : Rt)
theorem rts_succ (k : Nat) : rts (k + 1) = rts k ++ [⟨(k : Int) + 1, true⟩] := by
 unfold rts
 rw [List.range_succ, List.map_append]
 rfl
theorem rts_len (k : Nat) : (rts k).length = k := by unfold rts; simp
theorem rts_mem (k : Nat) (r : Rt) : r ∈ rts k ↔ ∃ i : Nat, i < k ∧ r = ⟨(i : Int) + 1, true⟩ := by
 unfold rts
 rw [List.mem_map]
 constructor
 ·rintro ⟨i, hi, rfl⟩; exact ⟨i, List.mem_range.1 hi, rfl⟩
 ·rintro ⟨i, hi, rfl⟩; exact ⟨i, List.mem_range.2 hi, rfl⟩
structure GoodL (k b a : Int) (L : List Lk) : Prop where
 ok : ∀ l ∈ L, (1 ≤ l.a ∧ l.a < l.b ∧ l.b ≤ k) ∧ wrNum l = false
 lt : ∀ l ∈ L, l.b < b ∨ (l.b = b ∧ l.a < a)
 ne : L.Pairwise EndsNe
theorem GoodL.nil (k b a : Int) : GoodL k b a [] := ⟨by simp, by simp, List.Pairwise.nil⟩
theorem GoodL.next {k b a : Int} {L : List Lk} (h : GoodL k b a L) : GoodL k b (a + 1) L := ⟨h.ok, fun l hl => by rcases h.lt l hl with h1 | h1 <;> omega, h.ne⟩
theorem GoodL.row {k b a : Int} {L : List Lk} (h : GoodL k b a L) : GoodL k (b + 1) 1 L := ⟨h.ok, fun l hl => by rcases h.lt l hl with h1 | h1 <;> omega, h.ne⟩
theorem GoodL.add {k b a : Int} {L : List Lk} (h : GoodL k b a L) (y : Lk) (ha : y.a = a) (hb : y.b = b) (h1 : 1 ≤ a) (h2 : a < b) (h3 : b ≤ k) (hw : wrNum y = false) : GoodL k b (a + 1) (L ++ [y]) := by
 refine ⟨fun l hl => ?_, fun l hl => ?_, ?_⟩
 ·rcases List.mem_append.1 hl with hl | hl
  ·exact h.ok l hl
  ·obtain rfl : l = y := by simpa using hl
   exact ⟨by omega, hw⟩
 ·rcases List.mem_append.1 hl with hl | hl
  ·rcases h.lt l hl with h4 | h4 <;> omega
  ·obtain rfl : l = y := by simpa using hl
   omega
 ·refine List.pairwise_append.2 ⟨h.ne, by simp, fun x hx z hz => ?_⟩
  obtain rfl : z = y := by simpa using hz
  unfold EndsNe
  rcases h.lt x hx with h4 | h4 <;> omega
theorem chk_good {k : Nat} {b a : Int} {L : List Lk} (h : GoodL k b a L) (hk : k ≤ 24) (hl : L.length ≤ 60) : chk (rts k) (ordL L) = 0 := by
 unfold chk
 rw [if_neg (by rw [rts_len, ordL_len]; omega), if_neg, if_neg, if_neg, if_neg, if_neg, if_neg]
 ·rw [asc_of_pair ltL _ (ordL_pair L h.ne)]
  simp
 ·rw [List.any_eq_true]
  rintro ⟨l, hl1, hw⟩
  have := (h.ok l ((ordL_mem L l).1 hl1)).1
  unfold wrEnd at hw
  have := of_decide_eq_true hw
  omega
 ·rw [List.any_eq_true]
  rintro ⟨l, hl1, hw⟩
  have := (h.ok l ((ordL_mem L l).1 hl1)).1
  have hh : ∀ x : Int, 1 ≤ x → x ≤ k → hasR (rts k) x = true := fun x h1 h2 => by
   unfold hasR
   refine List.any_eq_true.2 ⟨⟨x, true⟩, (rts_mem k _).2 ⟨(x - 1).toNat, by omega, ?_⟩, by simp⟩
   congr 1
   omega
  unfold unk at hw
  rw [hh _ this.1 (by omega), hh _ (by omega) this.2.2] at hw
  simp at hw
 ·rw [List.any_eq_true]
  rintro ⟨l, hl1, hw⟩
  rw [(h.ok l ((ordL_mem L l).1 hl1)).2] at hw
  cases hw
 ·rw [asc_of_pair ltR (rts k)]
  ·simp
  ·unfold rts
   rw [List.pairwise_map]
   exact List.pairwise_lt_range.imp (fun {a b} hab => decide_eq_true (by show (a : Int) + 1 < (b : Int) + 1; omega))
 ·rw [List.any_eq_true]
  rintro ⟨r, hr, hw⟩
  obtain ⟨i, hi, rfl⟩ := (rts_mem k r).1 hr
  have : wrId ⟨(i : Int) + 1, true⟩ = false := by
   unfold wrId
   rw [decide_eq_true (by constructor <;> (dsimp; omega))]
   rfl
  rw [this] at hw
  cases hw
def TopOf (most : Nat) (n : Int) (R : List Rt) (L : List Lk) : Prop :=
 1 ≤ R.length ∧ (R.length ≤ most + 1 ∨ 25 ≤ R.length) ∧ R.length ≤ most + 25 ∧ L.length ≤ 60 ∧ (n ≤ 0 → chk R L = 0 ∧ R.length ≤ most)
end Go.Proofs.YtahafijpcmphaaaGreat

/- What is left of a valid topology is valid. -/
namespace Go.Proofs.YtahafijpcmphaaaGreat
set_option maxRecDepth 100000
open Go.RowKit Bs
theorem pair_of_asc {α : Type} (f : α → α → Bool) (ht : ∀ x y z, f x y = true → f y z = true → f x z = true) : ∀ l : List α, ascB f l = true → l.Pairwise (fun x z => f x z = true)
 | [], _ => List.Pairwise.nil
 | [a], _ => by simp
 | a :: b :: t, h => by
  rw [ascB, Bool.and_eq_true] at h
  have hp := pair_of_asc f ht (b :: t) h.2
  refine List.pairwise_cons.2 ⟨fun z hz => ?_, hp⟩
  rcases List.mem_cons.1 hz with rfl | hz
  ·exact h.1
  ·exact ht a b z h.1 ((List.pairwise_cons.1 hp).1 z hz)
structure OkAll (R : List Rt) (L : List Lk) : Prop where
 l1 : R.length ≤ 24
 l2 : L.length ≤ 60
 id : R.any wrId = false
 rs : ascB ltR R = true
 nm : L.any wrNum = false
 un : L.any (unk R) = false
 en : L.any wrEnd = false
 ls : ascB ltL L = true
theorem chk_okAll {R : List Rt} {L : List Lk} (h : chk R L = 0) : OkAll R L := by
 unfold chk at h
 by_cases h1 : 24 < R.length ∨ 60 < L.length
 ·rw [if_pos h1] at h; cases h
 rw [if_neg h1] at h
 cases h2 : R.any wrId
 case true => rw [h2] at h; cases h
 cases h3 : ascB ltR R
 case false => rw [h2, h3] at h; cases h
 cases h4 : L.any wrNum
 case true => rw [h2, h3, h4] at h; cases h
 cases h5 : L.any (unk R)
 case true => rw [h2, h3, h4, h5] at h; cases h
 cases h6 : L.any wrEnd
 case true => rw [h2, h3, h4, h5, h6] at h; cases h
 cases h7 : ascB ltL L
 case false => rw [h2, h3, h4, h5, h6, h7] at h; cases h
 exact ⟨by omega, by omega, h2, h3, h4, h5, h6, h7⟩
theorem ltR_trans (x y z : Rt) (h1 : ltR x y = true) (h2 : ltR y z = true) : ltR x z = true := by
 unfold ltR at *
 have h1 := of_decide_eq_true h1
 have h2 := of_decide_eq_true h2
 exact decide_eq_true (by omega)
end Go.Proofs.YtahafijpcmphaaaGreat

/- What is looked up in a valid topology: the mathematics. -/
namespace Go.Proofs.YtahafijpcmphaaaGreat
set_option maxRecDepth 100000
open Go.RowKit Bs
theorem pair_get {α : Type} {f : α → α → Bool} {l : List α} (h : l.Pairwise (fun x z => f x z = true)) {i j : Nat} {x y : α} (hij : i < j) (hx : l[i]? = some x) (hy : l[j]? = some y) : f x y = true := by
 obtain ⟨hi, rfl⟩ := List.getElem?_eq_some_iff.1 hx
 obtain ⟨hj, rfl⟩ := List.getElem?_eq_some_iff.1 hy
 exact List.pairwise_iff_getElem.1 h i j hi hj hij
def capR (R : List Rt) (x : Int) : Bool := match R.find? (fun r => decide (r.id = x)) with
 | some r => r.cap
 | none => false
theorem bs_router {R : List Rt} {L : List Lk} (ho : OkAll R L) {x : Int} {c b : Bool} {i : Nat} (h : BsP cvR R ⟨x, c⟩ i b) :
  b = hasR R x ∧ (b = true → ∃ r, R[i]? = some r ∧ r.id = x ∧ r.cap = capR R x) := by
 have hp := pair_of_asc ltR ltR_trans R ho.rs
 have key : ∀ j y, R[j]? = some y → y.id = x → i = j := by
  intro j y hy hyx
  have hlt := (List.getElem?_eq_some_iff.1 hy).1
  by_cases h1 : i < j
  ·obtain ⟨z, hz⟩ : ∃ z, R[i]? = some z := ⟨_, List.getElem?_eq_getElem (by omega)⟩
   have h2 := h.hi z hz
   have h3 := of_decide_eq_true (show decide (z.id < y.id) = true from pair_get hp h1 hz hy)
   unfold cvR at h2
   have h4 := cmpV_ge.1 h2
   simp only at h4
   omega
  ·by_cases h1' : j < i
   ·obtain ⟨z, hz⟩ : ∃ z, R[i - 1]? = some z := ⟨_, List.getElem?_eq_getElem (by have := h.le; omega)⟩
    have h2 := h.lo z (by omega) hz
    unfold cvR at h2
    have h4 := cmpV_lt.1 h2
    simp only at h4
    by_cases hj : j = i - 1
    ·subst hj
     rw [hz] at hy
     obtain rfl := Option.some.inj hy
     omega
    ·have h3 := of_decide_eq_true (show decide (y.id < z.id) = true from pair_get hp (by omega) hy hz)
     omega
   ·omega
 have hb : b = true → ∃ r, R[i]? = some r ∧ r.id = x := by
  intro hb
  have he := h.eq
  rw [hb] at he
  cases hr : R[i]? with
  | none => rw [hr] at he; cases he
  | some r =>
   rw [hr] at he
   refine ⟨r, rfl, ?_⟩
   have he2 : cvR r ⟨x, c⟩ = 0 := by simpa using he.symm
   exact cmpV_eq.1 he2
 constructor
 ·cases hh : hasR R x
  ·cases hbb : b
   ·rfl
   ·obtain ⟨r, hr, he⟩ := hb hbb
    have : hasR R x = true := List.any_eq_true.2 ⟨r, List.mem_of_getElem? hr, decide_eq_true he⟩
    rw [hh] at this
    cases this
  ·obtain ⟨r, hr, he⟩ := List.any_eq_true.1 hh
   obtain ⟨j, hj, hje⟩ := List.mem_iff_getElem.1 hr
   have hjs : R[j]? = some r := by rw [List.getElem?_eq_getElem hj, hje]
   obtain rfl := key j r hjs (of_decide_eq_true he)
   rw [h.eq, hjs]
   have : cvR r ⟨x, c⟩ = 0 := cmpV_eq.2 (of_decide_eq_true he)
   simp [this]
 ·intro hbt
  obtain ⟨r, hr, he⟩ := hb hbt
  refine ⟨r, hr, he, ?_⟩
  unfold capR
  cases hf : R.find? (fun r => decide (r.id = x)) with
  | none =>
   have := List.find?_eq_none.1 hf r (List.mem_of_getElem? hr)
   rw [decide_eq_true he] at this
   exact absurd rfl this
  | some r2 =>
   have h2 := List.find?_some hf
   obtain ⟨j, hj, hje⟩ := List.mem_iff_getElem.1 (List.mem_of_find?_eq_some hf)
   have hjs : R[j]? = some r2 := by rw [List.getElem?_eq_getElem hj, hje]
   obtain rfl := key j r2 hjs (of_decide_eq_true h2)
   rw [hr] at hjs
   obtain rfl := Option.some.inj hjs
   rfl
def priceB (a b : Int) (l : Lk) : Option Int := if l.a = a ∧ l.b = b then some l.ca else if l.b = a ∧ l.a = b then some l.cb else none
def priceV (L : List Lk) (a b : Int) : Int × Bool := match L.findSome? (priceB a b) with
 | some c => (c, true)
 | none => (0, false)
theorem ends_lt {R : List Rt} {L : List Lk} (ho : OkAll R L) : ∀ l ∈ L, l.a < l.b := by
 intro l hl
 have h := List.any_eq_false.1 ho.en l hl
 unfold wrEnd at h
 have h2 : ¬ l.b ≤ l.a := fun hc => h (decide_eq_true hc)
 omega
def nearR (R : List Rt) (L : List Lk) (x : Int) : List Int := (R.filter fun r => (priceV L x r.id).2).map (·.id)
theorem eq_of_asc : ∀ {l m : List Int}, l.Pairwise (· < ·) → m.Pairwise (· < ·) → (∀ x, x ∈ l ↔ x ∈ m) → l = m
 | [], [], _, _, _ => rfl
 | [], b :: m, _, _, h => by have := (h b).2 (by simp); cases this
 | a :: l, [], _, _, h => by have := (h a).1 (by simp); cases this
 | a :: l, b :: m, hl, hm, h => by
  obtain ⟨h1, h2⟩ := List.pairwise_cons.1 hl
  obtain ⟨h3, h4⟩ := List.pairwise_cons.1 hm
  have e : a = b := by
   have ha := (h a).1 (by simp)
   have hb := (h b).2 (by simp)
   rcases List.mem_cons.1 ha with ha | ha
   ·exact ha
   rcases List.mem_cons.1 hb with hb | hb
   ·exact hb.symm
   have := h1 b hb
   have := h3 a ha
   omega
  subst e
  congr 1
  refine eq_of_asc h2 h4 fun x => ?_
  constructor
  ·intro hx
   rcases List.mem_cons.1 ((h x).1 (List.mem_cons_of_mem _ hx)) with rfl | hx2
   ·have := h1 x hx; omega
   ·exact hx2
  ·intro hx
   rcases List.mem_cons.1 ((h x).2 (List.mem_cons_of_mem _ hx)) with rfl | hx2
   ·have := h3 x hx; omega
   ·exact hx2
theorem nb1_mem (x y : Int) (l : Lk) : y ∈ nb1 x l ↔ (l.b = x ∧ y = l.a) ∨ (l.a = x ∧ y = l.b) := by
 unfold nb1
 rw [List.mem_append]
 by_cases h1 : l.b = x <;> by_cases h2 : l.a = x <;> simp [h1, h2]
theorem price_ok (L : List Lk) (x y : Int) : (priceV L x y).2 = true ↔ ∃ l ∈ L, (l.b = x ∧ y = l.a) ∨ (l.a = x ∧ y = l.b) := by
 unfold priceV
 cases hf : L.findSome? (priceB x y) with
 | none =>
  simp only
  constructor
  ·intro h; cases h
  ·rintro ⟨l, hl, h⟩
   have := List.findSome?_eq_none_iff.1 hf l hl
   unfold priceB at this
   by_cases k1 : l.a = x ∧ l.b = y
   ·rw [if_pos k1] at this; cases this
   ·rw [if_neg k1] at this
    by_cases k2 : l.b = x ∧ l.a = y
    ·rw [if_pos k2] at this; cases this
    ·omega
 | some c =>
  simp only
  refine ⟨fun _ => ?_, fun _ => by trivial⟩
  obtain ⟨m, hm, hmc⟩ := List.exists_of_findSome?_eq_some hf
  refine ⟨m, hm, ?_⟩
  unfold priceB at hmc
  by_cases k1 : m.a = x ∧ m.b = y
  ·exact .inr ⟨k1.1, k1.2.symm⟩
  ·rw [if_neg k1] at hmc
   by_cases k2 : m.b = x ∧ m.a = y
   ·exact .inl ⟨k2.1, k2.2.symm⟩
   ·rw [if_neg k2] at hmc; cases hmc
theorem near_eq {R : List Rt} {L : List Lk} (ho : OkAll R L) (x : Int) : nbL L x = nearR R L x := by
 have he := ends_lt ho
 have hp := pair_of_asc ltL (fun _ _ _ => ltL_trans) L ho.ls
 have hr := pair_of_asc ltR ltR_trans R ho.rs
 refine eq_of_asc ?_ ?_ fun y => ?_
 ·unfold nbL
  rw [List.pairwise_flatMap]
  refine ⟨fun l hl => ?_, ?_⟩
  ·have := he l hl
   unfold nb1
   by_cases h1 : l.b = x <;> by_cases h2 : l.a = x <;> simp [h1, h2]
   omega
  ·refine List.Pairwise.imp_of_mem ?_ hp
   intro l m hl hm hlm u hu v hv
   have h1 := he l hl
   have h2 := he m hm
   unfold ltL at hlm
   have h3 := of_decide_eq_true hlm
   rcases (nb1_mem x u l).1 hu with hu | hu <;> rcases (nb1_mem x v m).1 hv with hv | hv <;> omega
 ·unfold nearR
  rw [List.pairwise_map]
  exact (hr.sublist List.filter_sublist).imp (fun h => of_decide_eq_true h)
 ·unfold nbL nearR
  rw [List.mem_flatMap, List.mem_map]
  constructor
  ·rintro ⟨l, hl, hy⟩
   have hy := (nb1_mem x y l).1 hy
   have hk := List.any_eq_false.1 ho.un l hl
   unfold unk at hk
   have hak : hasR R l.a = true ∧ hasR R l.b = true := by
    cases e1 : hasR R l.a <;> cases e2 : hasR R l.b <;> rw [e1, e2] at hk <;> simp at hk ⊢
   have hyr : hasR R y = true := by
    rcases hy with hy | hy
    ·rw [hy.2]; exact hak.1
    ·rw [hy.2]; exact hak.2
   obtain ⟨r, hr2, hid⟩ := List.any_eq_true.1 hyr
   have hid := of_decide_eq_true hid
   refine ⟨r, List.mem_filter.2 ⟨hr2, ?_⟩, hid⟩
   rw [hid]
   exact (price_ok L x y).2 ⟨l, hl, hy⟩
  ·rintro ⟨r, hr2, rfl⟩
   obtain ⟨l, hl, h⟩ := (price_ok L x r.id).1 (List.mem_filter.1 hr2).2
   exact ⟨l, hl, (nb1_mem x r.id l).2 h⟩
end Go.Proofs.YtahafijpcmphaaaGreat

/- topology: routerAt, linkAt, Has, Capable, Cost, Neighbours. -/
namespace Go.Proofs.YtahafijpcmphaaaGreat
set_option maxRecDepth 100000
open Go.RowKit Bs
set_option maxHeartbeats 1600000 in
theorem trat_any (T : Tg) (x : Int) (q : Nat → Prop) (w : World) (hT : TgOk w q T) (h1 : T.R.length ≤ 1000000) :
  Calls Tryz.prog 104 #[.agg #[.slice T.pR T.R.length T.cR, .slice T.pL T.L.length T.cL], .int .i64 x] w fun e w' => BsPost cvR T.R ⟨x, false⟩ w e w' := by
 obtain ⟨R, L, pR, cR, pL, cL⟩ := T
 simp only at h1 ⊢
 obtain ⟨k1, k2⟩ := tone_box w #[.slice pR R.length cR, .slice pL L.length cL] 45
 have HB := Lib.hid (And.intro k1 (And.intro k2 (hT.keep k2)))
 clear k1 k2 hT
 go_enter Tryz.func104, Tryz.ntmps104
 go_upto_region 1 with fail
 generalize w.alloc _ = wa at *
 obtain ⟨c0, c1⟩ := row_cells HB.out.1
 go_wp2_with fail
 refine (bsR_any R ⟨x, false⟩ pR cR _ wa HB.out.2.2.r h1).mono ?_
 rintro e w1 ⟨i, b, rfl, hb, hg⟩
 have HG := Lib.hid hg
 clear hg
 go_wp2_with fail
 go_ret2
 exact ⟨i, b, rfl, hb, grown_trans HB.out.2.1 HG.out⟩
def hasV (R : List Rt) (L : List Lk) (x : Int) : Bool := okT R L && hasR R x
def capV (R : List Rt) (L : List Lk) (x : Int) : Bool := okT R L && capR R x
theorem capR_has {R : List Rt} {x : Int} (h : hasR R x = false) : capR R x = false := by
 unfold capR
 cases hf : R.find? (fun r => decide (r.id = x)) with
 | none => rfl
 | some r =>
  have h2 := List.find?_some hf
  have : hasR R x = true := List.any_eq_true.2 ⟨r, List.mem_of_find?_eq_some hf, h2⟩
  rw [h] at this; cases this
theorem okT_all {R : List Rt} {L : List Lk} (h : okT R L = true) : OkAll R L := chk_okAll (by unfold okT at h; simpa using h)
set_option maxHeartbeats 1600000 in
theorem thas_any (T : Tg) (x : Int) (q : Nat → Prop) (w : World) (hT : TgOk w q T) (h1 : T.R.length ≤ 1000000) :
  Calls Tryz.prog 84 #[.agg #[.slice T.pR T.R.length T.cR, .slice T.pL T.L.length T.cL], .int .i64 x] w fun e w' => e = .returned (.bool (hasV T.R T.L x)) ∧ w.grownBy w' none := by
 obtain ⟨R, L, pR, cR, pL, cL⟩ := T
 simp only at h1 ⊢
 obtain ⟨k1, k2⟩ := tone_box w #[.slice pR R.length cR, .slice pL L.length cL] 45
 have HB := Lib.hid (And.intro k1 (And.intro k2 (hT.keep k2)))
 clear k1 k2 hT
 obtain ⟨z, hz⟩ : ∃ z, hasV R L x = z := ⟨_, rfl⟩
 rw [hz]
 have HZ := Lib.hid hz
 clear hz
 go_enter Tryz.func84, Tryz.ntmps84
 go_upto_region 1 with fail
 generalize w.alloc _ = wa at *
 obtain ⟨c0, c1⟩ := row_cells HB.out.1
 go_wp2_with fail
 refine (trat_any ⟨R, L, pR, cR, pL, cL⟩ x _ wa HB.out.2.2 h1).mono ?_
 rintro e w1 ⟨i, b, rfl, hb, hg⟩
 have HG := Lib.hid hg
 clear hg c0 c1
 obtain ⟨c0, c1⟩ := row_cells (kept_row HB.out.1 HG.out (by simp))
 cases hv : okT R L
 ·obtain rfl : false = z := by have := HZ.out; unfold hasV at this; rw [hv] at this; simpa using this
  go_wp2_with fail
  refine (tvalid_any ⟨R, L, pR, cR, pL, cL⟩ _ w1 (HB.out.2.2.keep HG.out)).mono ?_
  rintro e w2 ⟨rfl, hg⟩
  simp only
  rw [hv]
  have HG2 := Lib.hid (grown_trans HG.out hg)
  clear hg hv
  go_wp2_with fail
  go_ret
  exact ⟨rfl, grown_trans HB.out.2.1 HG2.out⟩
 ·obtain rfl : b = z := by have := HZ.out; unfold hasV at this; rw [hv] at this; rw [← this]; exact (bs_router (okT_all hv) hb.out).1
  go_wp2_with fail
  refine (tvalid_any ⟨R, L, pR, cR, pL, cL⟩ _ w1 (HB.out.2.2.keep HG.out)).mono ?_
  rintro e w2 ⟨rfl, hg⟩
  simp only
  rw [hv]
  have HG2 := Lib.hid (grown_trans HG.out hg)
  clear hg hv
  go_wp2_with fail
  go_ret
  exact ⟨rfl, grown_trans HB.out.2.1 HG2.out⟩
set_option maxHeartbeats 1600000 in
theorem tcap_any (T : Tg) (x : Int) (q : Nat → Prop) (w : World) (hT : TgOk w q T) (h1 : T.R.length ≤ 1000000) :
  Calls Tryz.prog 75 #[.agg #[.slice T.pR T.R.length T.cR, .slice T.pL T.L.length T.cL], .int .i64 x] w fun e w' => e = .returned (.bool (capV T.R T.L x)) ∧ w.grownBy w' none := by
 obtain ⟨R, L, pR, cR, pL, cL⟩ := T
 simp only at h1 ⊢
 obtain ⟨k1, k2⟩ := tone_box w #[.slice pR R.length cR, .slice pL L.length cL] 45
 have HB := Lib.hid (And.intro k1 (And.intro k2 (hT.keep k2)))
 clear k1 k2 hT
 obtain ⟨z, hz⟩ : ∃ z, capV R L x = z := ⟨_, rfl⟩
 rw [hz]
 have HZ := Lib.hid hz
 clear hz
 go_enter Tryz.func75, Tryz.ntmps75
 go_upto_region 1 with fail
 generalize w.alloc _ = wa at *
 obtain ⟨c0, c1⟩ := row_cells HB.out.1
 go_wp2_with fail
 refine (trat_any ⟨R, L, pR, cR, pL, cL⟩ x _ wa HB.out.2.2 h1).mono ?_
 rintro e w1 ⟨i, b, rfl, hb, hg⟩
 have HG := Lib.hid hg
 clear hg c0 c1
 obtain ⟨c0, c1⟩ := row_cells (kept_row HB.out.1 HG.out (by simp))
 cases hv : okT R L
 ·obtain rfl : false = z := by have := HZ.out; unfold capV at this; rw [hv] at this; simpa using this
  go_wp2_with fail
  refine (tvalid_any ⟨R, L, pR, cR, pL, cL⟩ _ w1 (HB.out.2.2.keep HG.out)).mono ?_
  rintro e w2 ⟨rfl, hg⟩
  simp only
  rw [hv]
  have HG2 := Lib.hid (grown_trans HG.out hg)
  clear hg hv
  go_wp2_with fail
  go_ret
  exact ⟨rfl, grown_trans HB.out.2.1 HG2.out⟩
 ·have hbr := bs_router (okT_all hv) hb.out
  cases b
  ·obtain rfl : false = z := by have := HZ.out; unfold capV at this; rw [hv, capR_has hbr.1.symm] at this; simpa using this
   clear hbr
   go_wp2_with fail
   refine (tvalid_any ⟨R, L, pR, cR, pL, cL⟩ _ w1 (HB.out.2.2.keep HG.out)).mono ?_
   rintro e w2 ⟨rfl, hg⟩
   simp only
   rw [hv]
   have HG2 := Lib.hid (grown_trans HG.out hg)
   clear hg hv
   go_wp2_with fail
   go_ret
   exact ⟨rfl, grown_trans HB.out.2.1 HG2.out⟩
  ·obtain ⟨r, hr, -, hcap⟩ := hbr.2 rfl
   obtain rfl : r.cap = z := by have := HZ.out; unfold capV at this; rw [hv] at this; rw [hcap]; simpa using this
   have hlt := (List.getElem?_eq_some_iff.1 hr).1
   have HR := Lib.hid hr
   clear hbr hr hcap
   go_wp2_with fail
   refine (tvalid_any ⟨R, L, pR, cR, pL, cL⟩ _ w1 (HB.out.2.2.keep HG.out)).mono ?_
   rintro e w2 ⟨rfl, hg⟩
   simp only
   rw [hv]
   have HG2 := Lib.hid (grown_trans HG.out hg)
   clear hg hv c0 c1
   obtain ⟨c0, c1⟩ := row_cells (kept_row HB.out.1 HG2.out (by simp))
   obtain ⟨-, bb, off, rfl, -, hc⟩ := rdr_cells (R := R) (HB.out.2.2.keep HG2.out).r (by omega)
   obtain ⟨a0, a1⟩ := hc i r HR.out
   have i0 : (0 : Int) ≤ (i : Int) := by omega
   have i1 : (i : Int) < (R.length : Int) := by omega
   clear hc
   go_wp2_with fail
   go_ret
   exact ⟨rfl, grown_trans HB.out.2.1 HG2.out⟩
end Go.Proofs.YtahafijpcmphaaaGreat

/- slices.Clone of links and of routers; linkOf; what Apply makes (the values). -/
namespace Go.Proofs.YtahafijpcmphaaaGreat
set_option maxRecDepth 100000
open Go.RowKit Bs
theorem info_lk2 : (Tryz.prog.info? 94).map (fun i => (i.zero, i.size, i.bytes)) = some (some (.agg #[.int .i64 0, .int .i64 0, .int .i64 0, .int .i64 0, .int .i64 0]), 5, 40) := by kernel_rfl
set_option maxHeartbeats 1600000 in
theorem tcloneL_any (L : List Lk) (p : Option Addr) (c : Nat) (q : Nat → Prop) (w : World) (hR : RdL5 w q (.slice p L.length c) L) (hn : p = none → c = 0) (hc : L.length ≤ c ∧ c ≤ 9223372036854775807) (hm : L.length ≤ 1000) :
  Calls Tryz.prog 119 #[.slice p L.length c] w fun e w' => ∃ v, e = .returned v ∧ w'.ownsRow w.heap.size 94 5 v L.length (L.flatMap lkC) ∧ w.grownBy w' none := by
 obtain ⟨ii, hii, hi0, hi1, hi2⟩ := info_parts info_lk2
 cases p with
 | none =>
  obtain rfl := hn rfl
  have h0 : L.length = 0 := by omega
  obtain rfl := List.eq_nil_of_length_eq_zero h0
  clear hR
  have heq : ∀ w : World, (binOp .eql 43 (.slice none 0 0) (.slice none 0 0)).run Tryz.prog w = .ok (.bool true) w := fun w => Lib.run_eql_slice_nil w _ _ none 0 0 0 0 Tryz.underlying43
  go_enter Tryz.func119, Tryz.ntmps119
  go_wp2_with fail
  go_ret
  exact ⟨_, rfl, World.ownsRow_nil _ _ _ _, grown_refl _ _⟩
 | some ad =>
  have k0 := World.grownBy_alloc w (.cells #[] 94) none
  have hlit : (w.alloc (.cells #[] 94)).ownsRow w.heap.size 94 5 (.slice (some ⟨w.heap.size, 0, none⟩) 0 0) 0 (([] : List Lk).flatMap lkC) := World.ownsRow_lit w #[] 0 (Nat.le_refl _) (by decide) rfl
  have HL := Lib.hid (And.intro hlit (And.intro k0 (hR.keep k0)))
  clear hlit k0 hR
  have heq : ∀ w : World, (binOp .eql 43 (.slice (some ad) L.length c) (.slice none 0 0)).run Tryz.prog w = .ok (.bool false) w := fun w => Lib.run_eql_slice_nil w _ _ (some ad) L.length c 0 0 Tryz.underlying43
  go_enter Tryz.func119, Tryz.ntmps119
  go_wp2_with (at_builtin; refine hold_on ?_)
  refine Lib.hid ?_
  refine wpList_append_f lkC 5 40 (by decide) (fun _ => rfl) lk_one 94 43 ii _ Tryz.underlying43 hii hi0 hi1 hi2 rfl (by decide) rfl _ _ rfl w.heap.size _ [] 0 rfl rfl HL.out.1 _ _ _ L rfl rfl (fun h => by cases h) q HL.out.2.2 hc.1 (by omega) (by simp) ?_
  intro v' w1 hown hg
  rw [List.nil_append] at hown
  have HO := Lib.hid (And.intro hown (old_grow HL.out.2.1 HL.out.1 (Nat.le_refl _) hg))
  clear hown hg
  go_wp2_with fail
  go_ret
  exact ⟨v', rfl, HO.out.1, HO.out.2⟩
end Go.Proofs.YtahafijpcmphaaaGreat

/- slices.Delete of one link. -/
namespace Go.Proofs.YtahafijpcmphaaaGreat
set_option maxRecDepth 100000
open Go.RowKit Bs
theorem list_eq {xs ys : List Value} (hl : xs.length = ys.length) (h : ∀ j, j < xs.length → xs[j]? = ys[j]?) : xs = ys := by
 apply List.ext_getElem?
 intro j
 by_cases hj : j < xs.length
 ·exact h j hj
 ·rw [List.getElem?_eq_none (by omega), List.getElem?_eq_none (by omega)]
end Go.Proofs.YtahafijpcmphaaaGreat

/- Least costs: walks, what a closed table of costs says, what rounds of relaxing give. -/
namespace Go.Proofs.YtahafijpcmphaaaGreat
set_option maxRecDepth 100000
def edg (L : List Lk) (u v c : Int) : Prop := ∃ l ∈ L, (l.a = u ∧ l.b = v ∧ l.ca = c) ∨ (l.b = u ∧ l.a = v ∧ l.cb = c)
def Wk (L : List Lk) (s v n : Int) : Prop := ∀ P : Int → Int → Prop, P s 0 → (∀ u m v c, P u m → edg L u v c → P v (m + c)) → P v n
theorem Wk.nil (L : List Lk) (s : Int) : Wk L s s 0 := fun _ h _ => h
theorem Wk.step {L : List Lk} {s u m v c : Int} (h : Wk L s u m) (e : edg L u v c) : Wk L s v (m + c) := fun P h0 hs => hs u m v c (h P h0 hs) e
theorem Wk.ind {L : List Lk} {s : Int} {Q : Int → Int → Prop} (h0 : Q s 0) (hs : ∀ u m v c, Wk L s u m → Q u m → edg L u v c → Q v (m + c)) {v n : Int} (h : Wk L s v n) : Q v n :=
 (h (fun v n => Wk L s v n ∧ Q v n) ⟨Wk.nil L s, h0⟩ (fun u m v c hu e => ⟨hu.1.step e, hs u m v c hu.1 hu.2 e⟩)).2
theorem Wk.last {L : List Lk} {s v n : Int} (h : Wk L s v n) : (v = s ∧ n = 0) ∨ ∃ u m c, Wk L s u m ∧ edg L u v c ∧ n = m + c :=
 Wk.ind (Q := fun v n => (v = s ∧ n = 0) ∨ ∃ u m c, Wk L s u m ∧ edg L u v c ∧ n = m + c) (.inl ⟨rfl, rfl⟩) (fun u m _ c hu _ e => .inr ⟨u, m, c, hu, e, rfl⟩) h
def Pos (L : List Lk) : Prop := ∀ l ∈ L, 1 ≤ l.ca ∧ 1 ≤ l.cb
theorem Pos.edg {L : List Lk} (hp : Pos L) {u v c : Int} (e : edg L u v c) : 1 ≤ c := by
 obtain ⟨l, hl, h | h⟩ := e
 ·have := (hp l hl).1; omega
 ·have := (hp l hl).2; omega
theorem Wk.ge {L : List Lk} (hp : Pos L) {s v n : Int} (h : Wk L s v n) : 0 ≤ n :=
 Wk.ind (Q := fun _ n => 0 ≤ n) (Int.le_refl _) (fun u m v c _ h e => by have := hp.edg e; omega) h
def IsD (L : List Lk) (s v d : Int) : Prop := Wk L s v d ∧ ∀ n, Wk L s v n → d ≤ n
theorem IsD.uniq {L : List Lk} {s v d e : Int} (h : IsD L s v d) (k : IsD L s v e) : d = e := by
 have := h.2 e k.1
 have := k.2 d h.1
 omega
theorem exists_D {L : List Lk} (hp : Pos L) {s v : Int} : ∀ (k : Nat) (n : Int), n.toNat ≤ k → Wk L s v n → ∃ d, IsD L s v d ∧ d ≤ n := by
 intro k
 induction k with
 | zero =>
  intro n hn h
  have h0 := h.ge hp
  exact ⟨n, ⟨h, fun m hm => by have := hm.ge hp; omega⟩, Int.le_refl _⟩
 | succ k ih =>
  intro n hn h
  rcases Classical.em (∃ m, Wk L s v m ∧ m < n) with ⟨m, hm, hmn⟩ | h1
  ·have h0 := hm.ge hp
   obtain ⟨d, hd, hdm⟩ := ih m (by omega) hm
   exact ⟨d, hd, by omega⟩
  ·refine ⟨n, ⟨h, fun m hm => ?_⟩, Int.le_refl _⟩
   rcases Int.lt_or_le m n with h2 | h2
   ·exact absurd ⟨m, hm, h2⟩ h1
   ·exact h2
theorem IsD.self {L : List Lk} (hp : Pos L) (s : Int) : IsD L s s 0 := ⟨Wk.nil L s, fun _ h => h.ge hp⟩
theorem IsD.pred {L : List Lk} {s v d : Int} (h : IsD L s v d) : (v = s ∧ d = 0) ∨ ∃ u e c, IsD L s u e ∧ edg L u v c ∧ d = e + c := by
 rcases h.1.last with h1 | ⟨u, m, c, hu, e, rfl⟩
 ·exact .inl h1
 ·refine .inr ⟨u, m, c, ⟨hu, fun n hn => ?_⟩, e, rfl⟩
  have := h.2 _ (hn.step e)
  omega
theorem closed_D {L : List Lk} {s : Int} {f : Int → Option Int} (h0 : f s = some 0) (hw : ∀ v d, f v = some d → Wk L s v d) (hc : ∀ u d v c, f u = some d → edg L u v c → ∃ e, f v = some e ∧ e ≤ d + c) (v d : Int) : f v = some d ↔ IsD L s v d := by
 have low : ∀ {v n}, Wk L s v n → ∃ e, f v = some e ∧ e ≤ n := fun {v n} h =>
  Wk.ind (Q := fun v n => ∃ e, f v = some e ∧ e ≤ n) ⟨0, h0, Int.le_refl _⟩ (fun u m v c _ hq e => by
   obtain ⟨x, hx, hxm⟩ := hq
   obtain ⟨y, hy, hyx⟩ := hc u x v c hx e
   exact ⟨y, hy, by omega⟩) h
 constructor
 ·intro h
  refine ⟨hw v d h, fun n hn => ?_⟩
  obtain ⟨e, he, hen⟩ := low hn
  rw [h] at he
  obtain rfl := Option.some.inj he
  exact hen
 ·intro h
  obtain ⟨e, he, hen⟩ := low h.1
  have := h.2 e (hw v e he)
  rw [he, show e = d by omega]
/-! Relaxing. -/
def farN : Int := 1073741824
def updF (d : Int → Int) (v x : Int) : Int → Int := fun u => if u = v then x else d u
def rlx1 (d : Int → Int) (u v c : Int) : Int → Int := if d u < farN then updF d v (min (d v) (c + d u)) else d
def rlx (d : Int → Int) (l : Lk) : Int → Int := rlx1 (rlx1 d l.b l.a l.cb) l.a l.b l.ca
def pass (L : List Lk) (d : Int → Int) : Int → Int := L.foldl rlx d
def passes (L : List Lk) : Nat → (Int → Int) → Int → Int
 | 0, d => d
 | k + 1, d => pass L (passes L k d)
def startF (s : Int) : Int → Int := fun u => if u = s then 0 else farN
def Snd (L : List Lk) (s : Int) (d : Int → Int) : Prop := ∀ v, d v = farN ∨ (d v < farN ∧ Wk L s v (d v))
theorem snd_rlx1 {L : List Lk} {s u v c : Int} {d : Int → Int} (h : Snd L s d) (e : edg L u v c) : Snd L s (rlx1 d u v c) := by
 unfold rlx1
 by_cases hu : d u < farN
 ·rw [if_pos hu]
  intro x
  unfold updF
  by_cases hx : x = v
  ·subst hx
   rw [if_pos rfl]
   have hwu : Wk L s u (d u) := by
    rcases h u with h1 | h1
    ·omega
    ·exact h1.2
   have hst := hwu.step e
   rcases h x with h1 | h1
   ·rcases Int.lt_or_le (c + d u) farN with h2 | h2
    ·refine .inr ⟨by omega, ?_⟩
     rw [show min (d x) (c + d u) = d u + c by omega]
     exact hst
    ·exact .inl (by omega)
   ·refine .inr ⟨by omega, ?_⟩
    rcases Int.lt_or_le (c + d u) (d x) with h2 | h2
    ·rw [show min (d x) (c + d u) = d u + c by omega]
     exact hst
    ·rw [show min (d x) (c + d u) = d x by omega]
     exact h1.2
  ·rw [if_neg hx]
   exact h x
 ·rw [if_neg hu]
  exact h
theorem le_rlx1 (d : Int → Int) (u v c x : Int) : rlx1 d u v c x ≤ d x := by
 unfold rlx1
 by_cases hu : d u < farN
 ·rw [if_pos hu]
  unfold updF
  by_cases hx : x = v
  ·subst hx
   rw [if_pos rfl]
   omega
  ·rw [if_neg hx]
   omega
 ·rw [if_neg hu]
  omega
theorem le_rlx (d : Int → Int) (l : Lk) (x : Int) : rlx d l x ≤ d x := Int.le_trans (le_rlx1 _ _ _ _ _) (le_rlx1 _ _ _ _ _)
theorem snd_rlx {L : List Lk} {s : Int} {d : Int → Int} (h : Snd L s d) {l : Lk} (hl : l ∈ L) : Snd L s (rlx d l) :=
 snd_rlx1 (snd_rlx1 h ⟨l, hl, .inr ⟨rfl, rfl, rfl⟩⟩) ⟨l, hl, .inl ⟨rfl, rfl, rfl⟩⟩
theorem fold_rlx {L : List Lk} {s : Int} : ∀ (M : List Lk) (d : Int → Int), (∀ l ∈ M, l ∈ L) → Snd L s d → Snd L s (M.foldl rlx d) ∧ ∀ x, M.foldl rlx d x ≤ d x
 | [], d, _, h => ⟨h, fun _ => Int.le_refl _⟩
 | l :: t, d, hm, h => by
  obtain ⟨i1, i2⟩ := fold_rlx t (rlx d l) (fun m hm2 => hm m (by simp [hm2])) (snd_rlx h (hm l (by simp)))
  exact ⟨i1, fun x => Int.le_trans (i2 x) (le_rlx d l x)⟩
theorem snd_pass {L : List Lk} {s : Int} {d : Int → Int} (h : Snd L s d) : Snd L s (pass L d) ∧ ∀ x, pass L d x ≤ d x := fold_rlx L d (fun _ h => h) h
theorem snd_start (L : List Lk) (s : Int) : Snd L s (startF s) := by
 intro v
 unfold startF
 by_cases h : v = s
 ·subst h
  rw [if_pos rfl]
  exact .inr ⟨by decide, Wk.nil L v⟩
 ·rw [if_neg h]
  exact .inl rfl
theorem snd_passes (L : List Lk) (s : Int) : ∀ k, Snd L s (passes L k (startF s))
 | 0 => snd_start L s
 | k + 1 => (snd_pass (snd_passes L s k)).1
theorem Snd.low {L : List Lk} {s v e : Int} {d : Int → Int} (h : Snd L s d) (hD : IsD L s v e) (he : e < farN) : e ≤ d v := by
 rcases h v with h1 | h1
 ·omega
 ·exact hD.2 _ h1.2
theorem Snd.none {L : List Lk} {s v : Int} {d : Int → Int} (h : Snd L s d) (hn : ∀ n, ¬ Wk L s v n) : d v = farN := by
 rcases h v with h1 | h1
 ·exact h1
 ·exact absurd h1.2 (hn _)
theorem rlx1_hit {d : Int → Int} {u v c e : Int} (hu : d u = e) (he : e < farN) : rlx1 d u v c v ≤ e + c := by
 unfold rlx1
 rw [if_pos (by omega)]
 unfold updF
 rw [if_pos rfl]
 omega
theorem fold_hit {L : List Lk} {s u v c e : Int} (hDu : IsD L s u e) (he : e < farN) : ∀ (M : List Lk) (d : Int → Int), (∀ l ∈ M, l ∈ L) → Snd L s d → d u = e → (∃ l ∈ M, (l.a = u ∧ l.b = v ∧ l.ca = c) ∨ (l.b = u ∧ l.a = v ∧ l.cb = c)) → M.foldl rlx d v ≤ e + c
 | [], _, _, _, _, h => by obtain ⟨l, hl, _⟩ := h; cases hl
 | l :: t, d, hm, hs, hd, h => by
  have hl := hm l (by simp)
  have ht : ∀ m ∈ t, m ∈ L := fun m hm2 => hm m (by simp [hm2])
  have hs1 := snd_rlx hs hl
  have h1 : rlx d l u = e := by
   have := le_rlx d l u
   have := hs1.low hDu he
   omega
  obtain ⟨m, hmm, hme⟩ := h
  rcases List.mem_cons.1 hmm with rfl | hmt
  ·refine Int.le_trans ((fold_rlx t (rlx d m) ht hs1).2 v) ?_
   have hs0 : Snd L s (rlx1 d m.b m.a m.cb) := snd_rlx1 hs ⟨m, hl, .inr ⟨rfl, rfl, rfl⟩⟩
   rcases hme with ⟨e1, e2, e3⟩ | ⟨e1, e2, e3⟩
   ·have hu : rlx1 d m.b m.a m.cb u = e := by
     have := le_rlx1 d m.b m.a m.cb u
     have := hs0.low hDu he
     omega
    unfold rlx
    rw [← e3, ← e2]
    exact rlx1_hit (by rw [← e1] at hu; exact hu) he
   ·refine Int.le_trans (le_rlx1 _ _ _ _ _) ?_
    rw [← e3, ← e2]
    exact rlx1_hit (by rw [e1]; exact hd) he
  ·exact fold_hit hDu he t _ ht hs1 h1 ⟨m, hmt, hme⟩
open Classical in
noncomputable def rnk (L : List Lk) (s : Int) (V : List Int) (e : Int) : Nat := (V.filter (fun u => decide (∃ x, IsD L s u x ∧ x < e))).length
open Classical in
theorem rnk_lt {L : List Lk} {s : Int} {V : List Int} {u e d : Int} (hu : u ∈ V) (hD : IsD L s u e) (h : e < d) : rnk L s V e < rnk L s V d := by
 unfold rnk
 have hsub : ∀ (W : List Int), u ∈ W → (W.filter (fun u => decide (∃ x, IsD L s u x ∧ x < e))).length < (W.filter (fun u => decide (∃ x, IsD L s u x ∧ x < d))).length := by
  have hle : ∀ (W : List Int), (W.filter (fun u => decide (∃ x, IsD L s u x ∧ x < e))).length ≤ (W.filter (fun u => decide (∃ x, IsD L s u x ∧ x < d))).length := by
   intro W
   induction W with
   | nil => exact Nat.le_refl _
   | cons a t ih =>
    rw [List.filter_cons, List.filter_cons]
    by_cases h1 : ∃ x, IsD L s a x ∧ x < e
    ·obtain ⟨x, hx, hxe⟩ := h1
     rw [if_pos (decide_eq_true ⟨x, hx, hxe⟩), if_pos (decide_eq_true ⟨x, hx, by omega⟩), List.length_cons, List.length_cons]
     omega
    ·rw [if_neg (by simpa using h1)]
     by_cases h2 : ∃ x, IsD L s a x ∧ x < d
     ·rw [if_pos (decide_eq_true h2), List.length_cons]; omega
     ·rw [if_neg (by simpa using h2)]; exact ih
  intro W
  induction W with
  | nil => intro h; cases h
  | cons a t ih =>
   intro hm
   rw [List.filter_cons, List.filter_cons]
   by_cases ha : a = u
   ·subst ha
    have h1 : ¬ ∃ x, IsD L s a x ∧ x < e := fun ⟨x, hx, hxe⟩ => by have := hx.uniq hD; omega
    rw [if_neg (by simpa using h1), if_pos (decide_eq_true ⟨e, hD, h⟩), List.length_cons]
    have := hle t
    omega
   ·have hm2 : u ∈ t := by
     rcases List.mem_cons.1 hm with h1 | h1
     ·exact absurd h1.symm ha
     ·exact h1
    have i1 := ih hm2
    by_cases h1 : ∃ x, IsD L s a x ∧ x < e
    ·obtain ⟨x, hx, hxe⟩ := h1
     rw [if_pos (decide_eq_true ⟨x, hx, hxe⟩), if_pos (decide_eq_true ⟨x, hx, by omega⟩), List.length_cons, List.length_cons]
     omega
    ·rw [if_neg (by simpa using h1)]
     by_cases h2 : ∃ x, IsD L s a x ∧ x < d
     ·rw [if_pos (decide_eq_true h2), List.length_cons]; omega
     ·rw [if_neg (by simpa using h2)]; exact i1
 exact hsub V hu
def Ends (L : List Lk) (V : List Int) : Prop := ∀ l ∈ L, l.a ∈ V ∧ l.b ∈ V
theorem Ends.edg {L : List Lk} {V : List Int} (h : Ends L V) {u v c : Int} (e : edg L u v c) : u ∈ V ∧ v ∈ V := by
 obtain ⟨l, hl, ⟨rfl, rfl, -⟩ | ⟨rfl, rfl, -⟩⟩ := e
 ·exact h l hl
 ·exact ⟨(h l hl).2, (h l hl).1⟩
theorem D_le {L : List Lk} (hp : Pos L) {V : List Int} (hV : Ends L V) {C : Int} (hC : ∀ l ∈ L, l.ca ≤ C ∧ l.cb ≤ C) (h0 : 0 ≤ C) {s : Int} : ∀ (k : Nat) (v e : Int), IsD L s v e → rnk L s V e ≤ k → e ≤ C * k := by
 intro k
 induction k with
 | zero =>
  intro v e hD hr
  rcases hD.pred with ⟨-, rfl⟩ | ⟨u, x, c, hu, he, rfl⟩
  ·simp
  ·have := rnk_lt (hV.edg he).1 hu (show x < x + c by have := hp.edg he; omega)
   omega
 | succ k ih =>
  intro v e hD hr
  rcases hD.pred with ⟨-, rfl⟩ | ⟨u, x, c, hu, he, rfl⟩
  ·exact Int.mul_nonneg h0 (by omega)
  ·have h1 := rnk_lt (hV.edg he).1 hu (show x < x + c by have := hp.edg he; omega)
   have h2 := ih u x hu (by omega)
   have h3 : c ≤ C := by
    obtain ⟨l, hl, ⟨-, -, rfl⟩ | ⟨-, -, rfl⟩⟩ := he
    ·exact (hC l hl).1
    ·exact (hC l hl).2
   rw [show C * ((k + 1 : Nat) : Int) = C * (k : Int) + C by rw [Int.natCast_succ, Int.mul_add, Int.mul_one]]
   omega
theorem passes_hit {L : List Lk} (hp : Pos L) {V : List Int} (hV : Ends L V) {s : Int} : ∀ (k : Nat) (v e : Int), IsD L s v e → e < farN → rnk L s V e ≤ k → passes L k (startF s) v = e := by
 intro k
 induction k with
 | zero =>
  intro v e hD he hr
  rcases hD.pred with ⟨rfl, rfl⟩ | ⟨u, x, c, hu, hc, rfl⟩
  ·show startF v v = 0
   unfold startF
   rw [if_pos rfl]
  ·have := rnk_lt (hV.edg hc).1 hu (show x < x + c by have := hp.edg hc; omega)
   omega
 | succ k ih =>
  intro v e hD he hr
  have hs := snd_passes L s k
  have hlow := (snd_passes L s (k + 1)).low hD he
  have hup := (snd_pass hs).2 v
  show pass L (passes L k (startF s)) v = e
  have hlow' : e ≤ pass L (passes L k (startF s)) v := hlow
  rcases hD.pred with ⟨rfl, rfl⟩ | ⟨u, x, c, hu, hc, rfl⟩
  ·have := ih v 0 hD he (by
    have : rnk L v V 0 = 0 := by
     unfold rnk
     rw [List.filter_eq_nil_iff.2]
     ·rfl
     ·intro a _
      have : ¬ ∃ y, IsD L v a y ∧ y < 0 := fun ⟨y, hy, hy0⟩ => by have := hy.1.ge hp; omega
      simpa using this
    omega)
   omega
  ·have hcp := hp.edg hc
   have hx0 := hu.1.ge hp
   have h1 := rnk_lt (hV.edg hc).1 hu (show x < x + c by omega)
   have h2 := ih u x hu (by omega) (by omega)
   have h3 := fold_hit (v := v) (c := c) hu (by omega) L (passes L k (startF s)) (fun _ h => h) hs h2 hc
   have h4 : pass L (passes L k (startF s)) v ≤ x + c := h3
   omega
theorem passes_D {L : List Lk} (hp : Pos L) {V : List Int} (hV : Ends L V) {C : Int} (hC : ∀ l ∈ L, l.ca ≤ C ∧ l.cb ≤ C) (h0 : 0 ≤ C) (hsm : C * (V.length : Int) < farN) {s : Int} (v e : Int) : (passes L V.length (startF s) v = e ∧ e < farN) ↔ IsD L s v e := by
 have hle : ∀ e, rnk L s V e ≤ V.length := fun e => by
  unfold rnk
  exact List.length_filter_le _ _
 have hsmall : ∀ v e, IsD L s v e → e < farN := fun v e hD => by
  have := D_le hp hV hC h0 V.length v e hD (hle e)
  omega
 constructor
 ·rintro ⟨rfl, h2⟩
  rcases snd_passes L s V.length v with h3 | h3
  ·omega
  ·obtain ⟨d, hd, -⟩ := exists_D hp _ _ (Nat.le_refl _) h3.2
   rw [passes_hit hp hV V.length v d hd (hsmall v d hd) (hle d)]
   exact hd
 ·intro hD
  exact ⟨passes_hit hp hV V.length v e hD (hsmall v e hD) (hle e), hsmall v e hD⟩
end Go.Proofs.YtahafijpcmphaaaGreat
