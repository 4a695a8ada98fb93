/- Parts of the proof, packed: ToLookR, ToArnd, ToRcp, ShTrM, ShReM, ShRAt. -/
import Derived.Test.YtpogblengagpaaaGreatDoorPa7
import Derived.Test.YtpogblengagpaaaGreatDoorPa3
import Derived.Test.YtpogblengagpaaaGreatDoorPa12
import Derived.Test.YtpogblengagpaaaGreatDoorPa4
import Derived.Deep.AppendLies
import Derived.BigQuiet
import Derived.Test.YtpogblengagpaaaGreatDoorPa9
import Derived.Test.YtpogblengagpaaaGreatDoorPa2
import Derived.Deep.OwnRows
/- The reference's Has, Capable, Price, Cost, Near, Neighbours. -/
namespace Go.Proofs.YtpogblengagpaaaGreatDoor
set_option maxRecDepth 100000
open Go.RowKit Bs
theorem find_hit {α : Type} {p : α → Bool} : ∀ {l : List α} {k : Nat} {x : α}, (l.take k).any p = false → l[k]? = some x → p x = true → l.find? p = some x
 | [], k, x, _, h, _ => by cases h
 | a :: t, 0, x, _, h, hp => by
  obtain rfl : a = x := by simpa using h
  rw [List.find?_cons, hp]
 | a :: t, k + 1, x, hn, h, hp => by
  rw [List.take_succ_cons, List.any_cons, Bool.or_eq_false_iff] at hn
  rw [List.find?_cons, hn.1]
  exact find_hit hn.2 (by simpa using h) hp
theorem some_hit {α β : Type} {f : α → Option β} {l : List α} {k : Nat} {x : α} {y : β} (hn : (l.take k).findSome? f = none) (h : l[k]? = some x) (hy : f x = some y) : l.findSome? f = some y := by
 have hlt := (List.getElem?_eq_some_iff.1 h).1
 have e : l = l.take k ++ (x :: l.drop (k + 1)) := by
  have h2 := (List.getElem?_eq_some_iff.1 h).2
  rw [← h2, List.getElem_cons_drop, List.take_append_drop]
 rw [e, List.findSome?_append, hn, List.findSome?_cons, hy]
 rfl
theorem some_take {α β : Type} {f : α → Option β} {l : List α} {k : Nat} {x : α} (hn : (l.take k).findSome? f = none) (h : l[k]? = some x) (hy : f x = none) : (l.take (k + 1)).findSome? f = none := by
 rw [List.take_add_one, h, List.findSome?_append, hn]
 simp [hy]
set_option maxHeartbeats 1600000 in
theorem rhasV_any (T : Tg) (x : Int) (q : Nat → Prop) (w : World) (hT : TgOk w q T) :
  Calls Tryz.prog 112 #[.agg #[.slice T.pR T.R.length T.cR, .slice T.pL T.L.length T.cL], .int .i64 x] w fun e w' => e = .returned (.bool (hasV T.R T.L x)) ∧ w.grownBy w' none := by
 obtain ⟨R, L, pR, cR, pL, cL⟩ := T
 have hm1 := Nat.le_trans hT.cr.1 hT.cr.2
 have hm2 := Nat.le_trans hT.cl.1 hT.cl.2
 simp only at hm1 hm2 ⊢
 obtain ⟨k1, k2⟩ := tone_box w #[.slice pR R.length cR, .slice pL L.length cL] 68
 have HB := Lib.hid (And.intro k1 (And.intro k2 (hT.keep k2)))
 clear k1 k2 hT
 obtain ⟨z, hz⟩ : ∃ z, hasV R L x = z := ⟨_, rfl⟩
 rw [hz]
 have HZ := Lib.hid hz
 clear hz
 go_enter Tryz.func112, Tryz.ntmps112
 go_upto_region 1 with fail
 generalize w.alloc _ = wa at *
 obtain ⟨c0, c1⟩ := row_cells HB.out.1
 obtain ⟨X, hX⟩ : ∃ X, chk R L = X := ⟨_, rfl⟩
 have HX := Lib.hid hX
 have HO : Hid (okT R L = (X == 0)) := Lib.hid (by unfold okT; rw [hX])
 clear hX
 by_cases hx : X = 0
 ·obtain rfl : hasR R x = z := by have := HZ.out; unfold hasV at this; rw [HO.out, hx] at this; simpa using this
  subst hx
  go_wp2_with fail
  refine (rcheck_any ⟨R, L, pR, cR, pL, cL⟩ _ wa HB.out.2.2).mono ?_
  rintro e w1 ⟨rfl, hg⟩
  simp only
  rw [HX.out]
  have HG := Lib.hid hg
  clear hg c0 c1
  obtain ⟨c0, c1⟩ := row_cells (kept_row HB.out.1 HG.out (by simp))
  go_wp2_with fail
  refine (rhas_any ⟨R, L, pR, cR, pL, cL⟩ x _ w1 (HB.out.2.2.keep HG.out)).mono ?_
  rintro e w2 ⟨rfl, hg⟩
  simp only
  have HG2 := Lib.hid (grown_trans HG.out hg)
  clear hg
  go_wp2_with fail
  go_ret
  exact ⟨rfl, grown_trans HB.out.2.1 HG2.out⟩
 ·have hx1 : (X == 0) = false := by simpa using hx
  obtain rfl : false = z := by have := HZ.out; unfold hasV at this; rw [HO.out, hx1] at this; simpa using this
  go_wp2_with fail
  refine (rcheck_any ⟨R, L, pR, cR, pL, cL⟩ _ wa HB.out.2.2).mono ?_
  rintro e w1 ⟨rfl, hg⟩
  simp only
  rw [HX.out]
  have HG := Lib.hid hg
  clear hg c0 c1
  go_wp2_with fail
  go_ret
  exact ⟨rfl, grown_trans HB.out.2.1 HG.out⟩
set_option maxHeartbeats 1600000 in
theorem rcap_any (T : Tg) (x : Int) (q : Nat → Prop) (w : World) (hT : TgOk w q T) :
  Calls Tryz.prog 90 #[.agg #[.slice T.pR T.R.length T.cR, .slice T.pL T.L.length T.cL], .int .i64 x] w fun e w' => e = .returned (.bool (capV T.R T.L x)) ∧ w.grownBy w' none := by
 obtain ⟨R, L, pR, cR, pL, cL⟩ := T
 have hm1 := Nat.le_trans hT.cr.1 hT.cr.2
 have hm2 := Nat.le_trans hT.cl.1 hT.cl.2
 simp only at hm1 hm2 ⊢
 obtain ⟨k1, k2⟩ := tone_box w #[.slice pR R.length cR, .slice pL L.length cL] 68
 have HB := Lib.hid (And.intro k1 (And.intro k2 (hT.keep k2)))
 clear k1 k2 hT
 obtain ⟨z, hz⟩ : ∃ z, capV R L x = z := ⟨_, rfl⟩
 rw [hz]
 have HZ := Lib.hid hz
 clear hz
 go_enter Tryz.func90, Tryz.ntmps90
 go_upto_region 1 with fail
 generalize w.alloc _ = wa at *
 obtain ⟨c0, c1⟩ := row_cells HB.out.1
 obtain ⟨X, hX⟩ : ∃ X, chk R L = X := ⟨_, rfl⟩
 have HX := Lib.hid hX
 have HO : Hid (okT R L = (X == 0)) := Lib.hid (by unfold okT; rw [hX])
 clear hX
 by_cases hx : X = 0
 rotate_left 1
 ·have hx1 : (X == 0) = false := by simpa using hx
  obtain rfl : false = z := by have := HZ.out; unfold capV at this; rw [HO.out, hx1] at this; simpa using this
  go_wp2_with fail
  refine (rcheck_any ⟨R, L, pR, cR, pL, cL⟩ _ wa HB.out.2.2).mono ?_
  rintro e w1 ⟨rfl, hg⟩
  simp only
  rw [HX.out]
  have HG := Lib.hid hg
  clear hg c0 c1
  go_wp2_with fail
  go_ret
  exact ⟨rfl, grown_trans HB.out.2.1 HG.out⟩
 have hcz : capR R x = z := by have := HZ.out; unfold capV at this; rw [HO.out, hx] at this; simpa using this
 have HCZ := Lib.hid hcz
 clear hcz
 subst hx
 go_wp2_with fail
 refine (rcheck_any ⟨R, L, pR, cR, pL, cL⟩ _ wa HB.out.2.2).mono ?_
 rintro e w1 ⟨rfl, hg⟩
 simp only
 rw [HX.out]
 have HG := Lib.hid hg
 clear hg c0 c1
 obtain ⟨c0, c1⟩ := row_cells (kept_row HB.out.1 HG.out (by simp))
 go_wp2_with fail
 go_loopw [5] (fun a wr => ∃ k : Nat, k ≤ R.length ∧ a = .int .i64 (k : Int) ∧ Hid ((R.take k).any (fun r => decide (r.id = x)) = false) ∧ w1 = wr) (fun a _ => R.length - (RowKit.intOf a).toNat)
 case atStart => exact ⟨0, Nat.zero_le _, rfl, Lib.hid rfl, rfl⟩
 case round =>
  obtain ⟨k, hk, rfl, HN, rfl⟩ := hrel
  by_cases hlt : k < R.length
  ·obtain ⟨-, b, off, rfl, -, hc⟩ := rdr_cells (R := R) (HB.out.2.2.keep HG.out).r (by omega)
   obtain ⟨y, hy⟩ : ∃ y, R[k]? = some y := ⟨_, List.getElem?_eq_getElem hlt⟩
   obtain ⟨a0, a1⟩ := hc k y hy
   have HY := Lib.hid hy
   have i0 : (0 : Int) ≤ (k : Int) := by omega
   have i1 : (k : Int) < (R.length : Int) := by omega
   clear hc hy
   by_cases hyx : y.id = x
   ·obtain rfl : y.cap = z := by
     rw [← HCZ.out]
     unfold capR
     rw [find_hit HN.out HY.out (decide_eq_true hyx)]
    have h' : (y.id == x) = true := by simpa using hyx
    clear hyx
    go_wp2_with fail
    go_ret
    exact ⟨rfl, grown_trans HB.out.2.1 HG.out⟩
   ·have HN2 := Lib.hid (any_take HN.out HY.out (decide_eq_false hyx))
    have h' : (y.id == x) = false := by simpa using hyx
    clear hyx
    go_wp2_with fail
    exact ⟨⟨k + 1, by omega, congrArg _ (by omega), HN2, by first | rfl | trivial⟩, by simp only [RowKit.intOf]; omega⟩
  ·obtain rfl : k = R.length := by omega
   obtain rfl : false = z := by
    rw [← HCZ.out]
    exact (capR_has (any_end HN.out (Nat.le_refl _))).symm
   go_wp2_with fail
   go_ret
   exact ⟨rfl, grown_trans HB.out.2.1 HG.out⟩
set_option maxHeartbeats 1600000 in
theorem rprice_any (T : Tg) (x y : Int) (q : Nat → Prop) (w : World) (hT : TgOk w q T) :
  Calls Tryz.prog 132 #[.agg #[.slice T.pR T.R.length T.cR, .slice T.pL T.L.length T.cL], .int .i64 x, .int .i64 y] w fun e w' => e = .returned (.tuple #[.int .i64 (priceV T.L x y).1, .bool (priceV T.L x y).2]) ∧ w.grownBy w' none := by
 obtain ⟨R, L, pR, cR, pL, cL⟩ := T
 have hm1 := Nat.le_trans hT.cr.1 hT.cr.2
 have hm2 := Nat.le_trans hT.cl.1 hT.cl.2
 simp only at hm1 hm2 ⊢
 obtain ⟨k1, k2⟩ := tone_box w #[.slice pR R.length cR, .slice pL L.length cL] 68
 have HB := Lib.hid (And.intro k1 (And.intro k2 (hT.keep k2)))
 clear k1 k2 hT
 obtain ⟨z, hz⟩ : ∃ z, priceV L x y = z := ⟨_, rfl⟩
 rw [hz]
 have HZ := Lib.hid hz
 clear hz
 go_enter Tryz.func132, Tryz.ntmps132
 go_upto_region 1 with fail
 generalize w.alloc _ = wa at *
 obtain ⟨c0, c1⟩ := row_cells HB.out.1
 go_wp2_with fail
 go_loopw [8] (fun a wr => ∃ k : Nat, k ≤ L.length ∧ a = .int .i64 (k : Int) ∧ Hid ((L.take k).findSome? (priceB x y) = none) ∧ Hid (wa.grownBy wr none)) (fun a _ => L.length - (RowKit.intOf a).toNat)
 case atStart => exact ⟨0, Nat.zero_le _, rfl, Lib.hid rfl, Lib.hid (grown_refl _ _)⟩
 case round =>
  obtain ⟨k, hk, rfl, HN, G⟩ := hrel
  clear c0 c1
  obtain ⟨c0, c1⟩ := row_cells (kept_row HB.out.1 G.out (by simp))
  by_cases hlt : k < L.length
  ·obtain ⟨-, b, off, rfl, -, hc⟩ := rdl_cells (L := L) (HB.out.2.2.keep G.out).l (by omega)
   obtain ⟨m, hm⟩ : ∃ m, L[k]? = some m := ⟨_, List.getElem?_eq_getElem hlt⟩
   obtain ⟨a0, a1, a2, a3, a4⟩ := hc k m hm
   have HM := Lib.hid hm
   have i0 : (0 : Int) ≤ (k : Int) := by omega
   have i1 : (k : Int) < (L.length : Int) := by omega
   have gal := World.grownBy_alloc wr (.cells #[.int .i64 m.a, .int .i64 m.b, .int .i64 m.ca, .int .i64 m.cb, .int .i64 m.cp] 135) none
   have HL := Lib.hid (And.intro (heap_alloc_new wr (.cells #[.int .i64 m.a, .int .i64 m.b, .int .i64 m.ca, .int .i64 m.cb, .int .i64 m.cp] 135)) (grown_trans G.out gal))
   clear hc hm gal
   go_upto_region 5 with fail
   clear a0 a1 a2 a3 a4 c0 c1
   generalize wr.alloc _ = wy at *
   obtain ⟨d0, d1, d2, d3, d4⟩ := lk_facts HL.out.1
   by_cases k1 : m.a = x ∧ m.b = y
   ·obtain rfl : (m.ca, true) = z := by
     rw [← HZ.out]; unfold priceV
     rw [some_hit HN.out HM.out (show priceB x y m = some m.ca by unfold priceB; rw [if_pos k1])]
    have e1 : (m.a == x) = true := by simpa using k1.1
    have e2 : (m.b == y) = true := by simpa using k1.2
    clear k1
    go_wp2_with fail
    go_ret2
    exact ⟨rfl, grown_trans HB.out.2.1 HL.out.2⟩
   ·by_cases k2 : m.b = x ∧ m.a = y
    ·obtain rfl : (m.cb, true) = z := by
      rw [← HZ.out]; unfold priceV
      rw [some_hit HN.out HM.out (show priceB x y m = some m.cb by unfold priceB; rw [if_neg k1, if_pos k2])]
     have e3 : (m.b == x) = true := by simpa using k2.1
     have e4 : (m.a == y) = true := by simpa using k2.2
     have e12 : ((m.a == x) && (m.b == y)) = false := by
      cases h1 : (m.a == x) <;> cases h2 : (m.b == y) <;> simp at h1 h2 ⊢
      exact k1 ⟨h1, h2⟩
     cases h1 : (m.a == x)
     ·clear k1 k2 e12
      go_wp2_with fail
      go_ret2
      exact ⟨rfl, grown_trans HB.out.2.1 HL.out.2⟩
     ·have h2 : (m.b == y) = false := by rw [h1] at e12; simpa using e12
      clear k1 k2 e12
      go_wp2_with fail
      go_ret2
      exact ⟨rfl, grown_trans HB.out.2.1 HL.out.2⟩
    ·have HN2 : Hid ((L.take (k + 1)).findSome? (priceB x y) = none) := Lib.hid (some_take HN.out HM.out (by unfold priceB; rw [if_neg k1, if_neg k2]))
     have G2 := Lib.hid HL.out.2
     have e12 : ((m.a == x) && (m.b == y)) = false := by
      cases h1 : (m.a == x) <;> cases h2 : (m.b == y) <;> simp at h1 h2 ⊢
      exact k1 ⟨h1, h2⟩
     have e34 : ((m.b == x) && (m.a == y)) = false := by
      cases h1 : (m.b == x) <;> cases h2 : (m.a == y) <;> simp at h1 h2 ⊢
      exact k2 ⟨h1, h2⟩
     clear k1 k2
     cases h1 : (m.a == x) <;> cases h3 : (m.b == x)
     ·clear e12 e34
      go_wp2_with fail
      exact ⟨⟨k + 1, by omega, congrArg _ (by omega), HN2, G2⟩, by simp only [RowKit.intOf]; omega⟩
     ·have h4 : (m.a == y) = false := by rw [h3] at e34; simpa using e34
      clear e12 e34
      go_wp2_with fail
      exact ⟨⟨k + 1, by omega, congrArg _ (by omega), HN2, G2⟩, by simp only [RowKit.intOf]; omega⟩
     ·have h2 : (m.b == y) = false := by rw [h1] at e12; simpa using e12
      clear e12 e34
      go_wp2_with fail
      exact ⟨⟨k + 1, by omega, congrArg _ (by omega), HN2, G2⟩, by simp only [RowKit.intOf]; omega⟩
     ·have h2 : (m.b == y) = false := by rw [h1] at e12; simpa using e12
      have h4 : (m.a == y) = false := by rw [h3] at e34; simpa using e34
      clear e12 e34
      go_wp2_with fail
      exact ⟨⟨k + 1, by omega, congrArg _ (by omega), HN2, G2⟩, by simp only [RowKit.intOf]; omega⟩
  ·obtain rfl : k = L.length := by omega
   obtain rfl : (0, false) = z := by
    rw [← HZ.out]; unfold priceV
    have := HN.out
    rw [List.take_length] at this
    rw [this]
   go_wp2_with fail
   go_ret2
   exact ⟨rfl, grown_trans HB.out.2.1 G.out⟩
set_option maxHeartbeats 1600000 in
theorem rnear_any (T : Tg) (x : Int) (q : Nat → Prop) (w : World) (hT : TgOk w q T) (h1 : T.R.length ≤ 1000) :
  Calls Tryz.prog 131 #[.agg #[.slice T.pR T.R.length T.cR, .slice T.pL T.L.length T.cL], .int .i64 x] w fun e w' => TRet (nearR T.R T.L x) w e w' := by
 obtain ⟨R, L, pR, cR, pL, cL⟩ := T
 have hm1 := Nat.le_trans hT.cr.1 hT.cr.2
 have hm2 := Nat.le_trans hT.cl.1 hT.cl.2
 simp only at hm1 hm2 h1 ⊢
 obtain ⟨k1, k2⟩ := tone_box w #[.slice pR R.length cR, .slice pL L.length cL] 68
 have HB := Lib.hid (And.intro k1 (And.intro k2 (hT.keep k2)))
 clear k1 k2 hT
 go_enter Tryz.func131, Tryz.ntmps131
 go_upto_region 1 with fail
 generalize w.alloc _ = wa at *
 obtain ⟨c0, c1⟩ := row_cells HB.out.1
 obtain ⟨ii, hii, hi0, hi1, hi2⟩ := info_parts info_int
 have N0 : Hid (NK wa (.slice none 0 0) (nearR (R.take 0) L x) wa) := Lib.hid ⟨World.ownsRow_nil _ _ _ _, grown_refl _ _⟩
 go_wp2_with fail
 go_loopw [5, 6] (fun v a wr => ∃ k : Nat, k ≤ R.length ∧ a = .int .i64 (k : Int) ∧ Hid (NK wa v (nearR (R.take k) L x) wr)) (fun _ a _ => R.length - (RowKit.intOf a).toNat)
 case atStart => exact ⟨0, Nat.zero_le _, rfl, N0⟩
 case round =>
 obtain ⟨k, hk, rfl, N⟩ := hrel
 clear N0 c0 c1
 have HBR := Lib.hid (kept_row HB.out.1 N.out.gr (by simp))
 have HT := Lib.hid (HB.out.2.2.keep N.out.gr)
 by_cases hlt : k < R.length
 ·obtain ⟨-, b, off, rfl, -, -⟩ := rdr_cells (R := R) HT.out.r (by omega)
  obtain ⟨m, hm⟩ : ∃ m, R[k]? = some m := ⟨_, List.getElem?_eq_getElem hlt⟩
  have HC : ∀ u, Hid (wr.grownBy u none) → u.cell? ⟨b, off + k * 2, none⟩ = some (.int .i64 m.id) ∧ u.cell? ⟨b, off + k * 2 + 1, none⟩ = some (.bool m.cap) := fun u hu => by
   obtain ⟨-, b', off', e, -, hc⟩ := rdr_cells (R := R) (HT.out.keep hu.out).r (by omega)
   injection e with e
   injection e with e4 e5
   subst e4
   subst e5
   exact hc k m hm
  have HCH := Lib.hid HC
  have i0 : (0 : Int) ≤ (k : Int) := by omega
  have i1 : (k : Int) < (R.length : Int) := by omega
  have hln : (nearR (R.take k) L x).length ≤ 1000 := by
   unfold nearR
   rw [List.length_map]
   exact Nat.le_trans (List.length_filter_le _ _) (Nat.le_trans (List.length_take_le _ _) (by omega))
  have HL0 : Hid (nearR (R.take (k + 1)) L x = nearR (R.take k) L x ++ (if (priceV L x m.id).2 then [m.id] else [])) := Lib.hid (by
   unfold nearR
   rw [filter_snoc hm, List.map_append]
   cases (priceV L x m.id).2 <;> rfl)
  obtain ⟨M, hM⟩ : ∃ M, nearR (R.take k) L x = M := ⟨_, rfl⟩
  rw [hM] at HL0 N hln
  have HL := HL0
  obtain ⟨c0, c1⟩ := row_cells HBR.out
  clear HC hm hM HL0
  go_upto_region 5 with fail
  clear c0 c1
  cases hp : (priceV L x m.id).2
  ·have HP := Lib.hid hp
   clear hp
   refine wp_region_held_drew (S := fun w' => Hid (wr.grownBy w' none)) (by kernel_rfl) (Lib.hid (grown_drew (grown_refl _ _))) (fun hHeld => ?_)
   refine zT (i := 0) (v := ?_) rfl ?_ hHeld ?_
   rotate_left 1
   ·intro u hSu
    obtain ⟨q0, q1⟩ := row_cells (kept_row HBR.out hSu.out (by simp))
    obtain ⟨q2, q3⟩ := HCH.out _ hSu
    go_simp
    first | done | with_reducible rfl
   try simp only [Act.put, zA, zB, zC]
   refine zT (i := 1) (v := ?_) rfl ?_ hHeld ?_
   rotate_left 1
   ·intro u hSu
    go_simp
    first | done | with_reducible rfl
   try simp only [Act.put, zA, zB, zC]
   refine zT (i := 2) (v := ?_) rfl ?_ hHeld ?_
   rotate_left 1
   ·intro u hSu
    go_simp
    first | done | with_reducible rfl
   try simp only [Act.put, zA, zB, zC]
   refine zT (i := 3) (v := ?_) rfl ?_ hHeld ?_
   rotate_left 1
   ·intro u hSu
    obtain ⟨q0, q1⟩ := row_cells (kept_row HBR.out hSu.out (by simp))
    obtain ⟨q2, q3⟩ := HCH.out _ hSu
    go_simp
    first | done | with_reducible rfl
   try simp only [Act.put, zA, zB, zC]
   refine zT (i := 4) (v := ?_) rfl ?_ hHeld ?_
   rotate_left 1
   ·intro u hSu
    go_simp
    first | done | with_reducible rfl
   try simp only [Act.put, zA, zB, zC]
   refine zT (i := 5) (v := ?_) rfl ?_ hHeld ?_
   rotate_left 1
   ·intro u hSu
    go_simp
    first | done | with_reducible rfl
   try simp only [Act.put, zA, zB, zC]
   refine zT (i := 6) (v := ?_) rfl ?_ hHeld ?_
   rotate_left 1
   ·intro u hSu
    go_simp
    first | done | with_reducible rfl
   try simp only [Act.put, zA, zB, zC]
   refine zT (i := 7) (v := ?_) rfl ?_ hHeld ?_
   rotate_left 1
   ·intro u hSu
    obtain ⟨q0, q1⟩ := row_cells (kept_row HBR.out hSu.out (by simp))
    obtain ⟨q2, q3⟩ := HCH.out _ hSu
    go_simp
    first | done | with_reducible rfl
   try simp only [Act.put, zA, zB, zC]
   refine wpAnyH_ready (rs := [8]) (by kernel_rfl) (by simp) ?_
   refine AllReadyH.cons (o := ⟨_, _, _, _, _, _⟩) rfl (fun Kz hK => ?_) AllReadyH.nil
   go_simp
   go_at_call 132
   refine (rprice_any ⟨R, L, some ⟨b, off, none⟩, cR, pL, cL⟩ x m.id _ _ (HT.out.keep hHeld.out)).mono ?_
   rintro e w5 ⟨rfl, hg⟩
   simp only
   rw [HP.out]
   refine hK.out _ _ (Lib.hid (grown_trans hHeld.out hg)) (fun hH2 => ?_)
   clear hK Kz hHeld
   have hHeld := hH2
   clear hH2
   try simp only [Act.put, zA, zB, zC]
   refine zT (i := 9) (v := ?_) rfl ?_ hHeld ?_
   rotate_left 1
   ·intro u hSu
    go_simp
    first | done | with_reducible rfl
   try simp only [Act.put, zA, zB, zC]
   refine zT (i := 10) (v := ?_) rfl ?_ hHeld ?_
   rotate_left 1
   ·intro u hSu
    go_simp
    first | done | with_reducible rfl
   try simp only [Act.put, zA, zB, zC]
   refine zT (i := 11) (v := ?_) rfl ?_ hHeld ?_
   rotate_left 1
   ·intro u hSu
    go_simp
    first | done | with_reducible rfl
   try simp only [Act.put, zA, zB, zC]
   refine zT (i := 12) (v := ?_) rfl ?_ hHeld ?_
   rotate_left 1
   ·intro u hSu
    go_simp
    first | done | with_reducible rfl
   try simp only [Act.put, zA, zB, zC]
   refine zT (i := 13) (v := ?_) rfl ?_ hHeld ?_
   rotate_left 1
   ·intro u hSu
    go_simp
    first | done | with_reducible rfl
   try simp only [Act.put, zA, zB, zC]
   refine wpAnyH_done (by kernel_rfl) ?_ _
   have H9 := Lib.hid (N.out.keep hHeld.out)
   clear hHeld
   have HN2 : Hid (NK wa _ (nearR (R.take (k + 1)) L x) w5) := Lib.hid (by rw [HL.out, HP.out]; show NK wa _ (M ++ []) w5; rw [List.append_nil]; exact H9.out)
   go_wp2_with fail
   exact ⟨⟨k + 1, by omega, congrArg _ (by omega), HN2⟩, by simp only [RowKit.intOf]; omega⟩
  ·have HP := Lib.hid hp
   clear hp
   refine wp_region_held_drew (S := fun w' => Hid (wr.grownBy w' none)) (by kernel_rfl) (Lib.hid (grown_drew (grown_refl _ _))) (fun hHeld => ?_)
   refine zT (i := 0) (v := ?_) rfl ?_ hHeld ?_
   rotate_left 1
   ·intro u hSu
    obtain ⟨q0, q1⟩ := row_cells (kept_row HBR.out hSu.out (by simp))
    obtain ⟨q2, q3⟩ := HCH.out _ hSu
    go_simp
    first | done | with_reducible rfl
   try simp only [Act.put, zA, zB, zC]
   refine zT (i := 1) (v := ?_) rfl ?_ hHeld ?_
   rotate_left 1
   ·intro u hSu
    go_simp
    first | done | with_reducible rfl
   try simp only [Act.put, zA, zB, zC]
   refine zT (i := 2) (v := ?_) rfl ?_ hHeld ?_
   rotate_left 1
   ·intro u hSu
    go_simp
    first | done | with_reducible rfl
   try simp only [Act.put, zA, zB, zC]
   refine zT (i := 3) (v := ?_) rfl ?_ hHeld ?_
   rotate_left 1
   ·intro u hSu
    obtain ⟨q0, q1⟩ := row_cells (kept_row HBR.out hSu.out (by simp))
    obtain ⟨q2, q3⟩ := HCH.out _ hSu
    go_simp
    first | done | with_reducible rfl
   try simp only [Act.put, zA, zB, zC]
   refine zT (i := 4) (v := ?_) rfl ?_ hHeld ?_
   rotate_left 1
   ·intro u hSu
    go_simp
    first | done | with_reducible rfl
   try simp only [Act.put, zA, zB, zC]
   refine zT (i := 5) (v := ?_) rfl ?_ hHeld ?_
   rotate_left 1
   ·intro u hSu
    go_simp
    first | done | with_reducible rfl
   try simp only [Act.put, zA, zB, zC]
   refine zT (i := 6) (v := ?_) rfl ?_ hHeld ?_
   rotate_left 1
   ·intro u hSu
    go_simp
    first | done | with_reducible rfl
   try simp only [Act.put, zA, zB, zC]
   refine zT (i := 7) (v := ?_) rfl ?_ hHeld ?_
   rotate_left 1
   ·intro u hSu
    obtain ⟨q0, q1⟩ := row_cells (kept_row HBR.out hSu.out (by simp))
    obtain ⟨q2, q3⟩ := HCH.out _ hSu
    go_simp
    first | done | with_reducible rfl
   try simp only [Act.put, zA, zB, zC]
   refine wpAnyH_ready (rs := [8]) (by kernel_rfl) (by simp) ?_
   refine AllReadyH.cons (o := ⟨_, _, _, _, _, _⟩) rfl (fun Kz hK => ?_) AllReadyH.nil
   go_simp
   go_at_call 132
   refine (rprice_any ⟨R, L, some ⟨b, off, none⟩, cR, pL, cL⟩ x m.id _ _ (HT.out.keep hHeld.out)).mono ?_
   rintro e w5 ⟨rfl, hg⟩
   simp only
   rw [HP.out]
   refine hK.out _ _ (Lib.hid (grown_trans hHeld.out hg)) (fun hH2 => ?_)
   clear hK Kz hHeld
   have hHeld := hH2
   clear hH2
   try simp only [Act.put, zA, zB, zC]
   refine zT (i := 9) (v := ?_) rfl ?_ hHeld ?_
   rotate_left 1
   ·intro u hSu
    go_simp
    first | done | with_reducible rfl
   try simp only [Act.put, zA, zB, zC]
   refine zT (i := 10) (v := ?_) rfl ?_ hHeld ?_
   rotate_left 1
   ·intro u hSu
    go_simp
    first | done | with_reducible rfl
   try simp only [Act.put, zA, zB, zC]
   refine zT (i := 11) (v := ?_) rfl ?_ hHeld ?_
   rotate_left 1
   ·intro u hSu
    go_simp
    first | done | with_reducible rfl
   try simp only [Act.put, zA, zB, zC]
   refine zT (i := 12) (v := ?_) rfl ?_ hHeld ?_
   rotate_left 1
   ·intro u hSu
    go_simp
    first | done | with_reducible rfl
   try simp only [Act.put, zA, zB, zC]
   refine zT (i := 13) (v := ?_) rfl ?_ hHeld ?_
   rotate_left 1
   ·intro u hSu
    go_simp
    first | done | with_reducible rfl
   try simp only [Act.put, zA, zB, zC]
   refine wpAnyH_done (by kernel_rfl) ?_ _
   have H9 := Lib.hid (N.out.keep hHeld.out)
   obtain ⟨c2, c3⟩ := row_cells (kept_row HBR.out hHeld.out (by simp))
   obtain ⟨a2, a3⟩ := HCH.out _ hHeld
   have hsz := H9.out.gr.size
   have hown := H9.out.own
   clear hHeld
   go_wp2_with (at_builtin; refine hold_on ?_)
   refine Lib.hid ?_
   refine wpList_append_own _ rfl _ _ 22 rfl wa.heap.size 3 ii (.int .i64 0) 1 8 Tryz.underlying22 hii hi0 hi1 hi2 rfl (by decide) _ _ _ rfl (hown.alloc _) ⟨w5.heap.size, 0, none⟩ 1 1 [.int .i64 m.id] rfl rfl (cell_one _ _ _) (by intro u hu; simp at hu; subst hu; rfl) (by unfold maxLen; omega) (by omega) (by simp; omega) ?_
   intro v' w6 hown' hg _
   have hn := (H9.out.more (grown_refl _ none) hown' hg).1
   have HN2 : Hid (NK wa v' (nearR (R.take (k + 1)) L x) w6) := Lib.hid (by rw [HL.out, HP.out]; exact hn)
   clear hown' hg hn hown H9 c2 c3 a2 a3
   go_wp2_with fail
   exact ⟨⟨k + 1, by omega, congrArg _ (by omega), HN2⟩, by simp only [RowKit.intOf]; omega⟩
 ·obtain rfl : k = R.length := by omega
  rw [List.take_length] at N
  obtain ⟨p, c, rfl, hR, hlen, hp, hg⟩ := N.out.ret
  have HR := Lib.hid (And.intro hR (And.intro hlen (And.intro hp hg)))
  obtain ⟨c0, c1⟩ := row_cells HBR.out
  clear hR hlen hp hg N
  go_wp2_with fail
  go_ret
  exact ⟨p, c, rfl, HR.out.1.mono (fun b hb => Nat.le_trans HB.out.2.1.size hb), HR.out.2.1, HR.out.2.2.1, grown_trans HB.out.2.1 HR.out.2.2.2⟩
end Go.Proofs.YtpogblengagpaaaGreatDoor

/- empty -/
namespace Go.Proofs.YtpogblengagpaaaGreatDoor
set_option maxRecDepth 100000
end Go.Proofs.YtpogblengagpaaaGreatDoor

/- empty -/
namespace Go.Proofs.YtpogblengagpaaaGreatDoor
set_option maxRecDepth 100000
end Go.Proofs.YtpogblengagpaaaGreatDoor

/- The law ShortestTriangles: its mathematics; the tape's Any. -/
namespace Go.Proofs.YtpogblengagpaaaGreatDoor
set_option maxRecDepth 100000
open Go.RowKit Go.Maps Bs
theorem Wk.trans {L : List Lk} {a b c m n : Int} (h : Wk L a b m) (k : Wk L b c n) : Wk L a c (m + n) :=
 Wk.ind (Q := fun x n => Wk L a x (m + n)) (by rw [Int.add_zero]; exact h) (fun u x v d _ hq he => by rw [← Int.add_assoc]; exact hq.step he) k
end Go.Proofs.YtpogblengagpaaaGreatDoor

/- The reference's tables of costs and of numbers: the mathematics. -/
namespace Go.Proofs.YtpogblengagpaaaGreatDoor
set_option maxRecDepth 100000
open Go.RowKit Bs
def toK (L : List Lk) (z : Int) (k : Nat) : Int → Int := passes (flipL L) k (startF z)
def toJ (L : List Lk) (z : Int) (k j : Nat) : Int → Int := ((flipL L).take j).foldl rlx (toK L z k)
theorem toJ_end (L : List Lk) (z : Int) (k : Nat) : toJ L z k L.length = toK L z (k + 1) := by
  unfold toJ
  rw [List.take_of_length_le (by unfold flipL; rw [List.length_map]; exact Nat.le_refl _)]
  rfl
theorem toJ_step {L : List Lk} {z : Int} {k j : Nat} {l : Lk} (h : L[j]? = some l) : toJ L z k (j + 1) = rlx1 (rlx1 (toJ L z k j) l.b l.a l.ca) l.a l.b l.cb := by
  unfold toJ
  have h1 : (flipL L)[j]? = some ⟨l.a, l.b, l.cb, l.ca, l.cp⟩ := by
    unfold flipL
    rw [List.getElem?_map, h]
    rfl
  rw [List.take_add_one, h1, List.foldl_append]
  rfl
theorem snd_toJ (L : List Lk) (z : Int) (k j : Nat) : Snd (flipL L) z (toJ L z k j) :=
  (fold_rlx ((flipL L).take j) (toK L z k) (fun _ h => List.mem_of_mem_take h) (snd_passes (flipL L) z k)).1
theorem Snd.bd {L : List Lk} (hp : Pos L) {z : Int} {D : Int → Int} (h : Snd L z D) (v : Int) : 0 ≤ D v ∧ D v ≤ farN := by
  rcases h v with h1 | h1
  · rw [h1]; decide
  · exact ⟨h1.2.ge hp, by omega⟩
theorem toJ_bd {R : List Rt} {L : List Lk} (h : okT R L = true) (z : Int) (k j : Nat) (v : Int) : 0 ≤ toJ L z k j v ∧ toJ L z k j v ≤ farN := (snd_toJ L z k j).bd (okT_g h).pos.flip v
def clV (V : List Int) (D : Int → Int) : List Value := V.map fun v => tv (D v)
theorem clV_at {V : List Int} {D : Int → Int} {i : Nat} {v : Int} (h : V[i]? = some v) : (clV V D)[i]? = some (tv (D v)) := by
  unfold clV
  rw [List.getElem?_map, h]
  rfl
theorem clV_len (V : List Int) (D : Int → Int) : (clV V D).length = V.length := by unfold clV; rw [List.length_map]
theorem nodup_idx : ∀ (V : List Int), V.Nodup → ∀ (i j : Nat) (hi : i < V.length) (hj : j < V.length), V[i] = V[j] → i = j
  | [], _, _, _, hi, _, _ => absurd hi (Nat.not_lt_zero _)
  | a :: t, hn, i, j, hi, hj, e => by
    obtain ⟨h1, h2⟩ := List.nodup_cons.1 hn
    cases i with
    | zero =>
      cases j with
      | zero => rfl
      | succ j =>
        rw [List.getElem_cons_zero, List.getElem_cons_succ] at e
        exact absurd (by rw [e]; exact List.getElem_mem _) h1
    | succ i =>
      cases j with
      | zero =>
        rw [List.getElem_cons_zero, List.getElem_cons_succ] at e
        exact absurd (by rw [← e]; exact List.getElem_mem _) h1
      | succ j =>
        rw [List.getElem_cons_succ, List.getElem_cons_succ] at e
        rw [nodup_idx t h2 i j (by simpa using hi) (by simpa using hj) e]
theorem nodup_at {V : List Int} (hn : V.Nodup) {i j : Nat} {v : Int} (hi : V[i]? = some v) (hj : V[j]? = some v) : i = j := by
  obtain ⟨h1, e1⟩ := List.getElem?_eq_some_iff.1 hi
  obtain ⟨h2, e2⟩ := List.getElem?_eq_some_iff.1 hj
  exact nodup_idx V hn i j h1 h2 (e1.trans e2.symm)
theorem clV_set {V : List Int} (hn : V.Nodup) {i : Nat} {v : Int} (h : V[i]? = some v) (D : Int → Int) (x : Int) : (clV V D).set i (tv x) = clV V (updF D v x) := by
  apply List.ext_getElem?
  intro j
  rw [List.getElem?_set]
  by_cases hij : i = j
  · subst hij
    rw [if_pos rfl, clV_at h]
    have h1 : i < (clV V D).length := by rw [clV_len]; exact (List.getElem?_eq_some_iff.1 h).1
    rw [if_pos h1]
    unfold updF
    rw [if_pos rfl]
  · rw [if_neg hij]
    unfold clV
    rw [List.getElem?_map, List.getElem?_map]
    cases hj : V[j]? with
    | none => rfl
    | some u =>
      have hne : u ≠ v := fun e => hij (nodup_at hn h (by rw [hj, e]))
      show some (tv (D u)) = some (tv (updF D v x u))
      rw [show updF D v x u = D u by unfold updF; rw [if_neg hne]]
def atV (R : List Rt) (D : Int → Int) (r : Int) : Int := if r ∈ ids R then D r else farN
def okS (R : List Rt) (L : List Lk) (D : Int → Int) (x r u : Int) : Bool := decide (atV R D u < farN) && decide ((priceV L r u).1 + atV R D u = x)
def stV (R : List Rt) (L : List Lk) (D : Int → Int) (r : Int) : List Int := if atV R D r = farN ∨ atV R D r = 0 then [] else (nearR R L r).filter (okS R L D (atV R D r) r)
end Go.Proofs.YtpogblengagpaaaGreatDoor

/- The reference's place and At; a row of costs of the call's own. -/
namespace Go.Proofs.YtpogblengagpaaaGreatDoor
set_option maxRecDepth 100000
open Go.RowKit Bs
theorem ids_len (R : List Rt) : (ids R).length = R.length := by unfold ids; rw [List.length_map]
theorem ids_at {R : List Rt} {k : Nat} {y : Rt} (h : R[k]? = some y) : (ids R)[k]? = some y.id := by unfold ids; rw [List.getElem?_map, h]; rfl
theorem ids_nodup {R : List Rt} {L : List Lk} (h : okT R L = true) : (ids R).Nodup := nodup_of_lt (ids_pair h)
set_option maxHeartbeats 1600000 in
theorem rplace_any (T : Tg) (x : Int) (i : Nat) (q : Nat → Prop) (w : World) (hT : TgOk w q T) (hi : (ids T.R)[i]? = some x) (hn : (ids T.R).Nodup) :
  Calls Tryz.prog 129 #[.agg #[.slice T.pR T.R.length T.cR, .slice T.pL T.L.length T.cL], .int .i64 x] w fun e w' => e = .returned (.int .i64 (i : Int)) ∧ w.grownBy w' none := by
 have C0 := Lib.hid (CK.start hT)
 have hmR := Nat.le_trans hT.cr.1 hT.cr.2
 clear hT
 obtain ⟨R, L, pR, cR, pL, cL⟩ := T
 simp only at hmR C0 hi hn ⊢
 have HI := Lib.hid (And.intro hi hn)
 have hil : i < R.length := by have := (List.getElem?_eq_some_iff.1 hi).1; rwa [ids_len] at this
 clear hi hn
 go_enter Tryz.func129, Tryz.ntmps129
 go_upto_region 1 with fail
 generalize w.alloc _ = wa at *
 go_wp2_with fail
 go_loopw [5] (fun a wr => ∃ k : Nat, k ≤ i ∧ a = .int .i64 (k : Int) ∧ Hid (CK w ⟨R, L, pR, cR, pL, cL⟩ wr)) (fun a _ => R.length - (RowKit.intOf a).toNat)
 case atStart => exact ⟨0, Nat.zero_le _, rfl, C0⟩
 case round =>
  obtain ⟨k, hk, rfl, C⟩ := hrel
  clear C0
  obtain ⟨c0, c1⟩ := row_cells C.out.box
  have hlt : k < R.length := by omega
  obtain ⟨b, off, hp⟩ := ck_pr C.out (show 0 < R.length by omega)
  change pR = _ at hp
  subst hp
  obtain ⟨y, hy⟩ : ∃ y, R[k]? = some y := ⟨_, List.getElem?_eq_getElem hlt⟩
  obtain ⟨a0, a1⟩ := ck_rt C.out hy
  have hyi := ids_at hy
  by_cases e : k = i
  ·subst e
   have e1 : y.id = x := by have := HI.out.1; rw [hyi] at this; exact Option.some.inj this
   have e' : (y.id == x) = true := by simpa using e1
   clear hy hyi e1
   go_wp2_with fail
   go_ret
   exact ⟨rfl, C.out.gr⟩
  ·have e' : (y.id == x) = false := by
    rw [beq_eq_false_iff_ne]
    intro e1
    exact e (nodup_at HI.out.2 (by rw [hyi, e1]) HI.out.1)
   clear hy hyi
   go_wp2_with fail
   exact ⟨⟨k + 1, by omega, congrArg _ (by omega), C⟩, by simp only [RowKit.intOf]; omega⟩
set_option maxHeartbeats 1600000 in
theorem rat_any (T : Tg) (D : Int → Int) (x : Int) (A : List Int) (pd : Option Addr) (cd : Nat) (q q2 : Nat → Prop) (w : World) (hT : TgOk w q T) (hA : A = (ids T.R).map D) (hD : Rd w q2 (.slice pd A.length cd) (A.map tv)) :
  Calls Tryz.prog 130 #[.agg #[.slice T.pR T.R.length T.cR, .slice T.pL T.L.length T.cL], .slice pd A.length cd, .int .i64 x] w fun e w' => e = .returned (.int .i64 (atV T.R D x)) ∧ w.grownBy w' none := by
 have C0 := Lib.hid (CK.start hT)
 have HD := Lib.hid hD
 have hmR := Nat.le_trans hT.cr.1 hT.cr.2
 clear hT hD
 obtain ⟨R, L, pR, cR, pL, cL⟩ := T
 simp only at hmR C0 hA ⊢
 have hAl : A.length = R.length := by rw [hA, List.length_map, ids_len]
 have HA := Lib.hid hA
 clear hA
 go_enter Tryz.func130, Tryz.ntmps130
 go_upto_region 1 with fail
 generalize w.alloc _ = wa at *
 go_wp2_with fail
 go_loopw [7] (fun a wr => ∃ k : Nat, k ≤ R.length ∧ a = .int .i64 (k : Int) ∧ Hid (CK w ⟨R, L, pR, cR, pL, cL⟩ wr) ∧ Hid ((R.take k).any (fun r => decide (r.id = x)) = false)) (fun a _ => R.length - (RowKit.intOf a).toNat)
 case atStart => exact ⟨0, Nat.zero_le _, rfl, C0, Lib.hid rfl⟩
 case round =>
  obtain ⟨k, hk, rfl, C, HN⟩ := hrel
  clear C0
  obtain ⟨c0, c1⟩ := row_cells C.out.box
  by_cases hlt : k < R.length
  ·obtain ⟨b, off, hp⟩ := ck_pr C.out (show 0 < R.length by omega)
   change pR = _ at hp
   subst hp
   obtain ⟨y, hy⟩ : ∃ y, R[k]? = some y := ⟨_, List.getElem?_eq_getElem hlt⟩
   obtain ⟨a0, a1⟩ := ck_rt C.out hy
   have HY := Lib.hid hy
   clear hy
   by_cases e : y.id = x
   ·have e' : (y.id == x) = true := by simpa using e
    have HE := Lib.hid e
    obtain ⟨-, bd, od, rfl, -, hc⟩ := rdi_at (HD.out.keep C.out.gr) (by omega)
    have d0 := hc k (D y.id) (by rw [HA.out, List.getElem?_map, ids_at HY.out]; rfl)
    clear e hc
    go_wp2_with fail
    go_ret
    refine ⟨?_, C.out.gr⟩
    have h1 : x ∈ ids R := ids_has.2 (any_at HY.out (decide_eq_true HE.out))
    unfold atV
    rw [if_pos h1, ← HE.out]
    rfl
   ·have e' : (y.id == x) = false := by simpa using e
    have HE := Lib.hid e
    clear e
    go_wp2_with fail
    exact ⟨⟨k + 1, by omega, congrArg _ (by omega), C, Lib.hid (any_take HN.out HY.out (decide_eq_false HE.out))⟩, by simp only [RowKit.intOf]; omega⟩
  ·obtain rfl : k = R.length := by omega
   go_wp2_with fail
   go_ret
   have h1 : hasR R x = false := any_end HN.out (Nat.le_refl _)
   unfold atV
   rw [if_neg (fun h => by rw [ids_has.1 h] at h1; cases h1)]
   exact ⟨rfl, C.out.gr⟩
theorem made_int (N : Nat) : madeCells #[Value.int .i64 0] N = (List.replicate N (tv 0)).toArray := by
 unfold madeCells
 apply Array.ext'
 rw [Array.toList_map, Array.toList_range]
 apply List.ext_getElem?
 intro i
 rw [List.getElem?_map, List.getElem?_replicate]
 by_cases h : i < N
 ·rw [List.getElem?_range h, if_pos h]
  simp [tv, Nat.mod_one]
 ·rw [List.getElem?_eq_none (by simpa using h), if_neg h]; rfl
theorem clV_zero (V : List Int) : clV V (fun _ => 0) = List.replicate V.length (tv 0) := by
 unfold clV
 rw [List.map_const']
theorem wpList_make_ints (w : World) {ops : Array Oper} {rest : List Oper} {o : Oper} {a : Act} {Q : Exit → Act → World → Prop} (hg : o.guard = none) (l c : Operand) (hop : o.op = Op.makeSlice 22 l c) (M : Nat)
  (hl : a.eval l = .int .i64 (M : Int)) (hc : a.eval c = .int .i64 (M : Int)) (hM : M ≤ 100000)
  (hK : TRow (w.alloc (.cells (Array.replicate M (tv 0)) 3)) w.heap.size 3 (List.replicate M (tv 0)) → w.grownBy (w.alloc (.cells (Array.replicate M (tv 0)) 3)) none → wpList Tryz.prog ops Q rest (a.put o.dst (.slice (some ⟨w.heap.size, 0, none⟩) M M)) (w.alloc (.cells (Array.replicate M (tv 0)) 3))) : wpList Tryz.prog ops Q (o :: rest) a w := by
 obtain ⟨i0, hi, hz0, hz1, hz2⟩ := info_parts info_int
 refine wpList_make_row w hg l c 22 hop 3 i0 (.int .i64 0) Tryz.underlying22 hi hz0 hz1 rfl .i64 .i64 M hl hc (by rw [hz2]; omega) (by omega) ?_
 rw [made_int, List.toArray_replicate]
 refine hK ?_ (World.grownBy_alloc w _ _)
 unfold TRow
 rw [List.toArray_replicate]
 exact heap_alloc_new w _
structure TM (w : World) (T : Tg) (G gd : Nat) (D : Int → Int) (wr : World) : Prop where
 gb : wr.heap[G]? = some (.cells #[.slice T.pR T.R.length T.cR, .slice T.pL T.L.length T.cL] 68 (0, 0))
 t : TgOk wr (· < gd) T
 d : TRow wr gd 3 (clV (ids T.R) D)
 gr : w.grownBy wr none
 lt : G < gd ∧ w.heap.size ≤ G
theorem TM.keep {w wr w' : World} {T : Tg} {G gd : Nat} {D : Int → Int} (h : TM w T G gd D wr) (g : wr.grownBy w' none) : TM w T G gd D w' :=
 ⟨kept_row h.gb g (by simp), h.t.keep g, h.d.kept g (by simp), grown_trans h.gr g, h.lt⟩
theorem TM.put {w wr : World} {T : Tg} {G gd : Nat} {D : Int → Int} (h : TM w T G gd D wr) (hn : (ids T.R).Nodup) {i : Nat} {v : Int} (hi : (ids T.R)[i]? = some v) (x : Int) : TM w T G gd (updF D v x) (wr.setCell ⟨gd, i, none⟩ (tv x)) := by
 have g := grown_setCell wr ⟨gd, i, none⟩ (tv x)
 have hlt := h.lt
 refine ⟨kept_row h.gb g (fun e => by have := Option.some.inj e; simp only at this; omega), h.t.grown g (fun b hb e => by have := Option.some.inj e; simp only at this; omega), ?_, grown_new h.gr g (by show w.heap.size ≤ gd; omega), hlt⟩
 have := h.d.set i (tv x)
 rwa [clV_set hn hi] at this
def iniF (V : List Int) (z : Int) (i : Nat) : Int → Int := fun u => if u ∈ V.take i then startF z u else 0
theorem iniF_step {V : List Int} {z v : Int} {i : Nat} (h : V[i]? = some v) : updF (iniF V z i) v (startF z v) = iniF V z (i + 1) := by
 funext u
 unfold updF iniF
 rw [List.take_add_one, h]
 by_cases hu : u = v
 ·rw [if_pos hu, hu, if_pos (by simp)]
 ·rw [if_neg hu]
  by_cases hm : u ∈ V.take i
  ·rw [if_pos hm, if_pos (by simp [hm])]
  ·rw [if_neg hm, if_neg (by simp [hm, hu])]
theorem clV_congr {V : List Int} {D E : Int → Int} (h : ∀ v ∈ V, D v = E v) : clV V D = clV V E := by
 unfold clV
 exact List.map_congr_left (fun v hv => by rw [h v hv])
theorem iniF_end (V : List Int) (z : Int) : clV V (iniF V z V.length) = clV V (startF z) :=
 clV_congr (fun v hv => by unfold iniF; rw [List.take_length, if_pos hv])
theorem updF_twice (D : Int → Int) (v x y : Int) : updF (updF D v x) v y = updF D v y := by
 funext u
 unfold updF
 by_cases h : u = v
 ·rw [if_pos h, if_pos h]
 ·rw [if_neg h, if_neg h, if_neg h]
end Go.Proofs.YtpogblengagpaaaGreatDoor
