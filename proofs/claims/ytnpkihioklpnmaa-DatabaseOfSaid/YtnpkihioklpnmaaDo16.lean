/- Parts of the proof, packed: ToLookR, ToHasF. -/
import Derived.Test.YtnpkihioklpnmaaDo13
import Derived.Test.YtnpkihioklpnmaaDo5
import Derived.BigQuiet
/- The reference's Has, Capable, Price, Cost, Near, Neighbours. -/
namespace Go.Proofs.Ytnpkihioklpnmaa
open Go.RowKit Bs
set_option maxRecDepth 100000 in
theorem find_hit {α : Type} {p : α → Bool} : ∀ {l : List α} {k : Nat} {x : α}, (l.take k).any p = false → l[k]? = some x → p x = true → l.find? p = some x
  | [], k, x, _, h, _ => by cases h
  | a :: t, 0, x, _, h, hp => by
    obtain rfl : a = x := by simpa using h
    rw [List.find?_cons, hp]
  | a :: t, k + 1, x, hn, h, hp => by
    rw [List.take_succ_cons, List.any_cons, Bool.or_eq_false_iff] at hn
    rw [List.find?_cons, hn.1]
    exact find_hit hn.2 (by simpa using h) hp
set_option maxRecDepth 100000 in
theorem some_hit {α β : Type} {f : α → Option β} {l : List α} {k : Nat} {x : α} {y : β} (hn : (l.take k).findSome? f = none) (h : l[k]? = some x) (hy : f x = some y) : l.findSome? f = some y := by
  have hlt := (List.getElem?_eq_some_iff.1 h).1
  have e : l = l.take k ++ (x :: l.drop (k + 1)) := by
    have h2 := (List.getElem?_eq_some_iff.1 h).2
    rw [← h2, List.getElem_cons_drop, List.take_append_drop]
  rw [e, List.findSome?_append, hn, List.findSome?_cons, hy]
  rfl
set_option maxRecDepth 100000 in
theorem some_take {α β : Type} {f : α → Option β} {l : List α} {k : Nat} {x : α} (hn : (l.take k).findSome? f = none) (h : l[k]? = some x) (hy : f x = none) : (l.take (k + 1)).findSome? f = none := by
  rw [List.take_add_one, h, List.findSome?_append, hn]
  simp [hy]
set_option maxRecDepth 100000 in
set_option maxHeartbeats 1600000 in
theorem rhasV_any (T : Tg) (x : Int) (q : Nat → Prop) (w : World) (hT : TgOk w q T) :
    Calls Try.prog 37 #[.agg #[.slice T.pR T.R.length T.cR, .slice T.pL T.L.length T.cL], .int .i64 x] w fun e w' => e = .returned (.bool (hasV T.R T.L x)) ∧ w.grownBy w' none := by
  obtain ⟨R, L, pR, cR, pL, cL⟩ := T
  have hm1 := Nat.le_trans hT.cr.1 hT.cr.2
  have hm2 := Nat.le_trans hT.cl.1 hT.cl.2
  simp only at hm1 hm2 ⊢
  obtain ⟨k1, k2⟩ := tone_box w #[.slice pR R.length cR, .slice pL L.length cL] 59
  have HB := Lib.hid (And.intro k1 (And.intro k2 (hT.keep k2)))
  clear k1 k2 hT
  obtain ⟨z, hz⟩ : ∃ z, hasV R L x = z := ⟨_, rfl⟩
  rw [hz]
  have HZ := Lib.hid hz
  clear hz
  go_enter Try.func37, Try.ntmps37
  go_upto_region 1 with fail
  generalize w.alloc _ = wa at *
  obtain ⟨c0, c1⟩ := row_cells HB.out.1
  obtain ⟨X, hX⟩ : ∃ X, chk R L = X := ⟨_, rfl⟩
  have HX := Lib.hid hX
  have HO : Hid (okT R L = (X == 0)) := Lib.hid (by unfold okT; rw [hX])
  clear hX
  by_cases hx : X = 0
  · obtain rfl : hasR R x = z := by have := HZ.out; unfold hasV at this; rw [HO.out, hx] at this; simpa using this
    subst hx
    go_wp2_with fail
    refine (rcheck_any ⟨R, L, pR, cR, pL, cL⟩ _ wa HB.out.2.2).mono ?_
    rintro e w1 ⟨rfl, hg⟩
    simp only
    rw [HX.out]
    have HG := Lib.hid hg
    clear hg c0 c1
    obtain ⟨c0, c1⟩ := row_cells (kept_row HB.out.1 HG.out (by simp))
    go_wp2_with fail
    refine (rhas_any ⟨R, L, pR, cR, pL, cL⟩ x _ w1 (HB.out.2.2.keep HG.out)).mono ?_
    rintro e w2 ⟨rfl, hg⟩
    simp only
    have HG2 := Lib.hid (grown_trans HG.out hg)
    clear hg
    go_wp2_with fail
    go_ret
    exact ⟨rfl, grown_trans HB.out.2.1 HG2.out⟩
  · have hx1 : (X == 0) = false := by simpa using hx
    obtain rfl : false = z := by have := HZ.out; unfold hasV at this; rw [HO.out, hx1] at this; simpa using this
    go_wp2_with fail
    refine (rcheck_any ⟨R, L, pR, cR, pL, cL⟩ _ wa HB.out.2.2).mono ?_
    rintro e w1 ⟨rfl, hg⟩
    simp only
    rw [HX.out]
    have HG := Lib.hid hg
    clear hg c0 c1
    go_wp2_with fail
    go_ret
    exact ⟨rfl, grown_trans HB.out.2.1 HG.out⟩
set_option maxRecDepth 100000 in
set_option maxHeartbeats 1600000 in
theorem rcap_any (T : Tg) (x : Int) (q : Nat → Prop) (w : World) (hT : TgOk w q T) :
    Calls Try.prog 73 #[.agg #[.slice T.pR T.R.length T.cR, .slice T.pL T.L.length T.cL], .int .i64 x] w fun e w' => e = .returned (.bool (capV T.R T.L x)) ∧ w.grownBy w' none := by
  obtain ⟨R, L, pR, cR, pL, cL⟩ := T
  have hm1 := Nat.le_trans hT.cr.1 hT.cr.2
  have hm2 := Nat.le_trans hT.cl.1 hT.cl.2
  simp only at hm1 hm2 ⊢
  obtain ⟨k1, k2⟩ := tone_box w #[.slice pR R.length cR, .slice pL L.length cL] 59
  have HB := Lib.hid (And.intro k1 (And.intro k2 (hT.keep k2)))
  clear k1 k2 hT
  obtain ⟨z, hz⟩ : ∃ z, capV R L x = z := ⟨_, rfl⟩
  rw [hz]
  have HZ := Lib.hid hz
  clear hz
  go_enter Try.func73, Try.ntmps73
  go_upto_region 1 with fail
  generalize w.alloc _ = wa at *
  obtain ⟨c0, c1⟩ := row_cells HB.out.1
  obtain ⟨X, hX⟩ : ∃ X, chk R L = X := ⟨_, rfl⟩
  have HX := Lib.hid hX
  have HO : Hid (okT R L = (X == 0)) := Lib.hid (by unfold okT; rw [hX])
  clear hX
  by_cases hx : X = 0
  rotate_left 1
  · have hx1 : (X == 0) = false := by simpa using hx
    obtain rfl : false = z := by have := HZ.out; unfold capV at this; rw [HO.out, hx1] at this; simpa using this
    go_wp2_with fail
    refine (rcheck_any ⟨R, L, pR, cR, pL, cL⟩ _ wa HB.out.2.2).mono ?_
    rintro e w1 ⟨rfl, hg⟩
    simp only
    rw [HX.out]
    have HG := Lib.hid hg
    clear hg c0 c1
    go_wp2_with fail
    go_ret
    exact ⟨rfl, grown_trans HB.out.2.1 HG.out⟩
  have hcz : capR R x = z := by have := HZ.out; unfold capV at this; rw [HO.out, hx] at this; simpa using this
  have HCZ := Lib.hid hcz
  clear hcz
  subst hx
  go_wp2_with fail
  refine (rcheck_any ⟨R, L, pR, cR, pL, cL⟩ _ wa HB.out.2.2).mono ?_
  rintro e w1 ⟨rfl, hg⟩
  simp only
  rw [HX.out]
  have HG := Lib.hid hg
  clear hg c0 c1
  obtain ⟨c0, c1⟩ := row_cells (kept_row HB.out.1 HG.out (by simp))
  go_wp2_with fail
  go_loopw [5] (fun a wr => ∃ k : Nat, k ≤ R.length ∧ a = .int .i64 (k : Int) ∧ Hid ((R.take k).any (fun r => decide (r.id = x)) = false) ∧ w1 = wr) (fun a _ => R.length - (RowKit.intOf a).toNat)
  case atStart => exact ⟨0, Nat.zero_le _, rfl, Lib.hid rfl, rfl⟩
  case round =>
    obtain ⟨k, hk, rfl, HN, rfl⟩ := hrel
    by_cases hlt : k < R.length
    · obtain ⟨-, b, off, rfl, -, hc⟩ := rdr_cells (R := R) (HB.out.2.2.keep HG.out).r (by omega)
      obtain ⟨y, hy⟩ : ∃ y, R[k]? = some y := ⟨_, List.getElem?_eq_getElem hlt⟩
      obtain ⟨a0, a1⟩ := hc k y hy
      have HY := Lib.hid hy
      have i0 : (0 : Int) ≤ (k : Int) := by omega
      have i1 : (k : Int) < (R.length : Int) := by omega
      clear hc hy
      by_cases hyx : y.id = x
      · obtain rfl : y.cap = z := by
          rw [← HCZ.out]
          unfold capR
          rw [find_hit HN.out HY.out (decide_eq_true hyx)]
        have h' : (y.id == x) = true := by simpa using hyx
        clear hyx
        go_wp2_with fail
        go_ret
        exact ⟨rfl, grown_trans HB.out.2.1 HG.out⟩
      · have HN2 := Lib.hid (any_take HN.out HY.out (decide_eq_false hyx))
        have h' : (y.id == x) = false := by simpa using hyx
        clear hyx
        go_wp2_with fail
        exact ⟨⟨k + 1, by omega, congrArg _ (by omega), HN2, by first | rfl | trivial⟩, by simp only [RowKit.intOf]; omega⟩
    · obtain rfl : k = R.length := by omega
      obtain rfl : false = z := by
        rw [← HCZ.out]
        exact (capR_has (any_end HN.out (Nat.le_refl _))).symm
      go_wp2_with fail
      go_ret
      exact ⟨rfl, grown_trans HB.out.2.1 HG.out⟩
set_option maxRecDepth 100000 in
set_option maxHeartbeats 1600000 in
theorem rprice_any (T : Tg) (x y : Int) (q : Nat → Prop) (w : World) (hT : TgOk w q T) :
    Calls Try.prog 75 #[.agg #[.slice T.pR T.R.length T.cR, .slice T.pL T.L.length T.cL], .int .i64 x, .int .i64 y] w fun e w' => e = .returned (.tuple #[.int .i64 (priceV T.L x y).1, .bool (priceV T.L x y).2]) ∧ w.grownBy w' none := by
  obtain ⟨R, L, pR, cR, pL, cL⟩ := T
  have hm1 := Nat.le_trans hT.cr.1 hT.cr.2
  have hm2 := Nat.le_trans hT.cl.1 hT.cl.2
  simp only at hm1 hm2 ⊢
  obtain ⟨k1, k2⟩ := tone_box w #[.slice pR R.length cR, .slice pL L.length cL] 59
  have HB := Lib.hid (And.intro k1 (And.intro k2 (hT.keep k2)))
  clear k1 k2 hT
  obtain ⟨z, hz⟩ : ∃ z, priceV L x y = z := ⟨_, rfl⟩
  rw [hz]
  have HZ := Lib.hid hz
  clear hz
  go_enter Try.func75, Try.ntmps75
  go_upto_region 1 with fail
  generalize w.alloc _ = wa at *
  obtain ⟨c0, c1⟩ := row_cells HB.out.1
  go_wp2_with fail
  go_loopw [8] (fun a wr => ∃ k : Nat, k ≤ L.length ∧ a = .int .i64 (k : Int) ∧ Hid ((L.take k).findSome? (priceB x y) = none) ∧ Hid (wa.grownBy wr none)) (fun a _ => L.length - (RowKit.intOf a).toNat)
  case atStart => exact ⟨0, Nat.zero_le _, rfl, Lib.hid rfl, Lib.hid (grown_refl _ _)⟩
  case round =>
    obtain ⟨k, hk, rfl, HN, G⟩ := hrel
    clear c0 c1
    obtain ⟨c0, c1⟩ := row_cells (kept_row HB.out.1 G.out (by simp))
    by_cases hlt : k < L.length
    · obtain ⟨-, b, off, rfl, -, hc⟩ := rdl_cells (L := L) (HB.out.2.2.keep G.out).l (by omega)
      obtain ⟨m, hm⟩ : ∃ m, L[k]? = some m := ⟨_, List.getElem?_eq_getElem hlt⟩
      obtain ⟨a0, a1, a2, a3, a4⟩ := hc k m hm
      have HM := Lib.hid hm
      have i0 : (0 : Int) ≤ (k : Int) := by omega
      have i1 : (k : Int) < (L.length : Int) := by omega
      have gal := World.grownBy_alloc wr (.cells #[.int .i64 m.a, .int .i64 m.b, .int .i64 m.ca, .int .i64 m.cb, .int .i64 m.cp] 71) none
      have HL := Lib.hid (And.intro (heap_alloc_new wr (.cells #[.int .i64 m.a, .int .i64 m.b, .int .i64 m.ca, .int .i64 m.cb, .int .i64 m.cp] 71)) (grown_trans G.out gal))
      clear hc hm gal
      go_upto_region 5 with fail
      clear a0 a1 a2 a3 a4 c0 c1
      generalize wr.alloc _ = wy at *
      obtain ⟨d0, d1, d2, d3, d4⟩ := lk_facts HL.out.1
      by_cases k1 : m.a = x ∧ m.b = y
      · obtain rfl : (m.ca, true) = z := by
          rw [← HZ.out]; unfold priceV
          rw [some_hit HN.out HM.out (show priceB x y m = some m.ca by unfold priceB; rw [if_pos k1])]
        have e1 : (m.a == x) = true := by simpa using k1.1
        have e2 : (m.b == y) = true := by simpa using k1.2
        clear k1
        go_wp2_with fail
        go_ret2
        exact ⟨rfl, grown_trans HB.out.2.1 HL.out.2⟩
      · by_cases k2 : m.b = x ∧ m.a = y
        · obtain rfl : (m.cb, true) = z := by
            rw [← HZ.out]; unfold priceV
            rw [some_hit HN.out HM.out (show priceB x y m = some m.cb by unfold priceB; rw [if_neg k1, if_pos k2])]
          have e3 : (m.b == x) = true := by simpa using k2.1
          have e4 : (m.a == y) = true := by simpa using k2.2
          have e12 : ((m.a == x) && (m.b == y)) = false := by
            cases h1 : (m.a == x) <;> cases h2 : (m.b == y) <;> simp at h1 h2 ⊢
            exact k1 ⟨h1, h2⟩
          cases h1 : (m.a == x)
          · clear k1 k2 e12
            go_wp2_with fail
            go_ret2
            exact ⟨rfl, grown_trans HB.out.2.1 HL.out.2⟩
          · have h2 : (m.b == y) = false := by rw [h1] at e12; simpa using e12
            clear k1 k2 e12
            go_wp2_with fail
            go_ret2
            exact ⟨rfl, grown_trans HB.out.2.1 HL.out.2⟩
        · have HN2 : Hid ((L.take (k + 1)).findSome? (priceB x y) = none) := Lib.hid (some_take HN.out HM.out (by unfold priceB; rw [if_neg k1, if_neg k2]))
          have G2 := Lib.hid HL.out.2
          have e12 : ((m.a == x) && (m.b == y)) = false := by
            cases h1 : (m.a == x) <;> cases h2 : (m.b == y) <;> simp at h1 h2 ⊢
            exact k1 ⟨h1, h2⟩
          have e34 : ((m.b == x) && (m.a == y)) = false := by
            cases h1 : (m.b == x) <;> cases h2 : (m.a == y) <;> simp at h1 h2 ⊢
            exact k2 ⟨h1, h2⟩
          clear k1 k2
          cases h1 : (m.a == x) <;> cases h3 : (m.b == x)
          · clear e12 e34
            go_wp2_with fail
            exact ⟨⟨k + 1, by omega, congrArg _ (by omega), HN2, G2⟩, by simp only [RowKit.intOf]; omega⟩
          · have h4 : (m.a == y) = false := by rw [h3] at e34; simpa using e34
            clear e12 e34
            go_wp2_with fail
            exact ⟨⟨k + 1, by omega, congrArg _ (by omega), HN2, G2⟩, by simp only [RowKit.intOf]; omega⟩
          · have h2 : (m.b == y) = false := by rw [h1] at e12; simpa using e12
            clear e12 e34
            go_wp2_with fail
            exact ⟨⟨k + 1, by omega, congrArg _ (by omega), HN2, G2⟩, by simp only [RowKit.intOf]; omega⟩
          · have h2 : (m.b == y) = false := by rw [h1] at e12; simpa using e12
            have h4 : (m.a == y) = false := by rw [h3] at e34; simpa using e34
            clear e12 e34
            go_wp2_with fail
            exact ⟨⟨k + 1, by omega, congrArg _ (by omega), HN2, G2⟩, by simp only [RowKit.intOf]; omega⟩
    · obtain rfl : k = L.length := by omega
      obtain rfl : (0, false) = z := by
        rw [← HZ.out]; unfold priceV
        have := HN.out
        rw [List.take_length] at this
        rw [this]
      go_wp2_with fail
      go_ret2
      exact ⟨rfl, grown_trans HB.out.2.1 G.out⟩
set_option maxRecDepth 100000 in
set_option maxHeartbeats 1600000 in
theorem rnear_any (T : Tg) (x : Int) (q : Nat → Prop) (w : World) (hT : TgOk w q T) (h1 : T.R.length ≤ 1000) :
    Calls Try.prog 74 #[.agg #[.slice T.pR T.R.length T.cR, .slice T.pL T.L.length T.cL], .int .i64 x] w fun e w' => TRet (nearR T.R T.L x) w e w' := by
  obtain ⟨R, L, pR, cR, pL, cL⟩ := T
  have hm1 := Nat.le_trans hT.cr.1 hT.cr.2
  have hm2 := Nat.le_trans hT.cl.1 hT.cl.2
  simp only at hm1 hm2 h1 ⊢
  obtain ⟨k1, k2⟩ := tone_box w #[.slice pR R.length cR, .slice pL L.length cL] 59
  have HB := Lib.hid (And.intro k1 (And.intro k2 (hT.keep k2)))
  clear k1 k2 hT
  go_enter Try.func74, Try.ntmps74
  go_upto_region 1 with fail
  generalize w.alloc _ = wa at *
  obtain ⟨c0, c1⟩ := row_cells HB.out.1
  obtain ⟨ii, hii, hi0, hi1, hi2⟩ := info_parts info_int
  have N0 : Hid (NK wa (.slice none 0 0) (nearR (R.take 0) L x) wa) := Lib.hid ⟨World.ownsRow_nil _ _ _ _, grown_refl _ _⟩
  go_wp2_with fail
  go_loopw [5, 6] (fun v a wr => ∃ k : Nat, k ≤ R.length ∧ a = .int .i64 (k : Int) ∧ Hid (NK wa v (nearR (R.take k) L x) wr)) (fun _ a _ => R.length - (RowKit.intOf a).toNat)
  case atStart => exact ⟨0, Nat.zero_le _, rfl, N0⟩
  case round =>
  obtain ⟨k, hk, rfl, N⟩ := hrel
  clear N0 c0 c1
  have HBR := Lib.hid (kept_row HB.out.1 N.out.gr (by simp))
  have HT := Lib.hid (HB.out.2.2.keep N.out.gr)
  by_cases hlt : k < R.length
  · obtain ⟨-, b, off, rfl, -, -⟩ := rdr_cells (R := R) HT.out.r (by omega)
    obtain ⟨m, hm⟩ : ∃ m, R[k]? = some m := ⟨_, List.getElem?_eq_getElem hlt⟩
    have HC : ∀ u, Hid (wr.grownBy u none) → u.cell? ⟨b, off + k * 2, none⟩ = some (.int .i64 m.id) ∧ u.cell? ⟨b, off + k * 2 + 1, none⟩ = some (.bool m.cap) := fun u hu => by
      obtain ⟨-, b', off', e, -, hc⟩ := rdr_cells (R := R) (HT.out.keep hu.out).r (by omega)
      injection e with e
      injection e with e4 e5
      subst e4
      subst e5
      exact hc k m hm
    have HCH := Lib.hid HC
    have i0 : (0 : Int) ≤ (k : Int) := by omega
    have i1 : (k : Int) < (R.length : Int) := by omega
    have hln : (nearR (R.take k) L x).length ≤ 1000 := by
      unfold nearR
      rw [List.length_map]
      exact Nat.le_trans (List.length_filter_le _ _) (Nat.le_trans (List.length_take_le _ _) (by omega))
    have HL0 : Hid (nearR (R.take (k + 1)) L x = nearR (R.take k) L x ++ (if (priceV L x m.id).2 then [m.id] else [])) := Lib.hid (by
      unfold nearR
      rw [filter_snoc hm, List.map_append]
      cases (priceV L x m.id).2 <;> rfl)
    obtain ⟨M, hM⟩ : ∃ M, nearR (R.take k) L x = M := ⟨_, rfl⟩
    rw [hM] at HL0 N hln
    have HL := HL0
    obtain ⟨c0, c1⟩ := row_cells HBR.out
    clear HC hm hM HL0
    go_upto_region 5 with fail
    clear c0 c1
    cases hp : (priceV L x m.id).2
    · have HP := Lib.hid hp
      clear hp
      refine wp_region_held_drew (S := fun w' => Hid (wr.grownBy w' none)) (by kernel_rfl) (Lib.hid (grown_drew (grown_refl _ _))) (fun hHeld => ?_)
      refine wpAnyH_take (i := 0) (oi := { dst := some 17, op := Op.load 59 (Operand.tmp 2), type := 59, pos := "ref.go:114", after := #[], guard := none }) (v := ?_) rfl (by kernel_rfl) (by kernel_rfl) (by kernel_rfl) (fun _ _ _ h => h) (Or.inl ⟨by rfl, ?_⟩) hHeld ?_
      rotate_left 1
      · intro u hSu
        obtain ⟨q0, q1⟩ := row_cells (kept_row HBR.out hSu.out (by simp))
        obtain ⟨q2, q3⟩ := HCH.out _ hSu
        go_simp
        first | done | with_reducible rfl
      (try simp only [Act.put, List.setIfInBounds_toArray, List.set_cons_zero, List.set_cons_succ])
      refine wpAnyH_take (i := 1) (oi := { dst := some 18, op := Op.move (Operand.tmp 1), type := 3, pos := "ref.go:114", after := #[], guard := none }) (v := ?_) rfl (by kernel_rfl) (by kernel_rfl) (by kernel_rfl) (fun _ _ _ h => h) (Or.inl ⟨by rfl, ?_⟩) hHeld ?_
      rotate_left 1
      · intro u hSu
        obtain ⟨q0, q1⟩ := row_cells (kept_row HBR.out hSu.out (by simp))
        obtain ⟨q2, q3⟩ := HCH.out _ hSu
        go_simp
        first | done | with_reducible rfl
      (try simp only [Act.put, List.setIfInBounds_toArray, List.set_cons_zero, List.set_cons_succ])
      refine wpAnyH_take (i := 2) (oi := { dst := some 19, op := Op.fieldAddr 59 (Operand.tmp 2) 0, type := 0, pos := "ref.go:114", after := #[], guard := none }) (v := ?_) rfl (by kernel_rfl) (by kernel_rfl) (by kernel_rfl) (fun _ _ _ h => h) (Or.inl ⟨by rfl, ?_⟩) hHeld ?_
      rotate_left 1
      · intro u hSu
        obtain ⟨q0, q1⟩ := row_cells (kept_row HBR.out hSu.out (by simp))
        obtain ⟨q2, q3⟩ := HCH.out _ hSu
        go_simp
        first | done | with_reducible rfl
      (try simp only [Act.put, List.setIfInBounds_toArray, List.set_cons_zero, List.set_cons_succ])
      refine wpAnyH_take (i := 3) (oi := { dst := some 20, op := Op.load 56 (Operand.tmp 19), type := 56, pos := "ref.go:114", after := #[{ on := 2, ground := Ground.data }], guard := none }) (v := ?_) rfl (by kernel_rfl) (by kernel_rfl) (by kernel_rfl) (fun _ _ _ h => h) (Or.inl ⟨by rfl, ?_⟩) hHeld ?_
      rotate_left 1
      · intro u hSu
        obtain ⟨q0, q1⟩ := row_cells (kept_row HBR.out hSu.out (by simp))
        obtain ⟨q2, q3⟩ := HCH.out _ hSu
        go_simp
        first | done | with_reducible rfl
      (try simp only [Act.put, List.setIfInBounds_toArray, List.set_cons_zero, List.set_cons_succ])
      refine wpAnyH_take (i := 4) (oi := { dst := some 21, op := Op.move (Operand.tmp 6), type := 3, pos := "ref.go:114", after := #[], guard := none }) (v := ?_) rfl (by kernel_rfl) (by kernel_rfl) (by kernel_rfl) (fun _ _ _ h => h) (Or.inl ⟨by rfl, ?_⟩) hHeld ?_
      rotate_left 1
      · intro u hSu
        obtain ⟨q0, q1⟩ := row_cells (kept_row HBR.out hSu.out (by simp))
        obtain ⟨q2, q3⟩ := HCH.out _ hSu
        go_simp
        first | done | with_reducible rfl
      (try simp only [Act.put, List.setIfInBounds_toArray, List.set_cons_zero, List.set_cons_succ])
      refine wpAnyH_take (i := 5) (oi := { dst := some 22, op := Op.indexAddr 56 (Operand.tmp 20) (Operand.tmp 21), type := 0, pos := "ref.go:114", after := #[{ on := 3, ground := Ground.data }, { on := 4, ground := Ground.data }], guard := none }) (v := ?_) rfl (by kernel_rfl) (by kernel_rfl) (by kernel_rfl) (fun _ _ _ h => h) (Or.inl ⟨by rfl, ?_⟩) hHeld ?_
      rotate_left 1
      · intro u hSu
        obtain ⟨q0, q1⟩ := row_cells (kept_row HBR.out hSu.out (by simp))
        obtain ⟨q2, q3⟩ := HCH.out _ hSu
        go_simp
        first | done | with_reducible rfl
      (try simp only [Act.put, List.setIfInBounds_toArray, List.set_cons_zero, List.set_cons_succ])
      refine wpAnyH_take (i := 6) (oi := { dst := some 23, op := Op.fieldAddr 69 (Operand.tmp 22) 0, type := 0, pos := "ref.go:114", after := #[{ on := 5, ground := Ground.data }], guard := none }) (v := ?_) rfl (by kernel_rfl) (by kernel_rfl) (by kernel_rfl) (fun _ _ _ h => h) (Or.inl ⟨by rfl, ?_⟩) hHeld ?_
      rotate_left 1
      · intro u hSu
        obtain ⟨q0, q1⟩ := row_cells (kept_row HBR.out hSu.out (by simp))
        obtain ⟨q2, q3⟩ := HCH.out _ hSu
        go_simp
        first | done | with_reducible rfl
      (try simp only [Act.put, List.setIfInBounds_toArray, List.set_cons_zero, List.set_cons_succ])
      refine wpAnyH_take (i := 7) (oi := { dst := some 24, op := Op.load 3 (Operand.tmp 23), type := 3, pos := "ref.go:114", after := #[{ on := 6, ground := Ground.data }], guard := none }) (v := ?_) rfl (by kernel_rfl) (by kernel_rfl) (by kernel_rfl) (fun _ _ _ h => h) (Or.inl ⟨by rfl, ?_⟩) hHeld ?_
      rotate_left 1
      · intro u hSu
        obtain ⟨q0, q1⟩ := row_cells (kept_row HBR.out hSu.out (by simp))
        obtain ⟨q2, q3⟩ := HCH.out _ hSu
        go_simp
        first | done | with_reducible rfl
      (try simp only [Act.put, List.setIfInBounds_toArray, List.set_cons_zero, List.set_cons_succ])
      refine wpAnyH_ready (rs := [8]) (by kernel_rfl) (by simp) ?_
      refine AllReadyH.cons (o := { dst := some 25, op := Op.call { callee := Callee.value (Operand.func 75), args := #[Operand.tmp 17, Operand.tmp 18, Operand.tmp 24], argTypes := #[59, 3, 3] }, type := 109, pos := "ref.go:114", after := #[{ on := 0, ground := Ground.data }, { on := 1, ground := Ground.data }, { on := 7, ground := Ground.data }], guard := none }) rfl (fun Kz hK => ?_) AllReadyH.nil
      go_simp
      go_at_call 75
      refine (rprice_any ⟨R, L, some ⟨b, off, none⟩, cR, pL, cL⟩ x m.id _ _ (HT.out.keep hHeld.out)).mono ?_
      rintro e w5 ⟨rfl, hg⟩
      simp only
      rw [HP.out]
      refine hK.out _ _ (Lib.hid (grown_trans hHeld.out hg)) (fun hH2 => ?_)
      clear hK Kz hHeld
      have hHeld := hH2
      clear hH2
      (try simp only [Act.put, List.setIfInBounds_toArray, List.set_cons_zero, List.set_cons_succ])
      refine wpAnyH_take (i := 9) (oi := { dst := some 16, op := Op.move (Operand.tmp 25), type := 109, pos := "ref.go:114", after := #[{ on := 8, ground := Ground.data }], guard := none }) (v := ?_) rfl (by kernel_rfl) (by kernel_rfl) (by kernel_rfl) (fun _ _ _ h => h) (Or.inl ⟨by rfl, ?_⟩) hHeld ?_
      rotate_left 1
      · intro u hSu
        obtain ⟨q0, q1⟩ := row_cells (kept_row HBR.out hSu.out (by simp))
        obtain ⟨q2, q3⟩ := HCH.out _ hSu
        go_simp
        first | done | with_reducible rfl
      (try simp only [Act.put, List.setIfInBounds_toArray, List.set_cons_zero, List.set_cons_succ])
      refine wpAnyH_take (i := 10) (oi := { dst := some 26, op := Op.extract (Operand.tmp 16) 0, type := 3, pos := "ref.go:114", after := #[{ on := 9, ground := Ground.data }], guard := none }) (v := ?_) rfl (by kernel_rfl) (by kernel_rfl) (by kernel_rfl) (fun _ _ _ h => h) (Or.inl ⟨by rfl, ?_⟩) hHeld ?_
      rotate_left 1
      · intro u hSu
        obtain ⟨q0, q1⟩ := row_cells (kept_row HBR.out hSu.out (by simp))
        obtain ⟨q2, q3⟩ := HCH.out _ hSu
        go_simp
        first | done | with_reducible rfl
      (try simp only [Act.put, List.setIfInBounds_toArray, List.set_cons_zero, List.set_cons_succ])
      refine wpAnyH_take (i := 11) (oi := { dst := some 27, op := Op.extract (Operand.tmp 16) 1, type := 4, pos := "ref.go:114", after := #[{ on := 9, ground := Ground.data }, { on := 12, ground := Ground.gcOnly Departure.lateStores }], guard := none }) (v := ?_) rfl (by kernel_rfl) (by kernel_rfl) (by kernel_rfl) (fun _ _ _ h => h) (Or.inl ⟨by rfl, ?_⟩) hHeld ?_
      rotate_left 1
      · intro u hSu
        obtain ⟨q0, q1⟩ := row_cells (kept_row HBR.out hSu.out (by simp))
        obtain ⟨q2, q3⟩ := HCH.out _ hSu
        go_simp
        first | done | with_reducible rfl
      (try simp only [Act.put, List.setIfInBounds_toArray, List.set_cons_zero, List.set_cons_succ])
      refine wpAnyH_take (i := 12) (oi := { dst := some 7, op := Op.assign (Operand.tmp 26), type := 3, pos := "ref.go:114", after := #[{ on := 10, ground := Ground.data }, { on := 8, ground := Ground.chain }, { on := 0, ground := Ground.phase }, { on := 1, ground := Ground.phase }, { on := 2, ground := Ground.phase }, { on := 3, ground := Ground.phase }, { on := 4, ground := Ground.phase }, { on := 5, ground := Ground.phase }, { on := 6, ground := Ground.phase }, { on := 7, ground := Ground.phase }, { on := 8, ground := Ground.phase }, { on := 9, ground := Ground.phase }, { on := 10, ground := Ground.phase }, { on := 11, ground := Ground.textOnly Departure.lateStores }], guard := none }) (v := ?_) rfl (by kernel_rfl) (by kernel_rfl) (by kernel_rfl) (fun _ _ _ h => h) (Or.inl ⟨by rfl, ?_⟩) hHeld ?_
      rotate_left 1
      · intro u hSu
        obtain ⟨q0, q1⟩ := row_cells (kept_row HBR.out hSu.out (by simp))
        obtain ⟨q2, q3⟩ := HCH.out _ hSu
        go_simp
        first | done | with_reducible rfl
      (try simp only [Act.put, List.setIfInBounds_toArray, List.set_cons_zero, List.set_cons_succ])
      refine wpAnyH_take (i := 13) (oi := { dst := some 8, op := Op.assign (Operand.tmp 27), type := 4, pos := "ref.go:114", after := #[{ on := 11, ground := Ground.data }, { on := 12, ground := Ground.chain }, { on := 0, ground := Ground.phase }, { on := 1, ground := Ground.phase }, { on := 2, ground := Ground.phase }, { on := 3, ground := Ground.phase }, { on := 4, ground := Ground.phase }, { on := 5, ground := Ground.phase }, { on := 6, ground := Ground.phase }, { on := 7, ground := Ground.phase }, { on := 8, ground := Ground.phase }, { on := 9, ground := Ground.phase }, { on := 10, ground := Ground.phase }, { on := 11, ground := Ground.phase }, { on := 12, ground := Ground.phase }], guard := none }) (v := ?_) rfl (by kernel_rfl) (by kernel_rfl) (by kernel_rfl) (fun _ _ _ h => h) (Or.inl ⟨by rfl, ?_⟩) hHeld ?_
      rotate_left 1
      · intro u hSu
        obtain ⟨q0, q1⟩ := row_cells (kept_row HBR.out hSu.out (by simp))
        obtain ⟨q2, q3⟩ := HCH.out _ hSu
        go_simp
        first | done | with_reducible rfl
      (try simp only [Act.put, List.setIfInBounds_toArray, List.set_cons_zero, List.set_cons_succ])
      refine wpAnyH_done (by kernel_rfl) ?_ _
      have H9 := Lib.hid (N.out.keep hHeld.out)
      clear hHeld
      have HN2 : Hid (NK wa _ (nearR (R.take (k + 1)) L x) w5) := Lib.hid (by rw [HL.out, HP.out]; show NK wa _ (M ++ []) w5; rw [List.append_nil]; exact H9.out)
      go_wp2_with fail
      exact ⟨⟨k + 1, by omega, congrArg _ (by omega), HN2⟩, by simp only [RowKit.intOf]; omega⟩
    · have HP := Lib.hid hp
      clear hp
      refine wp_region_held_drew (S := fun w' => Hid (wr.grownBy w' none)) (by kernel_rfl) (Lib.hid (grown_drew (grown_refl _ _))) (fun hHeld => ?_)
      refine wpAnyH_take (i := 0) (oi := { dst := some 17, op := Op.load 59 (Operand.tmp 2), type := 59, pos := "ref.go:114", after := #[], guard := none }) (v := ?_) rfl (by kernel_rfl) (by kernel_rfl) (by kernel_rfl) (fun _ _ _ h => h) (Or.inl ⟨by rfl, ?_⟩) hHeld ?_
      rotate_left 1
      · intro u hSu
        obtain ⟨q0, q1⟩ := row_cells (kept_row HBR.out hSu.out (by simp))
        obtain ⟨q2, q3⟩ := HCH.out _ hSu
        go_simp
        first | done | with_reducible rfl
      (try simp only [Act.put, List.setIfInBounds_toArray, List.set_cons_zero, List.set_cons_succ])
      refine wpAnyH_take (i := 1) (oi := { dst := some 18, op := Op.move (Operand.tmp 1), type := 3, pos := "ref.go:114", after := #[], guard := none }) (v := ?_) rfl (by kernel_rfl) (by kernel_rfl) (by kernel_rfl) (fun _ _ _ h => h) (Or.inl ⟨by rfl, ?_⟩) hHeld ?_
      rotate_left 1
      · intro u hSu
        obtain ⟨q0, q1⟩ := row_cells (kept_row HBR.out hSu.out (by simp))
        obtain ⟨q2, q3⟩ := HCH.out _ hSu
        go_simp
        first | done | with_reducible rfl
      (try simp only [Act.put, List.setIfInBounds_toArray, List.set_cons_zero, List.set_cons_succ])
      refine wpAnyH_take (i := 2) (oi := { dst := some 19, op := Op.fieldAddr 59 (Operand.tmp 2) 0, type := 0, pos := "ref.go:114", after := #[], guard := none }) (v := ?_) rfl (by kernel_rfl) (by kernel_rfl) (by kernel_rfl) (fun _ _ _ h => h) (Or.inl ⟨by rfl, ?_⟩) hHeld ?_
      rotate_left 1
      · intro u hSu
        obtain ⟨q0, q1⟩ := row_cells (kept_row HBR.out hSu.out (by simp))
        obtain ⟨q2, q3⟩ := HCH.out _ hSu
        go_simp
        first | done | with_reducible rfl
      (try simp only [Act.put, List.setIfInBounds_toArray, List.set_cons_zero, List.set_cons_succ])
      refine wpAnyH_take (i := 3) (oi := { dst := some 20, op := Op.load 56 (Operand.tmp 19), type := 56, pos := "ref.go:114", after := #[{ on := 2, ground := Ground.data }], guard := none }) (v := ?_) rfl (by kernel_rfl) (by kernel_rfl) (by kernel_rfl) (fun _ _ _ h => h) (Or.inl ⟨by rfl, ?_⟩) hHeld ?_
      rotate_left 1
      · intro u hSu
        obtain ⟨q0, q1⟩ := row_cells (kept_row HBR.out hSu.out (by simp))
        obtain ⟨q2, q3⟩ := HCH.out _ hSu
        go_simp
        first | done | with_reducible rfl
      (try simp only [Act.put, List.setIfInBounds_toArray, List.set_cons_zero, List.set_cons_succ])
      refine wpAnyH_take (i := 4) (oi := { dst := some 21, op := Op.move (Operand.tmp 6), type := 3, pos := "ref.go:114", after := #[], guard := none }) (v := ?_) rfl (by kernel_rfl) (by kernel_rfl) (by kernel_rfl) (fun _ _ _ h => h) (Or.inl ⟨by rfl, ?_⟩) hHeld ?_
      rotate_left 1
      · intro u hSu
        obtain ⟨q0, q1⟩ := row_cells (kept_row HBR.out hSu.out (by simp))
        obtain ⟨q2, q3⟩ := HCH.out _ hSu
        go_simp
        first | done | with_reducible rfl
      (try simp only [Act.put, List.setIfInBounds_toArray, List.set_cons_zero, List.set_cons_succ])
      refine wpAnyH_take (i := 5) (oi := { dst := some 22, op := Op.indexAddr 56 (Operand.tmp 20) (Operand.tmp 21), type := 0, pos := "ref.go:114", after := #[{ on := 3, ground := Ground.data }, { on := 4, ground := Ground.data }], guard := none }) (v := ?_) rfl (by kernel_rfl) (by kernel_rfl) (by kernel_rfl) (fun _ _ _ h => h) (Or.inl ⟨by rfl, ?_⟩) hHeld ?_
      rotate_left 1
      · intro u hSu
        obtain ⟨q0, q1⟩ := row_cells (kept_row HBR.out hSu.out (by simp))
        obtain ⟨q2, q3⟩ := HCH.out _ hSu
        go_simp
        first | done | with_reducible rfl
      (try simp only [Act.put, List.setIfInBounds_toArray, List.set_cons_zero, List.set_cons_succ])
      refine wpAnyH_take (i := 6) (oi := { dst := some 23, op := Op.fieldAddr 69 (Operand.tmp 22) 0, type := 0, pos := "ref.go:114", after := #[{ on := 5, ground := Ground.data }], guard := none }) (v := ?_) rfl (by kernel_rfl) (by kernel_rfl) (by kernel_rfl) (fun _ _ _ h => h) (Or.inl ⟨by rfl, ?_⟩) hHeld ?_
      rotate_left 1
      · intro u hSu
        obtain ⟨q0, q1⟩ := row_cells (kept_row HBR.out hSu.out (by simp))
        obtain ⟨q2, q3⟩ := HCH.out _ hSu
        go_simp
        first | done | with_reducible rfl
      (try simp only [Act.put, List.setIfInBounds_toArray, List.set_cons_zero, List.set_cons_succ])
      refine wpAnyH_take (i := 7) (oi := { dst := some 24, op := Op.load 3 (Operand.tmp 23), type := 3, pos := "ref.go:114", after := #[{ on := 6, ground := Ground.data }], guard := none }) (v := ?_) rfl (by kernel_rfl) (by kernel_rfl) (by kernel_rfl) (fun _ _ _ h => h) (Or.inl ⟨by rfl, ?_⟩) hHeld ?_
      rotate_left 1
      · intro u hSu
        obtain ⟨q0, q1⟩ := row_cells (kept_row HBR.out hSu.out (by simp))
        obtain ⟨q2, q3⟩ := HCH.out _ hSu
        go_simp
        first | done | with_reducible rfl
      (try simp only [Act.put, List.setIfInBounds_toArray, List.set_cons_zero, List.set_cons_succ])
      refine wpAnyH_ready (rs := [8]) (by kernel_rfl) (by simp) ?_
      refine AllReadyH.cons (o := { dst := some 25, op := Op.call { callee := Callee.value (Operand.func 75), args := #[Operand.tmp 17, Operand.tmp 18, Operand.tmp 24], argTypes := #[59, 3, 3] }, type := 109, pos := "ref.go:114", after := #[{ on := 0, ground := Ground.data }, { on := 1, ground := Ground.data }, { on := 7, ground := Ground.data }], guard := none }) rfl (fun Kz hK => ?_) AllReadyH.nil
      go_simp
      go_at_call 75
      refine (rprice_any ⟨R, L, some ⟨b, off, none⟩, cR, pL, cL⟩ x m.id _ _ (HT.out.keep hHeld.out)).mono ?_
      rintro e w5 ⟨rfl, hg⟩
      simp only
      rw [HP.out]
      refine hK.out _ _ (Lib.hid (grown_trans hHeld.out hg)) (fun hH2 => ?_)
      clear hK Kz hHeld
      have hHeld := hH2
      clear hH2
      (try simp only [Act.put, List.setIfInBounds_toArray, List.set_cons_zero, List.set_cons_succ])
      refine wpAnyH_take (i := 9) (oi := { dst := some 16, op := Op.move (Operand.tmp 25), type := 109, pos := "ref.go:114", after := #[{ on := 8, ground := Ground.data }], guard := none }) (v := ?_) rfl (by kernel_rfl) (by kernel_rfl) (by kernel_rfl) (fun _ _ _ h => h) (Or.inl ⟨by rfl, ?_⟩) hHeld ?_
      rotate_left 1
      · intro u hSu
        obtain ⟨q0, q1⟩ := row_cells (kept_row HBR.out hSu.out (by simp))
        obtain ⟨q2, q3⟩ := HCH.out _ hSu
        go_simp
        first | done | with_reducible rfl
      (try simp only [Act.put, List.setIfInBounds_toArray, List.set_cons_zero, List.set_cons_succ])
      refine wpAnyH_take (i := 10) (oi := { dst := some 26, op := Op.extract (Operand.tmp 16) 0, type := 3, pos := "ref.go:114", after := #[{ on := 9, ground := Ground.data }], guard := none }) (v := ?_) rfl (by kernel_rfl) (by kernel_rfl) (by kernel_rfl) (fun _ _ _ h => h) (Or.inl ⟨by rfl, ?_⟩) hHeld ?_
      rotate_left 1
      · intro u hSu
        obtain ⟨q0, q1⟩ := row_cells (kept_row HBR.out hSu.out (by simp))
        obtain ⟨q2, q3⟩ := HCH.out _ hSu
        go_simp
        first | done | with_reducible rfl
      (try simp only [Act.put, List.setIfInBounds_toArray, List.set_cons_zero, List.set_cons_succ])
      refine wpAnyH_take (i := 11) (oi := { dst := some 27, op := Op.extract (Operand.tmp 16) 1, type := 4, pos := "ref.go:114", after := #[{ on := 9, ground := Ground.data }, { on := 12, ground := Ground.gcOnly Departure.lateStores }], guard := none }) (v := ?_) rfl (by kernel_rfl) (by kernel_rfl) (by kernel_rfl) (fun _ _ _ h => h) (Or.inl ⟨by rfl, ?_⟩) hHeld ?_
      rotate_left 1
      · intro u hSu
        obtain ⟨q0, q1⟩ := row_cells (kept_row HBR.out hSu.out (by simp))
        obtain ⟨q2, q3⟩ := HCH.out _ hSu
        go_simp
        first | done | with_reducible rfl
      (try simp only [Act.put, List.setIfInBounds_toArray, List.set_cons_zero, List.set_cons_succ])
      refine wpAnyH_take (i := 12) (oi := { dst := some 7, op := Op.assign (Operand.tmp 26), type := 3, pos := "ref.go:114", after := #[{ on := 10, ground := Ground.data }, { on := 8, ground := Ground.chain }, { on := 0, ground := Ground.phase }, { on := 1, ground := Ground.phase }, { on := 2, ground := Ground.phase }, { on := 3, ground := Ground.phase }, { on := 4, ground := Ground.phase }, { on := 5, ground := Ground.phase }, { on := 6, ground := Ground.phase }, { on := 7, ground := Ground.phase }, { on := 8, ground := Ground.phase }, { on := 9, ground := Ground.phase }, { on := 10, ground := Ground.phase }, { on := 11, ground := Ground.textOnly Departure.lateStores }], guard := none }) (v := ?_) rfl (by kernel_rfl) (by kernel_rfl) (by kernel_rfl) (fun _ _ _ h => h) (Or.inl ⟨by rfl, ?_⟩) hHeld ?_
      rotate_left 1
      · intro u hSu
        obtain ⟨q0, q1⟩ := row_cells (kept_row HBR.out hSu.out (by simp))
        obtain ⟨q2, q3⟩ := HCH.out _ hSu
        go_simp
        first | done | with_reducible rfl
      (try simp only [Act.put, List.setIfInBounds_toArray, List.set_cons_zero, List.set_cons_succ])
      refine wpAnyH_take (i := 13) (oi := { dst := some 8, op := Op.assign (Operand.tmp 27), type := 4, pos := "ref.go:114", after := #[{ on := 11, ground := Ground.data }, { on := 12, ground := Ground.chain }, { on := 0, ground := Ground.phase }, { on := 1, ground := Ground.phase }, { on := 2, ground := Ground.phase }, { on := 3, ground := Ground.phase }, { on := 4, ground := Ground.phase }, { on := 5, ground := Ground.phase }, { on := 6, ground := Ground.phase }, { on := 7, ground := Ground.phase }, { on := 8, ground := Ground.phase }, { on := 9, ground := Ground.phase }, { on := 10, ground := Ground.phase }, { on := 11, ground := Ground.phase }, { on := 12, ground := Ground.phase }], guard := none }) (v := ?_) rfl (by kernel_rfl) (by kernel_rfl) (by kernel_rfl) (fun _ _ _ h => h) (Or.inl ⟨by rfl, ?_⟩) hHeld ?_
      rotate_left 1
      · intro u hSu
        obtain ⟨q0, q1⟩ := row_cells (kept_row HBR.out hSu.out (by simp))
        obtain ⟨q2, q3⟩ := HCH.out _ hSu
        go_simp
        first | done | with_reducible rfl
      (try simp only [Act.put, List.setIfInBounds_toArray, List.set_cons_zero, List.set_cons_succ])
      refine wpAnyH_done (by kernel_rfl) ?_ _
      have H9 := Lib.hid (N.out.keep hHeld.out)
      obtain ⟨c2, c3⟩ := row_cells (kept_row HBR.out hHeld.out (by simp))
      obtain ⟨a2, a3⟩ := HCH.out _ hHeld
      have hsz := H9.out.gr.size
      have hown := H9.out.own
      clear hHeld
      go_wp2_with (at_builtin; refine hold_on ?_)
      refine Lib.hid ?_
      refine wpList_append_own _ rfl _ _ 22 rfl wa.heap.size 3 ii (.int .i64 0) 1 8 Try.underlying22 hii hi0 hi1 hi2 rfl (by decide) _ _ _ rfl (hown.alloc _) ⟨w5.heap.size, 0, none⟩ 1 1 [.int .i64 m.id] rfl rfl (cell_one _ _ _) (by intro u hu; simp at hu; subst hu; rfl) (by unfold maxLen; omega) (by omega) (by simp; omega) ?_
      intro v' w6 hown' hg _
      have hn := (H9.out.more (grown_refl _ none) hown' hg).1
      have HN2 : Hid (NK wa v' (nearR (R.take (k + 1)) L x) w6) := Lib.hid (by rw [HL.out, HP.out]; exact hn)
      clear hown' hg hn hown H9 c2 c3 a2 a3
      go_wp2_with fail
      exact ⟨⟨k + 1, by omega, congrArg _ (by omega), HN2⟩, by simp only [RowKit.intOf]; omega⟩
  · obtain rfl : k = R.length := by omega
    rw [List.take_length] at N
    obtain ⟨p, c, rfl, hR, hlen, hp, hg⟩ := N.out.ret
    have HR := Lib.hid (And.intro hR (And.intro hlen (And.intro hp hg)))
    obtain ⟨c0, c1⟩ := row_cells HBR.out
    clear hR hlen hp hg N
    go_wp2_with fail
    go_ret
    exact ⟨p, c, rfl, HR.out.1.mono (fun b hb => Nat.le_trans HB.out.2.1.size hb), HR.out.2.1, HR.out.2.2.1, grown_trans HB.out.2.1 HR.out.2.2.2⟩
end Go.Proofs.Ytnpkihioklpnmaa

/- The reference's Has and Named; Same of equal topologies. -/
namespace Go.Proofs.Ytnpkihioklpnmaa
open Go.RowKit Bs
set_option maxRecDepth 100000 in
set_option maxHeartbeats 1600000 in
theorem rhas4_any (X : List Int) (x : Int) (p : Option Addr) (c : Nat) (q : Nat → Prop) (w : World) (hR : Rd w q (.slice p X.length c) (X.map tv)) (hm : X.length ≤ 9223372036854775807) :
    Calls Try.prog 44 #[.slice p X.length c, .int .i64 x] w fun e w' => e = .returned (.bool (hasI X x)) ∧ w = w' := by
  have HR := Lib.hid hR
  have HN0 : Hid ((X.take 0).any (fun y => decide (y = x)) = false) := Lib.hid rfl
  clear hR
  go_enter Try.func44, Try.ntmps44
  go_wp2_with fail
  go_loopw [5] (fun a wr => ∃ k : Nat, k ≤ X.length ∧ a = .int .i64 (k : Int) ∧ Hid ((X.take k).any (fun y => decide (y = x)) = false) ∧ wr = w) (fun a _ => X.length - (RowKit.intOf a).toNat)
  case atStart => exact ⟨0, Nat.zero_le _, rfl, HN0, rfl⟩
  case round =>
    obtain ⟨k, hk, rfl, HN, rfl⟩ := hrel
    by_cases hlt : k < X.length
    · obtain ⟨-, b, off, rfl, -, hc⟩ := rdi_at HR.out (by omega)
      obtain ⟨y, hy⟩ : ∃ y, X[k]? = some y := ⟨_, List.getElem?_eq_getElem hlt⟩
      have d0 := hc k y hy
      have HY := Lib.hid hy
      clear hc hy HN0
      by_cases hyx : y = x
      · have HT : Hid (hasI X x = true) := Lib.hid (any_at HY.out (decide_eq_true hyx))
        subst hyx
        go_wp2_with fail
        go_ret
        rw [HT.out]
        exact ⟨rfl, rfl⟩
      · have HN2 := Lib.hid (any_take HN.out HY.out (decide_eq_false hyx))
        have h' : (y == x) = false := by simpa using hyx
        go_wp2_with fail
        exact ⟨⟨k + 1, by omega, congrArg _ (by omega), HN2, (by first | rfl | trivial)⟩, by simp only [RowKit.intOf]; omega⟩
    · have HT : Hid (hasI X x = false) := Lib.hid (any_end HN.out (by omega))
      obtain rfl : k = X.length := by omega
      go_wp2_with fail
      go_ret
      rw [HT.out]
      exact ⟨rfl, rfl⟩
/-- A hop names the ends, in either direction. -/
def isB (a b : Int) (h : Hp) : Bool := isH a b h || isH b a h
def nmH (H : List Hp) (a b : Int) : Bool := H.any (isB a b)
set_option maxRecDepth 100000 in
theorem nmH_eq (a b : Int) : ∀ H : List Hp, nmH H a b = (H.any (isH a b) || H.any (isH b a))
  | [] => rfl
  | h :: t => by
    have := nmH_eq a b t
    unfold nmH at this ⊢
    rw [List.any_cons, List.any_cons, List.any_cons, this]
    unfold isB
    cases isH a b h <;> cases isH b a h <;> simp
set_option maxRecDepth 100000 in
set_option maxHeartbeats 3200000 in
theorem rnamed_any (H : List Hp) (a b : Int) (p : Option Addr) (c : Nat) (q : Nat → Prop) (w : World) (hR : RdH w q (.slice p H.length c) H) (hm : H.length ≤ 9223372036854775807) :
    Calls Try.prog 77 #[.slice p H.length c, .int .i64 a, .int .i64 b] w fun e w' => e = .returned (.bool (nmH H a b)) ∧ w = w' := by
  have HR := Lib.hid hR
  have HN0 : Hid ((H.take 0).any (isB a b) = false) := Lib.hid rfl
  clear hR
  go_enter Try.func77, Try.ntmps77
  go_wp2_with fail
  go_loopw [7] (fun i wr => ∃ k : Nat, k ≤ H.length ∧ i = .int .i64 (k : Int) ∧ Hid ((H.take k).any (isB a b) = false) ∧ wr = w) (fun i _ => H.length - (RowKit.intOf i).toNat)
  case atStart => exact ⟨0, Nat.zero_le _, rfl, HN0, rfl⟩
  case round =>
    obtain ⟨k, hk, rfl, HN, rfl⟩ := hrel
    by_cases hlt : k < H.length
    · obtain ⟨-, b1, off, rfl, -, hc⟩ := rdh_cells HR.out (by omega)
      obtain ⟨y, hy⟩ : ∃ y, H[k]? = some y := ⟨_, List.getElem?_eq_getElem hlt⟩
      obtain ⟨d0, d1⟩ := hc k y hy
      have HY := Lib.hid hy
      clear hc hy HN0
      have HB : Hid (isB a b y = ((y.f == a && y.t == b) || (y.f == b && y.t == a))) := Lib.hid (by
        unfold isB isH
        simp only [Bool.decide_and]
        rfl)
      have HT : Hid (isB a b y = true → nmH H a b = true) := Lib.hid (fun h => any_at HY.out h)
      have HF : Hid (isB a b y = false → (H.take (k + 1)).any (isB a b) = false) := Lib.hid (fun h => any_take HN.out HY.out h)
      cases h1 : (y.f == a) <;> cases h2 : (y.t == b) <;> cases h3 : (y.f == b) <;> cases h4 : (y.t == a) <;>
      (rw [h1, h2, h3, h4] at HB
       go_wp2_with fail
       first
        | (have HN2 := Lib.hid (HF.out (HB.out.trans rfl)); exact ⟨⟨k + 1, by omega, congrArg _ (by omega), HN2, (by first | rfl | trivial)⟩, by simp only [RowKit.intOf]; omega⟩)
        | (go_ret; rw [HT.out (HB.out.trans rfl)]; exact ⟨rfl, rfl⟩))
    · have HT : Hid (nmH H a b = false) := Lib.hid (any_end HN.out (by omega))
      obtain rfl : k = H.length := by omega
      go_wp2_with fail
      go_ret
      rw [HT.out]
      exact ⟨rfl, rfl⟩
end Go.Proofs.Ytnpkihioklpnmaa
