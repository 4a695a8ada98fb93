/- Parts of the proof, packed: ToLookR, AdRVa. -/
import Derived.Test.YtnpkihioklpnmaaDo6
import Derived.Test.YtnpkihioklpnmaaDo4
import Derived.Test.YtnpkihioklpnmaaDo5
import Derived.BigQuiet
/- The reference's Has, Capable, Price, Cost, Near, Neighbours. -/
namespace Go.Proofs.Ytnpkihioklpnmaa
open Go.RowKit Bs
set_option maxRecDepth 100000 in
theorem find_hit {α : Type} {p : α → Bool} : ∀ {l : List α} {k : Nat} {x : α}, (l.take k).any p = false → l[k]? = some x → p x = true → l.find? p = some x
  | [], k, x, _, h, _ => by cases h
  | a :: t, 0, x, _, h, hp => by
    obtain rfl : a = x := by simpa using h
    rw [List.find?_cons, hp]
  | a :: t, k + 1, x, hn, h, hp => by
    rw [List.take_succ_cons, List.any_cons, Bool.or_eq_false_iff] at hn
    rw [List.find?_cons, hn.1]
    exact find_hit hn.2 (by simpa using h) hp
set_option maxRecDepth 100000 in
theorem some_hit {α β : Type} {f : α → Option β} {l : List α} {k : Nat} {x : α} {y : β} (hn : (l.take k).findSome? f = none) (h : l[k]? = some x) (hy : f x = some y) : l.findSome? f = some y := by
  have hlt := (List.getElem?_eq_some_iff.1 h).1
  have e : l = l.take k ++ (x :: l.drop (k + 1)) := by
    have h2 := (List.getElem?_eq_some_iff.1 h).2
    rw [← h2, List.getElem_cons_drop, List.take_append_drop]
  rw [e, List.findSome?_append, hn, List.findSome?_cons, hy]
  rfl
set_option maxRecDepth 100000 in
theorem some_take {α β : Type} {f : α → Option β} {l : List α} {k : Nat} {x : α} (hn : (l.take k).findSome? f = none) (h : l[k]? = some x) (hy : f x = none) : (l.take (k + 1)).findSome? f = none := by
  rw [List.take_add_one, h, List.findSome?_append, hn]
  simp [hy]
set_option maxRecDepth 100000 in
set_option maxHeartbeats 1600000 in
theorem rhasV_any (T : Tg) (x : Int) (q : Nat → Prop) (w : World) (hT : TgOk w q T) :
    Calls Try.prog 37 #[.agg #[.slice T.pR T.R.length T.cR, .slice T.pL T.L.length T.cL], .int .i64 x] w fun e w' => e = .returned (.bool (hasV T.R T.L x)) ∧ w.grownBy w' none := by
  obtain ⟨R, L, pR, cR, pL, cL⟩ := T
  have hm1 := Nat.le_trans hT.cr.1 hT.cr.2
  have hm2 := Nat.le_trans hT.cl.1 hT.cl.2
  simp only at hm1 hm2 ⊢
  obtain ⟨k1, k2⟩ := tone_box w #[.slice pR R.length cR, .slice pL L.length cL] 59
  have HB := Lib.hid (And.intro k1 (And.intro k2 (hT.keep k2)))
  clear k1 k2 hT
  obtain ⟨z, hz⟩ : ∃ z, hasV R L x = z := ⟨_, rfl⟩
  rw [hz]
  have HZ := Lib.hid hz
  clear hz
  go_enter Try.func37, Try.ntmps37
  go_upto_region 1 with fail
  generalize w.alloc _ = wa at *
  obtain ⟨c0, c1⟩ := row_cells HB.out.1
  obtain ⟨X, hX⟩ : ∃ X, chk R L = X := ⟨_, rfl⟩
  have HX := Lib.hid hX
  have HO : Hid (okT R L = (X == 0)) := Lib.hid (by unfold okT; rw [hX])
  clear hX
  by_cases hx : X = 0
  · obtain rfl : hasR R x = z := by have := HZ.out; unfold hasV at this; rw [HO.out, hx] at this; simpa using this
    subst hx
    go_wp2_with fail
    refine (rcheck_any ⟨R, L, pR, cR, pL, cL⟩ _ wa HB.out.2.2).mono ?_
    rintro e w1 ⟨rfl, hg⟩
    simp only
    rw [HX.out]
    have HG := Lib.hid hg
    clear hg c0 c1
    obtain ⟨c0, c1⟩ := row_cells (kept_row HB.out.1 HG.out (by simp))
    go_wp2_with fail
    refine (rhas_any ⟨R, L, pR, cR, pL, cL⟩ x _ w1 (HB.out.2.2.keep HG.out)).mono ?_
    rintro e w2 ⟨rfl, hg⟩
    simp only
    have HG2 := Lib.hid (grown_trans HG.out hg)
    clear hg
    go_wp2_with fail
    go_ret
    exact ⟨rfl, grown_trans HB.out.2.1 HG2.out⟩
  · have hx1 : (X == 0) = false := by simpa using hx
    obtain rfl : false = z := by have := HZ.out; unfold hasV at this; rw [HO.out, hx1] at this; simpa using this
    go_wp2_with fail
    refine (rcheck_any ⟨R, L, pR, cR, pL, cL⟩ _ wa HB.out.2.2).mono ?_
    rintro e w1 ⟨rfl, hg⟩
    simp only
    rw [HX.out]
    have HG := Lib.hid hg
    clear hg c0 c1
    go_wp2_with fail
    go_ret
    exact ⟨rfl, grown_trans HB.out.2.1 HG.out⟩
set_option maxRecDepth 100000 in
set_option maxHeartbeats 1600000 in
theorem rcap_any (T : Tg) (x : Int) (q : Nat → Prop) (w : World) (hT : TgOk w q T) :
    Calls Try.prog 73 #[.agg #[.slice T.pR T.R.length T.cR, .slice T.pL T.L.length T.cL], .int .i64 x] w fun e w' => e = .returned (.bool (capV T.R T.L x)) ∧ w.grownBy w' none := by
  obtain ⟨R, L, pR, cR, pL, cL⟩ := T
  have hm1 := Nat.le_trans hT.cr.1 hT.cr.2
  have hm2 := Nat.le_trans hT.cl.1 hT.cl.2
  simp only at hm1 hm2 ⊢
  obtain ⟨k1, k2⟩ := tone_box w #[.slice pR R.length cR, .slice pL L.length cL] 59
  have HB := Lib.hid (And.intro k1 (And.intro k2 (hT.keep k2)))
  clear k1 k2 hT
  obtain ⟨z, hz⟩ : ∃ z, capV R L x = z := ⟨_, rfl⟩
  rw [hz]
  have HZ := Lib.hid hz
  clear hz
  go_enter Try.func73, Try.ntmps73
  go_upto_region 1 with fail
  generalize w.alloc _ = wa at *
  obtain ⟨c0, c1⟩ := row_cells HB.out.1
  obtain ⟨X, hX⟩ : ∃ X, chk R L = X := ⟨_, rfl⟩
  have HX := Lib.hid hX
  have HO : Hid (okT R L = (X == 0)) := Lib.hid (by unfold okT; rw [hX])
  clear hX
  by_cases hx : X = 0
  rotate_left 1
  · have hx1 : (X == 0) = false := by simpa using hx
    obtain rfl : false = z := by have := HZ.out; unfold capV at this; rw [HO.out, hx1] at this; simpa using this
    go_wp2_with fail
    refine (rcheck_any ⟨R, L, pR, cR, pL, cL⟩ _ wa HB.out.2.2).mono ?_
    rintro e w1 ⟨rfl, hg⟩
    simp only
    rw [HX.out]
    have HG := Lib.hid hg
    clear hg c0 c1
    go_wp2_with fail
    go_ret
    exact ⟨rfl, grown_trans HB.out.2.1 HG.out⟩
  have hcz : capR R x = z := by have := HZ.out; unfold capV at this; rw [HO.out, hx] at this; simpa using this
  have HCZ := Lib.hid hcz
  clear hcz
  subst hx
  go_wp2_with fail
  refine (rcheck_any ⟨R, L, pR, cR, pL, cL⟩ _ wa HB.out.2.2).mono ?_
  rintro e w1 ⟨rfl, hg⟩
  simp only
  rw [HX.out]
  have HG := Lib.hid hg
  clear hg c0 c1
  obtain ⟨c0, c1⟩ := row_cells (kept_row HB.out.1 HG.out (by simp))
  go_wp2_with fail
  go_loopw [5] (fun a wr => ∃ k : Nat, k ≤ R.length ∧ a = .int .i64 (k : Int) ∧ Hid ((R.take k).any (fun r => decide (r.id = x)) = false) ∧ w1 = wr) (fun a _ => R.length - (RowKit.intOf a).toNat)
  case atStart => exact ⟨0, Nat.zero_le _, rfl, Lib.hid rfl, rfl⟩
  case round =>
    obtain ⟨k, hk, rfl, HN, rfl⟩ := hrel
    by_cases hlt : k < R.length
    · obtain ⟨-, b, off, rfl, -, hc⟩ := rdr_cells (R := R) (HB.out.2.2.keep HG.out).r (by omega)
      obtain ⟨y, hy⟩ : ∃ y, R[k]? = some y := ⟨_, List.getElem?_eq_getElem hlt⟩
      obtain ⟨a0, a1⟩ := hc k y hy
      have HY := Lib.hid hy
      have i0 : (0 : Int) ≤ (k : Int) := by omega
      have i1 : (k : Int) < (R.length : Int) := by omega
      clear hc hy
      by_cases hyx : y.id = x
      · obtain rfl : y.cap = z := by
          rw [← HCZ.out]
          unfold capR
          rw [find_hit HN.out HY.out (decide_eq_true hyx)]
        have h' : (y.id == x) = true := by simpa using hyx
        clear hyx
        go_wp2_with fail
        go_ret
        exact ⟨rfl, grown_trans HB.out.2.1 HG.out⟩
      · have HN2 := Lib.hid (any_take HN.out HY.out (decide_eq_false hyx))
        have h' : (y.id == x) = false := by simpa using hyx
        clear hyx
        go_wp2_with fail
        exact ⟨⟨k + 1, by omega, congrArg _ (by omega), HN2, by first | rfl | trivial⟩, by simp only [RowKit.intOf]; omega⟩
    · obtain rfl : k = R.length := by omega
      obtain rfl : false = z := by
        rw [← HCZ.out]
        exact (capR_has (any_end HN.out (Nat.le_refl _))).symm
      go_wp2_with fail
      go_ret
      exact ⟨rfl, grown_trans HB.out.2.1 HG.out⟩
set_option maxRecDepth 100000 in
set_option maxHeartbeats 1600000 in
theorem rprice_any (T : Tg) (x y : Int) (q : Nat → Prop) (w : World) (hT : TgOk w q T) :
    Calls Try.prog 75 #[.agg #[.slice T.pR T.R.length T.cR, .slice T.pL T.L.length T.cL], .int .i64 x, .int .i64 y] w fun e w' => e = .returned (.tuple #[.int .i64 (priceV T.L x y).1, .bool (priceV T.L x y).2]) ∧ w.grownBy w' none := by
  obtain ⟨R, L, pR, cR, pL, cL⟩ := T
  have hm1 := Nat.le_trans hT.cr.1 hT.cr.2
  have hm2 := Nat.le_trans hT.cl.1 hT.cl.2
  simp only at hm1 hm2 ⊢
  obtain ⟨k1, k2⟩ := tone_box w #[.slice pR R.length cR, .slice pL L.length cL] 59
  have HB := Lib.hid (And.intro k1 (And.intro k2 (hT.keep k2)))
  clear k1 k2 hT
  obtain ⟨z, hz⟩ : ∃ z, priceV L x y = z := ⟨_, rfl⟩
  rw [hz]
  have HZ := Lib.hid hz
  clear hz
  go_enter Try.func75, Try.ntmps75
  go_upto_region 1 with fail
  generalize w.alloc _ = wa at *
  obtain ⟨c0, c1⟩ := row_cells HB.out.1
  go_wp2_with fail
  go_loopw [8] (fun a wr => ∃ k : Nat, k ≤ L.length ∧ a = .int .i64 (k : Int) ∧ Hid ((L.take k).findSome? (priceB x y) = none) ∧ Hid (wa.grownBy wr none)) (fun a _ => L.length - (RowKit.intOf a).toNat)
  case atStart => exact ⟨0, Nat.zero_le _, rfl, Lib.hid rfl, Lib.hid (grown_refl _ _)⟩
  case round =>
    obtain ⟨k, hk, rfl, HN, G⟩ := hrel
    clear c0 c1
    obtain ⟨c0, c1⟩ := row_cells (kept_row HB.out.1 G.out (by simp))
    by_cases hlt : k < L.length
    · obtain ⟨-, b, off, rfl, -, hc⟩ := rdl_cells (L := L) (HB.out.2.2.keep G.out).l (by omega)
      obtain ⟨m, hm⟩ : ∃ m, L[k]? = some m := ⟨_, List.getElem?_eq_getElem hlt⟩
      obtain ⟨a0, a1, a2, a3, a4⟩ := hc k m hm
      have HM := Lib.hid hm
      have i0 : (0 : Int) ≤ (k : Int) := by omega
      have i1 : (k : Int) < (L.length : Int) := by omega
      have gal := World.grownBy_alloc wr (.cells #[.int .i64 m.a, .int .i64 m.b, .int .i64 m.ca, .int .i64 m.cb, .int .i64 m.cp] 71) none
      have HL := Lib.hid (And.intro (heap_alloc_new wr (.cells #[.int .i64 m.a, .int .i64 m.b, .int .i64 m.ca, .int .i64 m.cb, .int .i64 m.cp] 71)) (grown_trans G.out gal))
      clear hc hm gal
      go_upto_region 5 with fail
      clear a0 a1 a2 a3 a4 c0 c1
      generalize wr.alloc _ = wy at *
      obtain ⟨d0, d1, d2, d3, d4⟩ := lk_facts HL.out.1
      by_cases k1 : m.a = x ∧ m.b = y
      · obtain rfl : (m.ca, true) = z := by
          rw [← HZ.out]; unfold priceV
          rw [some_hit HN.out HM.out (show priceB x y m = some m.ca by unfold priceB; rw [if_pos k1])]
        have e1 : (m.a == x) = true := by simpa using k1.1
        have e2 : (m.b == y) = true := by simpa using k1.2
        clear k1
        go_wp2_with fail
        go_ret2
        exact ⟨rfl, grown_trans HB.out.2.1 HL.out.2⟩
      · by_cases k2 : m.b = x ∧ m.a = y
        · obtain rfl : (m.cb, true) = z := by
            rw [← HZ.out]; unfold priceV
            rw [some_hit HN.out HM.out (show priceB x y m = some m.cb by unfold priceB; rw [if_neg k1, if_pos k2])]
          have e3 : (m.b == x) = true := by simpa using k2.1
          have e4 : (m.a == y) = true := by simpa using k2.2
          have e12 : ((m.a == x) && (m.b == y)) = false := by
            cases h1 : (m.a == x) <;> cases h2 : (m.b == y) <;> simp at h1 h2 ⊢
            exact k1 ⟨h1, h2⟩
          cases h1 : (m.a == x)
          · clear k1 k2 e12
            go_wp2_with fail
            go_ret2
            exact ⟨rfl, grown_trans HB.out.2.1 HL.out.2⟩
          · have h2 : (m.b == y) = false := by rw [h1] at e12; simpa using e12
            clear k1 k2 e12
            go_wp2_with fail
            go_ret2
            exact ⟨rfl, grown_trans HB.out.2.1 HL.out.2⟩
        · have HN2 : Hid ((L.take (k + 1)).findSome? (priceB x y) = none) := Lib.hid (some_take HN.out HM.out (by unfold priceB; rw [if_neg k1, if_neg k2]))
          have G2 := Lib.hid HL.out.2
          have e12 : ((m.a == x) && (m.b == y)) = false := by
            cases h1 : (m.a == x) <;> cases h2 : (m.b == y) <;> simp at h1 h2 ⊢
            exact k1 ⟨h1, h2⟩
          have e34 : ((m.b == x) && (m.a == y)) = false := by
            cases h1 : (m.b == x) <;> cases h2 : (m.a == y) <;> simp at h1 h2 ⊢
            exact k2 ⟨h1, h2⟩
          clear k1 k2
          cases h1 : (m.a == x) <;> cases h3 : (m.b == x)
          · clear e12 e34
            go_wp2_with fail
            exact ⟨⟨k + 1, by omega, congrArg _ (by omega), HN2, G2⟩, by simp only [RowKit.intOf]; omega⟩
          · have h4 : (m.a == y) = false := by rw [h3] at e34; simpa using e34
            clear e12 e34
            go_wp2_with fail
            exact ⟨⟨k + 1, by omega, congrArg _ (by omega), HN2, G2⟩, by simp only [RowKit.intOf]; omega⟩
          · have h2 : (m.b == y) = false := by rw [h1] at e12; simpa using e12
            clear e12 e34
            go_wp2_with fail
            exact ⟨⟨k + 1, by omega, congrArg _ (by omega), HN2, G2⟩, by simp only [RowKit.intOf]; omega⟩
          · have h2 : (m.b == y) = false := by rw [h1] at e12; simpa using e12
            have h4 : (m.a == y) = false := by rw [h3] at e34; simpa using e34
            clear e12 e34
            go_wp2_with fail
            exact ⟨⟨k + 1, by omega, congrArg _ (by omega), HN2, G2⟩, by simp only [RowKit.intOf]; omega⟩
    · obtain rfl : k = L.length := by omega
      obtain rfl : (0, false) = z := by
        rw [← HZ.out]; unfold priceV
        have := HN.out
        rw [List.take_length] at this
        rw [this]
      go_wp2_with fail
      go_ret2
      exact ⟨rfl, grown_trans HB.out.2.1 G.out⟩
set_option maxRecDepth 100000 in
set_option maxHeartbeats 1600000 in
theorem rnear_any (T : Tg) (x : Int) (q : Nat → Prop) (w : World) (hT : TgOk w q T) (h1 : T.R.length ≤ 1000) :
    Calls Try.prog 74 #[.agg #[.slice T.pR T.R.length T.cR, .slice T.pL T.L.length T.cL], .int .i64 x] w fun e w' => TRet (nearR T.R T.L x) w e w' := by
  obtain ⟨R, L, pR, cR, pL, cL⟩ := T
  have hm1 := Nat.le_trans hT.cr.1 hT.cr.2
  have hm2 := Nat.le_trans hT.cl.1 hT.cl.2
  simp only at hm1 hm2 h1 ⊢
  obtain ⟨k1, k2⟩ := tone_box w #[.slice pR R.length cR, .slice pL L.length cL] 59
  have HB := Lib.hid (And.intro k1 (And.intro k2 (hT.keep k2)))
  clear k1 k2 hT
  go_enter Try.func74, Try.ntmps74
  go_upto_region 1 with fail
  generalize w.alloc _ = wa at *
  obtain ⟨c0, c1⟩ := row_cells HB.out.1
  obtain ⟨ii, hii, hi0, hi1, hi2⟩ := info_parts info_int
  have N0 : Hid (NK wa (.slice none 0 0) (nearR (R.take 0) L x) wa) := Lib.hid ⟨World.ownsRow_nil _ _ _ _, grown_refl _ _⟩
  go_wp2_with fail
  go_loopw [5, 6] (fun v a wr => ∃ k : Nat, k ≤ R.length ∧ a = .int .i64 (k : Int) ∧ Hid (NK wa v (nearR (R.take k) L x) wr)) (fun _ a _ => R.length - (RowKit.intOf a).toNat)
  case atStart => exact ⟨0, Nat.zero_le _, rfl, N0⟩
  case round =>
  obtain ⟨k, hk, rfl, N⟩ := hrel
  clear N0 c0 c1
  have HBR := Lib.hid (kept_row HB.out.1 N.out.gr (by simp))
  have HT := Lib.hid (HB.out.2.2.keep N.out.gr)
  by_cases hlt : k < R.length
  · obtain ⟨-, b, off, rfl, -, -⟩ := rdr_cells (R := R) HT.out.r (by omega)
    obtain ⟨m, hm⟩ : ∃ m, R[k]? = some m := ⟨_, List.getElem?_eq_getElem hlt⟩
    have HC : ∀ u, Hid (wr.grownBy u none) → u.cell? ⟨b, off + k * 2, none⟩ = some (.int .i64 m.id) ∧ u.cell? ⟨b, off + k * 2 + 1, none⟩ = some (.bool m.cap) := fun u hu => by
      obtain ⟨-, b', off', e, -, hc⟩ := rdr_cells (R := R) (HT.out.keep hu.out).r (by omega)
      injection e with e
      injection e with e4 e5
      subst e4
      subst e5
      exact hc k m hm
    have HCH := Lib.hid HC
    have i0 : (0 : Int) ≤ (k : Int) := by omega
    have i1 : (k : Int) < (R.length : Int) := by omega
    have hln : (nearR (R.take k) L x).length ≤ 1000 := by
      unfold nearR
      rw [List.length_map]
      exact Nat.le_trans (List.length_filter_le _ _) (Nat.le_trans (List.length_take_le _ _) (by omega))
    have HL0 : Hid (nearR (R.take (k + 1)) L x = nearR (R.take k) L x ++ (if (priceV L x m.id).2 then [m.id] else [])) := Lib.hid (by
      unfold nearR
      rw [filter_snoc hm, List.map_append]
      cases (priceV L x m.id).2 <;> rfl)
    obtain ⟨M, hM⟩ : ∃ M, nearR (R.take k) L x = M := ⟨_, rfl⟩
    rw [hM] at HL0 N hln
    have HL := HL0
    obtain ⟨c0, c1⟩ := row_cells HBR.out
    clear HC hm hM HL0
    go_upto_region 5 with fail
    clear c0 c1
    cases hp : (priceV L x m.id).2
    · have HP := Lib.hid hp
      clear hp
      refine wp_region_held_drew (S := fun w' => Hid (wr.grownBy w' none)) (by kernel_rfl) (Lib.hid (grown_drew (grown_refl _ _))) (fun hHeld => ?_)
      refine wpAnyH_take (i := 0) (oi := { dst := some 17, op := Op.load 59 (Operand.tmp 2), type := 59, pos := "ref.go:114", after := #[], guard := none }) (v := ?_) rfl (by kernel_rfl) (by kernel_rfl) (by kernel_rfl) (fun _ _ _ h => h) (Or.inl ⟨by rfl, ?_⟩) hHeld ?_
      rotate_left 1
      · intro u hSu
        obtain ⟨q0, q1⟩ := row_cells (kept_row HBR.out hSu.out (by simp))
        obtain ⟨q2, q3⟩ := HCH.out _ hSu
        go_simp
        first | done | with_reducible rfl
      (try simp only [Act.put, List.setIfInBounds_toArray, List.set_cons_zero, List.set_cons_succ])
      refine wpAnyH_take (i := 1) (oi := { dst := some 18, op := Op.move (Operand.tmp 1), type := 3, pos := "ref.go:114", after := #[], guard := none }) (v := ?_) rfl (by kernel_rfl) (by kernel_rfl) (by kernel_rfl) (fun _ _ _ h => h) (Or.inl ⟨by rfl, ?_⟩) hHeld ?_
      rotate_left 1
      · intro u hSu
        obtain ⟨q0, q1⟩ := row_cells (kept_row HBR.out hSu.out (by simp))
        obtain ⟨q2, q3⟩ := HCH.out _ hSu
        go_simp
        first | done | with_reducible rfl
      (try simp only [Act.put, List.setIfInBounds_toArray, List.set_cons_zero, List.set_cons_succ])
      refine wpAnyH_take (i := 2) (oi := { dst := some 19, op := Op.fieldAddr 59 (Operand.tmp 2) 0, type := 0, pos := "ref.go:114", after := #[], guard := none }) (v := ?_) rfl (by kernel_rfl) (by kernel_rfl) (by kernel_rfl) (fun _ _ _ h => h) (Or.inl ⟨by rfl, ?_⟩) hHeld ?_
      rotate_left 1
      · intro u hSu
        obtain ⟨q0, q1⟩ := row_cells (kept_row HBR.out hSu.out (by simp))
        obtain ⟨q2, q3⟩ := HCH.out _ hSu
        go_simp
        first | done | with_reducible rfl
      (try simp only [Act.put, List.setIfInBounds_toArray, List.set_cons_zero, List.set_cons_succ])
      refine wpAnyH_take (i := 3) (oi := { dst := some 20, op := Op.load 56 (Operand.tmp 19), type := 56, pos := "ref.go:114", after := #[{ on := 2, ground := Ground.data }], guard := none }) (v := ?_) rfl (by kernel_rfl) (by kernel_rfl) (by kernel_rfl) (fun _ _ _ h => h) (Or.inl ⟨by rfl, ?_⟩) hHeld ?_
      rotate_left 1
      · intro u hSu
        obtain ⟨q0, q1⟩ := row_cells (kept_row HBR.out hSu.out (by simp))
        obtain ⟨q2, q3⟩ := HCH.out _ hSu
        go_simp
        first | done | with_reducible rfl
      (try simp only [Act.put, List.setIfInBounds_toArray, List.set_cons_zero, List.set_cons_succ])
      refine wpAnyH_take (i := 4) (oi := { dst := some 21, op := Op.move (Operand.tmp 6), type := 3, pos := "ref.go:114", after := #[], guard := none }) (v := ?_) rfl (by kernel_rfl) (by kernel_rfl) (by kernel_rfl) (fun _ _ _ h => h) (Or.inl ⟨by rfl, ?_⟩) hHeld ?_
      rotate_left 1
      · intro u hSu
        obtain ⟨q0, q1⟩ := row_cells (kept_row HBR.out hSu.out (by simp))
        obtain ⟨q2, q3⟩ := HCH.out _ hSu
        go_simp
        first | done | with_reducible rfl
      (try simp only [Act.put, List.setIfInBounds_toArray, List.set_cons_zero, List.set_cons_succ])
      refine wpAnyH_take (i := 5) (oi := { dst := some 22, op := Op.indexAddr 56 (Operand.tmp 20) (Operand.tmp 21), type := 0, pos := "ref.go:114", after := #[{ on := 3, ground := Ground.data }, { on := 4, ground := Ground.data }], guard := none }) (v := ?_) rfl (by kernel_rfl) (by kernel_rfl) (by kernel_rfl) (fun _ _ _ h => h) (Or.inl ⟨by rfl, ?_⟩) hHeld ?_
      rotate_left 1
      · intro u hSu
        obtain ⟨q0, q1⟩ := row_cells (kept_row HBR.out hSu.out (by simp))
        obtain ⟨q2, q3⟩ := HCH.out _ hSu
        go_simp
        first | done | with_reducible rfl
      (try simp only [Act.put, List.setIfInBounds_toArray, List.set_cons_zero, List.set_cons_succ])
      refine wpAnyH_take (i := 6) (oi := { dst := some 23, op := Op.fieldAddr 69 (Operand.tmp 22) 0, type := 0, pos := "ref.go:114", after := #[{ on := 5, ground := Ground.data }], guard := none }) (v := ?_) rfl (by kernel_rfl) (by kernel_rfl) (by kernel_rfl) (fun _ _ _ h => h) (Or.inl ⟨by rfl, ?_⟩) hHeld ?_
      rotate_left 1
      · intro u hSu
        obtain ⟨q0, q1⟩ := row_cells (kept_row HBR.out hSu.out (by simp))
        obtain ⟨q2, q3⟩ := HCH.out _ hSu
        go_simp
        first | done | with_reducible rfl
      (try simp only [Act.put, List.setIfInBounds_toArray, List.set_cons_zero, List.set_cons_succ])
      refine wpAnyH_take (i := 7) (oi := { dst := some 24, op := Op.load 3 (Operand.tmp 23), type := 3, pos := "ref.go:114", after := #[{ on := 6, ground := Ground.data }], guard := none }) (v := ?_) rfl (by kernel_rfl) (by kernel_rfl) (by kernel_rfl) (fun _ _ _ h => h) (Or.inl ⟨by rfl, ?_⟩) hHeld ?_
      rotate_left 1
      · intro u hSu
        obtain ⟨q0, q1⟩ := row_cells (kept_row HBR.out hSu.out (by simp))
        obtain ⟨q2, q3⟩ := HCH.out _ hSu
        go_simp
        first | done | with_reducible rfl
      (try simp only [Act.put, List.setIfInBounds_toArray, List.set_cons_zero, List.set_cons_succ])
      refine wpAnyH_ready (rs := [8]) (by kernel_rfl) (by simp) ?_
      refine AllReadyH.cons (o := { dst := some 25, op := Op.call { callee := Callee.value (Operand.func 75), args := #[Operand.tmp 17, Operand.tmp 18, Operand.tmp 24], argTypes := #[59, 3, 3] }, type := 109, pos := "ref.go:114", after := #[{ on := 0, ground := Ground.data }, { on := 1, ground := Ground.data }, { on := 7, ground := Ground.data }], guard := none }) rfl (fun Kz hK => ?_) AllReadyH.nil
      go_simp
      go_at_call 75
      refine (rprice_any ⟨R, L, some ⟨b, off, none⟩, cR, pL, cL⟩ x m.id _ _ (HT.out.keep hHeld.out)).mono ?_
      rintro e w5 ⟨rfl, hg⟩
      simp only
      rw [HP.out]
      refine hK.out _ _ (Lib.hid (grown_trans hHeld.out hg)) (fun hH2 => ?_)
      clear hK Kz hHeld
      have hHeld := hH2
      clear hH2
      (try simp only [Act.put, List.setIfInBounds_toArray, List.set_cons_zero, List.set_cons_succ])
      refine wpAnyH_take (i := 9) (oi := { dst := some 16, op := Op.move (Operand.tmp 25), type := 109, pos := "ref.go:114", after := #[{ on := 8, ground := Ground.data }], guard := none }) (v := ?_) rfl (by kernel_rfl) (by kernel_rfl) (by kernel_rfl) (fun _ _ _ h => h) (Or.inl ⟨by rfl, ?_⟩) hHeld ?_
      rotate_left 1
      · intro u hSu
        obtain ⟨q0, q1⟩ := row_cells (kept_row HBR.out hSu.out (by simp))
        obtain ⟨q2, q3⟩ := HCH.out _ hSu
        go_simp
        first | done | with_reducible rfl
      (try simp only [Act.put, List.setIfInBounds_toArray, List.set_cons_zero, List.set_cons_succ])
      refine wpAnyH_take (i := 10) (oi := { dst := some 26, op := Op.extract (Operand.tmp 16) 0, type := 3, pos := "ref.go:114", after := #[{ on := 9, ground := Ground.data }], guard := none }) (v := ?_) rfl (by kernel_rfl) (by kernel_rfl) (by kernel_rfl) (fun _ _ _ h => h) (Or.inl ⟨by rfl, ?_⟩) hHeld ?_
      rotate_left 1
      · intro u hSu
        obtain ⟨q0, q1⟩ := row_cells (kept_row HBR.out hSu.out (by simp))
        obtain ⟨q2, q3⟩ := HCH.out _ hSu
        go_simp
        first | done | with_reducible rfl
      (try simp only [Act.put, List.setIfInBounds_toArray, List.set_cons_zero, List.set_cons_succ])
      refine wpAnyH_take (i := 11) (oi := { dst := some 27, op := Op.extract (Operand.tmp 16) 1, type := 4, pos := "ref.go:114", after := #[{ on := 9, ground := Ground.data }, { on := 12, ground := Ground.gcOnly Departure.lateStores }], guard := none }) (v := ?_) rfl (by kernel_rfl) (by kernel_rfl) (by kernel_rfl) (fun _ _ _ h => h) (Or.inl ⟨by rfl, ?_⟩) hHeld ?_
      rotate_left 1
      · intro u hSu
        obtain ⟨q0, q1⟩ := row_cells (kept_row HBR.out hSu.out (by simp))
        obtain ⟨q2, q3⟩ := HCH.out _ hSu
        go_simp
        first | done | with_reducible rfl
      (try simp only [Act.put, List.setIfInBounds_toArray, List.set_cons_zero, List.set_cons_succ])
      refine wpAnyH_take (i := 12) (oi := { dst := some 7, op := Op.assign (Operand.tmp 26), type := 3, pos := "ref.go:114", after := #[{ on := 10, ground := Ground.data }, { on := 8, ground := Ground.chain }, { on := 0, ground := Ground.phase }, { on := 1, ground := Ground.phase }, { on := 2, ground := Ground.phase }, { on := 3, ground := Ground.phase }, { on := 4, ground := Ground.phase }, { on := 5, ground := Ground.phase }, { on := 6, ground := Ground.phase }, { on := 7, ground := Ground.phase }, { on := 8, ground := Ground.phase }, { on := 9, ground := Ground.phase }, { on := 10, ground := Ground.phase }, { on := 11, ground := Ground.textOnly Departure.lateStores }], guard := none }) (v := ?_) rfl (by kernel_rfl) (by kernel_rfl) (by kernel_rfl) (fun _ _ _ h => h) (Or.inl ⟨by rfl, ?_⟩) hHeld ?_
      rotate_left 1
      · intro u hSu
        obtain ⟨q0, q1⟩ := row_cells (kept_row HBR.out hSu.out (by simp))
        obtain ⟨q2, q3⟩ := HCH.out _ hSu
        go_simp
        first | done | with_reducible rfl
      (try simp only [Act.put, List.setIfInBounds_toArray, List.set_cons_zero, List.set_cons_succ])
      refine wpAnyH_take (i := 13) (oi := { dst := some 8, op := Op.assign (Operand.tmp 27), type := 4, pos := "ref.go:114", after := #[{ on := 11, ground := Ground.data }, { on := 12, ground := Ground.chain }, { on := 0, ground := Ground.phase }, { on := 1, ground := Ground.phase }, { on := 2, ground := Ground.phase }, { on := 3, ground := Ground.phase }, { on := 4, ground := Ground.phase }, { on := 5, ground := Ground.phase }, { on := 6, ground := Ground.phase }, { on := 7, ground := Ground.phase }, { on := 8, ground := Ground.phase }, { on := 9, ground := Ground.phase }, { on := 10, ground := Ground.phase }, { on := 11, ground := Ground.phase }, { on := 12, ground := Ground.phase }], guard := none }) (v := ?_) rfl (by kernel_rfl) (by kernel_rfl) (by kernel_rfl) (fun _ _ _ h => h) (Or.inl ⟨by rfl, ?_⟩) hHeld ?_
      rotate_left 1
      · intro u hSu
        obtain ⟨q0, q1⟩ := row_cells (kept_row HBR.out hSu.out (by simp))
        obtain ⟨q2, q3⟩ := HCH.out _ hSu
        go_simp
        first | done | with_reducible rfl
      (try simp only [Act.put, List.setIfInBounds_toArray, List.set_cons_zero, List.set_cons_succ])
      refine wpAnyH_done (by kernel_rfl) ?_ _
      have H9 := Lib.hid (N.out.keep hHeld.out)
      clear hHeld
      have HN2 : Hid (NK wa _ (nearR (R.take (k + 1)) L x) w5) := Lib.hid (by rw [HL.out, HP.out]; show NK wa _ (M ++ []) w5; rw [List.append_nil]; exact H9.out)
      go_wp2_with fail
      exact ⟨⟨k + 1, by omega, congrArg _ (by omega), HN2⟩, by simp only [RowKit.intOf]; omega⟩
    · have HP := Lib.hid hp
      clear hp
      refine wp_region_held_drew (S := fun w' => Hid (wr.grownBy w' none)) (by kernel_rfl) (Lib.hid (grown_drew (grown_refl _ _))) (fun hHeld => ?_)
      refine wpAnyH_take (i := 0) (oi := { dst := some 17, op := Op.load 59 (Operand.tmp 2), type := 59, pos := "ref.go:114", after := #[], guard := none }) (v := ?_) rfl (by kernel_rfl) (by kernel_rfl) (by kernel_rfl) (fun _ _ _ h => h) (Or.inl ⟨by rfl, ?_⟩) hHeld ?_
      rotate_left 1
      · intro u hSu
        obtain ⟨q0, q1⟩ := row_cells (kept_row HBR.out hSu.out (by simp))
        obtain ⟨q2, q3⟩ := HCH.out _ hSu
        go_simp
        first | done | with_reducible rfl
      (try simp only [Act.put, List.setIfInBounds_toArray, List.set_cons_zero, List.set_cons_succ])
      refine wpAnyH_take (i := 1) (oi := { dst := some 18, op := Op.move (Operand.tmp 1), type := 3, pos := "ref.go:114", after := #[], guard := none }) (v := ?_) rfl (by kernel_rfl) (by kernel_rfl) (by kernel_rfl) (fun _ _ _ h => h) (Or.inl ⟨by rfl, ?_⟩) hHeld ?_
      rotate_left 1
      · intro u hSu
        obtain ⟨q0, q1⟩ := row_cells (kept_row HBR.out hSu.out (by simp))
        obtain ⟨q2, q3⟩ := HCH.out _ hSu
        go_simp
        first | done | with_reducible rfl
      (try simp only [Act.put, List.setIfInBounds_toArray, List.set_cons_zero, List.set_cons_succ])
      refine wpAnyH_take (i := 2) (oi := { dst := some 19, op := Op.fieldAddr 59 (Operand.tmp 2) 0, type := 0, pos := "ref.go:114", after := #[], guard := none }) (v := ?_) rfl (by kernel_rfl) (by kernel_rfl) (by kernel_rfl) (fun _ _ _ h => h) (Or.inl ⟨by rfl, ?_⟩) hHeld ?_
      rotate_left 1
      · intro u hSu
        obtain ⟨q0, q1⟩ := row_cells (kept_row HBR.out hSu.out (by simp))
        obtain ⟨q2, q3⟩ := HCH.out _ hSu
        go_simp
        first | done | with_reducible rfl
      (try simp only [Act.put, List.setIfInBounds_toArray, List.set_cons_zero, List.set_cons_succ])
      refine wpAnyH_take (i := 3) (oi := { dst := some 20, op := Op.load 56 (Operand.tmp 19), type := 56, pos := "ref.go:114", after := #[{ on := 2, ground := Ground.data }], guard := none }) (v := ?_) rfl (by kernel_rfl) (by kernel_rfl) (by kernel_rfl) (fun _ _ _ h => h) (Or.inl ⟨by rfl, ?_⟩) hHeld ?_
      rotate_left 1
      · intro u hSu
        obtain ⟨q0, q1⟩ := row_cells (kept_row HBR.out hSu.out (by simp))
        obtain ⟨q2, q3⟩ := HCH.out _ hSu
        go_simp
        first | done | with_reducible rfl
      (try simp only [Act.put, List.setIfInBounds_toArray, List.set_cons_zero, List.set_cons_succ])
      refine wpAnyH_take (i := 4) (oi := { dst := some 21, op := Op.move (Operand.tmp 6), type := 3, pos := "ref.go:114", after := #[], guard := none }) (v := ?_) rfl (by kernel_rfl) (by kernel_rfl) (by kernel_rfl) (fun _ _ _ h => h) (Or.inl ⟨by rfl, ?_⟩) hHeld ?_
      rotate_left 1
      · intro u hSu
        obtain ⟨q0, q1⟩ := row_cells (kept_row HBR.out hSu.out (by simp))
        obtain ⟨q2, q3⟩ := HCH.out _ hSu
        go_simp
        first | done | with_reducible rfl
      (try simp only [Act.put, List.setIfInBounds_toArray, List.set_cons_zero, List.set_cons_succ])
      refine wpAnyH_take (i := 5) (oi := { dst := some 22, op := Op.indexAddr 56 (Operand.tmp 20) (Operand.tmp 21), type := 0, pos := "ref.go:114", after := #[{ on := 3, ground := Ground.data }, { on := 4, ground := Ground.data }], guard := none }) (v := ?_) rfl (by kernel_rfl) (by kernel_rfl) (by kernel_rfl) (fun _ _ _ h => h) (Or.inl ⟨by rfl, ?_⟩) hHeld ?_
      rotate_left 1
      · intro u hSu
        obtain ⟨q0, q1⟩ := row_cells (kept_row HBR.out hSu.out (by simp))
        obtain ⟨q2, q3⟩ := HCH.out _ hSu
        go_simp
        first | done | with_reducible rfl
      (try simp only [Act.put, List.setIfInBounds_toArray, List.set_cons_zero, List.set_cons_succ])
      refine wpAnyH_take (i := 6) (oi := { dst := some 23, op := Op.fieldAddr 69 (Operand.tmp 22) 0, type := 0, pos := "ref.go:114", after := #[{ on := 5, ground := Ground.data }], guard := none }) (v := ?_) rfl (by kernel_rfl) (by kernel_rfl) (by kernel_rfl) (fun _ _ _ h => h) (Or.inl ⟨by rfl, ?_⟩) hHeld ?_
      rotate_left 1
      · intro u hSu
        obtain ⟨q0, q1⟩ := row_cells (kept_row HBR.out hSu.out (by simp))
        obtain ⟨q2, q3⟩ := HCH.out _ hSu
        go_simp
        first | done | with_reducible rfl
      (try simp only [Act.put, List.setIfInBounds_toArray, List.set_cons_zero, List.set_cons_succ])
      refine wpAnyH_take (i := 7) (oi := { dst := some 24, op := Op.load 3 (Operand.tmp 23), type := 3, pos := "ref.go:114", after := #[{ on := 6, ground := Ground.data }], guard := none }) (v := ?_) rfl (by kernel_rfl) (by kernel_rfl) (by kernel_rfl) (fun _ _ _ h => h) (Or.inl ⟨by rfl, ?_⟩) hHeld ?_
      rotate_left 1
      · intro u hSu
        obtain ⟨q0, q1⟩ := row_cells (kept_row HBR.out hSu.out (by simp))
        obtain ⟨q2, q3⟩ := HCH.out _ hSu
        go_simp
        first | done | with_reducible rfl
      (try simp only [Act.put, List.setIfInBounds_toArray, List.set_cons_zero, List.set_cons_succ])
      refine wpAnyH_ready (rs := [8]) (by kernel_rfl) (by simp) ?_
      refine AllReadyH.cons (o := { dst := some 25, op := Op.call { callee := Callee.value (Operand.func 75), args := #[Operand.tmp 17, Operand.tmp 18, Operand.tmp 24], argTypes := #[59, 3, 3] }, type := 109, pos := "ref.go:114", after := #[{ on := 0, ground := Ground.data }, { on := 1, ground := Ground.data }, { on := 7, ground := Ground.data }], guard := none }) rfl (fun Kz hK => ?_) AllReadyH.nil
      go_simp
      go_at_call 75
      refine (rprice_any ⟨R, L, some ⟨b, off, none⟩, cR, pL, cL⟩ x m.id _ _ (HT.out.keep hHeld.out)).mono ?_
      rintro e w5 ⟨rfl, hg⟩
      simp only
      rw [HP.out]
      refine hK.out _ _ (Lib.hid (grown_trans hHeld.out hg)) (fun hH2 => ?_)
      clear hK Kz hHeld
      have hHeld := hH2
      clear hH2
      (try simp only [Act.put, List.setIfInBounds_toArray, List.set_cons_zero, List.set_cons_succ])
      refine wpAnyH_take (i := 9) (oi := { dst := some 16, op := Op.move (Operand.tmp 25), type := 109, pos := "ref.go:114", after := #[{ on := 8, ground := Ground.data }], guard := none }) (v := ?_) rfl (by kernel_rfl) (by kernel_rfl) (by kernel_rfl) (fun _ _ _ h => h) (Or.inl ⟨by rfl, ?_⟩) hHeld ?_
      rotate_left 1
      · intro u hSu
        obtain ⟨q0, q1⟩ := row_cells (kept_row HBR.out hSu.out (by simp))
        obtain ⟨q2, q3⟩ := HCH.out _ hSu
        go_simp
        first | done | with_reducible rfl
      (try simp only [Act.put, List.setIfInBounds_toArray, List.set_cons_zero, List.set_cons_succ])
      refine wpAnyH_take (i := 10) (oi := { dst := some 26, op := Op.extract (Operand.tmp 16) 0, type := 3, pos := "ref.go:114", after := #[{ on := 9, ground := Ground.data }], guard := none }) (v := ?_) rfl (by kernel_rfl) (by kernel_rfl) (by kernel_rfl) (fun _ _ _ h => h) (Or.inl ⟨by rfl, ?_⟩) hHeld ?_
      rotate_left 1
      · intro u hSu
        obtain ⟨q0, q1⟩ := row_cells (kept_row HBR.out hSu.out (by simp))
        obtain ⟨q2, q3⟩ := HCH.out _ hSu
        go_simp
        first | done | with_reducible rfl
      (try simp only [Act.put, List.setIfInBounds_toArray, List.set_cons_zero, List.set_cons_succ])
      refine wpAnyH_take (i := 11) (oi := { dst := some 27, op := Op.extract (Operand.tmp 16) 1, type := 4, pos := "ref.go:114", after := #[{ on := 9, ground := Ground.data }, { on := 12, ground := Ground.gcOnly Departure.lateStores }], guard := none }) (v := ?_) rfl (by kernel_rfl) (by kernel_rfl) (by kernel_rfl) (fun _ _ _ h => h) (Or.inl ⟨by rfl, ?_⟩) hHeld ?_
      rotate_left 1
      · intro u hSu
        obtain ⟨q0, q1⟩ := row_cells (kept_row HBR.out hSu.out (by simp))
        obtain ⟨q2, q3⟩ := HCH.out _ hSu
        go_simp
        first | done | with_reducible rfl
      (try simp only [Act.put, List.setIfInBounds_toArray, List.set_cons_zero, List.set_cons_succ])
      refine wpAnyH_take (i := 12) (oi := { dst := some 7, op := Op.assign (Operand.tmp 26), type := 3, pos := "ref.go:114", after := #[{ on := 10, ground := Ground.data }, { on := 8, ground := Ground.chain }, { on := 0, ground := Ground.phase }, { on := 1, ground := Ground.phase }, { on := 2, ground := Ground.phase }, { on := 3, ground := Ground.phase }, { on := 4, ground := Ground.phase }, { on := 5, ground := Ground.phase }, { on := 6, ground := Ground.phase }, { on := 7, ground := Ground.phase }, { on := 8, ground := Ground.phase }, { on := 9, ground := Ground.phase }, { on := 10, ground := Ground.phase }, { on := 11, ground := Ground.textOnly Departure.lateStores }], guard := none }) (v := ?_) rfl (by kernel_rfl) (by kernel_rfl) (by kernel_rfl) (fun _ _ _ h => h) (Or.inl ⟨by rfl, ?_⟩) hHeld ?_
      rotate_left 1
      · intro u hSu
        obtain ⟨q0, q1⟩ := row_cells (kept_row HBR.out hSu.out (by simp))
        obtain ⟨q2, q3⟩ := HCH.out _ hSu
        go_simp
        first | done | with_reducible rfl
      (try simp only [Act.put, List.setIfInBounds_toArray, List.set_cons_zero, List.set_cons_succ])
      refine wpAnyH_take (i := 13) (oi := { dst := some 8, op := Op.assign (Operand.tmp 27), type := 4, pos := "ref.go:114", after := #[{ on := 11, ground := Ground.data }, { on := 12, ground := Ground.chain }, { on := 0, ground := Ground.phase }, { on := 1, ground := Ground.phase }, { on := 2, ground := Ground.phase }, { on := 3, ground := Ground.phase }, { on := 4, ground := Ground.phase }, { on := 5, ground := Ground.phase }, { on := 6, ground := Ground.phase }, { on := 7, ground := Ground.phase }, { on := 8, ground := Ground.phase }, { on := 9, ground := Ground.phase }, { on := 10, ground := Ground.phase }, { on := 11, ground := Ground.phase }, { on := 12, ground := Ground.phase }], guard := none }) (v := ?_) rfl (by kernel_rfl) (by kernel_rfl) (by kernel_rfl) (fun _ _ _ h => h) (Or.inl ⟨by rfl, ?_⟩) hHeld ?_
      rotate_left 1
      · intro u hSu
        obtain ⟨q0, q1⟩ := row_cells (kept_row HBR.out hSu.out (by simp))
        obtain ⟨q2, q3⟩ := HCH.out _ hSu
        go_simp
        first | done | with_reducible rfl
      (try simp only [Act.put, List.setIfInBounds_toArray, List.set_cons_zero, List.set_cons_succ])
      refine wpAnyH_done (by kernel_rfl) ?_ _
      have H9 := Lib.hid (N.out.keep hHeld.out)
      obtain ⟨c2, c3⟩ := row_cells (kept_row HBR.out hHeld.out (by simp))
      obtain ⟨a2, a3⟩ := HCH.out _ hHeld
      have hsz := H9.out.gr.size
      have hown := H9.out.own
      clear hHeld
      go_wp2_with (at_builtin; refine hold_on ?_)
      refine Lib.hid ?_
      refine wpList_append_own _ rfl _ _ 22 rfl wa.heap.size 3 ii (.int .i64 0) 1 8 Try.underlying22 hii hi0 hi1 hi2 rfl (by decide) _ _ _ rfl (hown.alloc _) ⟨w5.heap.size, 0, none⟩ 1 1 [.int .i64 m.id] rfl rfl (cell_one _ _ _) (by intro u hu; simp at hu; subst hu; rfl) (by unfold maxLen; omega) (by omega) (by simp; omega) ?_
      intro v' w6 hown' hg _
      have hn := (H9.out.more (grown_refl _ none) hown' hg).1
      have HN2 : Hid (NK wa v' (nearR (R.take (k + 1)) L x) w6) := Lib.hid (by rw [HL.out, HP.out]; exact hn)
      clear hown' hg hn hown H9 c2 c3 a2 a3
      go_wp2_with fail
      exact ⟨⟨k + 1, by omega, congrArg _ (by omega), HN2⟩, by simp only [RowKit.intOf]; omega⟩
  · obtain rfl : k = R.length := by omega
    rw [List.take_length] at N
    obtain ⟨p, c, rfl, hR, hlen, hp, hg⟩ := N.out.ret
    have HR := Lib.hid (And.intro hR (And.intro hlen (And.intro hp hg)))
    obtain ⟨c0, c1⟩ := row_cells HBR.out
    clear hR hlen hp hg N
    go_wp2_with fail
    go_ret
    exact ⟨p, c, rfl, HR.out.1.mono (fun b hb => Nat.le_trans HB.out.2.1.size hb), HR.out.2.1, HR.out.2.2.1, grown_trans HB.out.2.1 HR.out.2.2.2⟩
end Go.Proofs.Ytnpkihioklpnmaa

/- The reference: when the claims of an advert are valid, and when an advert is. -/
namespace Go.Proofs.Ytnpkihioklpnmaa
open Go.RowKit Bs
set_option maxRecDepth 100000 in
theorem rin_any (n lo hi : Int) (w : World) :
    Calls Try.prog 82 #[.int .i64 n, .int .i64 lo, .int .i64 hi] w fun e w' => e = .returned (.bool (decide (lo ≤ n ∧ n ≤ hi))) ∧ w = w' := by
  by_cases h1 : lo ≤ n
  · by_cases h2 : n ≤ hi
    · rw [decide_eq_true (show lo ≤ n ∧ n ≤ hi from ⟨h1, h2⟩)]
      go_enter Try.func82, Try.ntmps82
      go_wp2_with fail
      go_ret
      exact ⟨rfl, rfl⟩
    · rw [decide_eq_false (show ¬ (lo ≤ n ∧ n ≤ hi) from fun h => h2 h.2)]
      go_enter Try.func82, Try.ntmps82
      go_wp2_with fail
      go_ret
      exact ⟨rfl, rfl⟩
  · rw [decide_eq_false (show ¬ (lo ≤ n ∧ n ≤ hi) from fun h => h1 h.1)]
    go_enter Try.func82, Try.ntmps82
    go_wp2_with fail
    go_ret
    exact ⟨rfl, rfl⟩
set_option maxRecDepth 100000 in
theorem rin_lit (n lo hi : Int) (b : Bool) (h : decide (lo ≤ n ∧ n ≤ hi) = b) (w : World) :
    Calls Try.prog 82 #[.int .i64 n, .int .i64 lo, .int .i64 hi] w fun e w' => e = .returned (.bool b) ∧ w = w' := by
  rw [← h]; exact rin_any n lo hi w
set_option maxRecDepth 100000 in
theorem vlr_lit (n : Int) (b : Bool) (h : vl n = b) (w : World) :
    Calls Try.prog 110 #[.int .i64 n] w fun e w' => e = .returned (.bool b) ∧ w = w' := by
  rw [← h]; exact vlr_any n w
set_option maxRecDepth 100000 in
set_option maxHeartbeats 6400000 in
theorem rvc_any (L : List T3) (p : Option Addr) (c : Nat) (q : Nat → Prop) (w : World) (hR : Rd3 w q (.slice p L.length c) L) (hm : L.length ≤ 9223372036854775807) :
    Calls Try.prog 83 #[.slice p L.length c] w fun e w' => e = .returned (.bool (vClaims L)) ∧ w.grownBy w' none := by
  have HR := Lib.hid hR
  clear hR
  by_cases h8 : 8 < L.length
  · have hX : vClaims L = false := by unfold vClaims; rw [decide_eq_false (by omega)]; rfl
    rw [hX]
    clear hX
    go_enter Try.func83, Try.ntmps83
    go_wp2_with fail
    go_ret
    exact ⟨rfl, grown_refl _ _⟩
  · obtain ⟨X, hX⟩ : ∃ X, vClaims L = X := ⟨_, rfl⟩
    rw [hX]
    have I0 : Hid (vCm (lastA (-1) L 0) (L.drop 0) = X ∧ -1 ≤ lastA (-1) L 0) := Lib.hid (by
      rw [lastA_zero]
      refine ⟨?_, by omega⟩
      unfold vClaims at hX
      rw [decide_eq_true (by omega)] at hX
      exact hX)
    have G0 : Hid (w.grownBy w none) := Lib.hid (grown_refl _ _)
    clear hX
    go_enter Try.func83, Try.ntmps83
    go_wp2_with fail
    go_loopw [3] (fun a wr => ∃ k : Nat, k ≤ L.length ∧ a = .int .i64 (k : Int) ∧ Hid (vCm (lastA (-1) L k) (L.drop k) = X ∧ -1 ≤ lastA (-1) L k) ∧ Hid (w.grownBy wr none)) (fun a _ => L.length - (RowKit.intOf a).toNat)
    case atStart => exact ⟨0, Nat.zero_le _, rfl, I0, G0⟩
    case round =>
      obtain ⟨k, hk, rfl, HI, HG⟩ := hrel
      clear I0 G0
      by_cases hlt : k < L.length
      · have hlti : (k : Int) < (L.length : Int) := by omega
        obtain ⟨-, b, off, rfl, -, -⟩ := rd3_cells HR.out (by omega)
        obtain ⟨x, hx⟩ : ∃ x, L[k]? = some x := ⟨_, List.getElem?_eq_getElem hlt⟩
        have HXX := Lib.hid hx
        have HS := Lib.hid (HI.out.1.symm.trans (vCm_step (d := -1) hx))
        have HLA := Lib.hid (lastA_succ (d := -1) hx)
        have hlo := HI.out.2
        obtain ⟨t, ht⟩ : ∃ t, lastA (-1) L k = t := ⟨_, rfl⟩
        rw [ht] at HS hlo
        have HTT := Lib.hid ht
        obtain ⟨v1, hv1⟩ : ∃ v1, decide ((0 : Int) ≤ x.a ∧ x.a ≤ 7) = v1 := ⟨_, rfl⟩
        obtain ⟨v2, hv2⟩ : ∃ v2, decide ((1 : Int) ≤ x.b ∧ x.b ≤ 256) = v2 := ⟨_, rfl⟩
        obtain ⟨v3, hv3⟩ : ∃ v3, decide (x.c = 8 ∨ x.c = 16 ∨ x.c = 32 ∨ x.c = 64) = v3 := ⟨_, rfl⟩
        have HV1 := Lib.hid hv1
        have HV2 := Lib.hid hv2
        have HV3 : Hid (vl x.c = v3) := Lib.hid (by rw [← hv3]; exact vl_dec x.c)
        have HO : Hid (okCm t x = (v1 && (v2 && (v3 && decide (t < x.a))))) := Lib.hid (by
          rw [← hv1, ← hv2, ← hv3, ← Bool.decide_and, ← Bool.decide_and, ← Bool.decide_and]
          unfold okCm
          exact decide_eq_decide.2 ⟨fun h => ⟨⟨by omega, h.2.1⟩, h.2.2.1, h.2.2.2, h.1⟩, fun h => ⟨h.2.2.2, h.1.2, h.2.1, h.2.2.1⟩⟩)
        clear hx ht hv1 hv2 hv3 HI
        obtain ⟨a0, a1, a2⟩ := rd3_at (HR.out.keep HG.out) HXX.out
        cases v1 with
        | false =>
          have hX : X = false := by rw [HS.out, HO.out]; rfl
          subst hX
          go_wp2_with fail
          go_big_quiet ((first | (go_at_call 82; first | with_reducible exact qt1 (rin_lit x.a 0 7 _ HV1.out _) | with_reducible exact qt1 (rin_lit x.b 1 256 _ HV2.out _)) | (go_at_call 110; first | with_reducible exact qt1 (vlr_lit x.c _ HV3.out _))))
          go_wp2_with fail
          go_ret
          exact ⟨rfl, grown_trans HG.out (grown_drewN _ _ _)⟩
        | true =>
        cases v2 with
        | false =>
          have hX : X = false := by rw [HS.out, HO.out]; rfl
          subst hX
          go_wp2_with fail
          go_big_quiet ((first | (go_at_call 82; first | with_reducible exact qt1 (rin_lit x.a 0 7 _ HV1.out _) | with_reducible exact qt1 (rin_lit x.b 1 256 _ HV2.out _)) | (go_at_call 110; first | with_reducible exact qt1 (vlr_lit x.c _ HV3.out _))))
          go_wp2_with fail
          go_ret
          exact ⟨rfl, grown_trans HG.out (grown_drewN _ _ _)⟩
        | true =>
        cases v3 with
        | false =>
          have hX : X = false := by rw [HS.out, HO.out]; rfl
          subst hX
          go_wp2_with fail
          go_big_quiet ((first | (go_at_call 82; first | with_reducible exact qt1 (rin_lit x.a 0 7 _ HV1.out _) | with_reducible exact qt1 (rin_lit x.b 1 256 _ HV2.out _)) | (go_at_call 110; first | with_reducible exact qt1 (vlr_lit x.c _ HV3.out _))))
          go_wp2_with fail
          go_ret
          exact ⟨rfl, grown_trans HG.out (grown_drewN _ _ _)⟩
        | true =>
        have hxa : 0 ≤ x.a ∧ x.a ≤ 7 := of_decide_eq_true HV1.out
        by_cases hk0 : k = 0
        · have ht0 : t = -1 := by rw [← HTT.out, hk0, lastA_zero]
          have hta : t < x.a := by omega
          have hkb : decide (0 < k) = false := decide_eq_false (by omega)
          clear hk0
          have HN : Hid (vCm (lastA (-1) L (k + 1)) (L.drop (k + 1)) = X ∧ -1 ≤ lastA (-1) L (k + 1)) := Lib.hid ⟨by rw [HS.out, HO.out, decide_eq_true hta]; rfl, by rw [HLA.out]; omega⟩
          go_wp2_with fail
          go_big_quiet ((first | (go_at_call 82; first | with_reducible exact qt1 (rin_lit x.a 0 7 _ HV1.out _) | with_reducible exact qt1 (rin_lit x.b 1 256 _ HV2.out _)) | (go_at_call 110; first | with_reducible exact qt1 (vlr_lit x.c _ HV3.out _))))
          go_wp2_with fail
          exact ⟨⟨k + 1, by omega, congrArg _ (by omega), HN, Lib.hid (grown_trans HG.out (grown_drewN _ _ _))⟩, by simp only [RowKit.intOf]; omega⟩
        · obtain ⟨j, rfl⟩ : ∃ j, k = j + 1 := ⟨k - 1, by omega⟩
          obtain ⟨y, hy⟩ : ∃ y, L[j]? = some y := ⟨_, List.getElem?_eq_getElem (by omega)⟩
          have hty : t = y.a := by rw [← HTT.out, lastA_succ hy]
          obtain ⟨z0, z1, z2⟩ := rd3_at (HR.out.keep HG.out) hy
          have hjp : (0 : Int) < ((j + 1 : Nat) : Int) := by omega
          have hjl : (j : Int) < (L.length : Int) := by omega
          have hj2 : ((j + 1 : Nat) : Int) - 1 = (j : Int) := by omega
          clear hy
          by_cases hta : t < x.a
          · have hc1 : ¬ x.a ≤ y.a := by omega
            have hc2 : decide (x.a ≤ y.a) = false := decide_eq_false hc1
            have HN : Hid (vCm (lastA (-1) L (j + 1 + 1)) (L.drop (j + 1 + 1)) = X ∧ -1 ≤ lastA (-1) L (j + 1 + 1)) := Lib.hid ⟨by rw [HS.out, HO.out, decide_eq_true hta]; rfl, by rw [HLA.out]; omega⟩
            go_wp2_with fail
            go_big_quiet ((first | (go_at_call 82; first | with_reducible exact qt1 (rin_lit x.a 0 7 _ HV1.out _) | with_reducible exact qt1 (rin_lit x.b 1 256 _ HV2.out _)) | (go_at_call 110; first | with_reducible exact qt1 (vlr_lit x.c _ HV3.out _))))
            go_wp2_with fail
            exact ⟨⟨j + 1 + 1, by omega, congrArg _ (by omega), HN, Lib.hid (grown_trans HG.out (grown_drewN _ _ _))⟩, by simp only [RowKit.intOf]; omega⟩
          · have hc1 : x.a ≤ y.a := by omega
            have hc2 : decide (x.a ≤ y.a) = true := decide_eq_true hc1
            have hX : X = false := by rw [HS.out, HO.out, decide_eq_false hta]; rfl
            subst hX
            go_wp2_with fail
            go_big_quiet ((first | (go_at_call 82; first | with_reducible exact qt1 (rin_lit x.a 0 7 _ HV1.out _) | with_reducible exact qt1 (rin_lit x.b 1 256 _ HV2.out _)) | (go_at_call 110; first | with_reducible exact qt1 (vlr_lit x.c _ HV3.out _))))
            go_wp2_with fail
            go_ret
            exact ⟨rfl, grown_trans HG.out (grown_drewN _ _ _)⟩
      · obtain rfl : k = L.length := by omega
        obtain rfl : X = true := by rw [← HI.out.1]; exact vCm_end
        go_wp2_with fail
        go_ret
        exact ⟨rfl, HG.out⟩
set_option maxRecDepth 100000 in
set_option maxHeartbeats 6400000 in
theorem rvalidA_any (A : Ad) (q : Nat → Prop) (w : World) (hA : AdOk w q A) :
    Calls Try.prog 51 #[A.val] w fun e w' => e = .returned (.bool (vAd A)) ∧ w.grownBy w' none := by
  have hm1 := Nat.le_trans hA.hl.1 hA.hl.2
  have hm2 := Nat.le_trans hA.hc.1 hA.hc.2
  obtain ⟨X, hX⟩ : ∃ X, vAd A = X := ⟨_, rfl⟩
  rw [hX]
  obtain ⟨r, q2, cp, L, C, pL, cL, pC, cC⟩ := A
  have hb := heap_alloc_new w (.cells #[.int .i64 r, .int .i64 q2, .bool cp, .slice pL L.length cL, .slice pC C.length cC] 38)
  have hg := World.grownBy_alloc w (.cells #[.int .i64 r, .int .i64 q2, .bool cp, .slice pL L.length cL, .slice pC C.length cC] 38) none
  have HL : Hid (Rd3 _ q (.slice pL L.length cL) L) := Lib.hid (hA.l.keep hg)
  have HC : Hid (Rd3 _ q (.slice pC C.length cC) C) := Lib.hid (hA.c.keep hg)
  have HB := Lib.hid (And.intro hb hg)
  simp only at hm1 hm2
  obtain ⟨v1, hv1⟩ : ∃ v1, decide ((1 : Int) ≤ r ∧ r ≤ 99) = v1 := ⟨_, rfl⟩
  obtain ⟨v2, hv2⟩ : ∃ v2, decide ((1 : Int) ≤ q2 ∧ q2 ≤ 1000000) = v2 := ⟨_, rfl⟩
  have HV1 := Lib.hid hv1
  have HV2 := Lib.hid hv2
  have HX : Hid (X = (v1 && (v2 && (decide (L.length ≤ 23) && (vRe r 0 L && vClaims C))))) := Lib.hid (by
    rw [← hX, ← hv1, ← hv2]
    unfold vAd vHd
    simp only [Bool.decide_and, Bool.and_assoc])
  clear hX hb hg hA hv1 hv2
  unfold Ad.val
  go_enter Try.func51, Try.ntmps51
  go_upto_region 1 with fail
  generalize w.alloc _ = wa at *
  obtain ⟨c0, c1, c2, c3, c4⟩ := row5 HB.out.1
  go_wp2_with fail
  refine (rin_lit r 1 99 _ HV1.out _).mono ?_
  rintro e w' ⟨rfl, rfl⟩
  cases v1 with
  | false =>
    obtain rfl : X = false := by rw [HX.out]; rfl
    go_wp2_with fail
    go_ret
    exact ⟨rfl, HB.out.2⟩
  | true =>
  go_wp2_with fail
  refine (rin_lit q2 1 1000000 _ HV2.out _).mono ?_
  rintro e w' ⟨rfl, rfl⟩
  cases v2 with
  | false =>
    obtain rfl : X = false := by rw [HX.out]; rfl
    go_wp2_with fail
    go_ret
    exact ⟨rfl, HB.out.2⟩
  | true =>
  by_cases h23 : 23 < L.length
  · obtain rfl : X = false := by rw [HX.out, decide_eq_false (show ¬ L.length ≤ 23 by omega)]; rfl
    go_wp2_with fail
    go_ret
    exact ⟨rfl, HB.out.2⟩
  obtain ⟨Y, hY⟩ : ∃ Y, vRe r 0 L = Y := ⟨_, rfl⟩
  have HXY : Hid (X = (Y && vClaims C)) := Lib.hid (by rw [HX.out, hY, decide_eq_true (show L.length ≤ 23 by omega)]; rfl)
  have I0 : Hid (vRe r (lastA 0 L 0) (L.drop 0) = Y ∧ 0 ≤ lastA 0 L 0) := Lib.hid (by rw [lastA_zero]; exact ⟨hY, by omega⟩)
  have G0 : Hid (wa.grownBy wa none) := Lib.hid (grown_refl _ _)
  clear hY HX
  go_wp2_with fail
  go_loopw [3] (fun a wr => ∃ k : Nat, k ≤ L.length ∧ a = .int .i64 (k : Int) ∧ Hid (vRe r (lastA 0 L k) (L.drop k) = Y ∧ 0 ≤ lastA 0 L k) ∧ Hid (wa.grownBy wr none)) (fun a _ => L.length - (RowKit.intOf a).toNat)
  case atStart => exact ⟨0, Nat.zero_le _, rfl, I0, G0⟩
  case round =>
    obtain ⟨k, hk, rfl, HI, HG⟩ := hrel
    clear I0 G0 c0 c1 c2 c3 c4
    obtain ⟨c0, c1, c2, c3, c4⟩ := row5 (kept_row HB.out.1 HG.out (by simp))
    by_cases hlt : k < L.length
    · have hlti : (k : Int) < (L.length : Int) := by omega
      obtain ⟨-, b, off, rfl, -, -⟩ := rd3_cells HL.out (by omega)
      obtain ⟨x, hx⟩ : ∃ x, L[k]? = some x := ⟨_, List.getElem?_eq_getElem hlt⟩
      obtain ⟨a0, a1, a2⟩ := rd3_at (HL.out.keep HG.out) hx
      have HS := Lib.hid (HI.out.1.symm.trans (vRe_step (r := r) (d := 0) hx))
      have HLA := Lib.hid (lastA_succ (d := 0) hx)
      have hlo := HI.out.2
      obtain ⟨t, ht⟩ : ∃ t, lastA 0 L k = t := ⟨_, rfl⟩
      rw [ht] at HS hlo
      have HTT := Lib.hid ht
      obtain ⟨v1, hv1⟩ : ∃ v1, decide ((1 : Int) ≤ x.a ∧ x.a ≤ 99) = v1 := ⟨_, rfl⟩
      obtain ⟨v2, hv2⟩ : ∃ v2, decide (x.a = r) = v2 := ⟨_, rfl⟩
      obtain ⟨v3, hv3⟩ : ∃ v3, decide ((1 : Int) ≤ x.b ∧ x.b ≤ 1000) = v3 := ⟨_, rfl⟩
      obtain ⟨v4, hv4⟩ : ∃ v4, decide ((0 : Int) ≤ x.c ∧ x.c ≤ 1000) = v4 := ⟨_, rfl⟩
      have HV1 := Lib.hid hv1
      have HV3 := Lib.hid hv3
      have HV4 := Lib.hid hv4
      have HO : Hid (okRe r t x = (v1 && (!v2 && (v3 && (v4 && decide (t < x.a)))))) := Lib.hid (by
        rw [← hv1, ← hv2, ← hv3, ← hv4]
        unfold okRe
        rw [Bool.eq_iff_iff]
        simp only [Bool.and_eq_true, Bool.not_eq_true', decide_eq_true_eq, decide_eq_false_iff_not]
        exact ⟨fun h => ⟨⟨by omega, h.2.1⟩, h.2.2.1, h.2.2.2.1, h.2.2.2.2, h.1⟩, fun h => ⟨h.2.2.2.2, h.1.2, h.2.1, h.2.2.1, h.2.2.2.1⟩⟩)
      have HEQ : Hid ((x.a == r) = v2 ∧ (x.a != r) = !v2) := Lib.hid (by rw [← hv2]; exact ⟨rfl, rfl⟩)
      have HBX := Lib.hid (heap_alloc_new wr (.cells #[.int .i64 x.a, .int .i64 x.b, .int .i64 x.c] 73))
      have HGA := Lib.hid (World.grownBy_alloc wr (.cells #[.int .i64 x.a, .int .i64 x.b, .int .i64 x.c] 73) none)
      have HXX := Lib.hid hx
      clear hx ht hv1 hv2 hv3 hv4 HI
      go_upto_region 7 with fail
      clear a0 a1 a2 c0 c1 c2 c3 c4
      generalize wr.alloc _ = w3 at *
      have HG3 := Lib.hid (grown_trans HG.out HGA.out)
      obtain ⟨c0, c1, c2, c3, c4⟩ := row5 (kept_row HB.out.1 HG3.out (by simp))
      obtain ⟨d0, d1, d2⟩ := row3 HBX.out
      clear HG HGA
      cases v1 with
      | false =>
        obtain rfl : X = false := by rw [HXY.out, HS.out, HO.out]; rfl
        go_big_quiet ((first | (go_at_call 82; first | with_reducible exact qt1 (rin_lit x.a 1 99 _ HV1.out _) | with_reducible exact qt1 (rin_lit x.b 1 1000 _ HV3.out _) | with_reducible exact qt1 (rin_lit x.c 0 1000 _ HV4.out _))))
        go_wp2_with fail
        go_ret
        exact ⟨rfl, grown_trans HB.out.2 (grown_trans HG3.out (grown_drewN _ _ _))⟩
      | true =>
      cases v2 with
      | true =>
        have he1 : (x.a == r) = true := HEQ.out.1
        have he2 : (x.a != r) = false := HEQ.out.2
        obtain rfl : X = false := by rw [HXY.out, HS.out, HO.out]; rfl
        go_big_quiet ((first | (go_at_call 82; first | with_reducible exact qt1 (rin_lit x.a 1 99 _ HV1.out _) | with_reducible exact qt1 (rin_lit x.b 1 1000 _ HV3.out _) | with_reducible exact qt1 (rin_lit x.c 0 1000 _ HV4.out _))))
        go_wp2_with fail
        go_ret
        exact ⟨rfl, grown_trans HB.out.2 (grown_trans HG3.out (grown_drewN _ _ _))⟩
      | false =>
      have he1 : (x.a == r) = false := HEQ.out.1
      have he2 : (x.a != r) = true := HEQ.out.2
      cases v3 with
      | false =>
        obtain rfl : X = false := by rw [HXY.out, HS.out, HO.out]; rfl
        go_big_quiet ((first | (go_at_call 82; first | with_reducible exact qt1 (rin_lit x.a 1 99 _ HV1.out _) | with_reducible exact qt1 (rin_lit x.b 1 1000 _ HV3.out _) | with_reducible exact qt1 (rin_lit x.c 0 1000 _ HV4.out _))))
        go_wp2_with fail
        go_ret
        exact ⟨rfl, grown_trans HB.out.2 (grown_trans HG3.out (grown_drewN _ _ _))⟩
      | true =>
      cases v4 with
      | false =>
        obtain rfl : X = false := by rw [HXY.out, HS.out, HO.out]; rfl
        go_big_quiet ((first | (go_at_call 82; first | with_reducible exact qt1 (rin_lit x.a 1 99 _ HV1.out _) | with_reducible exact qt1 (rin_lit x.b 1 1000 _ HV3.out _) | with_reducible exact qt1 (rin_lit x.c 0 1000 _ HV4.out _))))
        go_wp2_with fail
        go_ret
        exact ⟨rfl, grown_trans HB.out.2 (grown_trans HG3.out (grown_drewN _ _ _))⟩
      | true =>
      have hxa : 1 ≤ x.a ∧ x.a ≤ 99 := of_decide_eq_true HV1.out
      by_cases hk0 : k = 0
      · have ht0 : t = 0 := by rw [← HTT.out, hk0, lastA_zero]
        have hta : t < x.a := by omega
        have hkb : decide (0 < k) = false := decide_eq_false (by omega)
        clear hk0
        have HN : Hid (vRe r (lastA 0 L (k + 1)) (L.drop (k + 1)) = Y ∧ 0 ≤ lastA 0 L (k + 1)) := Lib.hid ⟨by rw [HS.out, HO.out, decide_eq_true hta]; rfl, by rw [HLA.out]; omega⟩
        go_big_quiet ((first | (go_at_call 82; first | with_reducible exact qt1 (rin_lit x.a 1 99 _ HV1.out _) | with_reducible exact qt1 (rin_lit x.b 1 1000 _ HV3.out _) | with_reducible exact qt1 (rin_lit x.c 0 1000 _ HV4.out _))))
        go_wp2_with fail
        exact ⟨⟨k + 1, by omega, congrArg _ (by omega), HN, Lib.hid (grown_trans HG3.out (grown_drewN _ _ _))⟩, by simp only [RowKit.intOf]; omega⟩
      · obtain ⟨j, rfl⟩ : ∃ j, k = j + 1 := ⟨k - 1, by omega⟩
        obtain ⟨y, hy⟩ : ∃ y, L[j]? = some y := ⟨_, List.getElem?_eq_getElem (by omega)⟩
        have hty : t = y.a := by rw [← HTT.out, lastA_succ hy]
        obtain ⟨z0, z1, z2⟩ := rd3_at (HL.out.keep HG3.out) hy
        have hjp : (0 : Int) < ((j + 1 : Nat) : Int) := by omega
        have hjl : (j : Int) < (L.length : Int) := by omega
        have hj2 : ((j + 1 : Nat) : Int) - 1 = (j : Int) := by omega
        clear hy
        by_cases hta : t < x.a
        · have hc1 : ¬ x.a ≤ y.a := by omega
          have hc2 : decide (x.a ≤ y.a) = false := decide_eq_false hc1
          have HN : Hid (vRe r (lastA 0 L (j + 1 + 1)) (L.drop (j + 1 + 1)) = Y ∧ 0 ≤ lastA 0 L (j + 1 + 1)) := Lib.hid ⟨by rw [HS.out, HO.out, decide_eq_true hta]; rfl, by rw [HLA.out]; omega⟩
          go_big_quiet ((first | (go_at_call 82; first | with_reducible exact qt1 (rin_lit x.a 1 99 _ HV1.out _) | with_reducible exact qt1 (rin_lit x.b 1 1000 _ HV3.out _) | with_reducible exact qt1 (rin_lit x.c 0 1000 _ HV4.out _))))
          go_wp2_with fail
          exact ⟨⟨j + 1 + 1, by omega, congrArg _ (by omega), HN, Lib.hid (grown_trans HG3.out (grown_drewN _ _ _))⟩, by simp only [RowKit.intOf]; omega⟩
        · have hc1 : x.a ≤ y.a := by omega
          have hc2 : decide (x.a ≤ y.a) = true := decide_eq_true hc1
          obtain rfl : X = false := by rw [HXY.out, HS.out, HO.out, decide_eq_false hta]; rfl
          go_big_quiet ((first | (go_at_call 82; first | with_reducible exact qt1 (rin_lit x.a 1 99 _ HV1.out _) | with_reducible exact qt1 (rin_lit x.b 1 1000 _ HV3.out _) | with_reducible exact qt1 (rin_lit x.c 0 1000 _ HV4.out _))))
          go_wp2_with fail
          go_ret
          exact ⟨rfl, grown_trans HB.out.2 (grown_trans HG3.out (grown_drewN _ _ _))⟩
    · obtain rfl : k = L.length := by omega
      obtain rfl : Y = true := by rw [← HI.out.1]; exact vRe_end
      go_wp2_with fail
      have hC := rvc_any C pC cC q wr (HC.out.keep HG.out) hm2
      rw [show vClaims C = X by rw [HXY.out]; rfl] at hC
      refine hC.mono ?_
      rintro e w4 ⟨rfl, hg⟩
      have HF := Lib.hid (grown_trans HB.out.2 (grown_trans HG.out hg))
      clear hg hC
      go_wp2_with fail
      go_ret
      exact ⟨rfl, HF.out⟩
end Go.Proofs.Ytnpkihioklpnmaa
