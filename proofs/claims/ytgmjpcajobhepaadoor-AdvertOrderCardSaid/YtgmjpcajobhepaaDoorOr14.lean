/- Parts of the proof, packed: AdRSm, AdAwake. -/
import Derived.Test.YtgmjpcajobhepaaDoorOr11
import Derived.Test.YtgmjpcajobhepaaDoorOr13
import Derived.BigQuiet
/- The reference's Same. -/
namespace Go.Proofs.YtgmjpcajobhepaaDoor
open Go.RowKit Bs
set_option maxRecDepth 100000 in
set_option maxHeartbeats 6400000 in
theorem rsame_any (A B : Ad) (q q2 : Nat → Prop) (w : World) (hA : AdOk w q A) (hB : AdOk w q2 B) :
    Calls Tryd.prog 17 #[A.val, B.val] w fun e w' => e = .returned (.bool (decide (cmpA A B = 0))) ∧ w.grownBy w' none := by
  have hm1 := Nat.le_trans hA.hl.1 hA.hl.2
  have hm2 := Nat.le_trans hA.hc.1 hA.hc.2
  have HZ := Lib.hid (two_ads w A B)
  have HOK : Hid (TwoA _ A B q q2) := Lib.hid ⟨hA.keep HZ.out.2, hB.keep HZ.out.2⟩
  have HB := Lib.hid HZ.out.1
  have K := Lib.hid HZ.out.2
  clear HZ hA hB
  obtain ⟨X, hX⟩ : ∃ X, decide (cmpA A B = 0) = X := ⟨_, rfl⟩
  rw [hX]
  have HX := Lib.hid hX
  clear hX
  unfold Ad.val
  obtain ⟨pL, hpL⟩ : ∃ p, A.pL = p := ⟨_, rfl⟩
  obtain ⟨pC, hpC⟩ : ∃ p, A.pC = p := ⟨_, rfl⟩
  obtain ⟨pL2, hpL2⟩ : ∃ p, B.pL = p := ⟨_, rfl⟩
  obtain ⟨pC2, hpC2⟩ : ∃ p, B.pC = p := ⟨_, rfl⟩
  rw [hpL, hpC, hpL2, hpC2]
  have HP := Lib.hid (And.intro hpL (And.intro hpC (And.intro hpL2 hpC2)))
  unfold adC at HB K HOK
  rw [hpL, hpC, hpL2, hpC2] at HB K HOK
  go_enter Tryd.func17, Tryd.ntmps17
  go_upto_region 1 with fail
  generalize (w.alloc _).alloc _ = wa at *
  have HB : Hid (wa.heap[w.heap.size]? = some (.cells (adC A) 26 (0, 0)) ∧ wa.heap[w.heap.size + 1]? = some (.cells (adC B) 26 (0, 0))) := Lib.hid (by unfold adC; rw [hpL, hpC, hpL2, hpC2]; exact HB.out)
  have GZ : Hid (wa.grownBy wa none) := Lib.hid (grown_refl _ _)
  clear hpL hpC hpL2 hpC2
  obtain ⟨a0, a1, a2, a3, a4, b0, b1, b2, b3, b4, -⟩ := keepTA HB.out GZ
  rw [HP.out.1] at a3
  rw [HP.out.2.1] at a4
  rw [HP.out.2.2.1] at b3
  rw [HP.out.2.2.2] at b4
  by_cases h0 : A.r = B.r
  rotate_left
  · obtain rfl : X = false := by rw [← HX.out]; exact decide_eq_false (fun h => h0 (cmpA_zero.1 h).1)
    have h' : (A.r == B.r) = false := by simpa using h0
    go_wp2_with fail
    go_ret
    exact ⟨rfl, K.out⟩
  by_cases h1 : A.q = B.q
  rotate_left
  · obtain rfl : X = false := by rw [← HX.out]; exact decide_eq_false (fun h => h1 (cmpA_zero.1 h).2.1)
    have h' : (A.q == B.q) = false := by simpa using h1
    go_wp2_with fail
    go_ret
    exact ⟨rfl, K.out⟩
  by_cases h2 : A.cp = B.cp
  rotate_left
  · obtain rfl : X = false := by rw [← HX.out]; exact decide_eq_false (fun h => h2 (cmpA_zero.1 h).2.2.1)
    have h' : (A.cp == B.cp) = false := by simpa using h2
    clear h2
    go_wp2_with fail
    go_ret
    exact ⟨rfl, K.out⟩
  have h2' : (A.cp == B.cp) = true := by simpa using h2
  have HE := Lib.hid (And.intro h0 (And.intro h1 h2))
  clear h2
  by_cases h3 : A.L.length = B.L.length
  rotate_left
  · obtain rfl : X = false := by rw [← HX.out]; exact decide_eq_false (fun h => h3 (congrArg List.length (cmpA_zero.1 h).2.2.2.1))
    have h3' : ¬ (A.L.length : Int) = (B.L.length : Int) := by omega
    clear h3
    go_wp2_with fail
    go_ret
    exact ⟨rfl, K.out⟩
  by_cases h4 : A.C.length = B.C.length
  rotate_left
  · obtain rfl : X = false := by rw [← HX.out]; exact decide_eq_false (fun h => h4 (congrArg List.length (cmpA_zero.1 h).2.2.2.2))
    have h4' : ¬ (A.C.length : Int) = (B.C.length : Int) := by omega
    rw [← h3] at b3 ⊢
    clear h3 h4
    go_wp2_with fail
    go_ret
    exact ⟨rfl, K.out⟩
  rw [← h3] at b3 ⊢
  rw [← h4] at b4 ⊢
  have H34 := Lib.hid (And.intro h3 h4)
  clear h3 h4
  go_wp2_with fail
  clear h2' h0 h1 a0 a1 a2 a3 a4 b0 b1 b2 b3 b4
  go_loopw [5] (fun a wr => ∃ k : Nat, k ≤ A.L.length ∧ a = .int .i64 (k : Int) ∧ Hid (A.L.take k = B.L.take k) ∧ Hid (wa.grownBy wr none)) (fun a _ => A.L.length - (RowKit.intOf a).toNat)
  case atStart => exact ⟨0, Nat.zero_le _, rfl, Lib.hid rfl, GZ⟩
  case round =>
  obtain ⟨w2, rfl⟩ : ∃ w2, w2 = wr := ⟨_, rfl⟩
  obtain ⟨k, hk, rfl, HI, HG⟩ := hrel
  clear GZ
  obtain ⟨a0, a1, a2, a3, a4, b0, b1, b2, b3, b4, -⟩ := keepTA HB.out HG
  rw [HP.out.1] at a3
  rw [HP.out.2.1] at a4
  rw [HP.out.2.2.1, ← H34.out.1] at b3
  rw [HP.out.2.2.2, ← H34.out.2] at b4
  clear a0 a1 a2 b0 b1 b2
  by_cases hlt : k < A.L.length
  · obtain ⟨-, bL, oL, hp, -, hc⟩ := rd3_cells (HOK.out.a.keep HG.out).l (by omega)
    obtain rfl : pL = some ⟨bL, oL, none⟩ := HP.out.1.symm.trans hp
    obtain ⟨x, hx⟩ : ∃ x, A.L[k]? = some x := ⟨_, List.getElem?_eq_getElem hlt⟩
    obtain ⟨x0, x1, x2⟩ := hc k x hx
    have hlt2 : k < B.L.length := by have := H34.out.1; omega
    obtain ⟨-, bM, oM, hp2, -, hd⟩ := rd3_cells (HOK.out.b.keep HG.out).l (by omega)
    obtain rfl : pL2 = some ⟨bM, oM, none⟩ := HP.out.2.2.1.symm.trans hp2
    obtain ⟨y, hy⟩ : ∃ y, B.L[k]? = some y := ⟨_, List.getElem?_eq_getElem hlt2⟩
    obtain ⟨y0, y1, y2⟩ := hd k y hy
    have HXY := Lib.hid (And.intro hx hy)
    clear hp hp2 hc hd hx hy hlt2
    obtain ⟨v, hv⟩ : ∃ v, decide (x = y) = v := ⟨_, rfl⟩
    have hn : ∀ w, (binOp .neq 70 (.agg #[.int .i64 x.a, .int .i64 x.b, .int .i64 x.c]) (.agg #[.int .i64 y.a, .int .i64 y.b, .int .i64 y.c])).run Tryd.prog w = .ok (.bool (!v)) w := fun w => by rw [neq_reach, t3_eq, hv]
    have HV := Lib.hid hv
    clear hv
    go_wp2_with fail
    go_quiet (fail)
    clear x0 x1 x2 y0 y1 y2 hn a3 a4 b3 b4
    cases v with
    | false =>
      obtain rfl : X = false := by
        rw [← HX.out]
        exact decide_eq_false (fun h => by
          have e := (cmpA_zero.1 h).2.2.2.1
          have h1 := HXY.out.1
          rw [e, HXY.out.2] at h1
          exact of_decide_eq_false HV.out (Option.some.inj h1).symm)
      go_wp2_with fail
      go_ret
      exact ⟨rfl, grown_trans K.out (grown_trans HG.out (grown_drewN _ _ _))⟩
    | true =>
      have HI2 : Hid (A.L.take (k + 1) = B.L.take (k + 1)) := Lib.hid (by
        rw [List.take_add_one, List.take_add_one, HI.out, HXY.out.1, HXY.out.2, of_decide_eq_true HV.out])
      go_wp2_with fail
      exact ⟨⟨k + 1, by omega, congrArg _ (by omega), HI2, Lib.hid (grown_trans HG.out (grown_drewN _ _ _))⟩, by simp only [RowKit.intOf]; omega⟩
  · obtain rfl : k = A.L.length := by omega
    have HLE : Hid (A.L = B.L) := Lib.hid (by
      have := HI.out
      rw [List.take_length, H34.out.1, List.take_length] at this
      exact this)
    clear HI
    go_wp2_with fail
    clear a3 a4 b3 b4
    go_loopw [6] (fun a wr => ∃ k : Nat, k ≤ A.C.length ∧ a = .int .i64 (k : Int) ∧ Hid (A.C.take k = B.C.take k) ∧ Hid (wa.grownBy wr none)) (fun a _ => A.C.length - (RowKit.intOf a).toNat)
    case atStart => exact ⟨0, Nat.zero_le _, rfl, Lib.hid rfl, HG⟩
    case round =>
    obtain ⟨w3, rfl⟩ : ∃ w3, w3 = wr := ⟨_, rfl⟩
    obtain ⟨k, hk, rfl, HI, HG3⟩ := hrel
    clear HG
    obtain ⟨a0, a1, a2, a3, a4, b0, b1, b2, b3, b4, -⟩ := keepTA HB.out HG3
    rw [HP.out.1] at a3
    rw [HP.out.2.1] at a4
    rw [HP.out.2.2.1, ← H34.out.1] at b3
    rw [HP.out.2.2.2, ← H34.out.2] at b4
    clear a0 a1 a2 b0 b1 b2
    by_cases hlt : k < A.C.length
    · obtain ⟨-, bL, oL, hp, -, hc⟩ := rd3_cells (HOK.out.a.keep HG3.out).c (by omega)
      obtain rfl : pC = some ⟨bL, oL, none⟩ := HP.out.2.1.symm.trans hp
      obtain ⟨x, hx⟩ : ∃ x, A.C[k]? = some x := ⟨_, List.getElem?_eq_getElem hlt⟩
      obtain ⟨x0, x1, x2⟩ := hc k x hx
      have hlt2 : k < B.C.length := by have := H34.out.2; omega
      obtain ⟨-, bM, oM, hp2, -, hd⟩ := rd3_cells (HOK.out.b.keep HG3.out).c (by omega)
      obtain rfl : pC2 = some ⟨bM, oM, none⟩ := HP.out.2.2.2.symm.trans hp2
      obtain ⟨y, hy⟩ : ∃ y, B.C[k]? = some y := ⟨_, List.getElem?_eq_getElem hlt2⟩
      obtain ⟨y0, y1, y2⟩ := hd k y hy
      have HXY := Lib.hid (And.intro hx hy)
      clear hp hp2 hc hd hx hy hlt2
      obtain ⟨v, hv⟩ : ∃ v, decide (x = y) = v := ⟨_, rfl⟩
      have hn : ∀ w, (binOp .neq 73 (.agg #[.int .i64 x.a, .int .i64 x.b, .int .i64 x.c]) (.agg #[.int .i64 y.a, .int .i64 y.b, .int .i64 y.c])).run Tryd.prog w = .ok (.bool (!v)) w := fun w => by rw [neq_claim, t3_eq, hv]
      have HV := Lib.hid hv
      clear hv
      go_wp2_with fail
      go_quiet (fail)
      clear x0 x1 x2 y0 y1 y2 hn a3 a4 b3 b4
      cases v with
      | false =>
        obtain rfl : X = false := by
          rw [← HX.out]
          exact decide_eq_false (fun h => by
            have e := (cmpA_zero.1 h).2.2.2.2
            have h1 := HXY.out.1
            rw [e, HXY.out.2] at h1
            exact of_decide_eq_false HV.out (Option.some.inj h1).symm)
        go_wp2_with fail
        go_ret
        exact ⟨rfl, grown_trans K.out (grown_trans HG3.out (grown_drewN _ _ _))⟩
      | true =>
        have HI2 : Hid (A.C.take (k + 1) = B.C.take (k + 1)) := Lib.hid (by
          rw [List.take_add_one, List.take_add_one, HI.out, HXY.out.1, HXY.out.2, of_decide_eq_true HV.out])
        go_wp2_with fail
        exact ⟨⟨k + 1, by omega, congrArg _ (by omega), HI2, Lib.hid (grown_trans HG3.out (grown_drewN _ _ _))⟩, by simp only [RowKit.intOf]; omega⟩
    · obtain rfl : k = A.C.length := by omega
      have hCE : A.C = B.C := by
        have := HI.out
        rw [List.take_length, H34.out.2, List.take_length] at this
        exact this
      obtain rfl : X = true := by
        rw [← HX.out]
        exact decide_eq_true (cmpA_zero.2 ⟨HE.out.1, HE.out.2.1, HE.out.2.2, HLE.out, hCE⟩)
      clear hCE
      go_wp2_with fail
      go_ret
      exact ⟨rfl, grown_trans K.out HG3.out⟩
end Go.Proofs.YtgmjpcajobhepaaDoor

/- advert: the chapter's example. -/
namespace Go.Proofs.YtgmjpcajobhepaaDoor
open Go.RowKit Bs
set_option maxRecDepth 100000 in
theorem AdIs.same {l : List Nat} {A B : Ad} (h : AdIs l A) (k : AdIs l B) : smA A B := ⟨h.r.trans k.r.symm, h.q.trans k.q.symm, h.cp.trans k.cp.symm, h.L.trans k.L.symm, h.C.trans k.C.symm⟩
set_option maxRecDepth 100000 in
theorem smA.valid {A B : Ad} (h : smA A B) : vAd A = vAd B := by
  obtain ⟨h1, h2, h3, h4, h5⟩ := h
  unfold vAd vHd
  rw [h1, h2, h4, h5]
set_option maxRecDepth 100000 in
/-- What Decode returns for an encoding. -/
theorem ADecPost.enc {A : Ad} {w w' : World} {e : Ending} (h : ADecPost (encA A) w e w') (hA : vAd A = true) : ∃ B : Ad, e = .returned (.tuple #[B.val, .int .i64 0]) ∧ smA A B ∧ AdOk w' (w.heap.size ≤ ·) B ∧ w.grownBy w' none := by
  obtain ⟨B, h1, h2, h3, h4, -⟩ := h
  have hs := (enc_is (VA.of hA)).same h1
  exact ⟨B, h4 (by rw [← hs.valid, hA]; exact enc_decE (VA.of hA)), hs, h2, h3⟩
def exA (q : Int) : Ad := ⟨1, q, false, [], [], none, 0, none, 0⟩
set_option maxRecDepth 100000 in
theorem exA_ok (q : Int) (w : World) : AdOk w (fun _ => True) (exA q) := ⟨rdf_nil _ _ _ _, rdf_nil _ _ _ _, ⟨Nat.le_refl _, by show 0 ≤ 9223372036854775807; decide⟩, ⟨Nat.le_refl _, by show 0 ≤ 9223372036854775807; decide⟩⟩
set_option maxRecDepth 100000 in
theorem exA_v : vAd (exA 1) = true := by decide
set_option maxRecDepth 100000 in
theorem exA_len : (encA (exA 1)).length = 7 := by rw [enc_len2, adB_len]; rfl
set_option maxRecDepth 100000 in
theorem exA_nw : nwA (exA 2) (exA 1) = true := by decide
set_option maxRecDepth 100000 in
set_option maxHeartbeats 6400000 in
theorem aawake_any (w : World) (hT : Tb w) :
    Calls Tryd.prog 18 #[] w fun e w' => e = .returned (.bool true) ∧ w.grownBy w' none := by
  have hb := heap_alloc_new w (.cells #[.int .i64 1, .int .i64 1, .bool false, .slice none 0 0, .slice none 0 0] 26)
  have hg := World.grownBy_alloc w (.cells #[.int .i64 1, .int .i64 1, .bool false, .slice none 0 0, .slice none 0 0] 26) none
  have H0 := Lib.hid (And.intro hb (And.intro hg (hT.keep hg)))
  clear hb hg
  go_enter Tryd.func18, Tryd.ntmps18
  go_upto_region 2 with fail
  generalize w.alloc _ = wa at *
  obtain ⟨c0, c1, c2, c3, c4⟩ := row5 H0.out.1
  go_wp2_with fail
  refine (aenc_any (exA 1) _ _ (exA_ok 1 _) H0.out.2.2).mono ?_
  rintro e w1 (⟨-, g, rfl, hB, hgg, hg⟩ | ⟨h, -⟩)
  case inr => rw [exA_v] at h; cases h
  have hD := adec_any (encA (exA 1)) (pk_by _) (by rw [exA_len]; decide) (some ⟨g, 0, none⟩) (encA (exA 1)).length (Nat.le_refl _) (fun _ => True) w1 (hB.rd _ trivial _)
  have HD : Hid _ := Lib.hid (hD.mono (fun e w' h => h.enc exA_v))
  rw [exA_len] at HD ⊢
  have H1 := Lib.hid (And.intro (kept_row H0.out.1 hg (by simp)) (grown_trans H0.out.2.1 hg))
  clear hD hB hgg hg H0 c0 c1 c2 c3 c4
  go_wp2_with fail
  refine HD.out.mono ?_
  rintro e w2 ⟨⟨r, q2, cp, L, C, pL, cL, pC, cC⟩, rfl, hs, hO, hg⟩
  obtain ⟨B, hBB⟩ : ∃ B : Ad, B = ⟨r, q2, cp, L, C, pL, cL, pC, cC⟩ := ⟨_, rfl⟩
  have hV : B.val = .agg #[.int .i64 r, .int .i64 q2, .bool cp, .slice pL L.length cL, .slice pC C.length cC] := by rw [hBB]; rfl
  have hC : adC B = #[.int .i64 r, .int .i64 q2, .bool cp, .slice pL L.length cL, .slice pC C.length cC] := by rw [hBB]; rfl
  rw [← hBB] at hs hO ⊢
  rw [hV]
  have HV := Lib.hid hV
  have kb := heap_alloc_new w2 (.cells (adC B) 26)
  have kg := World.grownBy_alloc w2 (.cells (adC B) 26) none
  have H2 := Lib.hid (And.intro (kept_row H1.out.1 (grown_trans hg kg) (by simp)) (And.intro (grown_trans H1.out.2 (grown_trans hg kg)) (And.intro (hO.keep kg) kb)))
  have HS := Lib.hid hs
  rw [hC] at H2
  clear hBB hV hC hs hO hg H1 HD kb kg
  go_upto_region 4 with fail
  generalize w2.alloc _ = w3 at *
  obtain ⟨c0, c1, c2, c3, c4⟩ := row5 H2.out.1
  obtain ⟨d0, d1, d2, d3, d4⟩ := row5 H2.out.2.2.2
  go_wp2_with fail
  have hSa := rsame_any (exA 1) B _ _ w3 (exA_ok 1 _) H2.out.2.2.1
  rw [HV.out, decide_eq_true (cmpA_zero.2 HS.out)] at hSa
  refine hSa.mono ?_
  rintro e w4 ⟨rfl, hg⟩
  have H4 := Lib.hid (And.intro (kept_row H2.out.1 hg (by simp)) (And.intro (grown_trans H2.out.2.1 hg) (H2.out.2.2.1.keep hg)))
  clear hSa hg H2 c0 c1 c2 c3 c4 d0 d1 d2 d3 d4
  obtain ⟨c0, c1, c2, c3, c4⟩ := row5 H4.out.1
  go_wp2_with fail
  have hN := anewer_any (exA 2) (exA 1) _ _ w4 (exA_ok 2 _) (exA_ok 1 _)
  rw [exA_nw] at hN
  refine hN.mono ?_
  rintro e w5 ⟨rfl, hg⟩
  have H5 := Lib.hid (grown_trans H4.out.2.1 hg)
  clear hN hg H4 c0 c1 c2 c3 c4
  go_wp2_with fail
  go_ret
  exact ⟨rfl, H5.out⟩
end Go.Proofs.YtgmjpcajobhepaaDoor
