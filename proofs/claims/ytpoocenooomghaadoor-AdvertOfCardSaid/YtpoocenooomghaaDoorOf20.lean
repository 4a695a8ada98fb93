/- Parts of the proof, packed: AdSq, AdRSm, AdAwake, ToTopK, ToOrd. -/
import Derived.Test.YtpoocenooomghaaDoorOf13
import Derived.Laws.StructEq
import Derived.BigQuiet
import Derived.Test.YtpoocenooomghaaDoorOf14
import Derived.Test.YtpoocenooomghaaDoorOf12
import Derived.Test.YtpoocenooomghaaDoorOf7
import Derived.Test.YtpoocenooomghaaDoorOf6
import Derived.Test.YtpoocenooomghaaDoorOf1
import Derived.Deep.AppendLies
import Derived.Deep.Onto
import Derived.Laws.OwnMore
import Derived.Deep.CutBlock
/- Two links compared, two claims compared. -/
namespace Go.Proofs.YtpoocenooomghaaDoor
open Go.RowKit Bs
set_option maxRecDepth 100000 in
theorem neq_reach (x y : T3) (w : World) : (binOp .neq 70 (.agg #[.int .i64 x.a, .int .i64 x.b, .int .i64 x.c]) (.agg #[.int .i64 y.a, .int .i64 y.b, .int .i64 y.c])).run Tryd.prog w = .ok (.bool (!(x.a == y.a && (x.b == y.b && x.c == y.c)))) w := by
  go_simp
  by_cases h1 : x.a = y.a <;> by_cases h2 : x.b = y.b <;> by_cases h3 : x.c = y.c <;> simp [h1, h2, h3]
set_option maxRecDepth 100000 in
theorem neq_claim (x y : T3) (w : World) : (binOp .neq 73 (.agg #[.int .i64 x.a, .int .i64 x.b, .int .i64 x.c]) (.agg #[.int .i64 y.a, .int .i64 y.b, .int .i64 y.c])).run Tryd.prog w = .ok (.bool (!(x.a == y.a && (x.b == y.b && x.c == y.c)))) w := by
  go_simp
  by_cases h1 : x.a = y.a <;> by_cases h2 : x.b = y.b <;> by_cases h3 : x.c = y.c <;> simp [h1, h2, h3]
set_option maxRecDepth 100000 in
theorem t3_eq (x y : T3) : (x.a == y.a && (x.b == y.b && x.c == y.c)) = decide (x = y) := by
  cases x; cases y
  simp only [T3.mk.injEq, Bool.decide_and]
  rfl
end Go.Proofs.YtpoocenooomghaaDoor

/- The reference's Same. -/
namespace Go.Proofs.YtpoocenooomghaaDoor
open Go.RowKit Bs
set_option maxRecDepth 100000 in
set_option maxHeartbeats 6400000 in
theorem rsame_any (A B : Ad) (q q2 : Nat → Prop) (w : World) (hA : AdOk w q A) (hB : AdOk w q2 B) :
    Calls Tryd.prog 17 #[A.val, B.val] w fun e w' => e = .returned (.bool (decide (cmpA A B = 0))) ∧ w.grownBy w' none := by
  have hm1 := Nat.le_trans hA.hl.1 hA.hl.2
  have hm2 := Nat.le_trans hA.hc.1 hA.hc.2
  have HZ := Lib.hid (two_ads w A B)
  have HOK : Hid (TwoA _ A B q q2) := Lib.hid ⟨hA.keep HZ.out.2, hB.keep HZ.out.2⟩
  have HB := Lib.hid HZ.out.1
  have K := Lib.hid HZ.out.2
  clear HZ hA hB
  obtain ⟨X, hX⟩ : ∃ X, decide (cmpA A B = 0) = X := ⟨_, rfl⟩
  rw [hX]
  have HX := Lib.hid hX
  clear hX
  unfold Ad.val
  obtain ⟨pL, hpL⟩ : ∃ p, A.pL = p := ⟨_, rfl⟩
  obtain ⟨pC, hpC⟩ : ∃ p, A.pC = p := ⟨_, rfl⟩
  obtain ⟨pL2, hpL2⟩ : ∃ p, B.pL = p := ⟨_, rfl⟩
  obtain ⟨pC2, hpC2⟩ : ∃ p, B.pC = p := ⟨_, rfl⟩
  rw [hpL, hpC, hpL2, hpC2]
  have HP := Lib.hid (And.intro hpL (And.intro hpC (And.intro hpL2 hpC2)))
  unfold adC at HB K HOK
  rw [hpL, hpC, hpL2, hpC2] at HB K HOK
  go_enter Tryd.func17, Tryd.ntmps17
  go_upto_region 1 with fail
  generalize (w.alloc _).alloc _ = wa at *
  have HB : Hid (wa.heap[w.heap.size]? = some (.cells (adC A) 26 (0, 0)) ∧ wa.heap[w.heap.size + 1]? = some (.cells (adC B) 26 (0, 0))) := Lib.hid (by unfold adC; rw [hpL, hpC, hpL2, hpC2]; exact HB.out)
  have GZ : Hid (wa.grownBy wa none) := Lib.hid (grown_refl _ _)
  clear hpL hpC hpL2 hpC2
  obtain ⟨a0, a1, a2, a3, a4, b0, b1, b2, b3, b4, -⟩ := keepTA HB.out GZ
  rw [HP.out.1] at a3
  rw [HP.out.2.1] at a4
  rw [HP.out.2.2.1] at b3
  rw [HP.out.2.2.2] at b4
  by_cases h0 : A.r = B.r
  rotate_left
  · obtain rfl : X = false := by rw [← HX.out]; exact decide_eq_false (fun h => h0 (cmpA_zero.1 h).1)
    have h' : (A.r == B.r) = false := by simpa using h0
    go_wp2_with fail
    go_ret
    exact ⟨rfl, K.out⟩
  by_cases h1 : A.q = B.q
  rotate_left
  · obtain rfl : X = false := by rw [← HX.out]; exact decide_eq_false (fun h => h1 (cmpA_zero.1 h).2.1)
    have h' : (A.q == B.q) = false := by simpa using h1
    go_wp2_with fail
    go_ret
    exact ⟨rfl, K.out⟩
  by_cases h2 : A.cp = B.cp
  rotate_left
  · obtain rfl : X = false := by rw [← HX.out]; exact decide_eq_false (fun h => h2 (cmpA_zero.1 h).2.2.1)
    have h' : (A.cp == B.cp) = false := by simpa using h2
    clear h2
    go_wp2_with fail
    go_ret
    exact ⟨rfl, K.out⟩
  have h2' : (A.cp == B.cp) = true := by simpa using h2
  have HE := Lib.hid (And.intro h0 (And.intro h1 h2))
  clear h2
  by_cases h3 : A.L.length = B.L.length
  rotate_left
  · obtain rfl : X = false := by rw [← HX.out]; exact decide_eq_false (fun h => h3 (congrArg List.length (cmpA_zero.1 h).2.2.2.1))
    have h3' : ¬ (A.L.length : Int) = (B.L.length : Int) := by omega
    clear h3
    go_wp2_with fail
    go_ret
    exact ⟨rfl, K.out⟩
  by_cases h4 : A.C.length = B.C.length
  rotate_left
  · obtain rfl : X = false := by rw [← HX.out]; exact decide_eq_false (fun h => h4 (congrArg List.length (cmpA_zero.1 h).2.2.2.2))
    have h4' : ¬ (A.C.length : Int) = (B.C.length : Int) := by omega
    rw [← h3] at b3 ⊢
    clear h3 h4
    go_wp2_with fail
    go_ret
    exact ⟨rfl, K.out⟩
  rw [← h3] at b3 ⊢
  rw [← h4] at b4 ⊢
  have H34 := Lib.hid (And.intro h3 h4)
  clear h3 h4
  go_wp2_with fail
  clear h2' h0 h1 a0 a1 a2 a3 a4 b0 b1 b2 b3 b4
  go_loopw [5] (fun a wr => ∃ k : Nat, k ≤ A.L.length ∧ a = .int .i64 (k : Int) ∧ Hid (A.L.take k = B.L.take k) ∧ Hid (wa.grownBy wr none)) (fun a _ => A.L.length - (RowKit.intOf a).toNat)
  case atStart => exact ⟨0, Nat.zero_le _, rfl, Lib.hid rfl, GZ⟩
  case round =>
  obtain ⟨w2, rfl⟩ : ∃ w2, w2 = wr := ⟨_, rfl⟩
  obtain ⟨k, hk, rfl, HI, HG⟩ := hrel
  clear GZ
  obtain ⟨a0, a1, a2, a3, a4, b0, b1, b2, b3, b4, -⟩ := keepTA HB.out HG
  rw [HP.out.1] at a3
  rw [HP.out.2.1] at a4
  rw [HP.out.2.2.1, ← H34.out.1] at b3
  rw [HP.out.2.2.2, ← H34.out.2] at b4
  clear a0 a1 a2 b0 b1 b2
  by_cases hlt : k < A.L.length
  · obtain ⟨-, bL, oL, hp, -, hc⟩ := rd3_cells (HOK.out.a.keep HG.out).l (by omega)
    obtain rfl : pL = some ⟨bL, oL, none⟩ := HP.out.1.symm.trans hp
    obtain ⟨x, hx⟩ : ∃ x, A.L[k]? = some x := ⟨_, List.getElem?_eq_getElem hlt⟩
    obtain ⟨x0, x1, x2⟩ := hc k x hx
    have hlt2 : k < B.L.length := by have := H34.out.1; omega
    obtain ⟨-, bM, oM, hp2, -, hd⟩ := rd3_cells (HOK.out.b.keep HG.out).l (by omega)
    obtain rfl : pL2 = some ⟨bM, oM, none⟩ := HP.out.2.2.1.symm.trans hp2
    obtain ⟨y, hy⟩ : ∃ y, B.L[k]? = some y := ⟨_, List.getElem?_eq_getElem hlt2⟩
    obtain ⟨y0, y1, y2⟩ := hd k y hy
    have HXY := Lib.hid (And.intro hx hy)
    clear hp hp2 hc hd hx hy hlt2
    obtain ⟨v, hv⟩ : ∃ v, decide (x = y) = v := ⟨_, rfl⟩
    have hn : ∀ w, (binOp .neq 70 (.agg #[.int .i64 x.a, .int .i64 x.b, .int .i64 x.c]) (.agg #[.int .i64 y.a, .int .i64 y.b, .int .i64 y.c])).run Tryd.prog w = .ok (.bool (!v)) w := fun w => by rw [neq_reach, t3_eq, hv]
    have HV := Lib.hid hv
    clear hv
    go_wp2_with fail
    go_quiet (fail)
    clear x0 x1 x2 y0 y1 y2 hn a3 a4 b3 b4
    cases v with
    | false =>
      obtain rfl : X = false := by
        rw [← HX.out]
        exact decide_eq_false (fun h => by
          have e := (cmpA_zero.1 h).2.2.2.1
          have h1 := HXY.out.1
          rw [e, HXY.out.2] at h1
          exact of_decide_eq_false HV.out (Option.some.inj h1).symm)
      go_wp2_with fail
      go_ret
      exact ⟨rfl, grown_trans K.out (grown_trans HG.out (grown_drewN _ _ _))⟩
    | true =>
      have HI2 : Hid (A.L.take (k + 1) = B.L.take (k + 1)) := Lib.hid (by
        rw [List.take_add_one, List.take_add_one, HI.out, HXY.out.1, HXY.out.2, of_decide_eq_true HV.out])
      go_wp2_with fail
      exact ⟨⟨k + 1, by omega, congrArg _ (by omega), HI2, Lib.hid (grown_trans HG.out (grown_drewN _ _ _))⟩, by simp only [RowKit.intOf]; omega⟩
  · obtain rfl : k = A.L.length := by omega
    have HLE : Hid (A.L = B.L) := Lib.hid (by
      have := HI.out
      rw [List.take_length, H34.out.1, List.take_length] at this
      exact this)
    clear HI
    go_wp2_with fail
    clear a3 a4 b3 b4
    go_loopw [6] (fun a wr => ∃ k : Nat, k ≤ A.C.length ∧ a = .int .i64 (k : Int) ∧ Hid (A.C.take k = B.C.take k) ∧ Hid (wa.grownBy wr none)) (fun a _ => A.C.length - (RowKit.intOf a).toNat)
    case atStart => exact ⟨0, Nat.zero_le _, rfl, Lib.hid rfl, HG⟩
    case round =>
    obtain ⟨w3, rfl⟩ : ∃ w3, w3 = wr := ⟨_, rfl⟩
    obtain ⟨k, hk, rfl, HI, HG3⟩ := hrel
    clear HG
    obtain ⟨a0, a1, a2, a3, a4, b0, b1, b2, b3, b4, -⟩ := keepTA HB.out HG3
    rw [HP.out.1] at a3
    rw [HP.out.2.1] at a4
    rw [HP.out.2.2.1, ← H34.out.1] at b3
    rw [HP.out.2.2.2, ← H34.out.2] at b4
    clear a0 a1 a2 b0 b1 b2
    by_cases hlt : k < A.C.length
    · obtain ⟨-, bL, oL, hp, -, hc⟩ := rd3_cells (HOK.out.a.keep HG3.out).c (by omega)
      obtain rfl : pC = some ⟨bL, oL, none⟩ := HP.out.2.1.symm.trans hp
      obtain ⟨x, hx⟩ : ∃ x, A.C[k]? = some x := ⟨_, List.getElem?_eq_getElem hlt⟩
      obtain ⟨x0, x1, x2⟩ := hc k x hx
      have hlt2 : k < B.C.length := by have := H34.out.2; omega
      obtain ⟨-, bM, oM, hp2, -, hd⟩ := rd3_cells (HOK.out.b.keep HG3.out).c (by omega)
      obtain rfl : pC2 = some ⟨bM, oM, none⟩ := HP.out.2.2.2.symm.trans hp2
      obtain ⟨y, hy⟩ : ∃ y, B.C[k]? = some y := ⟨_, List.getElem?_eq_getElem hlt2⟩
      obtain ⟨y0, y1, y2⟩ := hd k y hy
      have HXY := Lib.hid (And.intro hx hy)
      clear hp hp2 hc hd hx hy hlt2
      obtain ⟨v, hv⟩ : ∃ v, decide (x = y) = v := ⟨_, rfl⟩
      have hn : ∀ w, (binOp .neq 73 (.agg #[.int .i64 x.a, .int .i64 x.b, .int .i64 x.c]) (.agg #[.int .i64 y.a, .int .i64 y.b, .int .i64 y.c])).run Tryd.prog w = .ok (.bool (!v)) w := fun w => by rw [neq_claim, t3_eq, hv]
      have HV := Lib.hid hv
      clear hv
      go_wp2_with fail
      go_quiet (fail)
      clear x0 x1 x2 y0 y1 y2 hn a3 a4 b3 b4
      cases v with
      | false =>
        obtain rfl : X = false := by
          rw [← HX.out]
          exact decide_eq_false (fun h => by
            have e := (cmpA_zero.1 h).2.2.2.2
            have h1 := HXY.out.1
            rw [e, HXY.out.2] at h1
            exact of_decide_eq_false HV.out (Option.some.inj h1).symm)
        go_wp2_with fail
        go_ret
        exact ⟨rfl, grown_trans K.out (grown_trans HG3.out (grown_drewN _ _ _))⟩
      | true =>
        have HI2 : Hid (A.C.take (k + 1) = B.C.take (k + 1)) := Lib.hid (by
          rw [List.take_add_one, List.take_add_one, HI.out, HXY.out.1, HXY.out.2, of_decide_eq_true HV.out])
        go_wp2_with fail
        exact ⟨⟨k + 1, by omega, congrArg _ (by omega), HI2, Lib.hid (grown_trans HG3.out (grown_drewN _ _ _))⟩, by simp only [RowKit.intOf]; omega⟩
    · obtain rfl : k = A.C.length := by omega
      have hCE : A.C = B.C := by
        have := HI.out
        rw [List.take_length, H34.out.2, List.take_length] at this
        exact this
      obtain rfl : X = true := by
        rw [← HX.out]
        exact decide_eq_true (cmpA_zero.2 ⟨HE.out.1, HE.out.2.1, HE.out.2.2, HLE.out, hCE⟩)
      clear hCE
      go_wp2_with fail
      go_ret
      exact ⟨rfl, grown_trans K.out HG3.out⟩
end Go.Proofs.YtpoocenooomghaaDoor

/- advert: the chapter's example. -/
namespace Go.Proofs.YtpoocenooomghaaDoor
open Go.RowKit Bs
set_option maxRecDepth 100000 in
theorem AdIs.same {l : List Nat} {A B : Ad} (h : AdIs l A) (k : AdIs l B) : smA A B := ⟨h.r.trans k.r.symm, h.q.trans k.q.symm, h.cp.trans k.cp.symm, h.L.trans k.L.symm, h.C.trans k.C.symm⟩
set_option maxRecDepth 100000 in
theorem smA.valid {A B : Ad} (h : smA A B) : vAd A = vAd B := by
  obtain ⟨h1, h2, h3, h4, h5⟩ := h
  unfold vAd vHd
  rw [h1, h2, h4, h5]
set_option maxRecDepth 100000 in
/-- What Decode returns for an encoding. -/
theorem ADecPost.enc {A : Ad} {w w' : World} {e : Ending} (h : ADecPost (encA A) w e w') (hA : vAd A = true) : ∃ B : Ad, e = .returned (.tuple #[B.val, .int .i64 0]) ∧ smA A B ∧ AdOk w' (w.heap.size ≤ ·) B ∧ w.grownBy w' none := by
  obtain ⟨B, h1, h2, h3, h4, -⟩ := h
  have hs := (enc_is (VA.of hA)).same h1
  exact ⟨B, h4 (by rw [← hs.valid, hA]; exact enc_decE (VA.of hA)), hs, h2, h3⟩
def exA (q : Int) : Ad := ⟨1, q, false, [], [], none, 0, none, 0⟩
set_option maxRecDepth 100000 in
theorem exA_ok (q : Int) (w : World) : AdOk w (fun _ => True) (exA q) := ⟨rdf_nil _ _ _ _, rdf_nil _ _ _ _, ⟨Nat.le_refl _, by show 0 ≤ 9223372036854775807; decide⟩, ⟨Nat.le_refl _, by show 0 ≤ 9223372036854775807; decide⟩⟩
set_option maxRecDepth 100000 in
theorem exA_v : vAd (exA 1) = true := by decide
set_option maxRecDepth 100000 in
theorem exA_len : (encA (exA 1)).length = 7 := by rw [enc_len2, adB_len]; rfl
set_option maxRecDepth 100000 in
theorem exA_nw : nwA (exA 2) (exA 1) = true := by decide
set_option maxRecDepth 100000 in
set_option maxHeartbeats 6400000 in
theorem aawake_any (w : World) (hT : Tb w) :
    Calls Tryd.prog 18 #[] w fun e w' => e = .returned (.bool true) ∧ w.grownBy w' none := by
  have hb := heap_alloc_new w (.cells #[.int .i64 1, .int .i64 1, .bool false, .slice none 0 0, .slice none 0 0] 26)
  have hg := World.grownBy_alloc w (.cells #[.int .i64 1, .int .i64 1, .bool false, .slice none 0 0, .slice none 0 0] 26) none
  have H0 := Lib.hid (And.intro hb (And.intro hg (hT.keep hg)))
  clear hb hg
  go_enter Tryd.func18, Tryd.ntmps18
  go_upto_region 2 with fail
  generalize w.alloc _ = wa at *
  obtain ⟨c0, c1, c2, c3, c4⟩ := row5 H0.out.1
  go_wp2_with fail
  refine (aenc_any (exA 1) _ _ (exA_ok 1 _) H0.out.2.2).mono ?_
  rintro e w1 (⟨-, g, rfl, hB, hgg, hg⟩ | ⟨h, -⟩)
  case inr => rw [exA_v] at h; cases h
  have hD := adec_any (encA (exA 1)) (pk_by _) (by rw [exA_len]; decide) (some ⟨g, 0, none⟩) (encA (exA 1)).length (Nat.le_refl _) (fun _ => True) w1 (hB.rd _ trivial _)
  have HD : Hid _ := Lib.hid (hD.mono (fun e w' h => h.enc exA_v))
  rw [exA_len] at HD ⊢
  have H1 := Lib.hid (And.intro (kept_row H0.out.1 hg (by simp)) (grown_trans H0.out.2.1 hg))
  clear hD hB hgg hg H0 c0 c1 c2 c3 c4
  go_wp2_with fail
  refine HD.out.mono ?_
  rintro e w2 ⟨⟨r, q2, cp, L, C, pL, cL, pC, cC⟩, rfl, hs, hO, hg⟩
  obtain ⟨B, hBB⟩ : ∃ B : Ad, B = ⟨r, q2, cp, L, C, pL, cL, pC, cC⟩ := ⟨_, rfl⟩
  have hV : B.val = .agg #[.int .i64 r, .int .i64 q2, .bool cp, .slice pL L.length cL, .slice pC C.length cC] := by rw [hBB]; rfl
  have hC : adC B = #[.int .i64 r, .int .i64 q2, .bool cp, .slice pL L.length cL, .slice pC C.length cC] := by rw [hBB]; rfl
  rw [← hBB] at hs hO ⊢
  rw [hV]
  have HV := Lib.hid hV
  have kb := heap_alloc_new w2 (.cells (adC B) 26)
  have kg := World.grownBy_alloc w2 (.cells (adC B) 26) none
  have H2 := Lib.hid (And.intro (kept_row H1.out.1 (grown_trans hg kg) (by simp)) (And.intro (grown_trans H1.out.2 (grown_trans hg kg)) (And.intro (hO.keep kg) kb)))
  have HS := Lib.hid hs
  rw [hC] at H2
  clear hBB hV hC hs hO hg H1 HD kb kg
  go_upto_region 4 with fail
  generalize w2.alloc _ = w3 at *
  obtain ⟨c0, c1, c2, c3, c4⟩ := row5 H2.out.1
  obtain ⟨d0, d1, d2, d3, d4⟩ := row5 H2.out.2.2.2
  go_wp2_with fail
  have hSa := rsame_any (exA 1) B _ _ w3 (exA_ok 1 _) H2.out.2.2.1
  rw [HV.out, decide_eq_true (cmpA_zero.2 HS.out)] at hSa
  refine hSa.mono ?_
  rintro e w4 ⟨rfl, hg⟩
  have H4 := Lib.hid (And.intro (kept_row H2.out.1 hg (by simp)) (And.intro (grown_trans H2.out.2.1 hg) (H2.out.2.2.1.keep hg)))
  clear hSa hg H2 c0 c1 c2 c3 c4 d0 d1 d2 d3 d4
  obtain ⟨c0, c1, c2, c3, c4⟩ := row5 H4.out.1
  go_wp2_with fail
  have hN := anewer_any (exA 2) (exA 1) _ _ w4 (exA_ok 2 _) (exA_ok 1 _)
  rw [exA_nw] at hN
  refine hN.mono ?_
  rintro e w5 ⟨rfl, hg⟩
  have H5 := Lib.hid (grown_trans H4.out.2.1 hg)
  clear hN hg H4 c0 c1 c2 c3 c4
  go_wp2_with fail
  go_ret
  exact ⟨rfl, H5.out⟩
end Go.Proofs.YtpoocenooomghaaDoor

/- While the tape makes a topology. -/
namespace Go.Proofs.YtpoocenooomghaaDoor
open Go.RowKit Bs
/-- While a topology is made: its block holds uR, uL; the routers and the links lie in rows of the call's own, vR and vL. -/
structure TK (a : Nat) (W : World) (uR uL vR vL : Value) (R : List Rt) (L : List Lk) (w : World) : Prop where
  gb : w.heap[W.heap.size + 1]? = some (.cells #[uR, uL] 61 (0, 0))
  rb : w.heap[W.heap.size]? = some (.cells #[.slice none 0 0, .slice none 0 0] 61 (0, 0))
  oR : w.ownsRow (W.heap.size + 2) 90 2 vR R.length (R.flatMap rtC)
  oL : w.ownsRow (W.heap.size + 2) 92 5 vL L.length (L.flatMap lkC)
  ap : ∀ g, vR.ownBlock = some g → vL.ownBlock ≠ some g
  st : St a W w
  sz : W.heap.size + 2 ≤ w.heap.size
set_option maxRecDepth 100000 in
theorem own_other {w w' : World} {base size n b : Nat} {e : TypeId} {v : Value} {xs : List Value} (h : w.ownsRow base e size v n xs) (g : w.grownBy w' (some b)) (hb : b < base) : w'.ownsRow base e size v n xs :=
  h.kept g (by
    cases hv : v.ownBlock with
    | none => exact .inl rfl
    | some k => exact .inr (fun e => by have e2 := Option.some.inj e; have := (h.lt k hv).1; omega))
set_option maxRecDepth 100000 in
theorem St.storeT {a b : Nat} {W w w1 : World} (h : St a W w) (g : w.grownBy w1 (some b)) (hb : W.heap.size ≤ b) (ha : a < W.heap.size) : St a W w1 := by
  refine ⟨⟨g.os.trans h.1.os, g.tape.trans h.1.tape, g.output.trans h.1.output, Nat.le_trans h.1.size g.size, fun i hi hia => (g.block i (Nat.lt_of_lt_of_le hi h.1.size) (fun e => by have := Option.some.inj e; omega)).trans (h.1.block i hi hia)⟩, ?_⟩
  obtain ⟨v, n, i, T⟩ := h.2
  have hlt : a < w.heap.size := Nat.lt_of_lt_of_le ha h.1.size
  have hk : w1.heap[a]? = w.heap[a]? := g.block a hlt (fun e => by have := Option.some.inj e; omega)
  refine ⟨v, n, i, (World.cell?_of_block (a := ⟨a, 0, none⟩) hk).trans T.l, (World.cell?_of_block (a := ⟨a, 1, none⟩) hk).trans T.p, (World.frozen?_of_block (a := ⟨a, 1, none⟩) hk).trans T.fr, ?_, T.le, T.len⟩
  obtain ⟨p, c, hv, hc⟩ := T.ints
  refine ⟨p, c, hv, fun hn => ?_⟩
  obtain ⟨b1, off, hp, hb1, hx⟩ := hc hn
  refine ⟨b1, off, hp, hb1, fun i hi => ?_⟩
  obtain ⟨x, hx1, hcell⟩ := hx i hi
  exact ⟨x, hx1, g.cell hcell (fun e => by have : b1 = b := Option.some.inj e; omega)⟩
section
variable {a : Nat} {W w w1 : World} {uR uL vR vL v' : Value} {R : List Rt} {L : List Lk}
set_option maxRecDepth 100000 in
theorem TK.keep (h : TK a W uR uL vR vL R L w) (g : w.grownBy w1 none) : TK a W uR uL vR vL R L w1 :=
  ⟨kept_row h.gb g (by simp), kept_row h.rb g (by simp), h.oR.kept g (by cases hv : vR.ownBlock <;> simp), h.oL.kept g (by cases hv : vL.ownBlock <;> simp), h.ap, h.st.trans ⟨grown_none g _, h.st.2.keep g⟩, Nat.le_trans h.sz g.size⟩
set_option maxRecDepth 100000 in
theorem TK.tape (h : TK a W uR uL vR vL R L w) (ha : a < W.heap.size) (k : St a w w1) : TK a W uR uL vR vL R L w1 :=
  ⟨kept_row h.gb k.1 (fun e => by have := Option.some.inj e; omega), kept_row h.rb k.1 (fun e => by have := Option.some.inj e; omega), own_other h.oR k.1 (by omega), own_other h.oL k.1 (by omega), h.ap, h.st.trans k, Nat.le_trans h.sz k.1.size⟩
set_option maxRecDepth 100000 in
theorem TK.start (hT : Tp w a) : TK a w (.slice none 0 0) (.slice none 0 0) (.slice none 0 0) (.slice none 0 0) [] [] ((w.alloc (.cells #[.slice none 0 0, .slice none 0 0] 61)).alloc (.cells #[.slice none 0 0, .slice none 0 0] 61)) := by
  obtain ⟨k1, k2, k3, _⟩ := two_boxes w #[.slice none 0 0, .slice none 0 0] #[.slice none 0 0, .slice none 0 0] 61 61
  exact ⟨k2, k1, World.ownsRow_nil _ _ _ _, World.ownsRow_nil _ _ _ _, fun g hg => (by cases hg), ⟨grown_none k3 _, hT.keep k3⟩, by simp⟩
set_option maxRecDepth 100000 in
theorem St.rowT {a base size n : Nat} {W w w1 : World} {e : TypeId} {v : Value} {xs : List Value} (h : St a W w) (ho : w.ownsRow base e size v n xs) (hb : W.heap.size ≤ base) (ha : a < W.heap.size) (k : w.grownBy w1 v.ownBlock) : St a W w1 := by
  cases hv : v.ownBlock with
  | none => rw [hv] at k; exact ⟨grown_trans h.1 (grown_none k _), h.2.keep k⟩
  | some g => rw [hv] at k; exact h.storeT k (Nat.le_trans hb (ho.lt g hv).1) ha
set_option maxRecDepth 100000 in
theorem TK.addR {g n cap : Nat} {y : Rt} (h : TK a W uR uL vR vL R L w) (ha : a < W.heap.size) (hown : w1.ownsRow (W.heap.size + 2) 90 2 (.slice (some ⟨g, 0, none⟩) n cap) (R.length + 1) (R.flatMap rtC ++ [.int .i64 y.id, .bool y.cap])) (hg : w.grownBy w1 vR.ownBlock) (hat : vR.ownBlock = some g ∨ g = w.heap.size) :
    TK a W uR uL (.slice (some ⟨g, 0, none⟩) n cap) vL (R ++ [y]) L w1 := by
  have hne : ∀ k, k < W.heap.size + 2 → some k ≠ vR.ownBlock := fun k hk e => by
    have := (h.oR.lt k e.symm).1
    omega
  refine ⟨kept_row h.gb hg (hne _ (by omega)), kept_row h.rb hg (hne _ (by omega)), ?_, h.oL.kept hg ?_, ?_, h.st.rowT h.oR (by omega) ha hg, Nat.le_trans h.sz hg.size⟩
  · rw [List.length_append, List.flatMap_append]; exact hown
  · cases hv : vL.ownBlock with
    | none => exact .inl rfl
    | some k => exact .inr (fun e => h.ap k e.symm hv)
  · intro g2 hg2 e
    obtain rfl : g = g2 := by simpa [Value.ownBlock] using hg2
    rcases hat with hat | hat
    · exact h.ap g hat e
    · have := (h.oL.lt g e).2
      omega
set_option maxRecDepth 100000 in
theorem TK.addL {g n cap : Nat} {y : Lk} (h : TK a W uR uL vR vL R L w) (ha : a < W.heap.size) (hown : w1.ownsRow (W.heap.size + 2) 92 5 (.slice (some ⟨g, 0, none⟩) n cap) (L.length + 1) (L.flatMap lkC ++ [.int .i64 y.a, .int .i64 y.b, .int .i64 y.ca, .int .i64 y.cb, .int .i64 y.cp])) (hg : w.grownBy w1 vL.ownBlock) (hat : vL.ownBlock = some g ∨ g = w.heap.size) :
    TK a W uR uL vR (.slice (some ⟨g, 0, none⟩) n cap) R (L ++ [y]) w1 := by
  have hne : ∀ k, k < W.heap.size + 2 → some k ≠ vL.ownBlock := fun k hk e => by
    have := (h.oL.lt k e.symm).1
    omega
  refine ⟨kept_row h.gb hg (hne _ (by omega)), kept_row h.rb hg (hne _ (by omega)), h.oR.kept hg ?_, ?_, ?_, h.st.rowT h.oL (by omega) ha hg, Nat.le_trans h.sz hg.size⟩
  · cases hv : vR.ownBlock with
    | none => exact .inl rfl
    | some k => exact .inr (fun e => h.ap k hv e.symm)
  · rw [List.length_append, List.flatMap_append]; exact hown
  · intro g2 hg2 e
    obtain rfl : g = g2 := by simpa [Value.ownBlock] using e
    rcases hat with hat | hat
    · exact h.ap g hg2 hat
    · have := (h.oR.lt g hg2).2
      omega
set_option maxRecDepth 100000 in
theorem TK.put0 (h : TK a W uR uL vR vL R L w) (ha : a < W.heap.size) : TK a W vR uL vR vL R L (w.setCell ⟨W.heap.size + 1, 0, none⟩ vR) := by
  have k : w.grownBy (w.setCell ⟨W.heap.size + 1, 0, none⟩ vR) (some (W.heap.size + 1)) := grown_setCell w ⟨W.heap.size + 1, 0, none⟩ vR
  exact ⟨heap_setCell_same w _ 0 _ _ vR h.gb, kept_row h.rb k (fun e => by have : W.heap.size = W.heap.size + 1 := Option.some.inj e; omega), own_other h.oR k (by omega), own_other h.oL k (by omega), h.ap, h.st.storeT k (by omega) ha, Nat.le_trans h.sz k.size⟩
set_option maxRecDepth 100000 in
theorem TK.put1 (h : TK a W uR uL vR vL R L w) (ha : a < W.heap.size) : TK a W uR vL vR vL R L (w.setCell ⟨W.heap.size + 1, 1, none⟩ vL) := by
  have k : w.grownBy (w.setCell ⟨W.heap.size + 1, 1, none⟩ vL) (some (W.heap.size + 1)) := grown_setCell w ⟨W.heap.size + 1, 1, none⟩ vL
  exact ⟨heap_setCell_same w _ 1 _ _ vL h.gb, kept_row h.rb k (fun e => by have : W.heap.size = W.heap.size + 1 := Option.some.inj e; omega), own_other h.oR k (by omega), own_other h.oL k (by omega), h.ap, h.st.storeT k (by omega) ha, Nat.le_trans h.sz k.size⟩
set_option maxRecDepth 100000 in
theorem TK.newL {O : List Lk} (h : TK a W uR uL vR vL R L w) (hown : w1.ownsRow w.heap.size 92 5 v' O.length (O.flatMap lkC)) (g : w.grownBy w1 none) : TK a W uR uL vR v' R O w1 := by
  have h1 := h.keep g
  refine ⟨h1.gb, h1.rb, h1.oR, hown.mono h.sz, fun k hk e => ?_, h1.st, h1.sz⟩
  have := (hown.lt k e).1
  have := (h.oR.lt k hk).2
  omega
set_option maxRecDepth 100000 in
theorem flat_set : ∀ (L : List Lk) (k j : Nat) (x : Int), k < L.length → j < 5 → ∃ L' : List Lk, L'.length = L.length ∧ L'.flatMap lkC = (L.flatMap lkC).set (k * 5 + j) (.int .i64 x)
  | [], k, _, _, hk, _ => absurd hk (Nat.not_lt_zero k)
  | m :: t, 0, j, x, _, hj => by
    rcases (show j = 0 ∨ j = 1 ∨ j = 2 ∨ j = 3 ∨ j = 4 by omega) with rfl | rfl | rfl | rfl | rfl
    · exact ⟨⟨x, m.b, m.ca, m.cb, m.cp⟩ :: t, rfl, rfl⟩
    · exact ⟨⟨m.a, x, m.ca, m.cb, m.cp⟩ :: t, rfl, rfl⟩
    · exact ⟨⟨m.a, m.b, x, m.cb, m.cp⟩ :: t, rfl, rfl⟩
    · exact ⟨⟨m.a, m.b, m.ca, x, m.cp⟩ :: t, rfl, rfl⟩
    · exact ⟨⟨m.a, m.b, m.ca, m.cb, x⟩ :: t, rfl, rfl⟩
  | m :: t, k + 1, j, x, hk, hj => by
    obtain ⟨L', h1, h2⟩ := flat_set t k j x (by simpa using hk) hj
    refine ⟨m :: L', by simp [h1], ?_⟩
    rw [List.flatMap_cons, h2, List.flatMap_cons]
    have e : (k + 1) * 5 + j = (lkC m).length + (k * 5 + j) := by
      show (k + 1) * 5 + j = 5 + (k * 5 + j)
      omega
    rw [e, List.set_append_right _ _ (Nat.le_add_right _ _), Nat.add_sub_cancel_left]
set_option maxRecDepth 100000 in
theorem TK.setL {g n cap k j : Nat} {x : Int} (h : TK a W uR uL vR (.slice (some ⟨g, 0, none⟩) n cap) R L w) (ha : a < W.heap.size) (hk : k < L.length) (hj : j < 5) :
    ∃ L', L'.length = L.length ∧ TK a W uR uL vR (.slice (some ⟨g, 0, none⟩) n cap) R L' (w.setCell ⟨g, k * 5 + j, none⟩ (.int .i64 x)) := by
  obtain ⟨L', hl, hf⟩ := flat_set L k j x hk hj
  obtain ⟨-, -, -⟩ : True ∧ True ∧ True := ⟨trivial, trivial, trivial⟩
  have hg0 := (h.oL.lt g rfl).1
  have hn : n = L.length := by
    obtain ⟨p, c, e, _⟩ := own_shape h.oL
    injection e
  subst hn
  obtain ⟨s1, s2⟩ := h.oL.stored (k * 5 + j) (.int .i64 x)
  refine ⟨L', hl, kept_row h.gb s2 (fun e => by have : W.heap.size + 1 = g := Option.some.inj e; omega), kept_row h.rb s2 (fun e => by have : W.heap.size = g := Option.some.inj e; omega), h.oR.kept s2 ?_, ?_, h.ap, h.st.storeT s2 (by omega) ha, Nat.le_trans h.sz s2.size⟩
  · cases hv : vR.ownBlock with
    | none => exact .inl rfl
    | some k => exact .inr (fun e => h.ap k hv (by rw [e]; rfl))
  · rw [hl, hf]; exact s1
end
/-- What returns a topology of the tape's. -/
def TopoPost (a : Nat) (most : Nat) (n : Int) (w : World) (e : Ending) (w' : World) : Prop :=
  ∃ (R : List Rt) (L : List Lk) (vR vL : Value), e = .returned (.agg #[vR, vL]) ∧ w'.ownsRow w.heap.size 90 2 vR R.length (R.flatMap rtC) ∧ w'.ownsRow w.heap.size 92 5 vL L.length (L.flatMap lkC) ∧ (∀ g, vR.ownBlock = some g → vL.ownBlock ≠ some g) ∧ TopOf most n R L ∧ St a w w'
set_option maxRecDepth 100000 in
theorem tg_of_own {w : World} {base : Nat} {vR vL : Value} {R : List Rt} {L : List Lk} (hR : w.ownsRow base 90 2 vR R.length (R.flatMap rtC)) (hL : w.ownsRow base 92 5 vL L.length (L.flatMap lkC)) :
    ∃ pR cR pL cL, vR = .slice pR R.length cR ∧ vL = .slice pL L.length cL ∧ TgOk w (fun b => base ≤ b ∧ b < w.heap.size) ⟨R, L, pR, cR, pL, cL⟩ := by
  obtain ⟨pR, cR, rfl, h1, h2⟩ := own_shape hR
  obtain ⟨pL, cL, rfl, h3, h4⟩ := own_shape hL
  exact ⟨pR, cR, pL, cL, rfl, rfl, rdf_of_own2 hR, rdf_of_own2 hL, ⟨h1, h2⟩, ⟨h3, h4⟩⟩
end Go.Proofs.YtpoocenooomghaaDoor

/- The tape's order of links: the links in order, in a block of the call's own. -/
namespace Go.Proofs.YtpoocenooomghaaDoor
open Go.RowKit Bs
/-- While links are ordered. -/
structure OM (w0 : World) (L : List Lk) (p : Option Addr) (c : Nat) (O : List Lk) (v : Value) (w : World) : Prop where
  l : RdL5 w (· < w0.heap.size) (.slice p L.length c) L
  own : w.ownsRow w0.heap.size 92 5 v O.length (O.flatMap lkC)
  gr : w0.grownBy w none
set_option maxRecDepth 100000 in
theorem OM.keep {w0 w w' : World} {L O : List Lk} {p : Option Addr} {c : Nat} {v : Value} (h : OM w0 L p c O v w) (g : w.grownBy w' none) : OM w0 L p c O v w' :=
  ⟨h.l.keep g, h.own.kept g (by cases hv : v.ownBlock <;> simp), grown_trans h.gr g⟩
set_option maxRecDepth 100000 in
theorem OM.cells {w0 w : World} {L O : List Lk} {b off c b3 off3 c3 k j : Nat} {x y : Lk} (h : OM w0 L (some ⟨b, off, none⟩) c O (.slice (some ⟨b3, off3, none⟩) O.length c3) w) (hy : L[k]? = some y) (hx : O[j]? = some x) :
    (w.cell? ⟨b, off + k * 5, none⟩ = some (.int .i64 y.a) ∧ w.cell? ⟨b, off + k * 5 + 1, none⟩ = some (.int .i64 y.b)) ∧ w.cell? ⟨b3, off3 + j * 5, none⟩ = some (.int .i64 x.a) ∧ w.cell? ⟨b3, off3 + j * 5 + 1, none⟩ = some (.int .i64 x.b) := by
  have h1 := (List.getElem?_eq_some_iff.1 hy).1
  have h2 := (List.getElem?_eq_some_iff.1 hx).1
  obtain ⟨-, b', off', e, -, hc⟩ := rdl_cells (L := L) h.l (by omega)
  injection e with e
  injection e with e4 e5
  subst e4
  subst e5
  obtain ⟨-, b', off', e, -, hc3⟩ := rdl_cells (L := O) (rdf_of_own h.own) (by omega)
  injection e with e
  injection e with e4 e5
  subst e4
  subst e5
  exact ⟨⟨(hc k y hy).1, (hc k y hy).2.1⟩, (hc3 j x hx).1, (hc3 j x hx).2.1⟩
set_option maxRecDepth 100000 in
theorem own_formF {w : World} {base size n : Nat} {e : TypeId} {v : Value} {xs : List Value} (h : w.ownsRow base e size v n xs) : (v = .slice none 0 0 ∧ n = 0) ∨ ∃ g cap, v = .slice (some ⟨g, 0, none⟩) n cap ∧ n ≤ cap ∧ cap ≤ 9223372036854775807 := by
  rcases h.2 with ⟨rfl, h0⟩ | ⟨g, cap, cur, rfl, _, _, hn, hm, _⟩
  · exact .inl ⟨rfl, h0⟩
  · unfold maxLen at hm
    exact .inr ⟨g, cap, rfl, hn, by omega⟩
set_option maxRecDepth 100000 in
theorem OM.link {w0 w : World} {L O : List Lk} {b off c k : Nat} {v : Value} {y : Lk} (h : OM w0 L (some ⟨b, off, none⟩) c O v w) (hy : L[k]? = some y) :
    w.cell? ⟨b, off + k * 5, none⟩ = some (.int .i64 y.a) ∧ w.cell? ⟨b, off + k * 5 + 1, none⟩ = some (.int .i64 y.b) ∧ w.cell? ⟨b, off + k * 5 + 2, none⟩ = some (.int .i64 y.ca) ∧ w.cell? ⟨b, off + k * 5 + 3, none⟩ = some (.int .i64 y.cb) ∧ w.cell? ⟨b, off + k * 5 + 4, none⟩ = some (.int .i64 y.cp) := by
  have h1 := (List.getElem?_eq_some_iff.1 hy).1
  obtain ⟨-, b', off', e, -, hc⟩ := rdl_cells (L := L) h.l (by omega)
  injection e with e
  injection e with e4 e5
  subst e4
  subst e5
  exact hc k y hy
set_option maxRecDepth 100000 in
theorem OM.apart {w0 w w1 : World} {L O : List Lk} {p : Option Addr} {c base2 m : Nat} {v v2 : Value} {ys : List Value} (h : OM w0 L p c O v w) (hb : w0.heap.size ≤ base2) (hv : w.ownsRow base2 92 5 v2 m ys) (h3 : ∀ g, v.ownBlock = some g → g < base2) (k : w.grownBy w1 v2.ownBlock) : OM w0 L p c O v w1 :=
  ⟨h.l.grown k (fun b hlt e => by have := (hv.lt b e.symm).1; omega), own_apartF h.own hv h3 k, old_grow h.gr hv hb k⟩
set_option maxRecDepth 100000 in
theorem OM.finish {w0 w w1 : World} {L O O' O2 : List Lk} {p : Option Addr} {c base2 m : Nat} {v v2 v3 : Value} {ys : List Value} (h : OM w0 L p c O v w) (hb : w0.heap.size ≤ base2) (hv : w.ownsRow base2 92 5 v2 m ys) (ho : w1.ownsRow base2 92 5 v3 O2.length (O2.flatMap lkC)) (k : w.grownBy w1 v2.ownBlock) (e : O' = O2) : OM w0 L p c O' v3 w1 := by
  subst e
  exact ⟨h.l.grown k (fun b hlt e => by have := (hv.lt b e.symm).1; omega), ho.mono hb, old_grow h.gr hv hb k⟩
/-- The elements up to j come before y. -/
def Bef (O : List Lk) (y : Lk) (j : Nat) : Prop := ∀ i x, i < j → O[i]? = some x → ltL x y = true
set_option maxRecDepth 100000 in
theorem Bef.succ {O : List Lk} {y x : Lk} {j : Nat} (h : Bef O y j) (hx : O[j]? = some x) (hl : ltL x y = true) : Bef O y (j + 1) := by
  intro i z hi hz
  by_cases hij : i < j
  · exact h i z hij hz
  · obtain rfl : i = j := by omega
    rw [hx] at hz
    obtain rfl := Option.some.inj hz
    exact hl
set_option maxRecDepth 100000 in
set_option maxHeartbeats 6400000 in
theorem ord_any (L : List Lk) (p : Option Addr) (c : Nat) (q : Nat → Prop) (w : World) (hL : RdL5 w q (.slice p L.length c) L) (hm : L.length ≤ 1000) :
    Calls Tryd.prog 62 #[.slice p L.length c] w fun e w' => ∃ (v : Value), e = .returned v ∧ w'.ownsRow w.heap.size 92 5 v (ordL L).length ((ordL L).flatMap lkC) ∧ w.grownBy w' none := by
  obtain ⟨il, hil, hl0, hl1, hl2⟩ := info_parts info_lk
  have M0 : Hid (OM w L p c (ordL (L.take 0)) (.slice none 0 0) w) := Lib.hid ⟨hL.old, World.ownsRow_nil _ _ _ _, grown_refl _ _⟩
  clear hL
  go_enter Tryd.func62, Tryd.ntmps62
  go_wp2_with fail
  go_loopw [3, 4] (fun v a wr => ∃ (k : Nat), k ≤ L.length ∧ a = .int .i64 (k : Int) ∧ Hid (OM w L p c (ordL (L.take k)) v wr)) (fun _ a _ => L.length - (RowKit.intOf a).toNat)
  case atStart => exact ⟨0, Nat.zero_le _, rfl, M0⟩
  case round =>
    obtain ⟨k, hk, rfl, M⟩ := hrel
    clear M0
    by_cases hlt : k < L.length
    · obtain ⟨-, b, off, rfl, hq, -⟩ := rdl_cells (L := L) M.out.l (by omega)
      obtain ⟨y, hy⟩ : ∃ y, L[k]? = some y := ⟨_, List.getElem?_eq_getElem hlt⟩
      have HS := Lib.hid (ordL_take L k y hy)
      have HO : Hid ((ordL (L.take k)).length = k) := Lib.hid (by rw [ordL_len, List.length_take]; omega)
      have hO1 : (ordL (L.take k)).length ≤ 1000 := by rw [HO.out]; omega
      obtain ⟨O, hOd⟩ : ∃ O, O = ordL (L.take k) := ⟨_, rfl⟩
      rw [← hOd] at M HS HO hO1
      clear hOd
      obtain ⟨p3, c3, rfl, h31, h32⟩ := own_shape M.out.own
      have HY := Lib.hid hy
      clear hy
      go_upto_block 2 with fail
      go_cut [5] from 13 to 56 (fun a wi => ∃ j : Nat, j ≤ O.length ∧ a = .int .i64 (j : Int) ∧ Hid (insL O y = O.take j ++ y :: O.drop j ∧ OM w L (some ⟨b, off, none⟩) c O (.slice p3 O.length c3) wi))
      case first =>
        go_wp2_with fail
        go_loopw [5] (fun a wi => ∃ (j : Nat), j ≤ O.length ∧ a = .int .i64 (j : Int) ∧ Hid (Bef O y j ∧ OM w L (some ⟨b, off, none⟩) c O (.slice p3 O.length c3) wi)) (fun a _ => O.length - (RowKit.intOf a).toNat)
        case atStart => exact ⟨0, Nat.zero_le _, rfl, Lib.hid ⟨fun i x hi => by omega, M.out⟩⟩
        case round =>
          obtain ⟨j, hj, rfl, MI⟩ := hrel
          clear M
          by_cases hlt2 : j < O.length
          · obtain ⟨b3, off3, rfl⟩ : ∃ b3 off3, p3 = some ⟨b3, off3, none⟩ := by
              obtain ⟨-, b3, off3, e, -, -⟩ := rdl_cells (L := O) (rdf_of_own MI.out.2.own) (by omega)
              exact ⟨b3, off3, e⟩
            obtain ⟨x, hx⟩ : ∃ x, O[j]? = some x := ⟨_, List.getElem?_eq_getElem hlt2⟩
            obtain ⟨⟨d0, d1⟩, a0, a1⟩ := MI.out.2.cells HY.out hx
            have HX := Lib.hid hx
            clear hx
            have h1j : (0 : Int) ≤ (j : Int) := by omega
            have h2j : (j : Int) < (O.length : Int) := by omega
            have h1k : (0 : Int) ≤ (k : Int) := by omega
            have h2k : (k : Int) < (L.length : Int) := by omega
            by_cases h1 : x.a < y.a
            · have HN : ∀ n, Hid (Bef O y (j + 1) ∧ OM w L (some ⟨b, off, none⟩) c O (.slice (some ⟨b3, off3, none⟩) O.length c3) (wr.drewN n)) := fun n => Lib.hid ⟨MI.out.1.succ HX.out (decide_eq_true (.inl h1)), MI.out.2.keep (grown_drewN _ n _)⟩
              go_wp2_with fail
              go_quiet (fail)
              go_wp2_with fail
              exact ⟨⟨j + 1, by omega, congrArg _ (by omega), HN _⟩, by simp only [RowKit.intOf]; omega⟩
            · have h1' : decide (x.a < y.a) = false := decide_eq_false h1
              by_cases h2 : x.a = y.a
              · by_cases h3 : x.b < y.b
                · have HN : ∀ n, Hid (Bef O y (j + 1) ∧ OM w L (some ⟨b, off, none⟩) c O (.slice (some ⟨b3, off3, none⟩) O.length c3) (wr.drewN n)) := fun n => Lib.hid ⟨MI.out.1.succ HX.out (decide_eq_true (.inr ⟨h2, h3⟩)), MI.out.2.keep (grown_drewN _ n _)⟩
                  go_wp2_with fail
                  go_quiet (fail)
                  go_wp2_with fail
                  exact ⟨⟨j + 1, by omega, congrArg _ (by omega), HN _⟩, by simp only [RowKit.intOf]; omega⟩
                · have h3' : decide (x.b < y.b) = false := decide_eq_false h3
                  have HN : ∀ n, Hid (insL O y = O.take j ++ y :: O.drop j ∧ OM w L (some ⟨b, off, none⟩) c O (.slice (some ⟨b3, off3, none⟩) O.length c3) (wr.drewN n)) := fun n => Lib.hid ⟨insL_at y O j hj MI.out.1 (fun z hz => by rw [HX.out] at hz; obtain rfl := Option.some.inj hz; exact decide_eq_false (by omega)), MI.out.2.keep (grown_drewN _ n _)⟩
                  go_wp2_with fail
                  go_quiet (fail)
                  go_wp2_with fail
                  go_meet
                  exact ⟨j, hj, rfl, HN _⟩
              · have h2' : (x.a == y.a) = false := by simpa using h2
                have HN : ∀ n, Hid (insL O y = O.take j ++ y :: O.drop j ∧ OM w L (some ⟨b, off, none⟩) c O (.slice (some ⟨b3, off3, none⟩) O.length c3) (wr.drewN n)) := fun n => Lib.hid ⟨insL_at y O j hj MI.out.1 (fun z hz => by rw [HX.out] at hz; obtain rfl := Option.some.inj hz; exact decide_eq_false (by omega)), MI.out.2.keep (grown_drewN _ n _)⟩
                go_wp2_with fail
                go_quiet (fail)
                go_wp2_with fail
                go_meet
                exact ⟨j, hj, rfl, HN _⟩
          · obtain rfl : j = O.length := by omega
            have h1' : decide ((O.length : Int) < (O.length : Int)) = false := decide_eq_false (by omega)
            have HN : ∀ n, Hid (insL O y = O.take O.length ++ y :: O.drop O.length ∧ OM w L (some ⟨b, off, none⟩) c O (.slice p3 O.length c3) (wr.drewN n)) := fun n => Lib.hid ⟨insL_at y O O.length hj MI.out.1 (fun z hz => by rw [List.getElem?_eq_none (Nat.le_refl _)] at hz; cases hz), MI.out.2.keep (grown_drewN _ n _)⟩
            go_wp2_with fail
            go_quiet (fail)
            go_wp2_with fail
            go_meet
            exact ⟨O.length, hj, rfl, HN _⟩
      case rest =>
        obtain ⟨j, hj, rfl, HK⟩ := hcut
        clear M
        have HW : Hid (w.heap.size ≤ wc.heap.size) := Lib.hid HK.out.2.gr.size
        obtain ⟨T1, hT1⟩ : ∃ T1, O.take j = T1 := ⟨_, rfl⟩
        obtain ⟨T2, hT2⟩ : ∃ T2, O.drop j = T2 := ⟨_, rfl⟩
        have HI : Hid (insL O y = T1 ++ y :: T2) := Lib.hid (by rw [← hT1, ← hT2]; exact HK.out.1)
        have HJ : Hid (j = T1.length) := Lib.hid (by rw [← hT1, List.length_take]; omega)
        have HJ2 : Hid (O.length - j = T2.length) := Lib.hid (by rw [← hT2, List.length_drop])
        have HT := Lib.hid (And.intro hT1 hT2)
        clear hT1 hT2
        have HB3 : Hid (∀ g, (Value.slice p3 O.length c3).ownBlock = some g → g < wc.heap.size) := Lib.hid (fun g hg => (HK.out.2.own.lt g hg).2)
        rcases own_formF HK.out.2.own with ⟨e, e0⟩ | ⟨g3, cap3, e, hn3, hm3⟩
        · injection e with e1 e2 e3
          subst e1
          subst e3
          obtain rfl := List.eq_nil_of_length_eq_zero e0
          obtain rfl : j = 0 := by simpa using hj
          have HR1 : Hid (RdL5 wc (fun _ => True) (.slice none 0 0) T1) := Lib.hid (by obtain rfl := HT.out.1; exact rdf_nil _ _ _ _)
          go_wp2_with (at_builtin; refine hold_on ?_)
          refine Lib.hid ?_
          refine (wpList_append_f lkC 5 40 (by decide) (fun _ => rfl) lk_one 92 59 il _ Tryd.underlying59 hil hl0 hl1 hl2 rfl (by decide) rfl _ _ rfl wc.heap.size (.slice none 0 0) [] 0 rfl rfl (World.ownsRow_nil _ _ _ _) _ _ _ T1 rfl HJ.out (by simp) _ HR1.out (by omega) (by rw [← HJ.out]; omega) (Nat.le_refl _) ?_)
          intro v1 w4 hown1 hg1
          have M4 := Lib.hid (HK.out.2.keep hg1)
          have HO1 : Hid (w4.ownsRow wc.heap.size 92 5 v1 T1.length (T1.flatMap lkC)) := Lib.hid hown1
          clear hown1
          obtain ⟨p1, c1, rfl, -, -⟩ := own_shape HO1.out
          have HZ4 := Lib.hid hg1.size
          obtain ⟨d0, d1, d2, d3, d4⟩ := M4.out.link HY.out
          clear hg1 HR1
          go_wp2_with (at_builtin; refine hold_on ?_)
          refine Lib.hid ?_
          refine (wpList_append_f lkC 5 40 (by decide) (fun _ => rfl) lk_one 92 59 il _ Tryd.underlying59 hil hl0 hl1 hl2 rfl (by decide) rfl _ _ rfl wc.heap.size _ T1 _ rfl rfl (HO1.out.alloc _) _ _ _ [y] rfl rfl (by simp) (fun _ => True) (rdf_one _ trivial (cells5 w4 _ _ _ _ _ _) 1) (by omega) (by rw [← HJ.out]; simp <;> omega) (by have := HZ4.out; simp <;> omega) ?_)
          intro v2 w5 hown2 hg2
          have M5 := Lib.hid ((M4.out.keep (World.grownBy_alloc w4 _ none)).apart HW.out (HO1.out.alloc _) HB3.out hg2)
          obtain ⟨T3, hT3⟩ : ∃ T3, T3 = T1 ++ [y] := ⟨_, rfl⟩
          rw [← hT3] at hown2
          have HO2 := Lib.hid hown2
          have HT3 := Lib.hid hT3
          clear hown2 hT3
          obtain ⟨p2, c2, rfl, -, -⟩ := own_shape HO2.out
          have HZ5 : Hid (wc.heap.size ≤ w5.heap.size) := Lib.hid (Nat.le_trans HZ4.out (Nat.le_trans (by simp) hg2.size))
          clear hg2 d0 d1 d2 d3 d4 M4 HZ4
          have HR3 := Lib.hid ((show RdL5 w5 (fun _ => True) (.slice none 0 0) T2 from by obtain rfl := HT.out.2; exact rdf_nil _ _ _ _))
          go_wp2_with (at_builtin; refine hold_on ?_)
          refine Lib.hid ?_
          refine (wpList_append_f lkC 5 40 (by decide) (fun _ => rfl) lk_one 92 59 il _ Tryd.underlying59 hil hl0 hl1 hl2 rfl (by decide) rfl _ _ rfl wc.heap.size _ T3 _ rfl rfl HO2.out _ _ _ T2 rfl (by have := HJ2.out; omega) (by simp) _ HR3.out (by omega) (by rw [← HJ2.out, HT3.out, List.length_append, ← HJ.out]; simp <;> omega) HZ5.out ?_)
          intro v3 w6 hown3 hg3
          have M6 : Hid (OM w L (some ⟨b, off, none⟩) c (ordL (L.take (k + 1))) v3 w6) := Lib.hid (M5.out.finish HW.out HO2.out hown3 hg3 (by rw [HS.out, HI.out, HT3.out]; simp))
          clear hown3 hg3 M5 HO2 HO1 HR3
          go_wp2_with fail
          exact ⟨⟨k + 1, by omega, congrArg _ (by omega), M6⟩, by simp only [RowKit.intOf]; omega⟩
        · injection e with e1 e2 e3
          subst e1
          subst e3
          have HR1 : Hid (RdL5 wc (· < wc.heap.size) (.slice (some ⟨g3, 0, none⟩) j c3) T1) := Lib.hid (by rw [← HT.out.1]; exact (RdF.part (f := lkC) (k := 5) (fun _ => rfl) (rdf_of_own2 HK.out.2.own) j hj c3).mono (fun b hb => hb.2))
          by_cases hcj : c3 = j
          · obtain rfl : j = O.length := by omega
            subst hcj
            go_wp2_with (at_builtin; refine hold_on ?_)
            refine Lib.hid ?_
            refine (wpList_append_f lkC 5 40 (by decide) (fun _ => rfl) lk_one 92 59 il _ Tryd.underlying59 hil hl0 hl1 hl2 rfl (by decide) rfl _ _ rfl wc.heap.size (.slice none 0 0) [] 0 rfl rfl (World.ownsRow_nil _ _ _ _) _ _ _ T1 rfl HJ.out (by simp) _ HR1.out (by omega) (by rw [← HJ.out]; omega) (Nat.le_refl _) ?_)
            intro v1 w4 hown1 hg1
            have M4 := Lib.hid (HK.out.2.keep hg1)
            have HO1 : Hid (w4.ownsRow wc.heap.size 92 5 v1 T1.length (T1.flatMap lkC)) := Lib.hid hown1
            clear hown1
            obtain ⟨p1, c1, rfl, -, -⟩ := own_shape HO1.out
            have HZ4 := Lib.hid hg1.size
            obtain ⟨d0, d1, d2, d3, d4⟩ := M4.out.link HY.out
            clear hg1 HR1
            go_wp2_with (at_builtin; refine hold_on ?_)
            refine Lib.hid ?_
            refine (wpList_append_f lkC 5 40 (by decide) (fun _ => rfl) lk_one 92 59 il _ Tryd.underlying59 hil hl0 hl1 hl2 rfl (by decide) rfl _ _ rfl wc.heap.size _ T1 _ rfl rfl (HO1.out.alloc _) _ _ _ [y] rfl rfl (by simp) (fun _ => True) (rdf_one _ trivial (cells5 w4 _ _ _ _ _ _) 1) (by omega) (by rw [← HJ.out]; simp <;> omega) (by have := HZ4.out; simp <;> omega) ?_)
            intro v2 w5 hown2 hg2
            have M5 := Lib.hid ((M4.out.keep (World.grownBy_alloc w4 _ none)).apart HW.out (HO1.out.alloc _) HB3.out hg2)
            obtain ⟨T3, hT3⟩ : ∃ T3, T3 = T1 ++ [y] := ⟨_, rfl⟩
            rw [← hT3] at hown2
            have HO2 := Lib.hid hown2
            have HT3 := Lib.hid hT3
            clear hown2 hT3
            obtain ⟨p2, c2, rfl, -, -⟩ := own_shape HO2.out
            have HZ5 : Hid (wc.heap.size ≤ w5.heap.size) := Lib.hid (Nat.le_trans HZ4.out (Nat.le_trans (by simp) hg2.size))
            clear hg2 d0 d1 d2 d3 d4 M4 HZ4
            have HR3 := Lib.hid ((show RdL5 w5 (fun _ => True) (.slice (some ⟨g3, 0, none⟩) 0 0) T2 from by rw [← HT.out.2, List.drop_length]; exact rdf_nil _ _ _ _))
            go_wp2_with (at_builtin; refine hold_on ?_)
            refine Lib.hid ?_
            refine (wpList_append_f lkC 5 40 (by decide) (fun _ => rfl) lk_one 92 59 il _ Tryd.underlying59 hil hl0 hl1 hl2 rfl (by decide) rfl _ _ rfl wc.heap.size _ T3 _ rfl rfl HO2.out _ _ _ T2 rfl (by have := HJ2.out; omega) (by simp) _ HR3.out (by omega) (by rw [← HJ2.out, HT3.out, List.length_append, ← HJ.out]; simp <;> omega) HZ5.out ?_)
            intro v3 w6 hown3 hg3
            have M6 : Hid (OM w L (some ⟨b, off, none⟩) c (ordL (L.take (k + 1))) v3 w6) := Lib.hid (M5.out.finish HW.out HO2.out hown3 hg3 (by rw [HS.out, HI.out, HT3.out]; simp))
            clear hown3 hg3 M5 HO2 HO1 HR3
            go_wp2_with fail
            exact ⟨⟨k + 1, by omega, congrArg _ (by omega), M6⟩, by simp only [RowKit.intOf]; omega⟩
          · have n0 : ¬ c3 - j = 0 := by omega
            go_wp2_with (at_builtin; refine hold_on ?_)
            refine Lib.hid ?_
            refine (wpList_append_f lkC 5 40 (by decide) (fun _ => rfl) lk_one 92 59 il _ Tryd.underlying59 hil hl0 hl1 hl2 rfl (by decide) rfl _ _ rfl wc.heap.size (.slice none 0 0) [] 0 rfl rfl (World.ownsRow_nil _ _ _ _) _ _ _ T1 rfl HJ.out (by simp) _ HR1.out (by omega) (by rw [← HJ.out]; omega) (Nat.le_refl _) ?_)
            intro v1 w4 hown1 hg1
            have M4 := Lib.hid (HK.out.2.keep hg1)
            have HO1 : Hid (w4.ownsRow wc.heap.size 92 5 v1 T1.length (T1.flatMap lkC)) := Lib.hid hown1
            clear hown1
            obtain ⟨p1, c1, rfl, -, -⟩ := own_shape HO1.out
            have HZ4 := Lib.hid hg1.size
            obtain ⟨d0, d1, d2, d3, d4⟩ := M4.out.link HY.out
            clear hg1 HR1
            go_wp2_with (at_builtin; refine hold_on ?_)
            refine Lib.hid ?_
            refine (wpList_append_f lkC 5 40 (by decide) (fun _ => rfl) lk_one 92 59 il _ Tryd.underlying59 hil hl0 hl1 hl2 rfl (by decide) rfl _ _ rfl wc.heap.size _ T1 _ rfl rfl (HO1.out.alloc _) _ _ _ [y] rfl rfl (by simp) (fun _ => True) (rdf_one _ trivial (cells5 w4 _ _ _ _ _ _) 1) (by omega) (by rw [← HJ.out]; simp <;> omega) (by have := HZ4.out; simp <;> omega) ?_)
            intro v2 w5 hown2 hg2
            have M5 := Lib.hid ((M4.out.keep (World.grownBy_alloc w4 _ none)).apart HW.out (HO1.out.alloc _) HB3.out hg2)
            obtain ⟨T3, hT3⟩ : ∃ T3, T3 = T1 ++ [y] := ⟨_, rfl⟩
            rw [← hT3] at hown2
            have HO2 := Lib.hid hown2
            have HT3 := Lib.hid hT3
            clear hown2 hT3
            obtain ⟨p2, c2, rfl, -, -⟩ := own_shape HO2.out
            have HZ5 : Hid (wc.heap.size ≤ w5.heap.size) := Lib.hid (Nat.le_trans HZ4.out (Nat.le_trans (by simp) hg2.size))
            clear hg2 d0 d1 d2 d3 d4 M4 HZ4
            have HR3 := Lib.hid ((show RdL5 w5 _ (.slice (some ⟨g3, j * 5, none⟩) (O.length - j) (c3 - j)) T2 from by rw [← HT.out.2, ← Nat.zero_add (j * 5)]; exact RdF.rest (f := lkC) (k := 5) (fun _ => rfl) (rdf_of_own2 M5.out.own) j (c3 - j)))
            go_wp2_with (at_builtin; refine hold_on ?_)
            refine Lib.hid ?_
            refine (wpList_append_f lkC 5 40 (by decide) (fun _ => rfl) lk_one 92 59 il _ Tryd.underlying59 hil hl0 hl1 hl2 rfl (by decide) rfl _ _ rfl wc.heap.size _ T3 _ rfl rfl HO2.out _ _ _ T2 rfl (by have := HJ2.out; omega) (by simp) _ HR3.out (by omega) (by rw [← HJ2.out, HT3.out, List.length_append, ← HJ.out]; simp <;> omega) HZ5.out ?_)
            intro v3 w6 hown3 hg3
            have M6 : Hid (OM w L (some ⟨b, off, none⟩) c (ordL (L.take (k + 1))) v3 w6) := Lib.hid (M5.out.finish HW.out HO2.out hown3 hg3 (by rw [HS.out, HI.out, HT3.out]; simp))
            clear hown3 hg3 M5 HO2 HO1 HR3
            go_wp2_with fail
            exact ⟨⟨k + 1, by omega, congrArg _ (by omega), M6⟩, by simp only [RowKit.intOf]; omega⟩
    · obtain rfl : k = L.length := by omega
      rw [List.take_length] at M
      go_wp2_with fail
      go_ret
      exact ⟨_, rfl, M.out.own, M.out.gr⟩
end Go.Proofs.YtpoocenooomghaaDoor
