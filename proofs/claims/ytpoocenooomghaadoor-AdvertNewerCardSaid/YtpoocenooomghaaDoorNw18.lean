/- Parts of the proof, packed: AdRNw, AdNwLaw, AdOpn. -/
import Derived.Test.YtpoocenooomghaaDoorNw16
import Derived.Test.YtpoocenooomghaaDoorNw17
import Derived.Laws.Cover1
import Derived.Test.YtpoocenooomghaaDoorNw15
import Derived.Test.YtpoocenooomghaaDoorNw2
import Derived.Test.YtpoocenooomghaaDoorNw6
/- The reference's Newer of adverts. -/
namespace Go.Proofs.YtpoocenooomghaaDoor
open Go.RowKit Bs
set_option maxRecDepth 100000 in
set_option maxHeartbeats 6400000 in
theorem rnewer_any (A B : Ad) (q q2 : Nat → Prop) (w : World) (hA : AdOk w q A) (hB : AdOk w q2 B) :
    Calls Tryd.prog 29 #[A.val, B.val] w fun e w' => e = .returned (.bool (nwA A B)) ∧ w.grownBy w' none := by
  have HZ := Lib.hid (two_ads w A B)
  have HOK : Hid (TwoA _ A B q q2) := Lib.hid ⟨hA.keep HZ.out.2, hB.keep HZ.out.2⟩
  have HB := Lib.hid HZ.out.1
  have K := Lib.hid HZ.out.2
  clear HZ hA hB
  obtain ⟨X, hX⟩ : ∃ X, nwA A B = X := ⟨_, rfl⟩
  rw [hX]
  have HX := Lib.hid hX
  clear hX
  unfold Ad.val
  go_enter Tryd.func29, Tryd.ntmps29
  go_upto_region 1 with fail
  unfold adC at HB K HOK
  generalize (w.alloc _).alloc _ = wa at *
  have HB : Hid (wa.heap[w.heap.size]? = some (.cells (adC A) 26 (0, 0)) ∧ wa.heap[w.heap.size + 1]? = some (.cells (adC B) 26 (0, 0))) := HB
  have GZ : Hid (wa.grownBy wa none) := Lib.hid (grown_refl _ _)
  obtain ⟨a0, a1, a2, a3, a4, b0, b1, b2, b3, b4, -⟩ := keepTA HB.out GZ
  go_wp2_with fail
  refine (rvalidA_any A q _ HOK.out.a).mono ?_
  rintro e w1 ⟨rfl, hg⟩
  have G1 := Lib.hid hg
  clear hg a0 a1 a2 a3 a4 b0 b1 b2 b3 b4
  obtain ⟨a0, a1, a2, a3, a4, b0, b1, b2, b3, b4, -⟩ := keepTA HB.out G1
  obtain ⟨v1, hv1⟩ : ∃ v, vAd A = v := ⟨_, rfl⟩
  have HV1 := Lib.hid hv1
  rw [hv1]
  clear hv1
  cases v1 with
  | false =>
    obtain rfl : X = false := by rw [← HX.out]; unfold nwA; rw [HV1.out]; rfl
    go_wp2_with fail
    go_ret
    exact ⟨rfl, grown_trans K.out G1.out⟩
  | true =>
    go_wp2_with fail
    refine (rvalidA_any B q2 _ (HOK.out.b.keep G1.out)).mono ?_
    rintro e w2 ⟨rfl, hg⟩
    have G2 := Lib.hid (grown_trans G1.out hg)
    clear hg a0 a1 a2 a3 a4 b0 b1 b2 b3 b4
    obtain ⟨a0, a1, a2, a3, a4, b0, b1, b2, b3, b4, -⟩ := keepTA HB.out G2
    obtain ⟨v2, hv2⟩ : ∃ v, vAd B = v := ⟨_, rfl⟩
    have HV2 := Lib.hid hv2
    rw [hv2]
    clear hv2
    cases v2 with
    | false =>
      obtain rfl : X = false := by rw [← HX.out]; unfold nwA; rw [HV1.out, HV2.out]; rfl
      go_wp2_with fail
      go_ret
      exact ⟨rfl, grown_trans K.out G2.out⟩
    | true =>
      by_cases h : A.r = B.r
      · have h' : (A.r == B.r) = true := by simpa using h
        have HXE := Lib.hid ((nwA_ref HV1.out HV2.out h).symm.trans HX.out)
        clear HX h
        go_wp2_with fail
        refine (raenc_any A q _ (HOK.out.a.keep G2.out)).mono ?_
        rintro e w3 (⟨-, p3, c3, rfl, hR3, hp3, hg⟩ | ⟨hv, -⟩)
        rotate_left
        · rw [HV1.out] at hv; cases hv
        have G3 := Lib.hid (grown_trans G2.out hg)
        have HR3 := Lib.hid (And.intro hR3 hp3)
        clear hg a0 a1 a2 a3 a4 b0 b1 b2 b3 b4 hR3 hp3
        obtain ⟨a0, a1, a2, a3, a4, b0, b1, b2, b3, b4, -⟩ := keepTA HB.out G3
        go_wp2_with fail
        refine (raenc_any B q2 _ (HOK.out.b.keep G3.out)).mono ?_
        rintro e w4 (⟨-, p4, c4, rfl, hR4, hp4, hg⟩ | ⟨hv, -⟩)
        rotate_left
        · rw [HV2.out] at hv; cases hv
        have G4 := Lib.hid (grown_trans G3.out hg)
        have E1 := conv_nv (l := encA A) (k := (encA A).length) (pk_by _) rfl (HR3.out.1.keep hg) HR3.out.2
        have E2 := conv_nv (l := encA B) (k := (encA B).length) (pk_by _) rfl hR4 hp4
        clear hg a0 a1 a2 a3 a4 b0 b1 b2 b3 b4 hR4 hp4 HR3
        obtain ⟨a0, a1, a2, a3, a4, b0, b1, b2, b3, b4, -⟩ := keepTA HB.out G4
        obtain ⟨l, hl⟩ : ∃ l, encA A = l := ⟨_, rfl⟩
        obtain ⟨m, hm⟩ : ∃ m, encA B = m := ⟨_, rfl⟩
        rw [hl, hm] at HXE
        rw [hl] at E1 ⊢
        rw [hm] at E2 ⊢
        clear hl hm
        by_cases h1 : B.q < A.q
        · obtain rfl : X = true := by rw [← HXE.out, decide_eq_true h1]; rfl
          have h2 : A.q > B.q := h1
          have hd : decide (B.q < A.q) = true := decide_eq_true h1
          go_wp2_with fail
          go_ret
          exact ⟨rfl, grown_trans K.out G4.out⟩
        · by_cases h2 : A.q = B.q
          · have h2' : (A.q == B.q) = true := by simpa using h2
            have hd : decide (B.q < A.q) = false := decide_eq_false h1
            obtain ⟨g, hg⟩ : ∃ g, gtS l m = g := ⟨_, rfl⟩
            obtain rfl : X = g := by rw [← HXE.out, decide_eq_false h1, decide_eq_true h2, hg]; simp
            unfold gtS at hg
            have HGG := Lib.hid hg
            clear hg
            go_wp2_with fail
            go_ret
            exact ⟨by rw [← HGG.out, Bool.not_or]; rfl, grown_trans K.out G4.out⟩
          · have h2' : (A.q == B.q) = false := by simpa using h2
            have hd : decide (B.q < A.q) = false := decide_eq_false h1
            obtain rfl : X = false := by rw [← HXE.out, decide_eq_false h1, decide_eq_false h2]; rfl
            go_wp2_with fail
            go_ret
            exact ⟨rfl, grown_trans K.out G4.out⟩
      · have h' : (A.r == B.r) = false := by simpa using h
        obtain rfl : X = false := by rw [← HX.out]; unfold nwA; rw [HV1.out, HV2.out, decide_eq_false h]; rfl
        clear h
        go_wp2_with fail
        go_ret
        exact ⟨rfl, grown_trans K.out G2.out⟩
end Go.Proofs.YtpoocenooomghaaDoor

/- The law AdvertNewer: Newer returns what the reference says. -/
namespace Go.Proofs.YtpoocenooomghaaDoor
open Go.RowKit Bs
/-- Adverts while the tape makes more of them; raw and other lie in boxes of the call's. -/
structure LN (W : World) (a : Nat) (raw oth : Ad) (l : List Ad) (w : World) : Prop where
  v : LV W a raw l w
  ok : AdOk w (· ≠ a) oth
  bx : w.heap[W.heap.size + 1]? = some (.cells (adC oth) 26 (0, 0))
  al : W.heap.size + 1 < a
set_option maxRecDepth 100000 in
theorem LN.keep {W w w1 : World} {a : Nat} {raw oth : Ad} {l : List Ad} (h : LN W a raw oth l w) (g : w.grownBy w1 none) : LN W a raw oth l w1 :=
  ⟨h.v.keep g, h.ok.keep g, kept_row h.bx g (by simp), h.al⟩
set_option maxRecDepth 100000 in
theorem LN.tape {W w w1 : World} {a : Nat} {raw oth : Ad} {l : List Ad} (h : LN W a raw oth l w) (k : St a w w1) : LN W a raw oth l w1 := by
  have hal := h.al
  exact ⟨h.v.tape k, h.ok.grown k.1 (fun b hb e => hb (Option.some.inj e)), kept_row h.bx k.1 (fun e => by have := Option.some.inj e; omega), h.al⟩
set_option maxRecDepth 100000 in
theorem LN.adv {W w w1 : World} {a : Nat} {raw oth : Ad} {l : List Ad} (h : LN W a raw oth l w) (k : St a w w1) {A : Ad} (hA : AdOk w1 (w.heap.size ≤ ·) A) : LN W a raw oth (l ++ [A]) w1 :=
  have h1 := h.tape k
  ⟨h.v.adv k hA, h1.ok, h1.bx, h1.al⟩
set_option maxRecDepth 100000 in
theorem LN.two {W w : World} {a : Nat} {raw oth : Ad} {l : List Ad} (h : LN W a raw oth l w) : Hid (w.heap[W.heap.size]? = some (.cells (adC raw) 26 (0, 0)) ∧ w.heap[W.heap.size + 1]? = some (.cells (adC oth) 26 (0, 0))) := Lib.hid ⟨h.v.bx, h.bx⟩
/-- A row of adverts. -/
structure ON (W : World) (D : Nat) (raw oth : Ad) (l : List Ad) (w : World) : Prop where
  row : ∃ (cs : Array Value) (t : TypeId), w.heap[D]? = some (.cells cs t (0, 0)) ∧ cs.toList = l.flatMap fun A => (adC A).toList
  ok : ∀ A ∈ l, ∃ q, AdOk w q A
  rk : (∃ q, AdOk w q raw) ∧ ∃ q, AdOk w q oth
  bx : w.heap[W.heap.size]? = some (.cells (adC raw) 26 (0, 0)) ∧ w.heap[W.heap.size + 1]? = some (.cells (adC oth) 26 (0, 0))
  gr : W.grownBy w none
set_option maxRecDepth 100000 in
theorem ON.keep {W w w1 : World} {D : Nat} {raw oth : Ad} {l : List Ad} (h : ON W D raw oth l w) (g : w.grownBy w1 none) : ON W D raw oth l w1 := by
  obtain ⟨cs, t, h1, h3⟩ := h.row
  obtain ⟨⟨q, hq⟩, q', hq'⟩ := h.rk
  exact ⟨⟨cs, t, kept_row h1 g (by simp), h3⟩, fun A hA => by obtain ⟨q, hq⟩ := h.ok A hA; exact ⟨q, hq.keep g⟩, ⟨⟨q, hq.keep g⟩, q', hq'.keep g⟩, ⟨kept_row h.bx.1 g (by simp), kept_row h.bx.2 g (by simp)⟩, grown_trans h.gr g⟩
set_option maxRecDepth 100000 in
theorem ON.cells {W w : World} {D i : Nat} {raw oth : Ad} {l : List Ad} {A : Ad} (h : ON W D raw oth l w) (hA : l[i]? = some A) :
    w.cell? ⟨D, i * 5, none⟩ = some (.int .i64 A.r) ∧ w.cell? ⟨D, i * 5 + 1, none⟩ = some (.int .i64 A.q) ∧ w.cell? ⟨D, i * 5 + 2, none⟩ = some (.bool A.cp) ∧ w.cell? ⟨D, i * 5 + 3, none⟩ = some (.slice A.pL A.L.length A.cL) ∧ w.cell? ⟨D, i * 5 + 4, none⟩ = some (.slice A.pC A.C.length A.cC) := by
  obtain ⟨cs, t, h1, h3⟩ := h.row
  have hc : ∀ o, w.cell? ⟨D, o, none⟩ = cs[o]? := fun o => cell_of_row _ _ _ _ _ _ h1
  have hf : ∀ j u, j < 5 → (adC A).toList[j]? = some u → w.cell? ⟨D, i * 5 + j, none⟩ = some u := fun j u hj hu => by
    rw [hc, ← Array.getElem?_toList, h3]
    exact (flat_at (fun A => (adC A).toList) 5 (fun _ => rfl) l i j A hA hj).trans hu
  exact ⟨hf 0 _ (by omega) rfl, hf 1 _ (by omega) rfl, hf 2 _ (by omega) rfl, hf 3 _ (by omega) rfl, hf 4 _ (by omega) rfl⟩
set_option maxRecDepth 100000 in
theorem ON.start {W w : World} {a : Nat} {raw oth A B C : Ad} {t : TypeId} (h : LN W a raw oth [A, B, C] w) {cs : Array Value} (hc : cs.toList = [A, B, C, raw, oth].flatMap fun A => (adC A).toList) : ON W w.heap.size raw oth [A, B, C, raw, oth] (w.alloc (.cells cs t)) := by
  have g := World.grownBy_alloc w (.cells cs t) none
  have h1 := h.keep g
  refine ⟨⟨cs, t, heap_alloc_new w _, hc⟩, fun X hX => ?_, ⟨⟨_, h1.v.rk⟩, _, h1.ok⟩, ⟨h1.v.bx, h1.bx⟩, h1.v.gr⟩
  rcases (show X ∈ [A, B, C] ∨ X = raw ∨ X = oth by simpa [or_assoc] using hX) with h2 | rfl | rfl
  · exact ⟨_, h1.v.ok X h2⟩
  · exact ⟨_, h1.v.rk⟩
  · exact ⟨_, h1.ok⟩
set_option maxRecDepth 100000 in
set_option maxHeartbeats 6400000 in
theorem newer_walk (v : Value) (raw oth : Ad) (w : World) (hv : IntsIn w v) (hr : AdOk w (· < w.heap.size) raw) (ho : AdOk w (· < w.heap.size) oth) (hT : Tb w) :
    Calls Tryd.prog 7 #[v, raw.val, oth.val] w fun e w' => e = .returned (.bool true) ∧ w.grownBy w' none := by
  have HTB := Lib.hid hT
  have hm1 := Nat.le_trans hr.hl.1 hr.hl.2
  have hm2 := Nat.le_trans hr.hc.1 hr.hc.2
  have hm3 := Nat.le_trans ho.hl.1 ho.hl.2
  have hm4 := Nat.le_trans ho.hc.1 ho.hc.2
  obtain ⟨rr, rq, rcp, rL, rC, rpL, rcL, rpC, rcC⟩ := raw
  obtain ⟨raw, hraw⟩ : ∃ raw : Ad, raw = ⟨rr, rq, rcp, rL, rC, rpL, rcL, rpC, rcC⟩ := ⟨_, rfl⟩
  obtain ⟨ur, uq, ucp, uL, uC, upL, ucL, upC, ucC⟩ := oth
  obtain ⟨oth, hoth⟩ : ∃ oth : Ad, oth = ⟨ur, uq, ucp, uL, uC, upL, ucL, upC, ucC⟩ := ⟨_, rfl⟩
  have hval : raw.val = .agg #[.int .i64 rr, .int .i64 rq, .bool rcp, .slice rpL rL.length rcL, .slice rpC rC.length rcC] := by rw [hraw]; rfl
  have hadc : adC raw = #[.int .i64 rr, .int .i64 rq, .bool rcp, .slice rpL rL.length rcL, .slice rpC rC.length rcC] := by rw [hraw]; rfl
  have hvao : oth.val = .agg #[.int .i64 ur, .int .i64 uq, .bool ucp, .slice upL uL.length ucL, .slice upC uC.length ucC] := by rw [hoth]; rfl
  have hado : adC oth = #[.int .i64 ur, .int .i64 uq, .bool ucp, .slice upL uL.length ucL, .slice upC uC.length ucC] := by rw [hoth]; rfl
  rw [← hraw] at hr ⊢
  rw [← hoth] at ho ⊢
  rw [hval, hvao]
  have HRV := Lib.hid hval
  have HRC := Lib.hid hadc
  have HOV := Lib.hid hvao
  have HOC := Lib.hid hado
  have hZ := two_ads w raw oth
  have hv2 := hv.grownW hZ.2
  have hlt : w.heap.size + 1 < ((w.alloc (.cells (adC raw) 26)).alloc (.cells (adC oth) 26)).heap.size := by simp
  have H0 := Lib.hid (And.intro hZ.1.1 (And.intro hZ.2 (And.intro (hr.keep hZ.2) (And.intro hlt (And.intro hZ.1.2 (ho.keep hZ.2))))))
  rw [hadc, hado] at H0
  rw [hadc, hado] at hv2
  have HVV := Lib.hid hv2
  clear hZ hv hr ho hT hv2 hlt hval hadc hraw hvao hado hoth
  simp only at hm1 hm2 hm3 hm4
  go_enter Tryd.func7, Tryd.ntmps7
  go_upto_region 1 with fail
  generalize (w.alloc _).alloc _ = w0 at *
  go_wp2_with fail
  refine (new_any v w0 HVV.out).mono ?_
  rintro e w1 ⟨rfl, hg1, hT1⟩
  have H1 : Hid (LN w w0.heap.size raw oth [] w1) := Lib.hid ⟨⟨fun A h => (by cases h), (H0.out.2.2.1.keep hg1).mono (fun b hb => by have := H0.out.2.2.2.1; omega), by rw [HRC.out]; exact kept_row H0.out.1 hg1 (by simp), grown_trans H0.out.2.1 hg1, hT1, by have := H0.out.2.2.2.1; omega⟩, (H0.out.2.2.2.2.2.keep hg1).mono (fun b hb => by have := H0.out.2.2.2.1; omega), by rw [HOC.out]; exact kept_row H0.out.2.2.2.2.1 hg1 (by simp), H0.out.2.2.2.1⟩
  clear hg1 hT1 H0 HVV
  obtain ⟨a, ha⟩ : ∃ a, w0.heap.size = a := ⟨_, rfl⟩
  rw [ha] at H1 ⊢
  clear ha
  go_upto_region 2 with fail
  have HD := Lib.hid (H1.out.keep (grown_drew (grown_refl w1 none)))
  clear H1
  refine wp_region_held_drew (S := fun w' => Hid (w'.heap[w.heap.size]? = some (.cells (adC raw) 26 (0, 0)) ∧ w'.heap[w.heap.size + 1]? = some (.cells (adC oth) 26 (0, 0)))) (by kernel_rfl) (HD.out.two) (fun hHeld => ?_)
  refine wpAnyH_take (i := 0) (oi := { dst := some 13, op := Op.move (Operand.tmp 7), type := 27, pos := "law.go:119", after := #[], guard := none }) (v := ?_) rfl (by kernel_rfl) (by kernel_rfl) (by kernel_rfl) (fun _ _ _ h => h) (Or.inl ⟨by rfl, ?_⟩) hHeld ?_
  rotate_left 1
  · intro u hSu
    have hbx := hSu.out
    rw [HRC.out, HOC.out] at hbx
    obtain ⟨q0, q1, q2, q3, q4⟩ := row5 hbx.1
    obtain ⟨s0, s1, s2, s3, s4⟩ := row5 hbx.2
    go_simp
    first | done | with_reducible rfl
  (try simp only [Act.put, List.setIfInBounds_toArray, List.set_cons_zero, List.set_cons_succ])
  refine wpAnyH_take (i := 1) (oi := { dst := some 14, op := Op.move (Operand.tmp 7), type := 27, pos := "law.go:119", after := #[], guard := none }) (v := ?_) rfl (by kernel_rfl) (by kernel_rfl) (by kernel_rfl) (fun _ _ _ h => h) (Or.inl ⟨by rfl, ?_⟩) hHeld ?_
  rotate_left 1
  · intro u hSu
    have hbx := hSu.out
    rw [HRC.out, HOC.out] at hbx
    obtain ⟨q0, q1, q2, q3, q4⟩ := row5 hbx.1
    obtain ⟨s0, s1, s2, s3, s4⟩ := row5 hbx.2
    go_simp
    first | done | with_reducible rfl
  (try simp only [Act.put, List.setIfInBounds_toArray, List.set_cons_zero, List.set_cons_succ])
  refine wpAnyH_take (i := 4) (oi := { dst := some 17, op := Op.move (Operand.tmp 7), type := 27, pos := "law.go:119", after := #[], guard := none }) (v := ?_) rfl (by kernel_rfl) (by kernel_rfl) (by kernel_rfl) (fun _ _ _ h => h) (Or.inl ⟨by rfl, ?_⟩) hHeld ?_
  rotate_left 1
  · intro u hSu
    have hbx := hSu.out
    rw [HRC.out, HOC.out] at hbx
    obtain ⟨q0, q1, q2, q3, q4⟩ := row5 hbx.1
    obtain ⟨s0, s1, s2, s3, s4⟩ := row5 hbx.2
    go_simp
    first | done | with_reducible rfl
  (try simp only [Act.put, List.setIfInBounds_toArray, List.set_cons_zero, List.set_cons_succ])
  refine wpAnyH_take (i := 5) (oi := { dst := some 18, op := Op.move (Operand.tmp 7), type := 27, pos := "law.go:119", after := #[], guard := none }) (v := ?_) rfl (by kernel_rfl) (by kernel_rfl) (by kernel_rfl) (fun _ _ _ h => h) (Or.inl ⟨by rfl, ?_⟩) hHeld ?_
  rotate_left 1
  · intro u hSu
    have hbx := hSu.out
    rw [HRC.out, HOC.out] at hbx
    obtain ⟨q0, q1, q2, q3, q4⟩ := row5 hbx.1
    obtain ⟨s0, s1, s2, s3, s4⟩ := row5 hbx.2
    go_simp
    first | done | with_reducible rfl
  (try simp only [Act.put, List.setIfInBounds_toArray, List.set_cons_zero, List.set_cons_succ])
  refine wpAnyH_take (i := 8) (oi := { dst := some 21, op := Op.move (Operand.tmp 7), type := 27, pos := "law.go:119", after := #[], guard := none }) (v := ?_) rfl (by kernel_rfl) (by kernel_rfl) (by kernel_rfl) (fun _ _ _ h => h) (Or.inl ⟨by rfl, ?_⟩) hHeld ?_
  rotate_left 1
  · intro u hSu
    have hbx := hSu.out
    rw [HRC.out, HOC.out] at hbx
    obtain ⟨q0, q1, q2, q3, q4⟩ := row5 hbx.1
    obtain ⟨s0, s1, s2, s3, s4⟩ := row5 hbx.2
    go_simp
    first | done | with_reducible rfl
  (try simp only [Act.put, List.setIfInBounds_toArray, List.set_cons_zero, List.set_cons_succ])
  refine wpAnyH_take (i := 10) (oi := { dst := some 23, op := Op.load 26 (Operand.tmp 4), type := 26, pos := "law.go:119", after := #[], guard := none }) (v := ?_) rfl (by kernel_rfl) (by kernel_rfl) (by kernel_rfl) (fun _ _ _ h => h) (Or.inl ⟨by rfl, ?_⟩) hHeld ?_
  rotate_left 1
  · intro u hSu
    have hbx := hSu.out
    rw [HRC.out, HOC.out] at hbx
    obtain ⟨q0, q1, q2, q3, q4⟩ := row5 hbx.1
    obtain ⟨s0, s1, s2, s3, s4⟩ := row5 hbx.2
    go_simp
    first | done | with_reducible rfl
  (try simp only [Act.put, List.setIfInBounds_toArray, List.set_cons_zero, List.set_cons_succ])
  refine wpAnyH_take (i := 11) (oi := { dst := some 24, op := Op.load 26 (Operand.tmp 5), type := 26, pos := "law.go:119", after := #[], guard := none }) (v := ?_) rfl (by kernel_rfl) (by kernel_rfl) (by kernel_rfl) (fun _ _ _ h => h) (Or.inl ⟨by rfl, ?_⟩) hHeld ?_
  rotate_left 1
  · intro u hSu
    have hbx := hSu.out
    rw [HRC.out, HOC.out] at hbx
    obtain ⟨q0, q1, q2, q3, q4⟩ := row5 hbx.1
    obtain ⟨s0, s1, s2, s3, s4⟩ := row5 hbx.2
    go_simp
    first | done | with_reducible rfl
  (try simp only [Act.put, List.setIfInBounds_toArray, List.set_cons_zero, List.set_cons_succ])
  refine wpAnyH_ready (rs := [2]) (by kernel_rfl) (by simp) ?_
  refine AllReadyH.cons (o := { dst := some 15, op := Op.call { callee := Callee.value (Operand.func 12), args := #[Operand.tmp 14, Operand.const (Value.int IntKind.i64 1), Operand.const (Value.int IntKind.i64 2)], argTypes := #[27, 3, 3] }, type := 3, pos := "law.go:119", after := #[{ on := 1, ground := Ground.data }], guard := none }) rfl (fun Kz hK => ?_) AllReadyH.nil
  go_simp
  go_at_call 12
  refine (range_any a 1 2 (by omega) (by omega) (by omega) (by omega) _ HD.out.v.tp).mono ?_
  rintro e w5 ⟨x1, rfl, hx, hs⟩
  have HXx1 : I64 x1 := by unfold I64; unfold RangeOf at hx; omega
  have HDn := Lib.hid (HD.out.tape hs)
  clear hs HD hx
  have HD := HDn
  clear HDn
  refine hK.out _ _ (HD.out.two) (fun hH2 => ?_)
  clear hK Kz hHeld
  have hHeld := hH2
  clear hH2
  (try simp only [Act.put, List.setIfInBounds_toArray, List.set_cons_zero, List.set_cons_succ])
  refine wpAnyH_ready (rs := [3]) (by kernel_rfl) (by simp) ?_
  refine AllReadyH.cons (o := { dst := some 16, op := Op.call { callee := Callee.value (Operand.func 11), args := #[Operand.tmp 13, Operand.tmp 15, Operand.const (Value.int IntKind.i64 5)], argTypes := #[27, 3, 3] }, type := 26, pos := "law.go:119", after := #[{ on := 0, ground := Ground.data }, { on := 2, ground := Ground.data }, { on := 2, ground := Ground.chain }], guard := none }) rfl (fun Kz hK => ?_) AllReadyH.nil
  go_simp
  go_at_call 11
  refine (adv_any a x1 5 HXx1 (by unfold I64; omega) _ HD.out.v.tp).mono ?_
  rintro e w5 ⟨A1, hAe, -, hA, hs⟩
  have HDn := Lib.hid (HD.out.adv hs hA)
  obtain ⟨r1, q1, cp1, L1, C1, pL1, cL1, pC1, cC1⟩ := A1
  subst hAe
  unfold Ad.val
  clear hA hs HD
  have HD := HDn
  clear HDn
  refine hK.out _ _ (HD.out.two) (fun hH2 => ?_)
  clear hK Kz hHeld
  have hHeld := hH2
  clear hH2
  (try simp only [Act.put, List.setIfInBounds_toArray, List.set_cons_zero, List.set_cons_succ])
  refine wpAnyH_ready (rs := [6]) (by kernel_rfl) (by simp) ?_
  refine AllReadyH.cons (o := { dst := some 19, op := Op.call { callee := Callee.value (Operand.func 12), args := #[Operand.tmp 18, Operand.const (Value.int IntKind.i64 1), Operand.const (Value.int IntKind.i64 2)], argTypes := #[27, 3, 3] }, type := 3, pos := "law.go:119", after := #[{ on := 5, ground := Ground.data }, { on := 3, ground := Ground.chain }], guard := none }) rfl (fun Kz hK => ?_) AllReadyH.nil
  go_simp
  go_at_call 12
  refine (range_any a 1 2 (by omega) (by omega) (by omega) (by omega) _ HD.out.v.tp).mono ?_
  rintro e w5 ⟨x2, rfl, hx, hs⟩
  have HXx2 : I64 x2 := by unfold I64; unfold RangeOf at hx; omega
  have HDn := Lib.hid (HD.out.tape hs)
  clear hs HD hx
  have HD := HDn
  clear HDn
  refine hK.out _ _ (HD.out.two) (fun hH2 => ?_)
  clear hK Kz hHeld
  have hHeld := hH2
  clear hH2
  (try simp only [Act.put, List.setIfInBounds_toArray, List.set_cons_zero, List.set_cons_succ])
  refine wpAnyH_ready (rs := [7]) (by kernel_rfl) (by simp) ?_
  refine AllReadyH.cons (o := { dst := some 20, op := Op.call { callee := Callee.value (Operand.func 11), args := #[Operand.tmp 17, Operand.tmp 19, Operand.const (Value.int IntKind.i64 0)], argTypes := #[27, 3, 3] }, type := 26, pos := "law.go:119", after := #[{ on := 4, ground := Ground.data }, { on := 6, ground := Ground.data }, { on := 6, ground := Ground.chain }], guard := none }) rfl (fun Kz hK => ?_) AllReadyH.nil
  go_simp
  go_at_call 11
  refine (adv_any a x2 0 HXx2 (by unfold I64; omega) _ HD.out.v.tp).mono ?_
  rintro e w5 ⟨A2, hAe, -, hA, hs⟩
  have HDn := Lib.hid (HD.out.adv hs hA)
  obtain ⟨r2, q2, cp2, L2, C2, pL2, cL2, pC2, cC2⟩ := A2
  subst hAe
  unfold Ad.val
  clear hA hs HD
  have HD := HDn
  clear HDn
  refine hK.out _ _ (HD.out.two) (fun hH2 => ?_)
  clear hK Kz hHeld
  have hHeld := hH2
  clear hH2
  (try simp only [Act.put, List.setIfInBounds_toArray, List.set_cons_zero, List.set_cons_succ])
  refine wpAnyH_ready (rs := [9]) (by kernel_rfl) (by simp) ?_
  refine AllReadyH.cons (o := { dst := some 22, op := Op.call { callee := Callee.value (Operand.func 11), args := #[Operand.tmp 21, Operand.const (Value.int IntKind.i64 1), Operand.const (Value.int IntKind.i64 0)], argTypes := #[27, 3, 3] }, type := 26, pos := "law.go:119", after := #[{ on := 8, ground := Ground.data }, { on := 7, ground := Ground.chain }], guard := none }) rfl (fun Kz hK => ?_) AllReadyH.nil
  go_simp
  go_at_call 11
  refine (adv_any a 1 0 (by unfold I64; omega) (by unfold I64; omega) _ HD.out.v.tp).mono ?_
  rintro e w5 ⟨A3, hAe, -, hA, hs⟩
  have HDn := Lib.hid (HD.out.adv hs hA)
  obtain ⟨r3, q3, cp3, L3, C3, pL3, cL3, pC3, cC3⟩ := A3
  subst hAe
  unfold Ad.val
  clear hA hs HD
  have HD := HDn
  clear HDn
  refine hK.out _ _ (HD.out.two) (fun hH2 => ?_)
  clear hK Kz hHeld
  have hHeld := hH2
  clear hH2
  (try simp only [Act.put, List.setIfInBounds_toArray, List.set_cons_zero, List.set_cons_succ])
  refine wpAnyH_ready (rs := [12]) (by kernel_rfl) (by simp) ?_
  refine AllReadyH.cons (o := { dst := some 25, op := Op.buildSlice 31 5 #[(0, Operand.tmp 16), (1, Operand.tmp 20), (2, Operand.tmp 22), (3, Operand.tmp 23), (4, Operand.tmp 24)], type := 31, pos := "law.go:119", after := #[{ on := 3, ground := Ground.data }, { on := 7, ground := Ground.data }, { on := 9, ground := Ground.data }, { on := 10, ground := Ground.data }, { on := 11, ground := Ground.data }], guard := none }) rfl (fun Kz hK => ?_) AllReadyH.nil
  go_simp
  have HV := Lib.hid (ON.start (W := w) (a := a) (raw := raw) (oth := oth) (A := ⟨r1, q1, cp1, L1, C1, pL1, cL1, pC1, cC1⟩) (B := ⟨r2, q2, cp2, L2, C2, pL2, cL2, pC2, cC2⟩) (C := ⟨r3, q3, cp3, L3, C3, pL3, cL3, pC3, cC3⟩) (t := 26) HD.out (cs := #[.int .i64 r1, .int .i64 q1, .bool cp1, .slice pL1 L1.length cL1, .slice pC1 C1.length cC1, .int .i64 r2, .int .i64 q2, .bool cp2, .slice pL2 L2.length cL2, .slice pC2 C2.length cC2, .int .i64 r3, .int .i64 q3, .bool cp3, .slice pL3 L3.length cL3, .slice pC3 C3.length cC3, .int .i64 rr, .int .i64 rq, .bool rcp, .slice rpL rL.length rcL, .slice rpC rC.length rcC, .int .i64 ur, .int .i64 uq, .bool ucp, .slice upL uL.length ucL, .slice upC uC.length ucC]) (by simp only [List.flatMap_cons, List.flatMap_nil, HRC.out, HOC.out]; rfl))
  clear HD
  refine hK.out _ _ (Lib.hid HV.out.bx) (fun hH2 => ?_)
  clear hK Kz hHeld
  have hHeld := hH2
  clear hH2
  (try simp only [Act.put, List.setIfInBounds_toArray, List.set_cons_zero, List.set_cons_succ])
  refine wpAnyH_take (i := 13) (oi := { dst := some 8, op := Op.assign (Operand.tmp 25), type := 31, pos := "law.go:119", after := #[{ on := 12, ground := Ground.data }, { on := 9, ground := Ground.chain }, { on := 0, ground := Ground.phase }, { on := 1, ground := Ground.phase }, { on := 2, ground := Ground.phase }, { on := 3, ground := Ground.phase }, { on := 4, ground := Ground.phase }, { on := 5, ground := Ground.phase }, { on := 6, ground := Ground.phase }, { on := 7, ground := Ground.phase }, { on := 8, ground := Ground.phase }, { on := 9, ground := Ground.phase }, { on := 10, ground := Ground.phase }, { on := 11, ground := Ground.phase }, { on := 12, ground := Ground.phase }], guard := none }) (v := ?_) rfl (by kernel_rfl) (by kernel_rfl) (by kernel_rfl) (fun _ _ _ h => h) (Or.inl ⟨by rfl, ?_⟩) hHeld ?_
  rotate_left 1
  · intro u hSu
    have hbx := hSu.out
    rw [HRC.out, HOC.out] at hbx
    obtain ⟨q0, q1, q2, q3, q4⟩ := row5 hbx.1
    obtain ⟨s0, s1, s2, s3, s4⟩ := row5 hbx.2
    go_simp
    first | done | with_reducible rfl
  (try simp only [Act.put, List.setIfInBounds_toArray, List.set_cons_zero, List.set_cons_succ])
  refine wpAnyH_done (by kernel_rfl) ?_ _
  clear hHeld
  go_upto_region 3 with fail
  generalize w5.alloc _ = w6 at *
  generalize w5.heap.size = D at *
  obtain ⟨l, hl, hll⟩ : ∃ l : List Ad, l = [⟨r1, q1, cp1, L1, C1, pL1, cL1, pC1, cC1⟩, ⟨r2, q2, cp2, L2, C2, pL2, cL2, pC2, cC2⟩, ⟨r3, q3, cp3, L3, C3, pL3, cL3, pC3, cC3⟩, raw, oth] ∧ l.length = 5 := ⟨_, rfl, rfl⟩
  rw [← hl] at HV
  clear hl
  have HL := Lib.hid hll
  clear hll
  have HNh : Hid (∀ A B : Ad, A ∈ l → B ∈ l → ∀ wz, Hid (ON w D raw oth l wz) → Calls Tryd.prog 28 #[A.val, B.val] wz fun e w' => e = .returned (.bool (nwA A B)) ∧ Hid (ON w D raw oth l w')) := Lib.hid (fun A B hA hB wz H => by
    obtain ⟨q, hq⟩ := H.out.ok A hA
    obtain ⟨q', hq'⟩ := H.out.ok B hB
    exact (anewer_any A B q q' wz hq hq').mono (by rintro e w' ⟨rfl, hg⟩; exact ⟨rfl, Lib.hid (H.out.keep hg)⟩))
  have HRh : Hid (∀ A B : Ad, A ∈ l → B ∈ l → ∀ wz, Hid (ON w D raw oth l wz) → Calls Tryd.prog 29 #[A.val, B.val] wz fun e w' => e = .returned (.bool (nwA A B)) ∧ Hid (ON w D raw oth l w')) := Lib.hid (fun A B hA hB wz H => by
    obtain ⟨q, hq⟩ := H.out.ok A hA
    obtain ⟨q', hq'⟩ := H.out.ok B hB
    exact (rnewer_any A B q q' wz hq hq').mono (by rintro e w' ⟨rfl, hg⟩; exact ⟨rfl, Lib.hid (H.out.keep hg)⟩))
  have HBha : Hid (∀ wz, Hid (ON w D raw oth l wz) → Calls Tryd.prog 13 #[.agg #[.int .i64 rr, .int .i64 rq, .bool rcp, .slice rpL rL.length rcL, .slice rpC rC.length rcC]] wz fun e w' => e = .returned (.bool (bgA raw)) ∧ Hid (ON w D raw oth l w')) := Lib.hid (fun wz H => by
    obtain ⟨q, hq⟩ := H.out.rk.1
    have h := abig_any raw q wz hq
    rw [HRV.out] at h
    exact h.mono (by rintro e w' ⟨rfl, hg⟩; exact ⟨rfl, Lib.hid (H.out.keep hg)⟩))
  obtain ⟨ga, hg⟩ : ∃ g, bgA raw = g := ⟨_, rfl⟩
  rw [hg] at HBha
  clear hg
  have HBhb : Hid (∀ wz, Hid (ON w D raw oth l wz) → Calls Tryd.prog 13 #[.agg #[.int .i64 ur, .int .i64 uq, .bool ucp, .slice upL uL.length ucL, .slice upC uC.length ucC]] wz fun e w' => e = .returned (.bool (bgA oth)) ∧ Hid (ON w D raw oth l w')) := Lib.hid (fun wz H => by
    obtain ⟨q, hq⟩ := H.out.rk.2
    have h := abig_any oth q wz hq
    rw [HOV.out] at h
    exact h.mono (by rintro e w' ⟨rfl, hg⟩; exact ⟨rfl, Lib.hid (H.out.keep hg)⟩))
  obtain ⟨gb, hg⟩ : ∃ g, bgA oth = g := ⟨_, rfl⟩
  rw [hg] at HBhb
  clear hg
  go_wp2_with fail
  go_loopw [9] (fun i wr => ∃ k : Nat, k ≤ 5 ∧ i = .int .i64 (k : Int) ∧ Hid (ON w D raw oth l wr)) (fun i _ => 5 - (RowKit.intOf i).toNat)
  case atStart => exact ⟨0, by omega, rfl, HV⟩
  case round =>
    obtain ⟨i, hi4, rfl, HI⟩ := hrel
    clear HV
    by_cases hli : (i : Int) < 5
    · have hlib : decide ((i : Int) < 5) = true := decide_eq_true hli
      obtain ⟨A, hA⟩ : ∃ A, l[i]? = some A := ⟨_, List.getElem?_eq_getElem (by rw [HL.out]; omega)⟩
      have HA := Lib.hid (And.intro hA (List.mem_of_getElem? hA))
      clear hA
      have hbx := HI.out.bx
      rw [HRC.out, HOC.out] at hbx
      obtain ⟨q0, q1', q2', q3', q4⟩ := row5 hbx.1
      obtain ⟨s0, s1', s2', s3', s4⟩ := row5 hbx.2
      clear hbx
      go_wp2_with fail
      refine (HBha.out wr HI).mono ?_
      rintro e wi ⟨rfl, HJ⟩
      clear q0 q1' q2' q3' q4 s0 s1' s2' s3' s4 HI
      cases ga
      · have HI := HJ
        clear HJ
        have hbx := HI.out.bx
        rw [HRC.out, HOC.out] at hbx
        obtain ⟨q0, q1', q2', q3', q4⟩ := row5 hbx.1
        obtain ⟨s0, s1', s2', s3', s4⟩ := row5 hbx.2
        clear hbx
        go_wp2_with fail
        refine (HBhb.out wi HI).mono ?_
        rintro e wj ⟨rfl, HJ⟩
        clear q0 q1' q2' q3' q4 s0 s1' s2' s3' s4 HI
        cases gb
        · go_wp2_with fail
          go_loopw [10] (fun i wr => ∃ k : Nat, k ≤ 5 ∧ i = .int .i64 (k : Int) ∧ Hid (ON w D raw oth l wr)) (fun i _ => 5 - (RowKit.intOf i).toNat)
          case atStart => exact ⟨0, by omega, rfl, HJ⟩
          case round =>
            obtain ⟨k, hk4, rfl, HKK⟩ := hrel
            clear HJ
            by_cases hlk : (k : Int) < 5
            · have hlkb : decide ((k : Int) < 5) = true := decide_eq_true hlk
              obtain ⟨B, hB⟩ : ∃ B, l[k]? = some B := ⟨_, List.getElem?_eq_getElem (by rw [HL.out]; omega)⟩
              have HB := Lib.hid (And.intro hB (List.mem_of_getElem? hB))
              clear hB
              go_upto_region 9 with fail
              have HD := Lib.hid (HKK.out.keep (grown_drew (grown_refl wr none)))
              clear HKK
              refine wp_region_held_drew (S := fun w' => Hid (ON w D raw oth l w')) (by kernel_rfl) (HD) (fun hHeld => ?_)
              refine wpAnyH_take (i := 0) (oi := { dst := some 48, op := Op.move (Operand.tmp 8), type := 31, pos := "law.go:122", after := #[], guard := none }) (v := ?_) rfl (by kernel_rfl) (by kernel_rfl) (by kernel_rfl) (fun _ _ _ h => h) (Or.inl ⟨by rfl, ?_⟩) hHeld ?_
              rotate_left 1
              · intro u hSu
                obtain ⟨qHA0, qHA1, qHA2, qHA3, qHA4⟩ := hSu.out.cells HA.out.1
                obtain ⟨qHB0, qHB1, qHB2, qHB3, qHB4⟩ := hSu.out.cells HB.out.1
                go_simp
                first | done | with_reducible rfl
              (try simp only [Act.put, List.setIfInBounds_toArray, List.set_cons_zero, List.set_cons_succ])
              refine wpAnyH_take (i := 1) (oi := { dst := some 49, op := Op.move (Operand.tmp 9), type := 3, pos := "law.go:122", after := #[], guard := none }) (v := ?_) rfl (by kernel_rfl) (by kernel_rfl) (by kernel_rfl) (fun _ _ _ h => h) (Or.inl ⟨by rfl, ?_⟩) hHeld ?_
              rotate_left 1
              · intro u hSu
                obtain ⟨qHA0, qHA1, qHA2, qHA3, qHA4⟩ := hSu.out.cells HA.out.1
                obtain ⟨qHB0, qHB1, qHB2, qHB3, qHB4⟩ := hSu.out.cells HB.out.1
                go_simp
                first | done | with_reducible rfl
              (try simp only [Act.put, List.setIfInBounds_toArray, List.set_cons_zero, List.set_cons_succ])
              refine wpAnyH_take (i := 2) (oi := { dst := some 50, op := Op.indexAddr 31 (Operand.tmp 48) (Operand.tmp 49), type := 0, pos := "law.go:122", after := #[{ on := 0, ground := Ground.data }, { on := 1, ground := Ground.data }], guard := none }) (v := ?_) rfl (by kernel_rfl) (by kernel_rfl) (by kernel_rfl) (fun _ _ _ h => h) (Or.inl ⟨by rfl, ?_⟩) hHeld ?_
              rotate_left 1
              · intro u hSu
                obtain ⟨qHA0, qHA1, qHA2, qHA3, qHA4⟩ := hSu.out.cells HA.out.1
                obtain ⟨qHB0, qHB1, qHB2, qHB3, qHB4⟩ := hSu.out.cells HB.out.1
                go_simp
                first | done | with_reducible rfl
              (try simp only [Act.put, List.setIfInBounds_toArray, List.set_cons_zero, List.set_cons_succ])
              refine wpAnyH_take (i := 3) (oi := { dst := some 51, op := Op.load 26 (Operand.tmp 50), type := 26, pos := "law.go:122", after := #[{ on := 2, ground := Ground.data }], guard := none }) (v := ?_) rfl (by kernel_rfl) (by kernel_rfl) (by kernel_rfl) (fun _ _ _ h => h) (Or.inl ⟨by rfl, ?_⟩) hHeld ?_
              rotate_left 1
              · intro u hSu
                obtain ⟨qHA0, qHA1, qHA2, qHA3, qHA4⟩ := hSu.out.cells HA.out.1
                obtain ⟨qHB0, qHB1, qHB2, qHB3, qHB4⟩ := hSu.out.cells HB.out.1
                go_simp
                first | done | with_reducible rfl
              (try simp only [Act.put, List.setIfInBounds_toArray, List.set_cons_zero, List.set_cons_succ])
              refine wpAnyH_take (i := 4) (oi := { dst := some 52, op := Op.move (Operand.tmp 8), type := 31, pos := "law.go:122", after := #[], guard := none }) (v := ?_) rfl (by kernel_rfl) (by kernel_rfl) (by kernel_rfl) (fun _ _ _ h => h) (Or.inl ⟨by rfl, ?_⟩) hHeld ?_
              rotate_left 1
              · intro u hSu
                obtain ⟨qHA0, qHA1, qHA2, qHA3, qHA4⟩ := hSu.out.cells HA.out.1
                obtain ⟨qHB0, qHB1, qHB2, qHB3, qHB4⟩ := hSu.out.cells HB.out.1
                go_simp
                first | done | with_reducible rfl
              (try simp only [Act.put, List.setIfInBounds_toArray, List.set_cons_zero, List.set_cons_succ])
              refine wpAnyH_take (i := 5) (oi := { dst := some 53, op := Op.move (Operand.tmp 10), type := 3, pos := "law.go:122", after := #[], guard := none }) (v := ?_) rfl (by kernel_rfl) (by kernel_rfl) (by kernel_rfl) (fun _ _ _ h => h) (Or.inl ⟨by rfl, ?_⟩) hHeld ?_
              rotate_left 1
              · intro u hSu
                obtain ⟨qHA0, qHA1, qHA2, qHA3, qHA4⟩ := hSu.out.cells HA.out.1
                obtain ⟨qHB0, qHB1, qHB2, qHB3, qHB4⟩ := hSu.out.cells HB.out.1
                go_simp
                first | done | with_reducible rfl
              (try simp only [Act.put, List.setIfInBounds_toArray, List.set_cons_zero, List.set_cons_succ])
              refine wpAnyH_take (i := 6) (oi := { dst := some 54, op := Op.indexAddr 31 (Operand.tmp 52) (Operand.tmp 53), type := 0, pos := "law.go:122", after := #[{ on := 4, ground := Ground.data }, { on := 5, ground := Ground.data }], guard := none }) (v := ?_) rfl (by kernel_rfl) (by kernel_rfl) (by kernel_rfl) (fun _ _ _ h => h) (Or.inl ⟨by rfl, ?_⟩) hHeld ?_
              rotate_left 1
              · intro u hSu
                obtain ⟨qHA0, qHA1, qHA2, qHA3, qHA4⟩ := hSu.out.cells HA.out.1
                obtain ⟨qHB0, qHB1, qHB2, qHB3, qHB4⟩ := hSu.out.cells HB.out.1
                go_simp
                first | done | with_reducible rfl
              (try simp only [Act.put, List.setIfInBounds_toArray, List.set_cons_zero, List.set_cons_succ])
              refine wpAnyH_take (i := 7) (oi := { dst := some 55, op := Op.load 26 (Operand.tmp 54), type := 26, pos := "law.go:122", after := #[{ on := 6, ground := Ground.data }], guard := none }) (v := ?_) rfl (by kernel_rfl) (by kernel_rfl) (by kernel_rfl) (fun _ _ _ h => h) (Or.inl ⟨by rfl, ?_⟩) hHeld ?_
              rotate_left 1
              · intro u hSu
                obtain ⟨qHA0, qHA1, qHA2, qHA3, qHA4⟩ := hSu.out.cells HA.out.1
                obtain ⟨qHB0, qHB1, qHB2, qHB3, qHB4⟩ := hSu.out.cells HB.out.1
                go_simp
                first | done | with_reducible rfl
              (try simp only [Act.put, List.setIfInBounds_toArray, List.set_cons_zero, List.set_cons_succ])
              refine wpAnyH_take (i := 9) (oi := { dst := some 57, op := Op.move (Operand.tmp 8), type := 31, pos := "law.go:122", after := #[], guard := none }) (v := ?_) rfl (by kernel_rfl) (by kernel_rfl) (by kernel_rfl) (fun _ _ _ h => h) (Or.inl ⟨by rfl, ?_⟩) hHeld ?_
              rotate_left 1
              · intro u hSu
                obtain ⟨qHA0, qHA1, qHA2, qHA3, qHA4⟩ := hSu.out.cells HA.out.1
                obtain ⟨qHB0, qHB1, qHB2, qHB3, qHB4⟩ := hSu.out.cells HB.out.1
                go_simp
                first | done | with_reducible rfl
              (try simp only [Act.put, List.setIfInBounds_toArray, List.set_cons_zero, List.set_cons_succ])
              refine wpAnyH_take (i := 10) (oi := { dst := some 58, op := Op.move (Operand.tmp 9), type := 3, pos := "law.go:122", after := #[], guard := none }) (v := ?_) rfl (by kernel_rfl) (by kernel_rfl) (by kernel_rfl) (fun _ _ _ h => h) (Or.inl ⟨by rfl, ?_⟩) hHeld ?_
              rotate_left 1
              · intro u hSu
                obtain ⟨qHA0, qHA1, qHA2, qHA3, qHA4⟩ := hSu.out.cells HA.out.1
                obtain ⟨qHB0, qHB1, qHB2, qHB3, qHB4⟩ := hSu.out.cells HB.out.1
                go_simp
                first | done | with_reducible rfl
              (try simp only [Act.put, List.setIfInBounds_toArray, List.set_cons_zero, List.set_cons_succ])
              refine wpAnyH_take (i := 11) (oi := { dst := some 59, op := Op.indexAddr 31 (Operand.tmp 57) (Operand.tmp 58), type := 0, pos := "law.go:122", after := #[{ on := 9, ground := Ground.data }, { on := 10, ground := Ground.data }], guard := none }) (v := ?_) rfl (by kernel_rfl) (by kernel_rfl) (by kernel_rfl) (fun _ _ _ h => h) (Or.inl ⟨by rfl, ?_⟩) hHeld ?_
              rotate_left 1
              · intro u hSu
                obtain ⟨qHA0, qHA1, qHA2, qHA3, qHA4⟩ := hSu.out.cells HA.out.1
                obtain ⟨qHB0, qHB1, qHB2, qHB3, qHB4⟩ := hSu.out.cells HB.out.1
                go_simp
                first | done | with_reducible rfl
              (try simp only [Act.put, List.setIfInBounds_toArray, List.set_cons_zero, List.set_cons_succ])
              refine wpAnyH_take (i := 12) (oi := { dst := some 60, op := Op.load 26 (Operand.tmp 59), type := 26, pos := "law.go:122", after := #[{ on := 11, ground := Ground.data }], guard := none }) (v := ?_) rfl (by kernel_rfl) (by kernel_rfl) (by kernel_rfl) (fun _ _ _ h => h) (Or.inl ⟨by rfl, ?_⟩) hHeld ?_
              rotate_left 1
              · intro u hSu
                obtain ⟨qHA0, qHA1, qHA2, qHA3, qHA4⟩ := hSu.out.cells HA.out.1
                obtain ⟨qHB0, qHB1, qHB2, qHB3, qHB4⟩ := hSu.out.cells HB.out.1
                go_simp
                first | done | with_reducible rfl
              (try simp only [Act.put, List.setIfInBounds_toArray, List.set_cons_zero, List.set_cons_succ])
              refine wpAnyH_take (i := 13) (oi := { dst := some 61, op := Op.move (Operand.tmp 8), type := 31, pos := "law.go:122", after := #[], guard := none }) (v := ?_) rfl (by kernel_rfl) (by kernel_rfl) (by kernel_rfl) (fun _ _ _ h => h) (Or.inl ⟨by rfl, ?_⟩) hHeld ?_
              rotate_left 1
              · intro u hSu
                obtain ⟨qHA0, qHA1, qHA2, qHA3, qHA4⟩ := hSu.out.cells HA.out.1
                obtain ⟨qHB0, qHB1, qHB2, qHB3, qHB4⟩ := hSu.out.cells HB.out.1
                go_simp
                first | done | with_reducible rfl
              (try simp only [Act.put, List.setIfInBounds_toArray, List.set_cons_zero, List.set_cons_succ])
              refine wpAnyH_take (i := 14) (oi := { dst := some 62, op := Op.move (Operand.tmp 10), type := 3, pos := "law.go:122", after := #[], guard := none }) (v := ?_) rfl (by kernel_rfl) (by kernel_rfl) (by kernel_rfl) (fun _ _ _ h => h) (Or.inl ⟨by rfl, ?_⟩) hHeld ?_
              rotate_left 1
              · intro u hSu
                obtain ⟨qHA0, qHA1, qHA2, qHA3, qHA4⟩ := hSu.out.cells HA.out.1
                obtain ⟨qHB0, qHB1, qHB2, qHB3, qHB4⟩ := hSu.out.cells HB.out.1
                go_simp
                first | done | with_reducible rfl
              (try simp only [Act.put, List.setIfInBounds_toArray, List.set_cons_zero, List.set_cons_succ])
              refine wpAnyH_take (i := 15) (oi := { dst := some 63, op := Op.indexAddr 31 (Operand.tmp 61) (Operand.tmp 62), type := 0, pos := "law.go:122", after := #[{ on := 13, ground := Ground.data }, { on := 14, ground := Ground.data }], guard := none }) (v := ?_) rfl (by kernel_rfl) (by kernel_rfl) (by kernel_rfl) (fun _ _ _ h => h) (Or.inl ⟨by rfl, ?_⟩) hHeld ?_
              rotate_left 1
              · intro u hSu
                obtain ⟨qHA0, qHA1, qHA2, qHA3, qHA4⟩ := hSu.out.cells HA.out.1
                obtain ⟨qHB0, qHB1, qHB2, qHB3, qHB4⟩ := hSu.out.cells HB.out.1
                go_simp
                first | done | with_reducible rfl
              (try simp only [Act.put, List.setIfInBounds_toArray, List.set_cons_zero, List.set_cons_succ])
              refine wpAnyH_take (i := 16) (oi := { dst := some 64, op := Op.load 26 (Operand.tmp 63), type := 26, pos := "law.go:122", after := #[{ on := 15, ground := Ground.data }], guard := none }) (v := ?_) rfl (by kernel_rfl) (by kernel_rfl) (by kernel_rfl) (fun _ _ _ h => h) (Or.inl ⟨by rfl, ?_⟩) hHeld ?_
              rotate_left 1
              · intro u hSu
                obtain ⟨qHA0, qHA1, qHA2, qHA3, qHA4⟩ := hSu.out.cells HA.out.1
                obtain ⟨qHB0, qHB1, qHB2, qHB3, qHB4⟩ := hSu.out.cells HB.out.1
                go_simp
                first | done | with_reducible rfl
              (try simp only [Act.put, List.setIfInBounds_toArray, List.set_cons_zero, List.set_cons_succ])
              refine wpAnyH_ready (rs := [8]) (by kernel_rfl) (by simp) ?_
              refine AllReadyH.cons (o := { dst := some 56, op := Op.call { callee := Callee.value (Operand.func 28), args := #[Operand.tmp 51, Operand.tmp 55], argTypes := #[26, 26] }, type := 4, pos := "law.go:122", after := #[{ on := 3, ground := Ground.data }, { on := 7, ground := Ground.data }], guard := none }) rfl (fun Kz hK => ?_) AllReadyH.nil
              go_simp
              refine (HNh.out _ _ HA.out.2 HB.out.2 _ HD).mono ?_
              rintro e w5 ⟨rfl, HDn⟩
              clear HD
              have HD := HDn
              clear HDn
              refine hK.out _ _ (HD) (fun hH2 => ?_)
              clear hK Kz hHeld
              have hHeld := hH2
              clear hH2
              (try simp only [Act.put, List.setIfInBounds_toArray, List.set_cons_zero, List.set_cons_succ])
              refine wpAnyH_ready (rs := [17]) (by kernel_rfl) (by simp) ?_
              refine AllReadyH.cons (o := { dst := some 65, op := Op.call { callee := Callee.value (Operand.func 29), args := #[Operand.tmp 60, Operand.tmp 64], argTypes := #[26, 26] }, type := 4, pos := "law.go:122", after := #[{ on := 12, ground := Ground.data }, { on := 16, ground := Ground.data }, { on := 8, ground := Ground.chain }], guard := none }) rfl (fun Kz hK => ?_) AllReadyH.nil
              go_simp
              refine (HRh.out _ _ HA.out.2 HB.out.2 _ HD).mono ?_
              rintro e w5 ⟨rfl, HDn⟩
              clear HD
              have HD := HDn
              clear HDn
              refine hK.out _ _ (HD) (fun hH2 => ?_)
              clear hK Kz hHeld
              have hHeld := hH2
              clear hH2
              (try simp only [Act.put, List.setIfInBounds_toArray, List.set_cons_zero, List.set_cons_succ])
              refine wpAnyH_take (i := 18) (oi := { dst := some 66, op := Op.binOp BinOp.neq 4 (Operand.tmp 56) (Operand.tmp 65) 4, type := 4, pos := "law.go:122", after := #[{ on := 8, ground := Ground.data }, { on := 17, ground := Ground.data }], guard := none }) (v := .bool false) rfl (by kernel_rfl) (by kernel_rfl) (by kernel_rfl) (fun _ _ _ h => h) (Or.inl ⟨by rfl, ?_⟩) hHeld ?_
              · intro u hSu
                obtain ⟨qHA0, qHA1, qHA2, qHA3, qHA4⟩ := hSu.out.cells HA.out.1
                obtain ⟨qHB0, qHB1, qHB2, qHB3, qHB4⟩ := hSu.out.cells HB.out.1
                go_simp
                first | done | with_reducible rfl | simp
              (try simp only [Act.put, List.setIfInBounds_toArray, List.set_cons_zero, List.set_cons_succ])
              refine wpAnyH_done (by kernel_rfl) ?_ _
              clear hHeld
              go_wp2_with fail
              exact ⟨⟨k + 1, by omega, congrArg _ (by omega), HD⟩, by simp only [RowKit.intOf]; omega⟩
            · go_wp2_with fail
              first
              | exact ⟨⟨i + 1, by omega, congrArg _ (by omega), HKK⟩, by simp only [RowKit.intOf]; omega⟩
              | (go_roundw; case rel => exact ⟨i + 1, by omega, by go_num, HKK⟩; case measure => simp [RowKit.intOf]; omega)
        · go_wp2_with fail
          refine (aawake_any _ (HTB.out.keep HJ.out.gr)).mono ?_
          rintro e w9 ⟨rfl, hg⟩
          have HF := Lib.hid (grown_trans HJ.out.gr hg)
          clear hg HJ
          go_wp2_with fail
          go_ret
          exact ⟨rfl, HF.out⟩
      · go_wp2_with fail
        refine (aawake_any _ (HTB.out.keep HJ.out.gr)).mono ?_
        rintro e w9 ⟨rfl, hg⟩
        have HF := Lib.hid (grown_trans HJ.out.gr hg)
        clear hg HJ
        go_wp2_with fail
        go_ret
        exact ⟨rfl, HF.out⟩
    · go_wp2_with fail
      refine (aawake_any _ (HTB.out.keep HI.out.gr)).mono ?_
      rintro e w9 ⟨rfl, hg⟩
      have HF := Lib.hid (grown_trans HI.out.gr hg)
      clear hg HI
      go_wp2_with fail
      go_ret
      exact ⟨rfl, HF.out⟩
end Go.Proofs.YtpoocenooomghaaDoor

/- An advert that comes in as an argument. -/
namespace Go.Proofs.YtpoocenooomghaaDoor
open Go.ChangeShapes Go.WideShapes Go.ChangeAt Go.RowKit Go.Joins Bs
set_option maxRecDepth 100000 in
theorem tlist3 {A : Type} {xs : List A} (h : xs.length = 3) : ∃ x0 x1 x2, xs = [x0, x1, x2] := by
  match xs, h with
  | [x0, x1, x2], _ => exact ⟨x0, x1, x2, rfl⟩
set_option maxRecDepth 100000 in
theorem tlistA5 {A : Type} {xs : List A} (h : xs.length = 5) : ∃ x0 x1 x2 x3 x4, xs = [x0, x1, x2, x3, x4] := by
  match xs, h with
  | [x0, x1, x2, x3, x4], _ => exact ⟨x0, x1, x2, x3, x4, rfl⟩
set_option maxRecDepth 100000 in
theorem kit_cellsre : Tryd.prog.cellsOf 70 = 3 := by kernel_rfl
set_option maxRecDepth 100000 in
theorem kit_cellscm : Tryd.prog.cellsOf 73 = 3 := by kernel_rfl
set_option maxRecDepth 100000 in
theorem kit_cellsBoolA : Tryd.prog.cellsOf 4 = 1 := by kernel_rfl
set_option maxRecDepth 100000 in
theorem kit_cellsres : Tryd.prog.cellsOf 23 = 1 := by kernel_rfl
set_option maxRecDepth 100000 in
theorem kit_cellscms : Tryd.prog.cellsOf 24 = 1 := by kernel_rfl
section
variable {H : Type} {enc : TypeId × Value → H} {W : World} {base : Nat} {v : Value} {d : DataW H} {ps : List MemPlace}
set_option maxRecDepth 100000 in
theorem re_trod {fuel : Nat} {cs : List Value} {y : DataW H × List MemPlace} (h : DataW.trod enc Tryd.prog W 0 (fun _ => true) true fuel 70 cs = some y) : ∃ l : T3, cs = t3C l := by
  have hs := Tryd.underlying70
  obtain ⟨xs, n, _, _, hl, hlen, hf⟩ := DataW.trod_struct hs h
  rw [kit_cellsre] at hl
  obtain ⟨c0, c1, c2, rfl⟩ := tlist3 hl
  obtain ⟨x0, x1, x2, rfl⟩ := tlist3 hlen
  have h0 : DataW.trod enc Tryd.prog W 0 (fun _ => true) true n 3 [c0] = some x0 := by simpa [Value.cells, kit_cellsInt] using hf 0 _ rfl
  have h1 : DataW.trod enc Tryd.prog W 0 (fun _ => true) true n 3 [c1] = some x1 := by simpa [Value.cells, kit_cellsInt] using hf 1 _ rfl
  have h2 : DataW.trod enc Tryd.prog W 0 (fun _ => true) true n 3 [c2] = some x2 := by simpa [Value.cells, kit_cellsInt] using hf 2 _ rfl
  obtain ⟨m0, e0, _, w0⟩ := DataW.trod_int Tryd.underlying3 h0
  obtain rfl : c0 = .int .i64 m0 := by simpa using e0
  obtain ⟨m1, e1, _, w1⟩ := DataW.trod_int Tryd.underlying3 h1
  obtain rfl : c1 = .int .i64 m1 := by simpa using e1
  obtain ⟨m2, e2, _, w2⟩ := DataW.trod_int Tryd.underlying3 h2
  obtain rfl : c2 = .int .i64 m2 := by simpa using e2
  exact ⟨⟨m0, m1, m2⟩, rfl⟩
set_option maxRecDepth 100000 in
theorem cm_trod {fuel : Nat} {cs : List Value} {y : DataW H × List MemPlace} (h : DataW.trod enc Tryd.prog W 0 (fun _ => true) true fuel 73 cs = some y) : ∃ l : T3, cs = t3C l := by
  have hs := Tryd.underlying73
  obtain ⟨xs, n, _, _, hl, hlen, hf⟩ := DataW.trod_struct hs h
  rw [kit_cellscm] at hl
  obtain ⟨c0, c1, c2, rfl⟩ := tlist3 hl
  obtain ⟨x0, x1, x2, rfl⟩ := tlist3 hlen
  have h0 : DataW.trod enc Tryd.prog W 0 (fun _ => true) true n 3 [c0] = some x0 := by simpa [Value.cells, kit_cellsInt] using hf 0 _ rfl
  have h1 : DataW.trod enc Tryd.prog W 0 (fun _ => true) true n 3 [c1] = some x1 := by simpa [Value.cells, kit_cellsInt] using hf 1 _ rfl
  have h2 : DataW.trod enc Tryd.prog W 0 (fun _ => true) true n 3 [c2] = some x2 := by simpa [Value.cells, kit_cellsInt] using hf 2 _ rfl
  obtain ⟨m0, e0, _, w0⟩ := DataW.trod_int Tryd.underlying3 h0
  obtain rfl : c0 = .int .i64 m0 := by simpa using e0
  obtain ⟨m1, e1, _, w1⟩ := DataW.trod_int Tryd.underlying3 h1
  obtain rfl : c1 = .int .i64 m1 := by simpa using e1
  obtain ⟨m2, e2, _, w2⟩ := DataW.trod_int Tryd.underlying3 h2
  obtain rfl : c2 = .int .i64 m2 := by simpa using e2
  exact ⟨⟨m0, m1, m2⟩, rfl⟩
set_option maxRecDepth 100000 in
/-- A slice of structs of k cells. -/
theorem rowsA_trod {α : Type} (f : α → List Value) (k : Nat) (hk : 0 < k) (hf : ∀ x, (f x).length = k) (x0 : α) {E T : TypeId} (hT : Tryd.prog.underlying T = some (.slice E)) (hc : Tryd.prog.cellsOf E = k)
    (hE : ∀ {fuel : Nat} {cs : List Value} {y : DataW H × List MemPlace}, DataW.trod enc Tryd.prog W 0 (fun _ => true) true fuel E cs = some y → ∃ r : α, cs = f r)
    {fuel : Nat} {c0 : Value} {y : DataW H × List MemPlace} (h : DataW.trod enc Tryd.prog W 0 (fun _ => true) true fuel T [c0] = some y) :
    ∃ (l : List α) (p : Option Addr) (c : Nat), c0 = .slice p l.length c ∧ RdF W (· < W.heap.size) (.slice p l.length c) l.length (l.flatMap f) ∧ l.length ≤ c ∧ c ≤ 9223372036854775807 := by
  rcases DataW.trod_slice hT h with ⟨hcs, _⟩ | ⟨a, len, cap, elems, rest, n, _, hcs, _, _, hl, hm, hlen, hel, _, _⟩
  · obtain rfl : c0 = .slice none 0 0 := by simpa using hcs
    exact ⟨[], none, 0, rfl, rdf_nil _ _ _ _, Nat.le_refl _, by omega⟩
  · obtain rfl : c0 = .slice (some a) len cap := by simpa using hcs
    rw [hc] at hel
    have each : ∀ i, ∃ l : α, i < len → ∀ j, j < k → W.cell? ((a.add (i * k)).add j) = (f l)[j]? := by
      intro i
      by_cases hi : i < len
      · have h1 := hel i hi
        rw [List.getElem?_eq_getElem (by omega)] at h1
        obtain ⟨cs, hc1, hc2⟩ := Option.bind_eq_some_iff.1 h1
        obtain ⟨l, rfl⟩ := hE hc2
        obtain ⟨_, _, hc3⟩ := World.cells?_some hc1
        exact ⟨l, fun _ j hj => hc3 j hj⟩
      · exact ⟨x0, fun h => absurd h hi⟩
    obtain ⟨g, hfn⟩ := Classical.axiomOfChoice each
    have hll : ((List.range len).map g).length = len := by simp
    refine ⟨(List.range len).map g, some a, cap, by rw [hll], ?_, by rw [hll]; exact hl, hm⟩
    rw [hll]
    refine ⟨some a, cap, rfl, fun hne => ?_⟩
    have hpos : 0 < len := by
      rcases Nat.eq_zero_or_pos len with h0 | h0
      · subst h0
        exact absurd rfl hne
      · exact h0
    obtain ⟨b, off, spot⟩ := a
    have hget : ∀ i, i < len → ∀ j, j < k → ∃ u, (f (g i))[j]? = some u := fun i _ j hj => ⟨_, List.getElem?_eq_getElem (by rw [hf]; exact hj)⟩
    have hspot : spot = none := by
      obtain ⟨u, hu⟩ := hget 0 hpos 0 hk
      have := (hfn 0 hpos 0 hk).trans hu
      simpa [Addr.add] using World.cell?_spot this
    subst hspot
    have hcell : ∀ i j, i < len → j < k → W.cell? ⟨b, off + (i * k + j), none⟩ = (f (g i))[j]? := by
      intro i j hi hj
      have := hfn i hi j hj
      rw [Go.WideShapes.add_plain, Go.WideShapes.add_plain] at this
      rw [← this]
      congr 2
      omega
    refine ⟨b, off, rfl, ?_, fun j x hj => ?_⟩
    · obtain ⟨u, hu⟩ := hget 0 hpos 0 hk
      exact World.block_lt_of_cell? W ⟨b, off + (0 * k + 0), none⟩ ((hcell 0 0 hpos hk).trans hu)
    have hj2 : j < len * k := by
      have := (List.getElem?_eq_some_iff.1 hj).1
      rw [flat_len f k hf, hll] at this
      exact this
    have hm1 : j / k < len := (Nat.div_lt_iff_lt_mul hk).2 hj2
    have hm2 : j % k < k := Nat.mod_lt _ hk
    have hd : j = j / k * k + j % k := by rw [Nat.mul_comm]; exact (Nat.div_add_mod j k).symm
    have hat : ((List.range len).map g)[j / k]? = some (g (j / k)) := by
      rw [List.getElem?_map, List.getElem?_range hm1]; rfl
    rw [hd] at hj ⊢
    rw [flat_at f k hf _ _ _ _ hat hm2] at hj
    rw [hcell _ _ hm1 hm2]
    exact hj
set_option maxRecDepth 100000 in
theorem opn_advert (hval : Value.okWide Tryd.prog W .any base 26 v) (h : DataW.Trod enc Tryd.prog W 0 (fun _ => true) true 26 v d ps) :
    ∃ A : Ad, v = A.val ∧ AdOk W (· < W.heap.size) A := by
  have hs := Tryd.underlying26
  obtain ⟨cs, rfl, hsz⟩ := okWide_struct hs hval
  obtain ⟨fuel, hf⟩ := h
  obtain ⟨xs, n, _, _, hl, hlen, hf⟩ := DataW.trod_struct hs hf
  have h5 : cs.toList.length = 5 := hsz.trans (by kernel_rfl)
  obtain ⟨c0, c1, c2, c3, c4, hct⟩ := tlistA5 h5
  obtain ⟨x0, x1, x2, x3, x4, rfl⟩ := tlistA5 hlen
  have h0 : DataW.trod enc Tryd.prog W 0 (fun _ => true) true n 3 [c0] = some x0 := by simpa [Value.cells, kit_cellsInt, hct] using hf 0 _ rfl
  have h1 : DataW.trod enc Tryd.prog W 0 (fun _ => true) true n 3 [c1] = some x1 := by simpa [Value.cells, kit_cellsInt, hct] using hf 1 _ rfl
  have h2 : DataW.trod enc Tryd.prog W 0 (fun _ => true) true n 4 [c2] = some x2 := by simpa [Value.cells, kit_cellsBoolA, kit_cellsInt, hct] using hf 2 _ rfl
  have h3 : DataW.trod enc Tryd.prog W 0 (fun _ => true) true n 23 [c3] = some x3 := by simpa [Value.cells, kit_cellsres, kit_cellsBoolA, kit_cellsInt, hct] using hf 3 _ rfl
  have h4 : DataW.trod enc Tryd.prog W 0 (fun _ => true) true n 24 [c4] = some x4 := by simpa [Value.cells, kit_cellsres, kit_cellscms, kit_cellsBoolA, kit_cellsInt, hct] using hf 4 _ rfl
  obtain ⟨m0, e0, _, w0⟩ := DataW.trod_int Tryd.underlying3 h0
  obtain rfl : c0 = .int .i64 m0 := by simpa using e0
  obtain ⟨m1, e1, _, w1⟩ := DataW.trod_int Tryd.underlying3 h1
  obtain rfl : c1 = .int .i64 m1 := by simpa using e1
  obtain ⟨m2, e2, _⟩ := DataW.trod_bool Tryd.underlying4 h2
  obtain rfl : c2 = .bool m2 := by simpa using e2
  obtain ⟨L, pL, cL, rfl, hL, hl1, hl2⟩ := rowsA_trod t3C 3 (by decide) (fun _ => rfl) ⟨0, 0, 0⟩ Tryd.underlying23 kit_cellsre re_trod h3
  obtain ⟨C, pC, cC, rfl, hC, hr1, hr2⟩ := rowsA_trod t3C 3 (by decide) (fun _ => rfl) ⟨0, 0, 0⟩ Tryd.underlying24 kit_cellscm cm_trod h4
  exact ⟨⟨m0, m1, m2, L, C, pL, cL, pC, cC⟩, congrArg Value.agg (Array.ext' hct), ⟨hL, hC, ⟨hl1, hl2⟩, ⟨hr1, hr2⟩⟩⟩
end
end Go.Proofs.YtpoocenooomghaaDoor
