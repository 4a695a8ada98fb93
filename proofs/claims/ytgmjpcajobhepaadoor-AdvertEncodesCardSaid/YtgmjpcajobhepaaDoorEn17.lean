/- Parts of the proof, packed: AdEnLaw, AdOpn. -/
import Derived.Test.YtgmjpcajobhepaaDoorEn15
import Derived.Test.YtgmjpcajobhepaaDoorEn16
import Derived.Test.YtgmjpcajobhepaaDoorEn2
import Derived.Test.YtgmjpcajobhepaaDoorEn6
/- The law AdvertEncodes: Encode returns what the reference says, and Decode undoes it. -/
namespace Go.Proofs.YtgmjpcajobhepaaDoor
open Go.RowKit Bs
set_option maxRecDepth 100000 in
theorem OV.start2 {W w : World} {a : Nat} {raw A B : Ad} {t : TypeId} (h : LV W a raw [A, B] w) {cs : Array Value} (hc : cs = adC A ++ adC B ++ adC raw) : OV W w.heap.size raw [A, B, raw] (w.alloc (.cells cs t)) := by
  have g := World.grownBy_alloc w (.cells cs t) none
  have h1 := h.adv2.keep g
  refine ⟨⟨cs, t, heap_alloc_new w _, ?_⟩, fun X hX => ⟨_, h1.ok X hX⟩, ⟨_, h1.rk⟩, h1.bx, h1.gr⟩
  subst hc
  intro i X hX j u hu
  have hj : j < 5 := (Array.getElem?_eq_some_iff.1 hu).1
  have hi : i < 3 := (List.getElem?_eq_some_iff.1 hX).1
  have sz : ∀ X : Ad, (adC X).size = 5 := fun _ => rfl
  rcases (show i = 0 ∨ i = 1 ∨ i = 2 by omega) with rfl | rfl | rfl
  · obtain rfl : A = X := Option.some.inj hX
    rw [Array.getElem?_append_left (by simp only [Array.size_append, sz]; omega), Array.getElem?_append_left (by rw [sz]; omega), show 0 * 5 + j = j by omega]
    exact hu
  · obtain rfl : B = X := Option.some.inj hX
    rw [Array.getElem?_append_left (by simp only [Array.size_append, sz]; omega), Array.getElem?_append_right (by rw [sz]; omega), sz, show 1 * 5 + j - 5 = j by omega]
    exact hu
  · obtain rfl : raw = X := Option.some.inj hX
    rw [Array.getElem?_append_right (by simp only [Array.size_append, sz]; omega), Array.size_append, sz, sz, show 2 * 5 + j - (5 + 5) = j by omega]
    exact hu
set_option maxRecDepth 100000 in
theorem encA_le {A : Ad} (h : vAd A = true) : (encA A).length ≤ 1024 := by
  have h1 := VA.of h
  have := h1.ll
  have := h1.cl
  rw [enc_len2, adB_len]
  omega
set_option maxRecDepth 100000 in
theorem smA.symm {A B : Ad} (h : smA A B) : smA B A := ⟨h.1.symm, h.2.1.symm, h.2.2.1.symm, h.2.2.2.1.symm, h.2.2.2.2.symm⟩
set_option maxRecDepth 100000 in
set_option maxHeartbeats 6400000 in
theorem encodes_walk (v : Value) (raw : Ad) (w : World) (hv : IntsIn w v) (hr : AdOk w (· < w.heap.size) raw) (hT : Tb w) :
    Calls Tryd.prog 4 #[v, raw.val] w fun e w' => e = .returned (.bool true) ∧ w.grownBy w' none := by
  have HTB := Lib.hid hT
  have hm1 := Nat.le_trans hr.hl.1 hr.hl.2
  have hm2 := Nat.le_trans hr.hc.1 hr.hc.2
  obtain ⟨rr, rq, rcp, rL, rC, rpL, rcL, rpC, rcC⟩ := raw
  obtain ⟨raw, hraw⟩ : ∃ raw : Ad, raw = ⟨rr, rq, rcp, rL, rC, rpL, rcL, rpC, rcC⟩ := ⟨_, rfl⟩
  have hval : raw.val = .agg #[.int .i64 rr, .int .i64 rq, .bool rcp, .slice rpL rL.length rcL, .slice rpC rC.length rcC] := by rw [hraw]; rfl
  have hadc : adC raw = #[.int .i64 rr, .int .i64 rq, .bool rcp, .slice rpL rL.length rcL, .slice rpC rC.length rcC] := by rw [hraw]; rfl
  rw [← hraw] at hr ⊢
  rw [hval]
  have HRV := Lib.hid hval
  have HRC := Lib.hid hadc
  have hb := heap_alloc_new w (.cells (adC raw) 26)
  have hg := World.grownBy_alloc w (.cells (adC raw) 26) none
  have hv2 := hv.grownW hg
  have hlt : w.heap.size < (w.alloc (.cells (adC raw) 26)).heap.size := by simp
  have H0 := Lib.hid (And.intro hb (And.intro hg (And.intro (hr.keep hg) hlt)))
  rw [hadc] at H0
  rw [hadc] at hv2
  have HVV := Lib.hid hv2
  clear hb hg hv hr hT hv2 hlt hval hadc hraw
  simp only at hm1 hm2
  go_enter Tryd.func4, Tryd.ntmps4
  go_upto_region 1 with fail
  generalize w.alloc _ = w0 at *
  go_wp2_with fail
  refine (new_any v w0 HVV.out).mono ?_
  rintro e w1 ⟨rfl, hg1, hT1⟩
  have H1 : Hid (LV w w0.heap.size raw [] w1) := Lib.hid ⟨fun A h => (by cases h), (H0.out.2.2.1.keep hg1).mono (fun b hb => by have := H0.out.2.2.2; omega), by rw [HRC.out]; exact kept_row H0.out.1 hg1 (by simp), grown_trans H0.out.2.1 hg1, hT1, H0.out.2.2.2⟩
  clear hg1 hT1 H0 HVV
  obtain ⟨a, ha⟩ : ∃ a, w0.heap.size = a := ⟨_, rfl⟩
  rw [ha] at H1 ⊢
  clear ha
  go_upto_region 2 with fail
  have HD := Lib.hid (H1.out.keep (grown_drew (grown_refl w1 none)))
  clear H1
  refine wp_region_held_drew (S := fun w' => Hid (w'.heap[w.heap.size]? = some (.cells (adC raw) 26 (0, 0)))) (by kernel_rfl) (Lib.hid HD.out.bx) (fun hHeld => ?_)
  refine wpAnyH_take (i := 0) (oi := { dst := some 16, op := Op.move (Operand.tmp 5), type := 27, pos := "law.go:43", after := #[], guard := none }) (v := ?_) rfl (by kernel_rfl) (by kernel_rfl) (by kernel_rfl) (fun _ _ _ h => h) (Or.inl ⟨by rfl, ?_⟩) hHeld ?_
  rotate_left 1
  · intro u hSu
    have hbx := hSu.out
    rw [HRC.out] at hbx
    obtain ⟨q0, q1, q2, q3, q4⟩ := row5 hbx
    go_simp
    first | done | with_reducible rfl
  (try simp only [Act.put, List.setIfInBounds_toArray, List.set_cons_zero, List.set_cons_succ])
  refine wpAnyH_take (i := 1) (oi := { dst := some 17, op := Op.move (Operand.tmp 5), type := 27, pos := "law.go:43", after := #[], guard := none }) (v := ?_) rfl (by kernel_rfl) (by kernel_rfl) (by kernel_rfl) (fun _ _ _ h => h) (Or.inl ⟨by rfl, ?_⟩) hHeld ?_
  rotate_left 1
  · intro u hSu
    have hbx := hSu.out
    rw [HRC.out] at hbx
    obtain ⟨q0, q1, q2, q3, q4⟩ := row5 hbx
    go_simp
    first | done | with_reducible rfl
  (try simp only [Act.put, List.setIfInBounds_toArray, List.set_cons_zero, List.set_cons_succ])
  refine wpAnyH_take (i := 4) (oi := { dst := some 20, op := Op.move (Operand.tmp 5), type := 27, pos := "law.go:43", after := #[], guard := none }) (v := ?_) rfl (by kernel_rfl) (by kernel_rfl) (by kernel_rfl) (fun _ _ _ h => h) (Or.inl ⟨by rfl, ?_⟩) hHeld ?_
  rotate_left 1
  · intro u hSu
    have hbx := hSu.out
    rw [HRC.out] at hbx
    obtain ⟨q0, q1, q2, q3, q4⟩ := row5 hbx
    go_simp
    first | done | with_reducible rfl
  (try simp only [Act.put, List.setIfInBounds_toArray, List.set_cons_zero, List.set_cons_succ])
  refine wpAnyH_take (i := 5) (oi := { dst := some 21, op := Op.move (Operand.tmp 5), type := 27, pos := "law.go:43", after := #[], guard := none }) (v := ?_) rfl (by kernel_rfl) (by kernel_rfl) (by kernel_rfl) (fun _ _ _ h => h) (Or.inl ⟨by rfl, ?_⟩) hHeld ?_
  rotate_left 1
  · intro u hSu
    have hbx := hSu.out
    rw [HRC.out] at hbx
    obtain ⟨q0, q1, q2, q3, q4⟩ := row5 hbx
    go_simp
    first | done | with_reducible rfl
  (try simp only [Act.put, List.setIfInBounds_toArray, List.set_cons_zero, List.set_cons_succ])
  refine wpAnyH_take (i := 8) (oi := { dst := some 24, op := Op.load 26 (Operand.tmp 3), type := 26, pos := "law.go:43", after := #[], guard := none }) (v := ?_) rfl (by kernel_rfl) (by kernel_rfl) (by kernel_rfl) (fun _ _ _ h => h) (Or.inl ⟨by rfl, ?_⟩) hHeld ?_
  rotate_left 1
  · intro u hSu
    have hbx := hSu.out
    rw [HRC.out] at hbx
    obtain ⟨q0, q1, q2, q3, q4⟩ := row5 hbx
    go_simp
    first | done | with_reducible rfl
  (try simp only [Act.put, List.setIfInBounds_toArray, List.set_cons_zero, List.set_cons_succ])
  refine wpAnyH_ready (rs := [2]) (by kernel_rfl) (by simp) ?_
  refine AllReadyH.cons (o := { dst := some 18, op := Op.call { callee := Callee.value (Operand.func 12), args := #[Operand.tmp 17, Operand.const (Value.int IntKind.i64 1), Operand.const (Value.int IntKind.i64 6)], argTypes := #[27, 3, 3] }, type := 3, pos := "law.go:43", after := #[{ on := 1, ground := Ground.data }], guard := none }) rfl (fun Kz hK => ?_) AllReadyH.nil
  go_simp
  go_at_call 12
  refine (range_any a 1 6 (by omega) (by omega) (by omega) (by omega) _ HD.out.tp).mono ?_
  rintro e w5 ⟨x1, rfl, hx, hs⟩
  have HXx1 : I64 x1 := by unfold I64; unfold RangeOf at hx; omega
  have HDn := Lib.hid (HD.out.tape hs)
  clear hs HD hx
  have HD := HDn
  clear HDn
  refine hK.out _ _ (Lib.hid HD.out.bx) (fun hH2 => ?_)
  clear hK Kz hHeld
  have hHeld := hH2
  clear hH2
  (try simp only [Act.put, List.setIfInBounds_toArray, List.set_cons_zero, List.set_cons_succ])
  refine wpAnyH_ready (rs := [3]) (by kernel_rfl) (by simp) ?_
  refine AllReadyH.cons (o := { dst := some 19, op := Op.call { callee := Callee.value (Operand.func 11), args := #[Operand.tmp 16, Operand.tmp 18, Operand.const (Value.int IntKind.i64 3)], argTypes := #[27, 3, 3] }, type := 26, pos := "law.go:43", after := #[{ on := 0, ground := Ground.data }, { on := 2, ground := Ground.data }, { on := 2, ground := Ground.chain }], guard := none }) rfl (fun Kz hK => ?_) AllReadyH.nil
  go_simp
  go_at_call 11
  refine (adv_any a x1 3 HXx1 (by unfold I64; omega) _ HD.out.tp).mono ?_
  rintro e w5 ⟨A1, hAe, -, hA, hs⟩
  have HDn := Lib.hid (HD.out.adv hs hA)
  obtain ⟨r1, q1, cp1, L1, C1, pL1, cL1, pC1, cC1⟩ := A1
  subst hAe
  unfold Ad.val
  clear hA hs HD
  have HD := HDn
  clear HDn
  refine hK.out _ _ (Lib.hid HD.out.bx) (fun hH2 => ?_)
  clear hK Kz hHeld
  have hHeld := hH2
  clear hH2
  (try simp only [Act.put, List.setIfInBounds_toArray, List.set_cons_zero, List.set_cons_succ])
  refine wpAnyH_ready (rs := [6]) (by kernel_rfl) (by simp) ?_
  refine AllReadyH.cons (o := { dst := some 22, op := Op.call { callee := Callee.value (Operand.func 12), args := #[Operand.tmp 21, Operand.const (Value.int IntKind.i64 1), Operand.const (Value.int IntKind.i64 6)], argTypes := #[27, 3, 3] }, type := 3, pos := "law.go:43", after := #[{ on := 5, ground := Ground.data }, { on := 3, ground := Ground.chain }], guard := none }) rfl (fun Kz hK => ?_) AllReadyH.nil
  go_simp
  go_at_call 12
  refine (range_any a 1 6 (by omega) (by omega) (by omega) (by omega) _ HD.out.tp).mono ?_
  rintro e w5 ⟨x2, rfl, hx, hs⟩
  have HXx2 : I64 x2 := by unfold I64; unfold RangeOf at hx; omega
  have HDn := Lib.hid (HD.out.tape hs)
  clear hs HD hx
  have HD := HDn
  clear HDn
  refine hK.out _ _ (Lib.hid HD.out.bx) (fun hH2 => ?_)
  clear hK Kz hHeld
  have hHeld := hH2
  clear hH2
  (try simp only [Act.put, List.setIfInBounds_toArray, List.set_cons_zero, List.set_cons_succ])
  refine wpAnyH_ready (rs := [7]) (by kernel_rfl) (by simp) ?_
  refine AllReadyH.cons (o := { dst := some 23, op := Op.call { callee := Callee.value (Operand.func 11), args := #[Operand.tmp 20, Operand.tmp 22, Operand.const (Value.int IntKind.i64 0)], argTypes := #[27, 3, 3] }, type := 26, pos := "law.go:43", after := #[{ on := 4, ground := Ground.data }, { on := 6, ground := Ground.data }, { on := 6, ground := Ground.chain }], guard := none }) rfl (fun Kz hK => ?_) AllReadyH.nil
  go_simp
  go_at_call 11
  refine (adv_any a x2 0 HXx2 (by unfold I64; omega) _ HD.out.tp).mono ?_
  rintro e w5 ⟨A2, hAe, -, hA, hs⟩
  have HDn := Lib.hid (HD.out.adv hs hA)
  obtain ⟨r2, q2, cp2, L2, C2, pL2, cL2, pC2, cC2⟩ := A2
  subst hAe
  unfold Ad.val
  clear hA hs HD
  have HD := HDn
  clear HDn
  refine hK.out _ _ (Lib.hid HD.out.bx) (fun hH2 => ?_)
  clear hK Kz hHeld
  have hHeld := hH2
  clear hH2
  (try simp only [Act.put, List.setIfInBounds_toArray, List.set_cons_zero, List.set_cons_succ])
  refine wpAnyH_ready (rs := [9]) (by kernel_rfl) (by simp) ?_
  refine AllReadyH.cons (o := { dst := some 25, op := Op.buildSlice 31 3 #[(0, Operand.tmp 19), (1, Operand.tmp 23), (2, Operand.tmp 24)], type := 31, pos := "law.go:43", after := #[{ on := 3, ground := Ground.data }, { on := 7, ground := Ground.data }, { on := 8, ground := Ground.data }], guard := none }) rfl (fun Kz hK => ?_) AllReadyH.nil
  go_simp
  have HV := Lib.hid (OV.start2 (W := w) (a := a) (raw := raw) (A := ⟨r1, q1, cp1, L1, C1, pL1, cL1, pC1, cC1⟩) (B := ⟨r2, q2, cp2, L2, C2, pL2, cL2, pC2, cC2⟩) (t := 26) HD.out (cs := #[.int .i64 r1, .int .i64 q1, .bool cp1, .slice pL1 L1.length cL1, .slice pC1 C1.length cC1, .int .i64 r2, .int .i64 q2, .bool cp2, .slice pL2 L2.length cL2, .slice pC2 C2.length cC2, .int .i64 rr, .int .i64 rq, .bool rcp, .slice rpL rL.length rcL, .slice rpC rC.length rcC]) (by rw [HRC.out]; rfl))
  clear HD
  refine hK.out _ _ (Lib.hid HV.out.bx) (fun hH2 => ?_)
  clear hK Kz hHeld
  have hHeld := hH2
  clear hH2
  (try simp only [Act.put, List.setIfInBounds_toArray, List.set_cons_zero, List.set_cons_succ])
  refine wpAnyH_take (i := 10) (oi := { dst := some 6, op := Op.assign (Operand.tmp 25), type := 31, pos := "law.go:43", after := #[{ on := 9, ground := Ground.data }, { on := 7, ground := Ground.chain }, { on := 0, ground := Ground.phase }, { on := 1, ground := Ground.phase }, { on := 2, ground := Ground.phase }, { on := 3, ground := Ground.phase }, { on := 4, ground := Ground.phase }, { on := 5, ground := Ground.phase }, { on := 6, ground := Ground.phase }, { on := 7, ground := Ground.phase }, { on := 8, ground := Ground.phase }, { on := 9, ground := Ground.phase }], guard := none }) (v := ?_) rfl (by kernel_rfl) (by kernel_rfl) (by kernel_rfl) (fun _ _ _ h => h) (Or.inl ⟨by rfl, ?_⟩) hHeld ?_
  rotate_left 1
  · intro u hSu
    have hbx := hSu.out
    rw [HRC.out] at hbx
    obtain ⟨q0, q1, q2, q3, q4⟩ := row5 hbx
    go_simp
    first | done | with_reducible rfl
  (try simp only [Act.put, List.setIfInBounds_toArray, List.set_cons_zero, List.set_cons_succ])
  refine wpAnyH_done (by kernel_rfl) ?_ _
  clear hHeld
  go_upto_region 3 with fail
  generalize w5.alloc _ = w6 at *
  generalize w5.heap.size = D at *
  obtain ⟨l, hl, hll⟩ : ∃ l : List Ad, l = [⟨r1, q1, cp1, L1, C1, pL1, cL1, pC1, cC1⟩, ⟨r2, q2, cp2, L2, C2, pL2, cL2, pC2, cC2⟩, raw] ∧ l.length = 3 := ⟨_, rfl, rfl⟩
  rw [← hl] at HV
  clear hl
  have HL := Lib.hid hll
  clear hll
  have HEh : Hid (∀ A ∈ l, ∀ wz, Hid (OV w D raw l wz) → Calls Tryd.prog 19 #[A.val] wz fun e w' => ((vAd A = true ∧ ∃ g, e = .returned (.tuple #[.slice (some ⟨g, 0, none⟩) (encA A).length (encA A).length, .int .i64 0]) ∧ Blk w' g (encA A)) ∨ (vAd A = false ∧ e = .returned (.tuple #[.slice none 0 0, .int .i64 1]))) ∧ Hid (OV w D raw l w')) := Lib.hid (fun A hA wz H => by
    obtain ⟨q, hq⟩ := H.out.ok A hA
    refine (aenc_any A q wz hq (HTB.out.keep H.out.gr)).mono ?_
    rintro e w' (⟨h1, g, h2, h3, h4, h5⟩ | ⟨h1, h2, h5⟩)
    · exact ⟨.inl ⟨h1, g, h2, h3⟩, Lib.hid (H.out.keep h5)⟩
    · exact ⟨.inr ⟨h1, h2⟩, Lib.hid (H.out.keep h5)⟩)
  have HFh : Hid (∀ A ∈ l, ∀ wz, Hid (OV w D raw l wz) → Calls Tryd.prog 20 #[A.val] wz fun e w' => ((vAd A = true ∧ ∃ p c, e = .returned (.tuple #[.slice p (encA A).length c, .int .i64 0]) ∧ BR (alB A) p c w') ∨ (vAd A = false ∧ e = .returned (.tuple #[.slice none 0 0, .int .i64 1]))) ∧ wz.grownBy w' none) := Lib.hid (fun A hA wz H => by
    obtain ⟨q, hq⟩ := H.out.ok A hA
    refine (raenc_any A q wz hq).mono ?_
    rintro e w' (⟨h1, p, c, h2, h3, h4, h5⟩ | ⟨h1, h2, h5⟩)
    · exact ⟨.inl ⟨h1, p, c, h2, ⟨h3, h4⟩⟩, h5⟩
    · exact ⟨.inr ⟨h1, h2⟩, h5⟩)
  have HBh : Hid (∀ wz, Hid (OV w D raw l wz) → Calls Tryd.prog 13 #[.agg #[.int .i64 rr, .int .i64 rq, .bool rcp, .slice rpL rL.length rcL, .slice rpC rC.length rcC]] wz fun e w' => e = .returned (.bool (bgA raw)) ∧ Hid (OV w D raw l w')) := Lib.hid (fun wz H => by
    obtain ⟨q, hq⟩ := H.out.rk
    have h := abig_any raw q wz hq
    rw [HRV.out] at h
    exact h.mono (by rintro e w' ⟨rfl, hg⟩; exact ⟨rfl, Lib.hid (H.out.keep hg)⟩))
  obtain ⟨g, hg⟩ : ∃ g, bgA raw = g := ⟨_, rfl⟩
  rw [hg] at HBh
  clear hg
  go_wp2_with fail
  go_loopw [7] (fun i wr => ∃ k : Nat, k ≤ 3 ∧ i = .int .i64 (k : Int) ∧ Hid (OV w D raw l wr)) (fun i _ => 3 - (RowKit.intOf i).toNat)
  case atStart => exact ⟨0, by omega, rfl, HV⟩
  case round =>
    obtain ⟨i, hi4, rfl, HI⟩ := hrel
    clear HV
    by_cases hli : (i : Int) < 3
    · have hlib : decide ((i : Int) < 3) = true := decide_eq_true hli
      obtain ⟨A, hA⟩ : ∃ A, l[i]? = some A := ⟨_, List.getElem?_eq_getElem (by rw [HL.out]; omega)⟩
      have HA := Lib.hid (And.intro hA (List.mem_of_getElem? hA))
      clear hA
      have hbx := HI.out.bx
      rw [HRC.out] at hbx
      obtain ⟨q0, q1', q2', q3', q4⟩ := row5 hbx
      clear hbx
      go_wp2_with fail
      refine (HBh.out wr HI).mono ?_
      rintro e wi ⟨rfl, HJ⟩
      clear q0 q1' q2' q3' q4 HI
      cases g
      · obtain ⟨q0, q1', q2', q3', q4⟩ := HJ.out.cells HA.out.1
        go_wp2_with fail
        refine (HEh.out A HA.out.2 wi HJ).mono ?_
        rintro e wj ⟨hE, HK⟩
        clear q0 q1' q2' q3' q4 HJ
        obtain ⟨q0, q1', q2', q3', q4⟩ := HK.out.cells HA.out.1
        rcases hE with ⟨hvA, g1, rfl, hB⟩ | ⟨hvA, rfl⟩
        · have HVA := Lib.hid hvA
          have HB := Lib.hid hB
          clear hvA hB
          go_wp2_with fail
          refine (HFh.out A HA.out.2 wj HK).mono ?_
          rintro e wk ⟨hF, hg⟩
          rcases hF with ⟨-, p2, c2, rfl, hR⟩ | ⟨hvF, -⟩
          · have HM := Lib.hid (HK.out.keep hg)
            have HBK := Lib.hid (HB.out.keep hg)
            obtain ⟨E, hE⟩ : ∃ E, encA A = E := ⟨_, rfl⟩
            have hEb : By E := by rw [← hE]; exact pk_by _
            have hR2 := hR.rd
            rw [show pk (alB A) = E from hE] at hR2
            rw [hE] at HBK ⊢
            have E1 := conv_nv (l := E) (k := E.length) hEb rfl (HBK.out.rd (fun _ => True) trivial E.length) (by simp)
            have E2 := conv_nv (l := E) (k := E.length) hEb rfl hR2 hR.pc
            have hD := adec_any E hEb (by rw [← hE]; exact encA_le HVA.out) (some ⟨g1, 0, none⟩) E.length (Nat.le_refl _) (fun _ => True) wk (HBK.out.rd _ trivial _)
            have HDD : Hid _ := Lib.hid (hD.mono (fun e w' h => (by rw [← hE] at h; exact h.enc HVA.out : ∃ B : Ad, e = .returned (.tuple #[B.val, .int .i64 0]) ∧ smA A B ∧ AdOk w' (wk.heap.size ≤ ·) B ∧ wk.grownBy w' none)))
            clear q0 q1' q2' q3' q4 HK HB hR hR2 hg hD hE hEb
            go_wp2_with fail
            refine HDD.out.mono ?_
            rintro e w8 ⟨⟨r9, q9, cp9, L9, C9, pL9, cL9, pC9, cC9⟩, rfl, hsm, hO, hg⟩
            obtain ⟨Bx, hBx⟩ : ∃ B : Ad, B = ⟨r9, q9, cp9, L9, C9, pL9, cL9, pC9, cC9⟩ := ⟨_, rfl⟩
            have hV : Bx.val = .agg #[.int .i64 r9, .int .i64 q9, .bool cp9, .slice pL9 L9.length cL9, .slice pC9 C9.length cC9] := by rw [hBx]; rfl
            have HBV := Lib.hid hV
            rw [← hBx] at hsm hO ⊢
            rw [hV]
            have HSM := Lib.hid hsm
            have kb := heap_alloc_new w8 (.cells #[.int .i64 r9, .int .i64 q9, .bool cp9, .slice pL9 L9.length cL9, .slice pC9 C9.length cC9] 26)
            have kg := World.grownBy_alloc w8 (.cells #[.int .i64 r9, .int .i64 q9, .bool cp9, .slice pL9 L9.length cL9, .slice pC9 C9.length cC9] 26) none
            have HP := Lib.hid (And.intro (HM.out.keep (grown_trans hg kg)) (And.intro kb (show ∃ q, AdOk _ q Bx from ⟨_, hO.keep kg⟩)))
            clear hBx hV hsm hO hg kb kg E1 E2 HDD HM HBK
            have HSh : Hid (∀ wz, Hid (OV w D raw l wz ∧ wz.heap[w8.heap.size]? = some (.cells #[.int .i64 r9, .int .i64 q9, .bool cp9, .slice pL9 L9.length cL9, .slice pC9 C9.length cC9] 26 (0, 0)) ∧ ∃ q, AdOk wz q Bx) → Calls Tryd.prog 17 #[.agg #[.int .i64 r9, .int .i64 q9, .bool cp9, .slice pL9 L9.length cL9, .slice pC9 C9.length cC9], A.val] wz fun e w' => e = .returned (.bool true) ∧ Hid (OV w D raw l w' ∧ w'.heap[w8.heap.size]? = some (.cells #[.int .i64 r9, .int .i64 q9, .bool cp9, .slice pL9 L9.length cL9, .slice pC9 C9.length cC9] 26 (0, 0)) ∧ ∃ q, AdOk w' q Bx)) := Lib.hid (fun wz H => by
              obtain ⟨q, hq⟩ := H.out.1.ok A HA.out.2
              obtain ⟨q', hq'⟩ := H.out.2.2
              have h := rsame_any Bx A q' q wz hq' hq
              rw [HBV.out, decide_eq_true (cmpA_zero.2 HSM.out.symm)] at h
              exact h.mono (by rintro e w' ⟨rfl, hg⟩; exact ⟨rfl, Lib.hid ⟨H.out.1.keep hg, kept_row H.out.2.1 hg (by simp), q', hq'.keep hg⟩⟩))
            go_upto_region 12 with fail
            generalize w8.alloc _ = w10 at *
            obtain ⟨T, hTT⟩ : ∃ T, w8.heap.size = T := ⟨_, rfl⟩
            rw [hTT] at HP HSh ⊢
            clear hTT
            have HD : Hid (OV w D raw l w10.drew ∧ w10.drew.heap[T]? = some (.cells #[.int .i64 r9, .int .i64 q9, .bool cp9, .slice pL9 L9.length cL9, .slice pC9 C9.length cC9] 26 (0, 0)) ∧ ∃ q, AdOk w10.drew q Bx) := Lib.hid ⟨HP.out.1.keep (grown_drew (grown_refl w10 none)), kept_row HP.out.2.1 (grown_drew (grown_refl w10 none)) (by simp), by obtain ⟨q, hq⟩ := HP.out.2.2; exact ⟨q, hq.keep (grown_drew (grown_refl w10 none))⟩⟩
            clear HP
            refine wp_region_held_drew (S := fun w' => Hid (OV w D raw l w' ∧ w'.heap[T]? = some (.cells #[.int .i64 r9, .int .i64 q9, .bool cp9, .slice pL9 L9.length cL9, .slice pC9 C9.length cC9] 26 (0, 0)) ∧ ∃ q, AdOk w' q Bx)) (by kernel_rfl) (HD) (fun hHeld => ?_)
            refine wpAnyH_take (i := 0) (oi := { dst := some 70, op := Op.move (Operand.tmp 13), type := 37, pos := "law.go:51", after := #[], guard := none }) (v := ?_) rfl (by kernel_rfl) (by kernel_rfl) (by kernel_rfl) (fun _ _ _ h => h) (Or.inl ⟨by rfl, ?_⟩) hHeld ?_
            rotate_left 1
            · intro u hSu
              obtain ⟨q0, q1', q2', q3', q4⟩ := hSu.out.1.cells HA.out.1
              obtain ⟨d0, d1, d2, d3, d4⟩ := row5 hSu.out.2.1
              go_simp
              first | done | with_reducible rfl
            (try simp only [Act.put, List.setIfInBounds_toArray, List.set_cons_zero, List.set_cons_succ])
            refine wpAnyH_take (i := 1) (oi := { dst := some 71, op := Op.binOp BinOp.neq 37 (Operand.tmp 70) (Operand.const (Value.int IntKind.i64 0)) 37, type := 4, pos := "law.go:51", after := #[{ on := 0, ground := Ground.data }], guard := none }) (v := .bool false) rfl (by kernel_rfl) (by kernel_rfl) (by kernel_rfl) (fun _ _ _ h => h) (Or.inl ⟨by rfl, ?_⟩) hHeld ?_
            · intro u hSu
              obtain ⟨q0, q1', q2', q3', q4⟩ := hSu.out.1.cells HA.out.1
              obtain ⟨d0, d1, d2, d3, d4⟩ := row5 hSu.out.2.1
              go_simp
              first | done | with_reducible rfl | simp
            (try simp only [Act.put, List.setIfInBounds_toArray, List.set_cons_zero, List.set_cons_succ])
            refine wpAnyH_take (i := 2) (oi := { dst := some 72, op := Op.move (Operand.tmp 71), type := 4, pos := "law.go:51", after := #[{ on := 1, ground := Ground.data }], guard := none }) (v := ?_) rfl (by kernel_rfl) (by kernel_rfl) (by kernel_rfl) (fun _ _ _ h => h) (Or.inl ⟨by rfl, ?_⟩) hHeld ?_
            rotate_left 1
            · intro u hSu
              obtain ⟨q0, q1', q2', q3', q4⟩ := hSu.out.1.cells HA.out.1
              obtain ⟨d0, d1, d2, d3, d4⟩ := row5 hSu.out.2.1
              go_simp
              first | done | with_reducible rfl
            (try simp only [Act.put, List.setIfInBounds_toArray, List.set_cons_zero, List.set_cons_succ])
            refine wpAnyH_take (i := 3) (oi := { dst := some 73, op := Op.load 26 (Operand.tmp 12), type := 26, pos := "law.go:51", after := #[{ on := 2, ground := Ground.guard }], guard := some (2, false) }) (v := ?_) rfl (by kernel_rfl) (by kernel_rfl) (by kernel_rfl) (fun _ _ _ h => h) (Or.inl ⟨by rfl, ?_⟩) hHeld ?_
            rotate_left 1
            · intro u hSu
              obtain ⟨q0, q1', q2', q3', q4⟩ := hSu.out.1.cells HA.out.1
              obtain ⟨d0, d1, d2, d3, d4⟩ := row5 hSu.out.2.1
              go_simp
              first | done | with_reducible rfl
            (try simp only [Act.put, List.setIfInBounds_toArray, List.set_cons_zero, List.set_cons_succ])
            refine wpAnyH_take (i := 4) (oi := { dst := some 74, op := Op.move (Operand.tmp 6), type := 31, pos := "law.go:51", after := #[{ on := 2, ground := Ground.guard }], guard := some (2, false) }) (v := ?_) rfl (by kernel_rfl) (by kernel_rfl) (by kernel_rfl) (fun _ _ _ h => h) (Or.inl ⟨by rfl, ?_⟩) hHeld ?_
            rotate_left 1
            · intro u hSu
              obtain ⟨q0, q1', q2', q3', q4⟩ := hSu.out.1.cells HA.out.1
              obtain ⟨d0, d1, d2, d3, d4⟩ := row5 hSu.out.2.1
              go_simp
              first | done | with_reducible rfl
            (try simp only [Act.put, List.setIfInBounds_toArray, List.set_cons_zero, List.set_cons_succ])
            refine wpAnyH_take (i := 5) (oi := { dst := some 75, op := Op.move (Operand.tmp 7), type := 3, pos := "law.go:51", after := #[{ on := 2, ground := Ground.guard }], guard := some (2, false) }) (v := ?_) rfl (by kernel_rfl) (by kernel_rfl) (by kernel_rfl) (fun _ _ _ h => h) (Or.inl ⟨by rfl, ?_⟩) hHeld ?_
            rotate_left 1
            · intro u hSu
              obtain ⟨q0, q1', q2', q3', q4⟩ := hSu.out.1.cells HA.out.1
              obtain ⟨d0, d1, d2, d3, d4⟩ := row5 hSu.out.2.1
              go_simp
              first | done | with_reducible rfl
            (try simp only [Act.put, List.setIfInBounds_toArray, List.set_cons_zero, List.set_cons_succ])
            refine wpAnyH_take (i := 6) (oi := { dst := some 76, op := Op.indexAddr 31 (Operand.tmp 74) (Operand.tmp 75), type := 0, pos := "law.go:51", after := #[{ on := 4, ground := Ground.data }, { on := 5, ground := Ground.data }, { on := 2, ground := Ground.guard }], guard := some (2, false) }) (v := ?_) rfl (by kernel_rfl) (by kernel_rfl) (by kernel_rfl) (fun _ _ _ h => h) (Or.inl ⟨by rfl, ?_⟩) hHeld ?_
            rotate_left 1
            · intro u hSu
              obtain ⟨q0, q1', q2', q3', q4⟩ := hSu.out.1.cells HA.out.1
              obtain ⟨d0, d1, d2, d3, d4⟩ := row5 hSu.out.2.1
              go_simp
              first | done | with_reducible rfl
            (try simp only [Act.put, List.setIfInBounds_toArray, List.set_cons_zero, List.set_cons_succ])
            refine wpAnyH_take (i := 7) (oi := { dst := some 77, op := Op.load 26 (Operand.tmp 76), type := 26, pos := "law.go:51", after := #[{ on := 6, ground := Ground.data }, { on := 2, ground := Ground.guard }], guard := some (2, false) }) (v := ?_) rfl (by kernel_rfl) (by kernel_rfl) (by kernel_rfl) (fun _ _ _ h => h) (Or.inl ⟨by rfl, ?_⟩) hHeld ?_
            rotate_left 1
            · intro u hSu
              obtain ⟨q0, q1', q2', q3', q4⟩ := hSu.out.1.cells HA.out.1
              obtain ⟨d0, d1, d2, d3, d4⟩ := row5 hSu.out.2.1
              go_simp
              first | done | with_reducible rfl
            (try simp only [Act.put, List.setIfInBounds_toArray, List.set_cons_zero, List.set_cons_succ])
            refine wpAnyH_ready (rs := [8]) (by kernel_rfl) (by simp) ?_
            refine AllReadyH.cons (o := { dst := some 78, op := Op.call { callee := Callee.value (Operand.func 17), args := #[Operand.tmp 73, Operand.tmp 77], argTypes := #[26, 26] }, type := 4, pos := "law.go:51", after := #[{ on := 3, ground := Ground.data }, { on := 7, ground := Ground.data }, { on := 2, ground := Ground.chain }, { on := 2, ground := Ground.guard }], guard := some (2, false) }) rfl (fun Kz hK => ?_) AllReadyH.nil
            go_simp
            have hS := HSh.out _ hHeld
            skip
            refine hS.mono ?_
            rintro e w5 ⟨rfl, HDn⟩
            refine hK.out _ _ (HDn) (fun hH2 => ?_)
            clear hK Kz hHeld
            have hHeld := hH2
            clear hH2
            (try simp only [Act.put, List.setIfInBounds_toArray, List.set_cons_zero, List.set_cons_succ])
            refine wpAnyH_take (i := 9) (oi := { dst := some 79, op := Op.unOp UnOp.not 4 (Operand.tmp 78), type := 4, pos := "law.go:51", after := #[{ on := 8, ground := Ground.data }, { on := 2, ground := Ground.guard }], guard := some (2, false) }) (v := ?_) rfl (by kernel_rfl) (by kernel_rfl) (by kernel_rfl) (fun _ _ _ h => h) (Or.inl ⟨by rfl, ?_⟩) hHeld ?_
            rotate_left 1
            · intro u hSu
              obtain ⟨q0, q1', q2', q3', q4⟩ := hSu.out.1.cells HA.out.1
              obtain ⟨d0, d1, d2, d3, d4⟩ := row5 hSu.out.2.1
              go_simp
              first | done | with_reducible rfl
            (try simp only [Act.put, List.setIfInBounds_toArray, List.set_cons_zero, List.set_cons_succ])
            refine wpAnyH_take (i := 10) (oi := { dst := some 80, op := Op.pick (Operand.tmp 72) (Operand.const (Value.bool true)) (Operand.tmp 79), type := 4, pos := "law.go:51", after := #[{ on := 2, ground := Ground.data }, { on := 9, ground := Ground.data }], guard := none }) (v := ?_) rfl (by kernel_rfl) (by kernel_rfl) (by kernel_rfl) (fun _ _ _ h => h) (Or.inl ⟨by rfl, ?_⟩) hHeld ?_
            rotate_left 1
            · intro u hSu
              obtain ⟨q0, q1', q2', q3', q4⟩ := hSu.out.1.cells HA.out.1
              obtain ⟨d0, d1, d2, d3, d4⟩ := row5 hSu.out.2.1
              go_simp
              first | done | with_reducible rfl
            (try simp only [Act.put, List.setIfInBounds_toArray, List.set_cons_zero, List.set_cons_succ])
            refine wpAnyH_done (by kernel_rfl) ?_ _
            have HI2 := Lib.hid hHeld.out.1
            clear hHeld HD
            go_wp2_with fail
            exact ⟨⟨i + 1, by omega, congrArg _ (by omega), HI2⟩, by simp only [RowKit.intOf]; omega⟩
          · rw [HVA.out] at hvF; cases hvF
        · have HVA := Lib.hid hvA
          clear hvA
          go_wp2_with fail
          refine (HFh.out A HA.out.2 wj HK).mono ?_
          rintro e wk ⟨hF, hg⟩
          rcases hF with ⟨hvF, -⟩ | ⟨-, rfl⟩
          · rw [HVA.out] at hvF; cases hvF
          · have HM := Lib.hid (HK.out.keep hg)
            have E1 := conv_nv (w := wk) (p := none) (k := 0) (c := 0) (q := fun _ => True) (l := []) (fun _ h => by cases h) rfl (Rd.nil_ _ _ _ _) (fun _ => rfl)
            clear q0 q1' q2' q3' q4 HK hg
            go_wp2_with fail
            exact ⟨⟨i + 1, by omega, congrArg _ (by omega), HM⟩, by simp only [RowKit.intOf]; omega⟩
      · go_wp2_with fail
        refine (aawake_any _ (HTB.out.keep HJ.out.gr)).mono ?_
        rintro e w9 ⟨rfl, hg⟩
        have HF := Lib.hid (grown_trans HJ.out.gr hg)
        clear hg HJ
        go_wp2_with fail
        go_ret
        exact ⟨rfl, HF.out⟩
    · go_wp2_with fail
      refine (aawake_any _ (HTB.out.keep HI.out.gr)).mono ?_
      rintro e w9 ⟨rfl, hg⟩
      have HF := Lib.hid (grown_trans HI.out.gr hg)
      clear hg HI
      go_wp2_with fail
      go_ret
      exact ⟨rfl, HF.out⟩
end Go.Proofs.YtgmjpcajobhepaaDoor

/- An advert that comes in as an argument. -/
namespace Go.Proofs.YtgmjpcajobhepaaDoor
open Go.ChangeShapes Go.WideShapes Go.ChangeAt Go.RowKit Go.Joins Bs
set_option maxRecDepth 100000 in
theorem tlist3 {A : Type} {xs : List A} (h : xs.length = 3) : ∃ x0 x1 x2, xs = [x0, x1, x2] := by
  match xs, h with
  | [x0, x1, x2], _ => exact ⟨x0, x1, x2, rfl⟩
set_option maxRecDepth 100000 in
theorem tlistA5 {A : Type} {xs : List A} (h : xs.length = 5) : ∃ x0 x1 x2 x3 x4, xs = [x0, x1, x2, x3, x4] := by
  match xs, h with
  | [x0, x1, x2, x3, x4], _ => exact ⟨x0, x1, x2, x3, x4, rfl⟩
set_option maxRecDepth 100000 in
theorem kit_cellsre : Tryd.prog.cellsOf 70 = 3 := by kernel_rfl
set_option maxRecDepth 100000 in
theorem kit_cellscm : Tryd.prog.cellsOf 73 = 3 := by kernel_rfl
set_option maxRecDepth 100000 in
theorem kit_cellsBoolA : Tryd.prog.cellsOf 4 = 1 := by kernel_rfl
set_option maxRecDepth 100000 in
theorem kit_cellsres : Tryd.prog.cellsOf 23 = 1 := by kernel_rfl
set_option maxRecDepth 100000 in
theorem kit_cellscms : Tryd.prog.cellsOf 24 = 1 := by kernel_rfl
section
variable {H : Type} {enc : TypeId × Value → H} {W : World} {base : Nat} {v : Value} {d : DataW H} {ps : List MemPlace}
set_option maxRecDepth 100000 in
theorem re_trod {fuel : Nat} {cs : List Value} {y : DataW H × List MemPlace} (h : DataW.trod enc Tryd.prog W 0 (fun _ => true) true fuel 70 cs = some y) : ∃ l : T3, cs = t3C l := by
  have hs := Tryd.underlying70
  obtain ⟨xs, n, _, _, hl, hlen, hf⟩ := DataW.trod_struct hs h
  rw [kit_cellsre] at hl
  obtain ⟨c0, c1, c2, rfl⟩ := tlist3 hl
  obtain ⟨x0, x1, x2, rfl⟩ := tlist3 hlen
  have h0 : DataW.trod enc Tryd.prog W 0 (fun _ => true) true n 3 [c0] = some x0 := by simpa [Value.cells, kit_cellsInt] using hf 0 _ rfl
  have h1 : DataW.trod enc Tryd.prog W 0 (fun _ => true) true n 3 [c1] = some x1 := by simpa [Value.cells, kit_cellsInt] using hf 1 _ rfl
  have h2 : DataW.trod enc Tryd.prog W 0 (fun _ => true) true n 3 [c2] = some x2 := by simpa [Value.cells, kit_cellsInt] using hf 2 _ rfl
  obtain ⟨m0, e0, _, w0⟩ := DataW.trod_int Tryd.underlying3 h0
  obtain rfl : c0 = .int .i64 m0 := by simpa using e0
  obtain ⟨m1, e1, _, w1⟩ := DataW.trod_int Tryd.underlying3 h1
  obtain rfl : c1 = .int .i64 m1 := by simpa using e1
  obtain ⟨m2, e2, _, w2⟩ := DataW.trod_int Tryd.underlying3 h2
  obtain rfl : c2 = .int .i64 m2 := by simpa using e2
  exact ⟨⟨m0, m1, m2⟩, rfl⟩
set_option maxRecDepth 100000 in
theorem cm_trod {fuel : Nat} {cs : List Value} {y : DataW H × List MemPlace} (h : DataW.trod enc Tryd.prog W 0 (fun _ => true) true fuel 73 cs = some y) : ∃ l : T3, cs = t3C l := by
  have hs := Tryd.underlying73
  obtain ⟨xs, n, _, _, hl, hlen, hf⟩ := DataW.trod_struct hs h
  rw [kit_cellscm] at hl
  obtain ⟨c0, c1, c2, rfl⟩ := tlist3 hl
  obtain ⟨x0, x1, x2, rfl⟩ := tlist3 hlen
  have h0 : DataW.trod enc Tryd.prog W 0 (fun _ => true) true n 3 [c0] = some x0 := by simpa [Value.cells, kit_cellsInt] using hf 0 _ rfl
  have h1 : DataW.trod enc Tryd.prog W 0 (fun _ => true) true n 3 [c1] = some x1 := by simpa [Value.cells, kit_cellsInt] using hf 1 _ rfl
  have h2 : DataW.trod enc Tryd.prog W 0 (fun _ => true) true n 3 [c2] = some x2 := by simpa [Value.cells, kit_cellsInt] using hf 2 _ rfl
  obtain ⟨m0, e0, _, w0⟩ := DataW.trod_int Tryd.underlying3 h0
  obtain rfl : c0 = .int .i64 m0 := by simpa using e0
  obtain ⟨m1, e1, _, w1⟩ := DataW.trod_int Tryd.underlying3 h1
  obtain rfl : c1 = .int .i64 m1 := by simpa using e1
  obtain ⟨m2, e2, _, w2⟩ := DataW.trod_int Tryd.underlying3 h2
  obtain rfl : c2 = .int .i64 m2 := by simpa using e2
  exact ⟨⟨m0, m1, m2⟩, rfl⟩
set_option maxRecDepth 100000 in
/-- A slice of structs of k cells. -/
theorem rowsA_trod {α : Type} (f : α → List Value) (k : Nat) (hk : 0 < k) (hf : ∀ x, (f x).length = k) (x0 : α) {E T : TypeId} (hT : Tryd.prog.underlying T = some (.slice E)) (hc : Tryd.prog.cellsOf E = k)
    (hE : ∀ {fuel : Nat} {cs : List Value} {y : DataW H × List MemPlace}, DataW.trod enc Tryd.prog W 0 (fun _ => true) true fuel E cs = some y → ∃ r : α, cs = f r)
    {fuel : Nat} {c0 : Value} {y : DataW H × List MemPlace} (h : DataW.trod enc Tryd.prog W 0 (fun _ => true) true fuel T [c0] = some y) :
    ∃ (l : List α) (p : Option Addr) (c : Nat), c0 = .slice p l.length c ∧ RdF W (· < W.heap.size) (.slice p l.length c) l.length (l.flatMap f) ∧ l.length ≤ c ∧ c ≤ 9223372036854775807 := by
  rcases DataW.trod_slice hT h with ⟨hcs, _⟩ | ⟨a, len, cap, elems, rest, n, _, hcs, _, _, hl, hm, hlen, hel, _, _⟩
  · obtain rfl : c0 = .slice none 0 0 := by simpa using hcs
    exact ⟨[], none, 0, rfl, rdf_nil _ _ _ _, Nat.le_refl _, by omega⟩
  · obtain rfl : c0 = .slice (some a) len cap := by simpa using hcs
    rw [hc] at hel
    have each : ∀ i, ∃ l : α, i < len → ∀ j, j < k → W.cell? ((a.add (i * k)).add j) = (f l)[j]? := by
      intro i
      by_cases hi : i < len
      · have h1 := hel i hi
        rw [List.getElem?_eq_getElem (by omega)] at h1
        obtain ⟨cs, hc1, hc2⟩ := Option.bind_eq_some_iff.1 h1
        obtain ⟨l, rfl⟩ := hE hc2
        obtain ⟨_, _, hc3⟩ := World.cells?_some hc1
        exact ⟨l, fun _ j hj => hc3 j hj⟩
      · exact ⟨x0, fun h => absurd h hi⟩
    obtain ⟨g, hfn⟩ := Classical.axiomOfChoice each
    have hll : ((List.range len).map g).length = len := by simp
    refine ⟨(List.range len).map g, some a, cap, by rw [hll], ?_, by rw [hll]; exact hl, hm⟩
    rw [hll]
    refine ⟨some a, cap, rfl, fun hne => ?_⟩
    have hpos : 0 < len := by
      rcases Nat.eq_zero_or_pos len with h0 | h0
      · subst h0
        exact absurd rfl hne
      · exact h0
    obtain ⟨b, off, spot⟩ := a
    have hget : ∀ i, i < len → ∀ j, j < k → ∃ u, (f (g i))[j]? = some u := fun i _ j hj => ⟨_, List.getElem?_eq_getElem (by rw [hf]; exact hj)⟩
    have hspot : spot = none := by
      obtain ⟨u, hu⟩ := hget 0 hpos 0 hk
      have := (hfn 0 hpos 0 hk).trans hu
      simpa [Addr.add] using World.cell?_spot this
    subst hspot
    have hcell : ∀ i j, i < len → j < k → W.cell? ⟨b, off + (i * k + j), none⟩ = (f (g i))[j]? := by
      intro i j hi hj
      have := hfn i hi j hj
      rw [Go.WideShapes.add_plain, Go.WideShapes.add_plain] at this
      rw [← this]
      congr 2
      omega
    refine ⟨b, off, rfl, ?_, fun j x hj => ?_⟩
    · obtain ⟨u, hu⟩ := hget 0 hpos 0 hk
      exact World.block_lt_of_cell? W ⟨b, off + (0 * k + 0), none⟩ ((hcell 0 0 hpos hk).trans hu)
    have hj2 : j < len * k := by
      have := (List.getElem?_eq_some_iff.1 hj).1
      rw [flat_len f k hf, hll] at this
      exact this
    have hm1 : j / k < len := (Nat.div_lt_iff_lt_mul hk).2 hj2
    have hm2 : j % k < k := Nat.mod_lt _ hk
    have hd : j = j / k * k + j % k := by rw [Nat.mul_comm]; exact (Nat.div_add_mod j k).symm
    have hat : ((List.range len).map g)[j / k]? = some (g (j / k)) := by
      rw [List.getElem?_map, List.getElem?_range hm1]; rfl
    rw [hd] at hj ⊢
    rw [flat_at f k hf _ _ _ _ hat hm2] at hj
    rw [hcell _ _ hm1 hm2]
    exact hj
set_option maxRecDepth 100000 in
theorem opn_advert (hval : Value.okWide Tryd.prog W .any base 26 v) (h : DataW.Trod enc Tryd.prog W 0 (fun _ => true) true 26 v d ps) :
    ∃ A : Ad, v = A.val ∧ AdOk W (· < W.heap.size) A := by
  have hs := Tryd.underlying26
  obtain ⟨cs, rfl, hsz⟩ := okWide_struct hs hval
  obtain ⟨fuel, hf⟩ := h
  obtain ⟨xs, n, _, _, hl, hlen, hf⟩ := DataW.trod_struct hs hf
  have h5 : cs.toList.length = 5 := hsz.trans (by kernel_rfl)
  obtain ⟨c0, c1, c2, c3, c4, hct⟩ := tlistA5 h5
  obtain ⟨x0, x1, x2, x3, x4, rfl⟩ := tlistA5 hlen
  have h0 : DataW.trod enc Tryd.prog W 0 (fun _ => true) true n 3 [c0] = some x0 := by simpa [Value.cells, kit_cellsInt, hct] using hf 0 _ rfl
  have h1 : DataW.trod enc Tryd.prog W 0 (fun _ => true) true n 3 [c1] = some x1 := by simpa [Value.cells, kit_cellsInt, hct] using hf 1 _ rfl
  have h2 : DataW.trod enc Tryd.prog W 0 (fun _ => true) true n 4 [c2] = some x2 := by simpa [Value.cells, kit_cellsBoolA, kit_cellsInt, hct] using hf 2 _ rfl
  have h3 : DataW.trod enc Tryd.prog W 0 (fun _ => true) true n 23 [c3] = some x3 := by simpa [Value.cells, kit_cellsres, kit_cellsBoolA, kit_cellsInt, hct] using hf 3 _ rfl
  have h4 : DataW.trod enc Tryd.prog W 0 (fun _ => true) true n 24 [c4] = some x4 := by simpa [Value.cells, kit_cellsres, kit_cellscms, kit_cellsBoolA, kit_cellsInt, hct] using hf 4 _ rfl
  obtain ⟨m0, e0, _, w0⟩ := DataW.trod_int Tryd.underlying3 h0
  obtain rfl : c0 = .int .i64 m0 := by simpa using e0
  obtain ⟨m1, e1, _, w1⟩ := DataW.trod_int Tryd.underlying3 h1
  obtain rfl : c1 = .int .i64 m1 := by simpa using e1
  obtain ⟨m2, e2, _⟩ := DataW.trod_bool Tryd.underlying4 h2
  obtain rfl : c2 = .bool m2 := by simpa using e2
  obtain ⟨L, pL, cL, rfl, hL, hl1, hl2⟩ := rowsA_trod t3C 3 (by decide) (fun _ => rfl) ⟨0, 0, 0⟩ Tryd.underlying23 kit_cellsre re_trod h3
  obtain ⟨C, pC, cC, rfl, hC, hr1, hr2⟩ := rowsA_trod t3C 3 (by decide) (fun _ => rfl) ⟨0, 0, 0⟩ Tryd.underlying24 kit_cellscm cm_trod h4
  exact ⟨⟨m0, m1, m2, L, C, pL, cL, pC, cC⟩, congrArg Value.agg (Array.ext' hct), ⟨hL, hC, ⟨hl1, hl2⟩, ⟨hr1, hr2⟩⟩⟩
end
end Go.Proofs.YtgmjpcajobhepaaDoor
