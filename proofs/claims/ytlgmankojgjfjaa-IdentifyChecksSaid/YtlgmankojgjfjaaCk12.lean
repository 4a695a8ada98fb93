/- Parts of the proof, packed: IdChLaw. -/
import Derived.Test.YtlgmankojgjfjaaCk5
import Derived.Test.YtlgmankojgjfjaaCk8
import Derived.Test.YtlgmankojgjfjaaCk11
import Derived.Test.YtlgmankojgjfjaaCk9
import Derived.Test.YtlgmankojgjfjaaCk1
/- The law IdentifyChecks. -/
namespace Go.Proofs.Ytlgmankojgjfjaa
open Go.RowKit Bs
set_option maxRecDepth 100000 in
theorem ints_keepC {W w : World} {v : Value} (h : IntsIn W v) (g : W.grownBy w none) : IntsIn w v := by
  obtain ⟨p, n, c, rfl, h1, h2, h3⟩ := h
  refine ⟨p, n, c, rfl, h1, h2, fun hn => ?_⟩
  obtain ⟨b, off, hp, hb, hc⟩ := h3 hn
  exact ⟨b, off, hp, Nat.lt_of_lt_of_le hb g.size, fun i hi => by obtain ⟨x, hx, hx2⟩ := hc i hi; exact ⟨x, hx, g.cell hx2 (by simp)⟩⟩
set_option maxRecDepth 100000 in
set_option maxHeartbeats 25600000 in
theorem icks_walk (v : Value) (rl : List Od) (rp : Option Addr) (rc : Nat) (s0 n0 : Int) (E0 : List Ed) (pp : Option Addr) (pc : Nat) (w : World) (hv : IntsIn w v) (hR : RdF w (· < w.heap.size) (.slice rp rl.length rc) rl.length (rl.flatMap odC)) (hP : RdF w (· < w.heap.size) (.slice pp E0.length pc) E0.length (E0.flatMap edC)) (hrm : rl.length ≤ 9223372036854775807) (hpm : E0.length ≤ 9223372036854775807) :
    Calls Try.prog 3 #[v, .slice rp rl.length rc, .agg #[.int .i64 s0, .int .i64 n0, .slice pp E0.length pc]] w fun e w' => e = .returned (.bool true) ∧ w.grownBy w' none := by
  obtain ⟨k1, k2⟩ := tone_box w #[.int .i64 s0, .int .i64 n0, .slice pp E0.length pc] 26
  have HV := Lib.hid (ints_keepC hv k2)
  have H0 := Lib.hid (And.intro k1 (And.intro k2 (And.intro (hR.old.keep k2) (hP.old.keep k2))))
  clear k1 k2 hv hR hP
  go_enter Try.func3, Try.ntmps3
  go_upto_region 1 with fail
  generalize w.alloc _ = wa at *
  go_wp2_with fail
  refine (new_any v wa HV.out).mono ?_
  rintro e w1 ⟨rfl, hg1, hT1⟩
  have H1 := Lib.hid (And.intro hT1 (And.intro (kept_row H0.out.1 hg1 (by simp)) (And.intro (grown_trans H0.out.2.1 hg1) (And.intro (H0.out.2.2.1.keep hg1) (And.intro (H0.out.2.2.2.keep hg1) (show w.heap.size < wa.heap.size ∧ wa.heap.size < w1.heap.size from ⟨?z1, hT1.lt⟩))))))
  case z1 =>
    by_cases hz : w.heap.size < wa.heap.size
    · exact hz
    · have := H0.out.1
      rw [Array.getElem?_eq_none (by omega)] at this; cases this
  clear hg1 hT1 HV H0
  obtain ⟨a, ha⟩ : ∃ a, wa.heap.size = a := ⟨_, rfl⟩
  rw [ha] at H1 ⊢
  clear ha
  have HW := Lib.hid H1.out.2.2.2.2.2.1
  have hne : ∀ b, b < w.heap.size → some b ≠ some a := fun b hb e => by have := Option.some.inj e; have := HW.out; omega
  go_wp2_with fail
  refine (range_any a 0 5 (by omega) (by omega) (by omega) (by omega) _ H1.out.1).mono ?_
  rintro e w2 ⟨x, rfl, hx, hs⟩
  obtain ⟨K, rfl⟩ := Int.eq_ofNat_of_zero_le (show 0 ≤ x by have := hx.1; omega)
  have hK : K ≤ 8 := by have := hx.2.1 (by omega); omega
  go_wp2_with fail
  refine (tclaims_any a K 2 hK (by unfold I64; omega) _ hs.2).mono ?_
  rintro e w3 ⟨l, p, c, rfl, hll, -, ho, hs3⟩
  have hs2 := hs.trans hs3
  have H3 := Lib.hid (And.intro hs2 (And.intro (kept_row H1.out.2.1 hs2.1 (fun e => by have := Option.some.inj e; have := HW.out; omega)) (And.intro (grown_new H1.out.2.2.1 hs2.1 (Nat.le_of_lt HW.out)) (And.intro (H1.out.2.2.2.1.grown hs2.1 hne) (And.intro (H1.out.2.2.2.2.1.grown hs2.1 hne) (And.intro ((rdf_of_own ho).mono (q' := fun b => a < b) (fun b hb => by have := H1.out.2.2.2.2.2.2; have := hs.1.size; omega)) hs2.2))))))
  clear hs hs2 hs3 ho hx H1
  have hlm : l.length ≤ 9223372036854775807 := by omega
  go_wp2_with fail
  refine (topo_any a 6 0 (by omega) (by omega) (by unfold I64; omega) _ H3.out.2.2.2.2.2.2).mono ?_
  rintro e w4 ⟨R, L, vR, vL, rfl, hoR, hoL, -, hTo, hs⟩
  obtain ⟨pR, cR, rfl, -, -⟩ := own_shape hoR
  obtain ⟨pL, cL, rfl, -, -⟩ := own_shape hoL
  have hR40 : R.length ≤ 40 := by have := hTo.2.2.1; omega
  have haw : a < w3.heap.size := H3.out.2.2.2.2.2.2.lt
  have hRR : RdR w4 (fun b => b ≠ a ∧ b < w4.heap.size) (.slice pR R.length cR) R := (rdf_of_own2 hoR).mono (fun b hb => ⟨by have := hb.1; omega, hb.2⟩)
  go_wp2_with fail
  refine (tplan_any a 2 (by unfold I64; omega) R pR pL cR L.length cL hR40 w4 hs.2 hRR).mono ?_
  rintro e w5 ⟨s1, n1, E1, p1, c1, rfl, hoE, hEl, -, hs5⟩
  have hs2 := hs.trans hs5
  have hem : E1.length ≤ 9223372036854775807 := by omega
  have H5 := Lib.hid (And.intro (kept_row H3.out.2.1 hs2.1 (fun e => by have := Option.some.inj e; have := HW.out; omega)) (And.intro (grown_new H3.out.2.2.1 hs2.1 (Nat.le_of_lt HW.out)) (And.intro (H3.out.2.2.2.1.grown hs2.1 hne) (And.intro (H3.out.2.2.2.2.1.grown hs2.1 hne) (And.intro (H3.out.2.2.2.2.2.1.grown hs2.1 (fun b hb e => by have := Option.some.inj e; omega)) (rdf_of_own hoE))))))
  clear hs hs2 hs5 hoE hoR hoL hTo hRR hEl haw hne H3
  obtain ⟨n1k, n2k⟩ := tone_box w5 #[.int .i64 s1, .int .i64 n1, .slice p1 E1.length c1] 26
  have HF := Lib.hid (And.intro (kept_row H5.out.1 n2k (by simp)) (And.intro n1k (And.intro (grown_trans H5.out.2.1 n2k) (And.intro (H5.out.2.2.1.keep n2k) (And.intro (H5.out.2.2.2.1.keep n2k) (And.intro (H5.out.2.2.2.2.1.keep n2k) (H5.out.2.2.2.2.2.keep n2k)))))))
  clear n1k n2k H5
  go_upto_region 4 with fail
  generalize w5.alloc _ = w6 at *
  generalize w5.heap.size = Q at *
  have GZ : Hid (w6.grownBy w6 none) := Lib.hid (grown_refl _ _)
  by_cases h1 : (400 : Int) < (rl.length : Int)
  · by_cases h2 : (200 : Int) < (E0.length : Int)
    · skip
      refine wp_region_held_drew (S := fun w' => Hid (w6.grownBy w' none)) (by kernel_rfl) (hid_drew GZ) (fun hHeld => ?_)
      refine wpAnyH_take (i := 0) (oi := { dst := some 20, op := Op.move (Operand.tmp 8), type := 23, pos := "law.go:45", after := #[], guard := none }) (v := ?_) rfl (by kernel_rfl) (by kernel_rfl) (by kernel_rfl) (fun _ _ _ h => h) (Or.inl ⟨by rfl, ?_⟩) hHeld ?_
      rotate_left 1
      · intro u hSu
        obtain ⟨⟨a0, a1, a2⟩, -⟩ := row3i (kept_row HF.out.1 hSu.out (by simp))
        obtain ⟨⟨b0, b1, b2⟩, -⟩ := row3i (kept_row HF.out.2.1 hSu.out (by simp))
        go_simp
        first | done | with_reducible rfl
      (try simp only [Act.put, List.setIfInBounds_toArray, List.set_cons_zero, List.set_cons_succ])
      refine wpAnyH_take (i := 2) (oi := { dst := some 22, op := Op.move (Operand.tmp 8), type := 23, pos := "law.go:45", after := #[], guard := none }) (v := ?_) rfl (by kernel_rfl) (by kernel_rfl) (by kernel_rfl) (fun _ _ _ h => h) (Or.inl ⟨by rfl, ?_⟩) hHeld ?_
      rotate_left 1
      · intro u hSu
        obtain ⟨⟨a0, a1, a2⟩, -⟩ := row3i (kept_row HF.out.1 hSu.out (by simp))
        obtain ⟨⟨b0, b1, b2⟩, -⟩ := row3i (kept_row HF.out.2.1 hSu.out (by simp))
        go_simp
        first | done | with_reducible rfl
      (try simp only [Act.put, List.setIfInBounds_toArray, List.set_cons_zero, List.set_cons_succ])
      refine wpAnyH_ready (rs := [1]) (by kernel_rfl) (by simp) ?_
      refine AllReadyH.cons (o := { dst := some 21, op := Op.call { callee := Callee.value (Operand.func 9), args := #[Operand.tmp 20], argTypes := #[23] }, type := 37, pos := "law.go:45", after := #[{ on := 0, ground := Ground.data }], guard := none }) rfl (fun Kz hK => ?_) AllReadyH.nil
      go_simp
      go_at_call 9
      refine (icheck_any l p c _ _ (HF.out.2.2.2.2.2.1.keep hHeld.out) hlm).mono ?_
      rintro e w7 ⟨rfl, hg⟩
      have H7n : Hid (w6.grownBy w7 none) := Lib.hid (grown_trans hHeld.out hg)
      clear hg
      refine hK.out _ _ (H7n) (fun hH2 => ?_)
      clear hK Kz hHeld
      have hHeld := hH2
      clear hH2
      (try simp only [Act.put, List.setIfInBounds_toArray, List.set_cons_zero, List.set_cons_succ])
      refine wpAnyH_ready (rs := [3]) (by kernel_rfl) (by simp) ?_
      refine AllReadyH.cons (o := { dst := some 23, op := Op.call { callee := Callee.value (Operand.func 10), args := #[Operand.tmp 22], argTypes := #[23] }, type := 37, pos := "law.go:45", after := #[{ on := 2, ground := Ground.data }, { on := 1, ground := Ground.chain }], guard := none }) rfl (fun Kz hK => ?_) AllReadyH.nil
      go_simp
      go_at_call 10
      refine (ircheck_any l p c _ _ (HF.out.2.2.2.2.2.1.keep hHeld.out) hlm).mono ?_
      rintro e w7 ⟨rfl, hg⟩
      have H7n : Hid (w6.grownBy w7 none) := Lib.hid (grown_trans hHeld.out hg)
      clear hg
      refine hK.out _ _ (H7n) (fun hH2 => ?_)
      clear hK Kz hHeld
      have hHeld := hH2
      clear hH2
      (try simp only [Act.put, List.setIfInBounds_toArray, List.set_cons_zero, List.set_cons_succ])
      refine wpAnyH_take (i := 4) (oi := { dst := some 24, op := Op.binOp BinOp.eql 37 (Operand.tmp 21) (Operand.tmp 23) 37, type := 4, pos := "law.go:45", after := #[{ on := 1, ground := Ground.data }, { on := 3, ground := Ground.data }], guard := none }) (v := .bool true) rfl (by kernel_rfl) (by kernel_rfl) (by kernel_rfl) (fun _ _ _ h => h) (Or.inl ⟨by rfl, ?_⟩) hHeld ?_
      · intro u hSu
        obtain ⟨⟨a0, a1, a2⟩, -⟩ := row3i (kept_row HF.out.1 hSu.out (by simp))
        obtain ⟨⟨b0, b1, b2⟩, -⟩ := row3i (kept_row HF.out.2.1 hSu.out (by simp))
        go_simp
        try simp
      (try simp only [Act.put, List.setIfInBounds_toArray, List.set_cons_zero, List.set_cons_succ])
      refine wpAnyH_take (i := 5) (oi := { dst := some 25, op := Op.move (Operand.tmp 24), type := 4, pos := "law.go:45", after := #[{ on := 4, ground := Ground.data }, { on := 3, ground := Ground.chain }], guard := none }) (v := ?_) rfl (by kernel_rfl) (by kernel_rfl) (by kernel_rfl) (fun _ _ _ h => h) (Or.inl ⟨by rfl, ?_⟩) hHeld ?_
      rotate_left 1
      · intro u hSu
        obtain ⟨⟨a0, a1, a2⟩, -⟩ := row3i (kept_row HF.out.1 hSu.out (by simp))
        obtain ⟨⟨b0, b1, b2⟩, -⟩ := row3i (kept_row HF.out.2.1 hSu.out (by simp))
        go_simp
        first | done | with_reducible rfl
      (try simp only [Act.put, List.setIfInBounds_toArray, List.set_cons_zero, List.set_cons_succ])
      refine wpAnyH_take (i := 6) (oi := { dst := some 26, op := Op.move (Operand.tmp 1), type := 23, pos := "law.go:45", after := #[{ on := 5, ground := Ground.guard }], guard := some (5, true) }) (v := ?_) rfl (by kernel_rfl) (by kernel_rfl) (by kernel_rfl) (fun _ _ _ h => h) (Or.inl ⟨by rfl, ?_⟩) hHeld ?_
      rotate_left 1
      · intro u hSu
        obtain ⟨⟨a0, a1, a2⟩, -⟩ := row3i (kept_row HF.out.1 hSu.out (by simp))
        obtain ⟨⟨b0, b1, b2⟩, -⟩ := row3i (kept_row HF.out.2.1 hSu.out (by simp))
        go_simp
        first | done | with_reducible rfl
      (try simp only [Act.put, List.setIfInBounds_toArray, List.set_cons_zero, List.set_cons_succ])
      refine wpAnyH_take (i := 7) (oi := { dst := some 27, op := Op.call { callee := Callee.builtin Builtin.len, args := #[Operand.tmp 26], argTypes := #[23] }, type := 3, pos := "law.go:45", after := #[{ on := 6, ground := Ground.data }, { on := 5, ground := Ground.guard }], guard := some (5, true) }) (v := ?_) rfl (by kernel_rfl) (by kernel_rfl) (by kernel_rfl) (fun _ _ _ h => h) (Or.inl ⟨by rfl, ?_⟩) hHeld ?_
      rotate_left 1
      · intro u hSu
        obtain ⟨⟨a0, a1, a2⟩, -⟩ := row3i (kept_row HF.out.1 hSu.out (by simp))
        obtain ⟨⟨b0, b1, b2⟩, -⟩ := row3i (kept_row HF.out.2.1 hSu.out (by simp))
        go_simp
        first | done | with_reducible rfl
      (try simp only [Act.put, List.setIfInBounds_toArray, List.set_cons_zero, List.set_cons_succ])
      refine wpAnyH_take (i := 8) (oi := { dst := some 28, op := Op.binOp BinOp.gtr 3 (Operand.tmp 27) (Operand.const (Value.int IntKind.i64 400)) 3, type := 4, pos := "law.go:45", after := #[{ on := 7, ground := Ground.data }, { on := 5, ground := Ground.guard }], guard := some (5, true) }) (v := .bool true) rfl (by kernel_rfl) (by kernel_rfl) (by kernel_rfl) (fun _ _ _ h => h) (Or.inl ⟨by rfl, ?_⟩) hHeld ?_
      · intro u hSu
        obtain ⟨⟨a0, a1, a2⟩, -⟩ := row3i (kept_row HF.out.1 hSu.out (by simp))
        obtain ⟨⟨b0, b1, b2⟩, -⟩ := row3i (kept_row HF.out.2.1 hSu.out (by simp))
        go_simp
        try simp
        try omega
      (try simp only [Act.put, List.setIfInBounds_toArray, List.set_cons_zero, List.set_cons_succ])
      refine wpAnyH_take (i := 9) (oi := { dst := some 29, op := Op.move (Operand.tmp 28), type := 4, pos := "law.go:45", after := #[{ on := 8, ground := Ground.data }, { on := 5, ground := Ground.chain }, { on := 5, ground := Ground.guard }], guard := some (5, true) }) (v := ?_) rfl (by kernel_rfl) (by kernel_rfl) (by kernel_rfl) (fun _ _ _ h => h) (Or.inl ⟨by rfl, ?_⟩) hHeld ?_
      rotate_left 1
      · intro u hSu
        obtain ⟨⟨a0, a1, a2⟩, -⟩ := row3i (kept_row HF.out.1 hSu.out (by simp))
        obtain ⟨⟨b0, b1, b2⟩, -⟩ := row3i (kept_row HF.out.2.1 hSu.out (by simp))
        go_simp
        first | done | with_reducible rfl
      (try simp only [Act.put, List.setIfInBounds_toArray, List.set_cons_zero, List.set_cons_succ])
      refine wpAnyH_take (i := 10) (oi := { dst := some 30, op := Op.move (Operand.tmp 1), type := 23, pos := "law.go:45", after := #[{ on := 9, ground := Ground.guard }], guard := some (9, false) }) (v := undef) rfl (by kernel_rfl) (by kernel_rfl) (by kernel_rfl) (fun _ _ _ h => h) (Or.inr ⟨by rfl, rfl⟩) hHeld ?_
      (try simp only [Act.put, List.setIfInBounds_toArray, List.set_cons_zero, List.set_cons_succ])
      refine wpAnyH_take (i := 11) (oi := { dst := some 31, op := Op.call { callee := Callee.value (Operand.func 9), args := #[Operand.tmp 30], argTypes := #[23] }, type := 37, pos := "law.go:45", after := #[{ on := 10, ground := Ground.data }, { on := 9, ground := Ground.chain }, { on := 9, ground := Ground.guard }], guard := some (9, false) }) (v := undef) rfl (by kernel_rfl) (by kernel_rfl) (by kernel_rfl) (fun _ _ _ h => h) (Or.inr ⟨by rfl, rfl⟩) hHeld ?_
      (try simp only [Act.put, List.setIfInBounds_toArray, List.set_cons_zero, List.set_cons_succ])
      refine wpAnyH_take (i := 12) (oi := { dst := some 32, op := Op.move (Operand.tmp 1), type := 23, pos := "law.go:45", after := #[{ on := 9, ground := Ground.guard }], guard := some (9, false) }) (v := undef) rfl (by kernel_rfl) (by kernel_rfl) (by kernel_rfl) (fun _ _ _ h => h) (Or.inr ⟨by rfl, rfl⟩) hHeld ?_
      (try simp only [Act.put, List.setIfInBounds_toArray, List.set_cons_zero, List.set_cons_succ])
      refine wpAnyH_take (i := 13) (oi := { dst := some 33, op := Op.call { callee := Callee.value (Operand.func 10), args := #[Operand.tmp 32], argTypes := #[23] }, type := 37, pos := "law.go:45", after := #[{ on := 12, ground := Ground.data }, { on := 11, ground := Ground.chain }, { on := 9, ground := Ground.guard }], guard := some (9, false) }) (v := undef) rfl (by kernel_rfl) (by kernel_rfl) (by kernel_rfl) (fun _ _ _ h => h) (Or.inr ⟨by rfl, rfl⟩) hHeld ?_
      (try simp only [Act.put, List.setIfInBounds_toArray, List.set_cons_zero, List.set_cons_succ])
      refine wpAnyH_take (i := 14) (oi := { dst := some 34, op := Op.binOp BinOp.eql 37 (Operand.tmp 31) (Operand.tmp 33) 37, type := 4, pos := "law.go:45", after := #[{ on := 11, ground := Ground.data }, { on := 13, ground := Ground.data }, { on := 9, ground := Ground.guard }], guard := some (9, false) }) (v := undef) rfl (by kernel_rfl) (by kernel_rfl) (by kernel_rfl) (fun _ _ _ h => h) (Or.inr ⟨by rfl, rfl⟩) hHeld ?_
      (try simp only [Act.put, List.setIfInBounds_toArray, List.set_cons_zero, List.set_cons_succ])
      refine wpAnyH_take (i := 15) (oi := { dst := some 35, op := Op.pick (Operand.tmp 29) (Operand.const (Value.bool true)) (Operand.tmp 34), type := 4, pos := "law.go:45", after := #[{ on := 9, ground := Ground.data }, { on := 14, ground := Ground.data }, { on := 5, ground := Ground.guard }], guard := some (5, true) }) (v := ?_) rfl (by kernel_rfl) (by kernel_rfl) (by kernel_rfl) (fun _ _ _ h => h) (Or.inl ⟨by rfl, ?_⟩) hHeld ?_
      rotate_left 1
      · intro u hSu
        obtain ⟨⟨a0, a1, a2⟩, -⟩ := row3i (kept_row HF.out.1 hSu.out (by simp))
        obtain ⟨⟨b0, b1, b2⟩, -⟩ := row3i (kept_row HF.out.2.1 hSu.out (by simp))
        go_simp
        first | done | with_reducible rfl
      (try simp only [Act.put, List.setIfInBounds_toArray, List.set_cons_zero, List.set_cons_succ])
      refine wpAnyH_take (i := 16) (oi := { dst := some 36, op := Op.pick (Operand.tmp 25) (Operand.tmp 35) (Operand.const (Value.bool false)), type := 4, pos := "law.go:45", after := #[{ on := 5, ground := Ground.data }, { on := 15, ground := Ground.data }], guard := none }) (v := ?_) rfl (by kernel_rfl) (by kernel_rfl) (by kernel_rfl) (fun _ _ _ h => h) (Or.inl ⟨by rfl, ?_⟩) hHeld ?_
      rotate_left 1
      · intro u hSu
        obtain ⟨⟨a0, a1, a2⟩, -⟩ := row3i (kept_row HF.out.1 hSu.out (by simp))
        obtain ⟨⟨b0, b1, b2⟩, -⟩ := row3i (kept_row HF.out.2.1 hSu.out (by simp))
        go_simp
        first | done | with_reducible rfl
      (try simp only [Act.put, List.setIfInBounds_toArray, List.set_cons_zero, List.set_cons_succ])
      refine wpAnyH_take (i := 17) (oi := { dst := some 37, op := Op.move (Operand.tmp 36), type := 4, pos := "law.go:45", after := #[{ on := 16, ground := Ground.data }, { on := 13, ground := Ground.chain }], guard := none }) (v := ?_) rfl (by kernel_rfl) (by kernel_rfl) (by kernel_rfl) (fun _ _ _ h => h) (Or.inl ⟨by rfl, ?_⟩) hHeld ?_
      rotate_left 1
      · intro u hSu
        obtain ⟨⟨a0, a1, a2⟩, -⟩ := row3i (kept_row HF.out.1 hSu.out (by simp))
        obtain ⟨⟨b0, b1, b2⟩, -⟩ := row3i (kept_row HF.out.2.1 hSu.out (by simp))
        go_simp
        first | done | with_reducible rfl
      (try simp only [Act.put, List.setIfInBounds_toArray, List.set_cons_zero, List.set_cons_succ])
      refine wpAnyH_take (i := 18) (oi := { dst := some 38, op := Op.load 26 (Operand.tmp 9), type := 26, pos := "law.go:45", after := #[{ on := 17, ground := Ground.guard }], guard := some (17, true) }) (v := ?_) rfl (by kernel_rfl) (by kernel_rfl) (by kernel_rfl) (fun _ _ _ h => h) (Or.inl ⟨by rfl, ?_⟩) hHeld ?_
      rotate_left 1
      · intro u hSu
        obtain ⟨⟨a0, a1, a2⟩, -⟩ := row3i (kept_row HF.out.1 hSu.out (by simp))
        obtain ⟨⟨b0, b1, b2⟩, -⟩ := row3i (kept_row HF.out.2.1 hSu.out (by simp))
        go_simp
        first | done | with_reducible rfl
      (try simp only [Act.put, List.setIfInBounds_toArray, List.set_cons_zero, List.set_cons_succ])
      refine wpAnyH_take (i := 20) (oi := { dst := some 40, op := Op.load 26 (Operand.tmp 9), type := 26, pos := "law.go:45", after := #[{ on := 17, ground := Ground.guard }], guard := some (17, true) }) (v := ?_) rfl (by kernel_rfl) (by kernel_rfl) (by kernel_rfl) (fun _ _ _ h => h) (Or.inl ⟨by rfl, ?_⟩) hHeld ?_
      rotate_left 1
      · intro u hSu
        obtain ⟨⟨a0, a1, a2⟩, -⟩ := row3i (kept_row HF.out.1 hSu.out (by simp))
        obtain ⟨⟨b0, b1, b2⟩, -⟩ := row3i (kept_row HF.out.2.1 hSu.out (by simp))
        go_simp
        first | done | with_reducible rfl
      (try simp only [Act.put, List.setIfInBounds_toArray, List.set_cons_zero, List.set_cons_succ])
      refine wpAnyH_ready (rs := [19]) (by kernel_rfl) (by simp) ?_
      refine AllReadyH.cons (o := { dst := some 39, op := Op.call { callee := Callee.value (Operand.func 11), args := #[Operand.tmp 38], argTypes := #[26] }, type := 4, pos := "law.go:45", after := #[{ on := 18, ground := Ground.data }, { on := 17, ground := Ground.chain }, { on := 17, ground := Ground.guard }], guard := some (17, true) }) rfl (fun Kz hK => ?_) AllReadyH.nil
      go_simp
      go_at_call 11
      refine (ivplan_any s1 n1 E1 p1 c1 _ _ (HF.out.2.2.2.2.2.2.keep hHeld.out) hem).mono ?_
      rintro e w7 ⟨rfl, hg⟩
      have H7n : Hid (w6.grownBy w7 none) := Lib.hid (grown_trans hHeld.out hg)
      clear hg
      refine hK.out _ _ (H7n) (fun hH2 => ?_)
      clear hK Kz hHeld
      have hHeld := hH2
      clear hH2
      (try simp only [Act.put, List.setIfInBounds_toArray, List.set_cons_zero, List.set_cons_succ])
      refine wpAnyH_ready (rs := [21]) (by kernel_rfl) (by simp) ?_
      refine AllReadyH.cons (o := { dst := some 41, op := Op.call { callee := Callee.value (Operand.func 12), args := #[Operand.tmp 40], argTypes := #[26] }, type := 4, pos := "law.go:45", after := #[{ on := 20, ground := Ground.data }, { on := 19, ground := Ground.chain }, { on := 17, ground := Ground.guard }], guard := some (17, true) }) rfl (fun Kz hK => ?_) AllReadyH.nil
      go_simp
      go_at_call 12
      refine (irvplan_any s1 n1 E1 p1 c1 _ _ (HF.out.2.2.2.2.2.2.keep hHeld.out) hem).mono ?_
      rintro e w7 ⟨rfl, hg⟩
      have H7n : Hid (w6.grownBy w7 none) := Lib.hid (grown_trans hHeld.out hg)
      clear hg
      refine hK.out _ _ (H7n) (fun hH2 => ?_)
      clear hK Kz hHeld
      have hHeld := hH2
      clear hH2
      (try simp only [Act.put, List.setIfInBounds_toArray, List.set_cons_zero, List.set_cons_succ])
      refine wpAnyH_take (i := 22) (oi := { dst := some 42, op := Op.binOp BinOp.eql 4 (Operand.tmp 39) (Operand.tmp 41) 4, type := 4, pos := "law.go:45", after := #[{ on := 19, ground := Ground.data }, { on := 21, ground := Ground.data }, { on := 17, ground := Ground.guard }], guard := some (17, true) }) (v := .bool true) rfl (by kernel_rfl) (by kernel_rfl) (by kernel_rfl) (fun _ _ _ h => h) (Or.inl ⟨by rfl, ?_⟩) hHeld ?_
      · intro u hSu
        obtain ⟨⟨a0, a1, a2⟩, -⟩ := row3i (kept_row HF.out.1 hSu.out (by simp))
        obtain ⟨⟨b0, b1, b2⟩, -⟩ := row3i (kept_row HF.out.2.1 hSu.out (by simp))
        go_simp
        try simp
      (try simp only [Act.put, List.setIfInBounds_toArray, List.set_cons_zero, List.set_cons_succ])
      refine wpAnyH_take (i := 23) (oi := { dst := some 43, op := Op.pick (Operand.tmp 37) (Operand.tmp 42) (Operand.const (Value.bool false)), type := 4, pos := "law.go:45", after := #[{ on := 17, ground := Ground.data }, { on := 22, ground := Ground.data }], guard := none }) (v := ?_) rfl (by kernel_rfl) (by kernel_rfl) (by kernel_rfl) (fun _ _ _ h => h) (Or.inl ⟨by rfl, ?_⟩) hHeld ?_
      rotate_left 1
      · intro u hSu
        obtain ⟨⟨a0, a1, a2⟩, -⟩ := row3i (kept_row HF.out.1 hSu.out (by simp))
        obtain ⟨⟨b0, b1, b2⟩, -⟩ := row3i (kept_row HF.out.2.1 hSu.out (by simp))
        go_simp
        first | done | with_reducible rfl
      (try simp only [Act.put, List.setIfInBounds_toArray, List.set_cons_zero, List.set_cons_succ])
      refine wpAnyH_take (i := 24) (oi := { dst := some 44, op := Op.move (Operand.tmp 43), type := 4, pos := "law.go:45", after := #[{ on := 23, ground := Ground.data }, { on := 21, ground := Ground.chain }], guard := none }) (v := ?_) rfl (by kernel_rfl) (by kernel_rfl) (by kernel_rfl) (fun _ _ _ h => h) (Or.inl ⟨by rfl, ?_⟩) hHeld ?_
      rotate_left 1
      · intro u hSu
        obtain ⟨⟨a0, a1, a2⟩, -⟩ := row3i (kept_row HF.out.1 hSu.out (by simp))
        obtain ⟨⟨b0, b1, b2⟩, -⟩ := row3i (kept_row HF.out.2.1 hSu.out (by simp))
        go_simp
        first | done | with_reducible rfl
      (try simp only [Act.put, List.setIfInBounds_toArray, List.set_cons_zero, List.set_cons_succ])
      refine wpAnyH_take (i := 25) (oi := { dst := some 45, op := Op.fieldAddr 26 (Operand.tmp 5) 2, type := 0, pos := "law.go:45", after := #[{ on := 24, ground := Ground.guard }], guard := some (24, true) }) (v := ?_) rfl (by kernel_rfl) (by kernel_rfl) (by kernel_rfl) (fun _ _ _ h => h) (Or.inl ⟨by rfl, ?_⟩) hHeld ?_
      rotate_left 1
      · intro u hSu
        obtain ⟨⟨a0, a1, a2⟩, -⟩ := row3i (kept_row HF.out.1 hSu.out (by simp))
        obtain ⟨⟨b0, b1, b2⟩, -⟩ := row3i (kept_row HF.out.2.1 hSu.out (by simp))
        go_simp
        first | done | with_reducible rfl
      (try simp only [Act.put, List.setIfInBounds_toArray, List.set_cons_zero, List.set_cons_succ])
      refine wpAnyH_take (i := 26) (oi := { dst := some 46, op := Op.load 24 (Operand.tmp 45), type := 24, pos := "law.go:45", after := #[{ on := 25, ground := Ground.data }, { on := 24, ground := Ground.guard }], guard := some (24, true) }) (v := ?_) rfl (by kernel_rfl) (by kernel_rfl) (by kernel_rfl) (fun _ _ _ h => h) (Or.inl ⟨by rfl, ?_⟩) hHeld ?_
      rotate_left 1
      · intro u hSu
        obtain ⟨⟨a0, a1, a2⟩, -⟩ := row3i (kept_row HF.out.1 hSu.out (by simp))
        obtain ⟨⟨b0, b1, b2⟩, -⟩ := row3i (kept_row HF.out.2.1 hSu.out (by simp))
        go_simp
        first | done | with_reducible rfl
      (try simp only [Act.put, List.setIfInBounds_toArray, List.set_cons_zero, List.set_cons_succ])
      refine wpAnyH_take (i := 27) (oi := { dst := some 47, op := Op.call { callee := Callee.builtin Builtin.len, args := #[Operand.tmp 46], argTypes := #[24] }, type := 3, pos := "law.go:45", after := #[{ on := 26, ground := Ground.data }, { on := 24, ground := Ground.guard }], guard := some (24, true) }) (v := ?_) rfl (by kernel_rfl) (by kernel_rfl) (by kernel_rfl) (fun _ _ _ h => h) (Or.inl ⟨by rfl, ?_⟩) hHeld ?_
      rotate_left 1
      · intro u hSu
        obtain ⟨⟨a0, a1, a2⟩, -⟩ := row3i (kept_row HF.out.1 hSu.out (by simp))
        obtain ⟨⟨b0, b1, b2⟩, -⟩ := row3i (kept_row HF.out.2.1 hSu.out (by simp))
        go_simp
        first | done | with_reducible rfl
      (try simp only [Act.put, List.setIfInBounds_toArray, List.set_cons_zero, List.set_cons_succ])
      refine wpAnyH_take (i := 28) (oi := { dst := some 48, op := Op.binOp BinOp.gtr 3 (Operand.tmp 47) (Operand.const (Value.int IntKind.i64 200)) 3, type := 4, pos := "law.go:45", after := #[{ on := 27, ground := Ground.data }, { on := 24, ground := Ground.guard }], guard := some (24, true) }) (v := .bool true) rfl (by kernel_rfl) (by kernel_rfl) (by kernel_rfl) (fun _ _ _ h => h) (Or.inl ⟨by rfl, ?_⟩) hHeld ?_
      · intro u hSu
        obtain ⟨⟨a0, a1, a2⟩, -⟩ := row3i (kept_row HF.out.1 hSu.out (by simp))
        obtain ⟨⟨b0, b1, b2⟩, -⟩ := row3i (kept_row HF.out.2.1 hSu.out (by simp))
        go_simp
        try simp
        try omega
      (try simp only [Act.put, List.setIfInBounds_toArray, List.set_cons_zero, List.set_cons_succ])
      refine wpAnyH_take (i := 29) (oi := { dst := some 49, op := Op.move (Operand.tmp 48), type := 4, pos := "law.go:45", after := #[{ on := 28, ground := Ground.data }, { on := 24, ground := Ground.chain }, { on := 24, ground := Ground.guard }], guard := some (24, true) }) (v := ?_) rfl (by kernel_rfl) (by kernel_rfl) (by kernel_rfl) (fun _ _ _ h => h) (Or.inl ⟨by rfl, ?_⟩) hHeld ?_
      rotate_left 1
      · intro u hSu
        obtain ⟨⟨a0, a1, a2⟩, -⟩ := row3i (kept_row HF.out.1 hSu.out (by simp))
        obtain ⟨⟨b0, b1, b2⟩, -⟩ := row3i (kept_row HF.out.2.1 hSu.out (by simp))
        go_simp
        first | done | with_reducible rfl
      (try simp only [Act.put, List.setIfInBounds_toArray, List.set_cons_zero, List.set_cons_succ])
      refine wpAnyH_take (i := 30) (oi := { dst := some 50, op := Op.load 26 (Operand.tmp 5), type := 26, pos := "law.go:45", after := #[{ on := 29, ground := Ground.guard }], guard := some (29, false) }) (v := undef) rfl (by kernel_rfl) (by kernel_rfl) (by kernel_rfl) (fun _ _ _ h => h) (Or.inr ⟨by rfl, rfl⟩) hHeld ?_
      (try simp only [Act.put, List.setIfInBounds_toArray, List.set_cons_zero, List.set_cons_succ])
      refine wpAnyH_take (i := 31) (oi := { dst := some 51, op := Op.call { callee := Callee.value (Operand.func 11), args := #[Operand.tmp 50], argTypes := #[26] }, type := 4, pos := "law.go:45", after := #[{ on := 30, ground := Ground.data }, { on := 29, ground := Ground.chain }, { on := 29, ground := Ground.guard }], guard := some (29, false) }) (v := undef) rfl (by kernel_rfl) (by kernel_rfl) (by kernel_rfl) (fun _ _ _ h => h) (Or.inr ⟨by rfl, rfl⟩) hHeld ?_
      (try simp only [Act.put, List.setIfInBounds_toArray, List.set_cons_zero, List.set_cons_succ])
      refine wpAnyH_take (i := 32) (oi := { dst := some 52, op := Op.load 26 (Operand.tmp 5), type := 26, pos := "law.go:45", after := #[{ on := 29, ground := Ground.guard }], guard := some (29, false) }) (v := undef) rfl (by kernel_rfl) (by kernel_rfl) (by kernel_rfl) (fun _ _ _ h => h) (Or.inr ⟨by rfl, rfl⟩) hHeld ?_
      (try simp only [Act.put, List.setIfInBounds_toArray, List.set_cons_zero, List.set_cons_succ])
      refine wpAnyH_take (i := 33) (oi := { dst := some 53, op := Op.call { callee := Callee.value (Operand.func 12), args := #[Operand.tmp 52], argTypes := #[26] }, type := 4, pos := "law.go:45", after := #[{ on := 32, ground := Ground.data }, { on := 31, ground := Ground.chain }, { on := 29, ground := Ground.guard }], guard := some (29, false) }) (v := undef) rfl (by kernel_rfl) (by kernel_rfl) (by kernel_rfl) (fun _ _ _ h => h) (Or.inr ⟨by rfl, rfl⟩) hHeld ?_
      (try simp only [Act.put, List.setIfInBounds_toArray, List.set_cons_zero, List.set_cons_succ])
      refine wpAnyH_take (i := 34) (oi := { dst := some 54, op := Op.binOp BinOp.eql 4 (Operand.tmp 51) (Operand.tmp 53) 4, type := 4, pos := "law.go:45", after := #[{ on := 31, ground := Ground.data }, { on := 33, ground := Ground.data }, { on := 29, ground := Ground.guard }], guard := some (29, false) }) (v := undef) rfl (by kernel_rfl) (by kernel_rfl) (by kernel_rfl) (fun _ _ _ h => h) (Or.inr ⟨by rfl, rfl⟩) hHeld ?_
      (try simp only [Act.put, List.setIfInBounds_toArray, List.set_cons_zero, List.set_cons_succ])
      refine wpAnyH_take (i := 35) (oi := { dst := some 55, op := Op.pick (Operand.tmp 49) (Operand.const (Value.bool true)) (Operand.tmp 54), type := 4, pos := "law.go:45", after := #[{ on := 29, ground := Ground.data }, { on := 34, ground := Ground.data }, { on := 24, ground := Ground.guard }], guard := some (24, true) }) (v := ?_) rfl (by kernel_rfl) (by kernel_rfl) (by kernel_rfl) (fun _ _ _ h => h) (Or.inl ⟨by rfl, ?_⟩) hHeld ?_
      rotate_left 1
      · intro u hSu
        obtain ⟨⟨a0, a1, a2⟩, -⟩ := row3i (kept_row HF.out.1 hSu.out (by simp))
        obtain ⟨⟨b0, b1, b2⟩, -⟩ := row3i (kept_row HF.out.2.1 hSu.out (by simp))
        go_simp
        first | done | with_reducible rfl
      (try simp only [Act.put, List.setIfInBounds_toArray, List.set_cons_zero, List.set_cons_succ])
      refine wpAnyH_take (i := 36) (oi := { dst := some 56, op := Op.pick (Operand.tmp 44) (Operand.tmp 55) (Operand.const (Value.bool false)), type := 4, pos := "law.go:45", after := #[{ on := 24, ground := Ground.data }, { on := 35, ground := Ground.data }], guard := none }) (v := ?_) rfl (by kernel_rfl) (by kernel_rfl) (by kernel_rfl) (fun _ _ _ h => h) (Or.inl ⟨by rfl, ?_⟩) hHeld ?_
      rotate_left 1
      · intro u hSu
        obtain ⟨⟨a0, a1, a2⟩, -⟩ := row3i (kept_row HF.out.1 hSu.out (by simp))
        obtain ⟨⟨b0, b1, b2⟩, -⟩ := row3i (kept_row HF.out.2.1 hSu.out (by simp))
        go_simp
        first | done | with_reducible rfl
      (try simp only [Act.put, List.setIfInBounds_toArray, List.set_cons_zero, List.set_cons_succ])
      refine wpAnyH_take (i := 37) (oi := { dst := some 57, op := Op.move (Operand.tmp 56), type := 4, pos := "law.go:45", after := #[{ on := 36, ground := Ground.data }, { on := 33, ground := Ground.chain }], guard := none }) (v := ?_) rfl (by kernel_rfl) (by kernel_rfl) (by kernel_rfl) (fun _ _ _ h => h) (Or.inl ⟨by rfl, ?_⟩) hHeld ?_
      rotate_left 1
      · intro u hSu
        obtain ⟨⟨a0, a1, a2⟩, -⟩ := row3i (kept_row HF.out.1 hSu.out (by simp))
        obtain ⟨⟨b0, b1, b2⟩, -⟩ := row3i (kept_row HF.out.2.1 hSu.out (by simp))
        go_simp
        first | done | with_reducible rfl
      (try simp only [Act.put, List.setIfInBounds_toArray, List.set_cons_zero, List.set_cons_succ])
      refine wpAnyH_ready (rs := [38]) (by kernel_rfl) (by simp) ?_
      refine AllReadyH.cons (o := { dst := some 58, op := Op.call { callee := Callee.value (Operand.func 13), args := #[], argTypes := #[] }, type := 4, pos := "law.go:45", after := #[{ on := 37, ground := Ground.chain }, { on := 37, ground := Ground.guard }], guard := some (37, true) }) rfl (fun Kz hK => ?_) AllReadyH.nil
      go_simp
      go_at_call 13
      refine (iawake_any _).mono ?_
      rintro e w7 ⟨rfl, hg⟩
      have H7n : Hid (w6.grownBy w7 none) := Lib.hid (grown_trans hHeld.out hg)
      clear hg
      refine hK.out _ _ (H7n) (fun hH2 => ?_)
      clear hK Kz hHeld
      have hHeld := hH2
      clear hH2
      (try simp only [Act.put, List.setIfInBounds_toArray, List.set_cons_zero, List.set_cons_succ])
      refine wpAnyH_take (i := 39) (oi := { dst := some 59, op := Op.pick (Operand.tmp 57) (Operand.tmp 58) (Operand.const (Value.bool false)), type := 4, pos := "law.go:45", after := #[{ on := 37, ground := Ground.data }, { on := 38, ground := Ground.data }], guard := none }) (v := ?_) rfl (by kernel_rfl) (by kernel_rfl) (by kernel_rfl) (fun _ _ _ h => h) (Or.inl ⟨by rfl, ?_⟩) hHeld ?_
      rotate_left 1
      · intro u hSu
        obtain ⟨⟨a0, a1, a2⟩, -⟩ := row3i (kept_row HF.out.1 hSu.out (by simp))
        obtain ⟨⟨b0, b1, b2⟩, -⟩ := row3i (kept_row HF.out.2.1 hSu.out (by simp))
        go_simp
        first | done | with_reducible rfl
      (try simp only [Act.put, List.setIfInBounds_toArray, List.set_cons_zero, List.set_cons_succ])
      refine wpAnyH_take (i := 40) (oi := { dst := some 6, op := Op.assign (Operand.tmp 59), type := 4, pos := "law.go:45", after := #[{ on := 39, ground := Ground.data }, { on := 38, ground := Ground.chain }, { on := 0, ground := Ground.phase }, { on := 1, ground := Ground.phase }, { on := 2, ground := Ground.phase }, { on := 3, ground := Ground.phase }, { on := 4, ground := Ground.phase }, { on := 5, ground := Ground.phase }, { on := 6, ground := Ground.phase }, { on := 7, ground := Ground.phase }, { on := 8, ground := Ground.phase }, { on := 9, ground := Ground.phase }, { on := 10, ground := Ground.phase }, { on := 11, ground := Ground.phase }, { on := 12, ground := Ground.phase }, { on := 13, ground := Ground.phase }, { on := 14, ground := Ground.phase }, { on := 15, ground := Ground.phase }, { on := 16, ground := Ground.phase }, { on := 17, ground := Ground.phase }, { on := 18, ground := Ground.phase }, { on := 19, ground := Ground.phase }, { on := 20, ground := Ground.phase }, { on := 21, ground := Ground.phase }, { on := 22, ground := Ground.phase }, { on := 23, ground := Ground.phase }, { on := 24, ground := Ground.phase }, { on := 25, ground := Ground.phase }, { on := 26, ground := Ground.phase }, { on := 27, ground := Ground.phase }, { on := 28, ground := Ground.phase }, { on := 29, ground := Ground.phase }, { on := 30, ground := Ground.phase }, { on := 31, ground := Ground.phase }, { on := 32, ground := Ground.phase }, { on := 33, ground := Ground.phase }, { on := 34, ground := Ground.phase }, { on := 35, ground := Ground.phase }, { on := 36, ground := Ground.phase }, { on := 37, ground := Ground.phase }, { on := 38, ground := Ground.phase }, { on := 39, ground := Ground.phase }], guard := none }) (v := ?_) rfl (by kernel_rfl) (by kernel_rfl) (by kernel_rfl) (fun _ _ _ h => h) (Or.inl ⟨by rfl, ?_⟩) hHeld ?_
      rotate_left 1
      · intro u hSu
        obtain ⟨⟨a0, a1, a2⟩, -⟩ := row3i (kept_row HF.out.1 hSu.out (by simp))
        obtain ⟨⟨b0, b1, b2⟩, -⟩ := row3i (kept_row HF.out.2.1 hSu.out (by simp))
        go_simp
        first | done | with_reducible rfl
      (try simp only [Act.put, List.setIfInBounds_toArray, List.set_cons_zero, List.set_cons_succ])
      refine wpAnyH_done (by kernel_rfl) ?_ _
      have G := Lib.hid (grown_trans HF.out.2.2.1 hHeld.out)
      clear hHeld HF GZ
      go_wp2_with fail
      go_ret
      exact ⟨rfl, G.out⟩
    · skip
      refine wp_region_held_drew (S := fun w' => Hid (w6.grownBy w' none)) (by kernel_rfl) (hid_drew GZ) (fun hHeld => ?_)
      refine wpAnyH_take (i := 0) (oi := { dst := some 20, op := Op.move (Operand.tmp 8), type := 23, pos := "law.go:45", after := #[], guard := none }) (v := ?_) rfl (by kernel_rfl) (by kernel_rfl) (by kernel_rfl) (fun _ _ _ h => h) (Or.inl ⟨by rfl, ?_⟩) hHeld ?_
      rotate_left 1
      · intro u hSu
        obtain ⟨⟨a0, a1, a2⟩, -⟩ := row3i (kept_row HF.out.1 hSu.out (by simp))
        obtain ⟨⟨b0, b1, b2⟩, -⟩ := row3i (kept_row HF.out.2.1 hSu.out (by simp))
        go_simp
        first | done | with_reducible rfl
      (try simp only [Act.put, List.setIfInBounds_toArray, List.set_cons_zero, List.set_cons_succ])
      refine wpAnyH_take (i := 2) (oi := { dst := some 22, op := Op.move (Operand.tmp 8), type := 23, pos := "law.go:45", after := #[], guard := none }) (v := ?_) rfl (by kernel_rfl) (by kernel_rfl) (by kernel_rfl) (fun _ _ _ h => h) (Or.inl ⟨by rfl, ?_⟩) hHeld ?_
      rotate_left 1
      · intro u hSu
        obtain ⟨⟨a0, a1, a2⟩, -⟩ := row3i (kept_row HF.out.1 hSu.out (by simp))
        obtain ⟨⟨b0, b1, b2⟩, -⟩ := row3i (kept_row HF.out.2.1 hSu.out (by simp))
        go_simp
        first | done | with_reducible rfl
      (try simp only [Act.put, List.setIfInBounds_toArray, List.set_cons_zero, List.set_cons_succ])
      refine wpAnyH_ready (rs := [1]) (by kernel_rfl) (by simp) ?_
      refine AllReadyH.cons (o := { dst := some 21, op := Op.call { callee := Callee.value (Operand.func 9), args := #[Operand.tmp 20], argTypes := #[23] }, type := 37, pos := "law.go:45", after := #[{ on := 0, ground := Ground.data }], guard := none }) rfl (fun Kz hK => ?_) AllReadyH.nil
      go_simp
      go_at_call 9
      refine (icheck_any l p c _ _ (HF.out.2.2.2.2.2.1.keep hHeld.out) hlm).mono ?_
      rintro e w7 ⟨rfl, hg⟩
      have H7n : Hid (w6.grownBy w7 none) := Lib.hid (grown_trans hHeld.out hg)
      clear hg
      refine hK.out _ _ (H7n) (fun hH2 => ?_)
      clear hK Kz hHeld
      have hHeld := hH2
      clear hH2
      (try simp only [Act.put, List.setIfInBounds_toArray, List.set_cons_zero, List.set_cons_succ])
      refine wpAnyH_ready (rs := [3]) (by kernel_rfl) (by simp) ?_
      refine AllReadyH.cons (o := { dst := some 23, op := Op.call { callee := Callee.value (Operand.func 10), args := #[Operand.tmp 22], argTypes := #[23] }, type := 37, pos := "law.go:45", after := #[{ on := 2, ground := Ground.data }, { on := 1, ground := Ground.chain }], guard := none }) rfl (fun Kz hK => ?_) AllReadyH.nil
      go_simp
      go_at_call 10
      refine (ircheck_any l p c _ _ (HF.out.2.2.2.2.2.1.keep hHeld.out) hlm).mono ?_
      rintro e w7 ⟨rfl, hg⟩
      have H7n : Hid (w6.grownBy w7 none) := Lib.hid (grown_trans hHeld.out hg)
      clear hg
      refine hK.out _ _ (H7n) (fun hH2 => ?_)
      clear hK Kz hHeld
      have hHeld := hH2
      clear hH2
      (try simp only [Act.put, List.setIfInBounds_toArray, List.set_cons_zero, List.set_cons_succ])
      refine wpAnyH_take (i := 4) (oi := { dst := some 24, op := Op.binOp BinOp.eql 37 (Operand.tmp 21) (Operand.tmp 23) 37, type := 4, pos := "law.go:45", after := #[{ on := 1, ground := Ground.data }, { on := 3, ground := Ground.data }], guard := none }) (v := .bool true) rfl (by kernel_rfl) (by kernel_rfl) (by kernel_rfl) (fun _ _ _ h => h) (Or.inl ⟨by rfl, ?_⟩) hHeld ?_
      · intro u hSu
        obtain ⟨⟨a0, a1, a2⟩, -⟩ := row3i (kept_row HF.out.1 hSu.out (by simp))
        obtain ⟨⟨b0, b1, b2⟩, -⟩ := row3i (kept_row HF.out.2.1 hSu.out (by simp))
        go_simp
        try simp
      (try simp only [Act.put, List.setIfInBounds_toArray, List.set_cons_zero, List.set_cons_succ])
      refine wpAnyH_take (i := 5) (oi := { dst := some 25, op := Op.move (Operand.tmp 24), type := 4, pos := "law.go:45", after := #[{ on := 4, ground := Ground.data }, { on := 3, ground := Ground.chain }], guard := none }) (v := ?_) rfl (by kernel_rfl) (by kernel_rfl) (by kernel_rfl) (fun _ _ _ h => h) (Or.inl ⟨by rfl, ?_⟩) hHeld ?_
      rotate_left 1
      · intro u hSu
        obtain ⟨⟨a0, a1, a2⟩, -⟩ := row3i (kept_row HF.out.1 hSu.out (by simp))
        obtain ⟨⟨b0, b1, b2⟩, -⟩ := row3i (kept_row HF.out.2.1 hSu.out (by simp))
        go_simp
        first | done | with_reducible rfl
      (try simp only [Act.put, List.setIfInBounds_toArray, List.set_cons_zero, List.set_cons_succ])
      refine wpAnyH_take (i := 6) (oi := { dst := some 26, op := Op.move (Operand.tmp 1), type := 23, pos := "law.go:45", after := #[{ on := 5, ground := Ground.guard }], guard := some (5, true) }) (v := ?_) rfl (by kernel_rfl) (by kernel_rfl) (by kernel_rfl) (fun _ _ _ h => h) (Or.inl ⟨by rfl, ?_⟩) hHeld ?_
      rotate_left 1
      · intro u hSu
        obtain ⟨⟨a0, a1, a2⟩, -⟩ := row3i (kept_row HF.out.1 hSu.out (by simp))
        obtain ⟨⟨b0, b1, b2⟩, -⟩ := row3i (kept_row HF.out.2.1 hSu.out (by simp))
        go_simp
        first | done | with_reducible rfl
      (try simp only [Act.put, List.setIfInBounds_toArray, List.set_cons_zero, List.set_cons_succ])
      refine wpAnyH_take (i := 7) (oi := { dst := some 27, op := Op.call { callee := Callee.builtin Builtin.len, args := #[Operand.tmp 26], argTypes := #[23] }, type := 3, pos := "law.go:45", after := #[{ on := 6, ground := Ground.data }, { on := 5, ground := Ground.guard }], guard := some (5, true) }) (v := ?_) rfl (by kernel_rfl) (by kernel_rfl) (by kernel_rfl) (fun _ _ _ h => h) (Or.inl ⟨by rfl, ?_⟩) hHeld ?_
      rotate_left 1
      · intro u hSu
        obtain ⟨⟨a0, a1, a2⟩, -⟩ := row3i (kept_row HF.out.1 hSu.out (by simp))
        obtain ⟨⟨b0, b1, b2⟩, -⟩ := row3i (kept_row HF.out.2.1 hSu.out (by simp))
        go_simp
        first | done | with_reducible rfl
      (try simp only [Act.put, List.setIfInBounds_toArray, List.set_cons_zero, List.set_cons_succ])
      refine wpAnyH_take (i := 8) (oi := { dst := some 28, op := Op.binOp BinOp.gtr 3 (Operand.tmp 27) (Operand.const (Value.int IntKind.i64 400)) 3, type := 4, pos := "law.go:45", after := #[{ on := 7, ground := Ground.data }, { on := 5, ground := Ground.guard }], guard := some (5, true) }) (v := .bool true) rfl (by kernel_rfl) (by kernel_rfl) (by kernel_rfl) (fun _ _ _ h => h) (Or.inl ⟨by rfl, ?_⟩) hHeld ?_
      · intro u hSu
        obtain ⟨⟨a0, a1, a2⟩, -⟩ := row3i (kept_row HF.out.1 hSu.out (by simp))
        obtain ⟨⟨b0, b1, b2⟩, -⟩ := row3i (kept_row HF.out.2.1 hSu.out (by simp))
        go_simp
        try simp
        try omega
      (try simp only [Act.put, List.setIfInBounds_toArray, List.set_cons_zero, List.set_cons_succ])
      refine wpAnyH_take (i := 9) (oi := { dst := some 29, op := Op.move (Operand.tmp 28), type := 4, pos := "law.go:45", after := #[{ on := 8, ground := Ground.data }, { on := 5, ground := Ground.chain }, { on := 5, ground := Ground.guard }], guard := some (5, true) }) (v := ?_) rfl (by kernel_rfl) (by kernel_rfl) (by kernel_rfl) (fun _ _ _ h => h) (Or.inl ⟨by rfl, ?_⟩) hHeld ?_
      rotate_left 1
      · intro u hSu
        obtain ⟨⟨a0, a1, a2⟩, -⟩ := row3i (kept_row HF.out.1 hSu.out (by simp))
        obtain ⟨⟨b0, b1, b2⟩, -⟩ := row3i (kept_row HF.out.2.1 hSu.out (by simp))
        go_simp
        first | done | with_reducible rfl
      (try simp only [Act.put, List.setIfInBounds_toArray, List.set_cons_zero, List.set_cons_succ])
      refine wpAnyH_take (i := 10) (oi := { dst := some 30, op := Op.move (Operand.tmp 1), type := 23, pos := "law.go:45", after := #[{ on := 9, ground := Ground.guard }], guard := some (9, false) }) (v := undef) rfl (by kernel_rfl) (by kernel_rfl) (by kernel_rfl) (fun _ _ _ h => h) (Or.inr ⟨by rfl, rfl⟩) hHeld ?_
      (try simp only [Act.put, List.setIfInBounds_toArray, List.set_cons_zero, List.set_cons_succ])
      refine wpAnyH_take (i := 11) (oi := { dst := some 31, op := Op.call { callee := Callee.value (Operand.func 9), args := #[Operand.tmp 30], argTypes := #[23] }, type := 37, pos := "law.go:45", after := #[{ on := 10, ground := Ground.data }, { on := 9, ground := Ground.chain }, { on := 9, ground := Ground.guard }], guard := some (9, false) }) (v := undef) rfl (by kernel_rfl) (by kernel_rfl) (by kernel_rfl) (fun _ _ _ h => h) (Or.inr ⟨by rfl, rfl⟩) hHeld ?_
      (try simp only [Act.put, List.setIfInBounds_toArray, List.set_cons_zero, List.set_cons_succ])
      refine wpAnyH_take (i := 12) (oi := { dst := some 32, op := Op.move (Operand.tmp 1), type := 23, pos := "law.go:45", after := #[{ on := 9, ground := Ground.guard }], guard := some (9, false) }) (v := undef) rfl (by kernel_rfl) (by kernel_rfl) (by kernel_rfl) (fun _ _ _ h => h) (Or.inr ⟨by rfl, rfl⟩) hHeld ?_
      (try simp only [Act.put, List.setIfInBounds_toArray, List.set_cons_zero, List.set_cons_succ])
      refine wpAnyH_take (i := 13) (oi := { dst := some 33, op := Op.call { callee := Callee.value (Operand.func 10), args := #[Operand.tmp 32], argTypes := #[23] }, type := 37, pos := "law.go:45", after := #[{ on := 12, ground := Ground.data }, { on := 11, ground := Ground.chain }, { on := 9, ground := Ground.guard }], guard := some (9, false) }) (v := undef) rfl (by kernel_rfl) (by kernel_rfl) (by kernel_rfl) (fun _ _ _ h => h) (Or.inr ⟨by rfl, rfl⟩) hHeld ?_
      (try simp only [Act.put, List.setIfInBounds_toArray, List.set_cons_zero, List.set_cons_succ])
      refine wpAnyH_take (i := 14) (oi := { dst := some 34, op := Op.binOp BinOp.eql 37 (Operand.tmp 31) (Operand.tmp 33) 37, type := 4, pos := "law.go:45", after := #[{ on := 11, ground := Ground.data }, { on := 13, ground := Ground.data }, { on := 9, ground := Ground.guard }], guard := some (9, false) }) (v := undef) rfl (by kernel_rfl) (by kernel_rfl) (by kernel_rfl) (fun _ _ _ h => h) (Or.inr ⟨by rfl, rfl⟩) hHeld ?_
      (try simp only [Act.put, List.setIfInBounds_toArray, List.set_cons_zero, List.set_cons_succ])
      refine wpAnyH_take (i := 15) (oi := { dst := some 35, op := Op.pick (Operand.tmp 29) (Operand.const (Value.bool true)) (Operand.tmp 34), type := 4, pos := "law.go:45", after := #[{ on := 9, ground := Ground.data }, { on := 14, ground := Ground.data }, { on := 5, ground := Ground.guard }], guard := some (5, true) }) (v := ?_) rfl (by kernel_rfl) (by kernel_rfl) (by kernel_rfl) (fun _ _ _ h => h) (Or.inl ⟨by rfl, ?_⟩) hHeld ?_
      rotate_left 1
      · intro u hSu
        obtain ⟨⟨a0, a1, a2⟩, -⟩ := row3i (kept_row HF.out.1 hSu.out (by simp))
        obtain ⟨⟨b0, b1, b2⟩, -⟩ := row3i (kept_row HF.out.2.1 hSu.out (by simp))
        go_simp
        first | done | with_reducible rfl
      (try simp only [Act.put, List.setIfInBounds_toArray, List.set_cons_zero, List.set_cons_succ])
      refine wpAnyH_take (i := 16) (oi := { dst := some 36, op := Op.pick (Operand.tmp 25) (Operand.tmp 35) (Operand.const (Value.bool false)), type := 4, pos := "law.go:45", after := #[{ on := 5, ground := Ground.data }, { on := 15, ground := Ground.data }], guard := none }) (v := ?_) rfl (by kernel_rfl) (by kernel_rfl) (by kernel_rfl) (fun _ _ _ h => h) (Or.inl ⟨by rfl, ?_⟩) hHeld ?_
      rotate_left 1
      · intro u hSu
        obtain ⟨⟨a0, a1, a2⟩, -⟩ := row3i (kept_row HF.out.1 hSu.out (by simp))
        obtain ⟨⟨b0, b1, b2⟩, -⟩ := row3i (kept_row HF.out.2.1 hSu.out (by simp))
        go_simp
        first | done | with_reducible rfl
      (try simp only [Act.put, List.setIfInBounds_toArray, List.set_cons_zero, List.set_cons_succ])
      refine wpAnyH_take (i := 17) (oi := { dst := some 37, op := Op.move (Operand.tmp 36), type := 4, pos := "law.go:45", after := #[{ on := 16, ground := Ground.data }, { on := 13, ground := Ground.chain }], guard := none }) (v := ?_) rfl (by kernel_rfl) (by kernel_rfl) (by kernel_rfl) (fun _ _ _ h => h) (Or.inl ⟨by rfl, ?_⟩) hHeld ?_
      rotate_left 1
      · intro u hSu
        obtain ⟨⟨a0, a1, a2⟩, -⟩ := row3i (kept_row HF.out.1 hSu.out (by simp))
        obtain ⟨⟨b0, b1, b2⟩, -⟩ := row3i (kept_row HF.out.2.1 hSu.out (by simp))
        go_simp
        first | done | with_reducible rfl
      (try simp only [Act.put, List.setIfInBounds_toArray, List.set_cons_zero, List.set_cons_succ])
      refine wpAnyH_take (i := 18) (oi := { dst := some 38, op := Op.load 26 (Operand.tmp 9), type := 26, pos := "law.go:45", after := #[{ on := 17, ground := Ground.guard }], guard := some (17, true) }) (v := ?_) rfl (by kernel_rfl) (by kernel_rfl) (by kernel_rfl) (fun _ _ _ h => h) (Or.inl ⟨by rfl, ?_⟩) hHeld ?_
      rotate_left 1
      · intro u hSu
        obtain ⟨⟨a0, a1, a2⟩, -⟩ := row3i (kept_row HF.out.1 hSu.out (by simp))
        obtain ⟨⟨b0, b1, b2⟩, -⟩ := row3i (kept_row HF.out.2.1 hSu.out (by simp))
        go_simp
        first | done | with_reducible rfl
      (try simp only [Act.put, List.setIfInBounds_toArray, List.set_cons_zero, List.set_cons_succ])
      refine wpAnyH_take (i := 20) (oi := { dst := some 40, op := Op.load 26 (Operand.tmp 9), type := 26, pos := "law.go:45", after := #[{ on := 17, ground := Ground.guard }], guard := some (17, true) }) (v := ?_) rfl (by kernel_rfl) (by kernel_rfl) (by kernel_rfl) (fun _ _ _ h => h) (Or.inl ⟨by rfl, ?_⟩) hHeld ?_
      rotate_left 1
      · intro u hSu
        obtain ⟨⟨a0, a1, a2⟩, -⟩ := row3i (kept_row HF.out.1 hSu.out (by simp))
        obtain ⟨⟨b0, b1, b2⟩, -⟩ := row3i (kept_row HF.out.2.1 hSu.out (by simp))
        go_simp
        first | done | with_reducible rfl
      (try simp only [Act.put, List.setIfInBounds_toArray, List.set_cons_zero, List.set_cons_succ])
      refine wpAnyH_ready (rs := [19]) (by kernel_rfl) (by simp) ?_
      refine AllReadyH.cons (o := { dst := some 39, op := Op.call { callee := Callee.value (Operand.func 11), args := #[Operand.tmp 38], argTypes := #[26] }, type := 4, pos := "law.go:45", after := #[{ on := 18, ground := Ground.data }, { on := 17, ground := Ground.chain }, { on := 17, ground := Ground.guard }], guard := some (17, true) }) rfl (fun Kz hK => ?_) AllReadyH.nil
      go_simp
      go_at_call 11
      refine (ivplan_any s1 n1 E1 p1 c1 _ _ (HF.out.2.2.2.2.2.2.keep hHeld.out) hem).mono ?_
      rintro e w7 ⟨rfl, hg⟩
      have H7n : Hid (w6.grownBy w7 none) := Lib.hid (grown_trans hHeld.out hg)
      clear hg
      refine hK.out _ _ (H7n) (fun hH2 => ?_)
      clear hK Kz hHeld
      have hHeld := hH2
      clear hH2
      (try simp only [Act.put, List.setIfInBounds_toArray, List.set_cons_zero, List.set_cons_succ])
      refine wpAnyH_ready (rs := [21]) (by kernel_rfl) (by simp) ?_
      refine AllReadyH.cons (o := { dst := some 41, op := Op.call { callee := Callee.value (Operand.func 12), args := #[Operand.tmp 40], argTypes := #[26] }, type := 4, pos := "law.go:45", after := #[{ on := 20, ground := Ground.data }, { on := 19, ground := Ground.chain }, { on := 17, ground := Ground.guard }], guard := some (17, true) }) rfl (fun Kz hK => ?_) AllReadyH.nil
      go_simp
      go_at_call 12
      refine (irvplan_any s1 n1 E1 p1 c1 _ _ (HF.out.2.2.2.2.2.2.keep hHeld.out) hem).mono ?_
      rintro e w7 ⟨rfl, hg⟩
      have H7n : Hid (w6.grownBy w7 none) := Lib.hid (grown_trans hHeld.out hg)
      clear hg
      refine hK.out _ _ (H7n) (fun hH2 => ?_)
      clear hK Kz hHeld
      have hHeld := hH2
      clear hH2
      (try simp only [Act.put, List.setIfInBounds_toArray, List.set_cons_zero, List.set_cons_succ])
      refine wpAnyH_take (i := 22) (oi := { dst := some 42, op := Op.binOp BinOp.eql 4 (Operand.tmp 39) (Operand.tmp 41) 4, type := 4, pos := "law.go:45", after := #[{ on := 19, ground := Ground.data }, { on := 21, ground := Ground.data }, { on := 17, ground := Ground.guard }], guard := some (17, true) }) (v := .bool true) rfl (by kernel_rfl) (by kernel_rfl) (by kernel_rfl) (fun _ _ _ h => h) (Or.inl ⟨by rfl, ?_⟩) hHeld ?_
      · intro u hSu
        obtain ⟨⟨a0, a1, a2⟩, -⟩ := row3i (kept_row HF.out.1 hSu.out (by simp))
        obtain ⟨⟨b0, b1, b2⟩, -⟩ := row3i (kept_row HF.out.2.1 hSu.out (by simp))
        go_simp
        try simp
      (try simp only [Act.put, List.setIfInBounds_toArray, List.set_cons_zero, List.set_cons_succ])
      refine wpAnyH_take (i := 23) (oi := { dst := some 43, op := Op.pick (Operand.tmp 37) (Operand.tmp 42) (Operand.const (Value.bool false)), type := 4, pos := "law.go:45", after := #[{ on := 17, ground := Ground.data }, { on := 22, ground := Ground.data }], guard := none }) (v := ?_) rfl (by kernel_rfl) (by kernel_rfl) (by kernel_rfl) (fun _ _ _ h => h) (Or.inl ⟨by rfl, ?_⟩) hHeld ?_
      rotate_left 1
      · intro u hSu
        obtain ⟨⟨a0, a1, a2⟩, -⟩ := row3i (kept_row HF.out.1 hSu.out (by simp))
        obtain ⟨⟨b0, b1, b2⟩, -⟩ := row3i (kept_row HF.out.2.1 hSu.out (by simp))
        go_simp
        first | done | with_reducible rfl
      (try simp only [Act.put, List.setIfInBounds_toArray, List.set_cons_zero, List.set_cons_succ])
      refine wpAnyH_take (i := 24) (oi := { dst := some 44, op := Op.move (Operand.tmp 43), type := 4, pos := "law.go:45", after := #[{ on := 23, ground := Ground.data }, { on := 21, ground := Ground.chain }], guard := none }) (v := ?_) rfl (by kernel_rfl) (by kernel_rfl) (by kernel_rfl) (fun _ _ _ h => h) (Or.inl ⟨by rfl, ?_⟩) hHeld ?_
      rotate_left 1
      · intro u hSu
        obtain ⟨⟨a0, a1, a2⟩, -⟩ := row3i (kept_row HF.out.1 hSu.out (by simp))
        obtain ⟨⟨b0, b1, b2⟩, -⟩ := row3i (kept_row HF.out.2.1 hSu.out (by simp))
        go_simp
        first | done | with_reducible rfl
      (try simp only [Act.put, List.setIfInBounds_toArray, List.set_cons_zero, List.set_cons_succ])
      refine wpAnyH_take (i := 25) (oi := { dst := some 45, op := Op.fieldAddr 26 (Operand.tmp 5) 2, type := 0, pos := "law.go:45", after := #[{ on := 24, ground := Ground.guard }], guard := some (24, true) }) (v := ?_) rfl (by kernel_rfl) (by kernel_rfl) (by kernel_rfl) (fun _ _ _ h => h) (Or.inl ⟨by rfl, ?_⟩) hHeld ?_
      rotate_left 1
      · intro u hSu
        obtain ⟨⟨a0, a1, a2⟩, -⟩ := row3i (kept_row HF.out.1 hSu.out (by simp))
        obtain ⟨⟨b0, b1, b2⟩, -⟩ := row3i (kept_row HF.out.2.1 hSu.out (by simp))
        go_simp
        first | done | with_reducible rfl
      (try simp only [Act.put, List.setIfInBounds_toArray, List.set_cons_zero, List.set_cons_succ])
      refine wpAnyH_take (i := 26) (oi := { dst := some 46, op := Op.load 24 (Operand.tmp 45), type := 24, pos := "law.go:45", after := #[{ on := 25, ground := Ground.data }, { on := 24, ground := Ground.guard }], guard := some (24, true) }) (v := ?_) rfl (by kernel_rfl) (by kernel_rfl) (by kernel_rfl) (fun _ _ _ h => h) (Or.inl ⟨by rfl, ?_⟩) hHeld ?_
      rotate_left 1
      · intro u hSu
        obtain ⟨⟨a0, a1, a2⟩, -⟩ := row3i (kept_row HF.out.1 hSu.out (by simp))
        obtain ⟨⟨b0, b1, b2⟩, -⟩ := row3i (kept_row HF.out.2.1 hSu.out (by simp))
        go_simp
        first | done | with_reducible rfl
      (try simp only [Act.put, List.setIfInBounds_toArray, List.set_cons_zero, List.set_cons_succ])
      refine wpAnyH_take (i := 27) (oi := { dst := some 47, op := Op.call { callee := Callee.builtin Builtin.len, args := #[Operand.tmp 46], argTypes := #[24] }, type := 3, pos := "law.go:45", after := #[{ on := 26, ground := Ground.data }, { on := 24, ground := Ground.guard }], guard := some (24, true) }) (v := ?_) rfl (by kernel_rfl) (by kernel_rfl) (by kernel_rfl) (fun _ _ _ h => h) (Or.inl ⟨by rfl, ?_⟩) hHeld ?_
      rotate_left 1
      · intro u hSu
        obtain ⟨⟨a0, a1, a2⟩, -⟩ := row3i (kept_row HF.out.1 hSu.out (by simp))
        obtain ⟨⟨b0, b1, b2⟩, -⟩ := row3i (kept_row HF.out.2.1 hSu.out (by simp))
        go_simp
        first | done | with_reducible rfl
      (try simp only [Act.put, List.setIfInBounds_toArray, List.set_cons_zero, List.set_cons_succ])
      refine wpAnyH_take (i := 28) (oi := { dst := some 48, op := Op.binOp BinOp.gtr 3 (Operand.tmp 47) (Operand.const (Value.int IntKind.i64 200)) 3, type := 4, pos := "law.go:45", after := #[{ on := 27, ground := Ground.data }, { on := 24, ground := Ground.guard }], guard := some (24, true) }) (v := .bool false) rfl (by kernel_rfl) (by kernel_rfl) (by kernel_rfl) (fun _ _ _ h => h) (Or.inl ⟨by rfl, ?_⟩) hHeld ?_
      · intro u hSu
        obtain ⟨⟨a0, a1, a2⟩, -⟩ := row3i (kept_row HF.out.1 hSu.out (by simp))
        obtain ⟨⟨b0, b1, b2⟩, -⟩ := row3i (kept_row HF.out.2.1 hSu.out (by simp))
        go_simp
        try simp
        try omega
      (try simp only [Act.put, List.setIfInBounds_toArray, List.set_cons_zero, List.set_cons_succ])
      refine wpAnyH_take (i := 29) (oi := { dst := some 49, op := Op.move (Operand.tmp 48), type := 4, pos := "law.go:45", after := #[{ on := 28, ground := Ground.data }, { on := 24, ground := Ground.chain }, { on := 24, ground := Ground.guard }], guard := some (24, true) }) (v := ?_) rfl (by kernel_rfl) (by kernel_rfl) (by kernel_rfl) (fun _ _ _ h => h) (Or.inl ⟨by rfl, ?_⟩) hHeld ?_
      rotate_left 1
      · intro u hSu
        obtain ⟨⟨a0, a1, a2⟩, -⟩ := row3i (kept_row HF.out.1 hSu.out (by simp))
        obtain ⟨⟨b0, b1, b2⟩, -⟩ := row3i (kept_row HF.out.2.1 hSu.out (by simp))
        go_simp
        first | done | with_reducible rfl
      (try simp only [Act.put, List.setIfInBounds_toArray, List.set_cons_zero, List.set_cons_succ])
      refine wpAnyH_take (i := 30) (oi := { dst := some 50, op := Op.load 26 (Operand.tmp 5), type := 26, pos := "law.go:45", after := #[{ on := 29, ground := Ground.guard }], guard := some (29, false) }) (v := ?_) rfl (by kernel_rfl) (by kernel_rfl) (by kernel_rfl) (fun _ _ _ h => h) (Or.inl ⟨by rfl, ?_⟩) hHeld ?_
      rotate_left 1
      · intro u hSu
        obtain ⟨⟨a0, a1, a2⟩, -⟩ := row3i (kept_row HF.out.1 hSu.out (by simp))
        obtain ⟨⟨b0, b1, b2⟩, -⟩ := row3i (kept_row HF.out.2.1 hSu.out (by simp))
        go_simp
        first | done | with_reducible rfl
      (try simp only [Act.put, List.setIfInBounds_toArray, List.set_cons_zero, List.set_cons_succ])
      refine wpAnyH_take (i := 32) (oi := { dst := some 52, op := Op.load 26 (Operand.tmp 5), type := 26, pos := "law.go:45", after := #[{ on := 29, ground := Ground.guard }], guard := some (29, false) }) (v := ?_) rfl (by kernel_rfl) (by kernel_rfl) (by kernel_rfl) (fun _ _ _ h => h) (Or.inl ⟨by rfl, ?_⟩) hHeld ?_
      rotate_left 1
      · intro u hSu
        obtain ⟨⟨a0, a1, a2⟩, -⟩ := row3i (kept_row HF.out.1 hSu.out (by simp))
        obtain ⟨⟨b0, b1, b2⟩, -⟩ := row3i (kept_row HF.out.2.1 hSu.out (by simp))
        go_simp
        first | done | with_reducible rfl
      (try simp only [Act.put, List.setIfInBounds_toArray, List.set_cons_zero, List.set_cons_succ])
      refine wpAnyH_ready (rs := [31]) (by kernel_rfl) (by simp) ?_
      refine AllReadyH.cons (o := { dst := some 51, op := Op.call { callee := Callee.value (Operand.func 11), args := #[Operand.tmp 50], argTypes := #[26] }, type := 4, pos := "law.go:45", after := #[{ on := 30, ground := Ground.data }, { on := 29, ground := Ground.chain }, { on := 29, ground := Ground.guard }], guard := some (29, false) }) rfl (fun Kz hK => ?_) AllReadyH.nil
      go_simp
      go_at_call 11
      refine (ivplan_any s0 n0 E0 pp pc _ _ (HF.out.2.2.2.2.1.keep hHeld.out) hpm).mono ?_
      rintro e w7 ⟨rfl, hg⟩
      have H7n : Hid (w6.grownBy w7 none) := Lib.hid (grown_trans hHeld.out hg)
      clear hg
      refine hK.out _ _ (H7n) (fun hH2 => ?_)
      clear hK Kz hHeld
      have hHeld := hH2
      clear hH2
      (try simp only [Act.put, List.setIfInBounds_toArray, List.set_cons_zero, List.set_cons_succ])
      refine wpAnyH_ready (rs := [33]) (by kernel_rfl) (by simp) ?_
      refine AllReadyH.cons (o := { dst := some 53, op := Op.call { callee := Callee.value (Operand.func 12), args := #[Operand.tmp 52], argTypes := #[26] }, type := 4, pos := "law.go:45", after := #[{ on := 32, ground := Ground.data }, { on := 31, ground := Ground.chain }, { on := 29, ground := Ground.guard }], guard := some (29, false) }) rfl (fun Kz hK => ?_) AllReadyH.nil
      go_simp
      go_at_call 12
      refine (irvplan_any s0 n0 E0 pp pc _ _ (HF.out.2.2.2.2.1.keep hHeld.out) hpm).mono ?_
      rintro e w7 ⟨rfl, hg⟩
      have H7n : Hid (w6.grownBy w7 none) := Lib.hid (grown_trans hHeld.out hg)
      clear hg
      refine hK.out _ _ (H7n) (fun hH2 => ?_)
      clear hK Kz hHeld
      have hHeld := hH2
      clear hH2
      (try simp only [Act.put, List.setIfInBounds_toArray, List.set_cons_zero, List.set_cons_succ])
      refine wpAnyH_take (i := 34) (oi := { dst := some 54, op := Op.binOp BinOp.eql 4 (Operand.tmp 51) (Operand.tmp 53) 4, type := 4, pos := "law.go:45", after := #[{ on := 31, ground := Ground.data }, { on := 33, ground := Ground.data }, { on := 29, ground := Ground.guard }], guard := some (29, false) }) (v := .bool true) rfl (by kernel_rfl) (by kernel_rfl) (by kernel_rfl) (fun _ _ _ h => h) (Or.inl ⟨by rfl, ?_⟩) hHeld ?_
      · intro u hSu
        obtain ⟨⟨a0, a1, a2⟩, -⟩ := row3i (kept_row HF.out.1 hSu.out (by simp))
        obtain ⟨⟨b0, b1, b2⟩, -⟩ := row3i (kept_row HF.out.2.1 hSu.out (by simp))
        go_simp
        try simp
      (try simp only [Act.put, List.setIfInBounds_toArray, List.set_cons_zero, List.set_cons_succ])
      refine wpAnyH_take (i := 35) (oi := { dst := some 55, op := Op.pick (Operand.tmp 49) (Operand.const (Value.bool true)) (Operand.tmp 54), type := 4, pos := "law.go:45", after := #[{ on := 29, ground := Ground.data }, { on := 34, ground := Ground.data }, { on := 24, ground := Ground.guard }], guard := some (24, true) }) (v := ?_) rfl (by kernel_rfl) (by kernel_rfl) (by kernel_rfl) (fun _ _ _ h => h) (Or.inl ⟨by rfl, ?_⟩) hHeld ?_
      rotate_left 1
      · intro u hSu
        obtain ⟨⟨a0, a1, a2⟩, -⟩ := row3i (kept_row HF.out.1 hSu.out (by simp))
        obtain ⟨⟨b0, b1, b2⟩, -⟩ := row3i (kept_row HF.out.2.1 hSu.out (by simp))
        go_simp
        first | done | with_reducible rfl
      (try simp only [Act.put, List.setIfInBounds_toArray, List.set_cons_zero, List.set_cons_succ])
      refine wpAnyH_take (i := 36) (oi := { dst := some 56, op := Op.pick (Operand.tmp 44) (Operand.tmp 55) (Operand.const (Value.bool false)), type := 4, pos := "law.go:45", after := #[{ on := 24, ground := Ground.data }, { on := 35, ground := Ground.data }], guard := none }) (v := ?_) rfl (by kernel_rfl) (by kernel_rfl) (by kernel_rfl) (fun _ _ _ h => h) (Or.inl ⟨by rfl, ?_⟩) hHeld ?_
      rotate_left 1
      · intro u hSu
        obtain ⟨⟨a0, a1, a2⟩, -⟩ := row3i (kept_row HF.out.1 hSu.out (by simp))
        obtain ⟨⟨b0, b1, b2⟩, -⟩ := row3i (kept_row HF.out.2.1 hSu.out (by simp))
        go_simp
        first | done | with_reducible rfl
      (try simp only [Act.put, List.setIfInBounds_toArray, List.set_cons_zero, List.set_cons_succ])
      refine wpAnyH_take (i := 37) (oi := { dst := some 57, op := Op.move (Operand.tmp 56), type := 4, pos := "law.go:45", after := #[{ on := 36, ground := Ground.data }, { on := 33, ground := Ground.chain }], guard := none }) (v := ?_) rfl (by kernel_rfl) (by kernel_rfl) (by kernel_rfl) (fun _ _ _ h => h) (Or.inl ⟨by rfl, ?_⟩) hHeld ?_
      rotate_left 1
      · intro u hSu
        obtain ⟨⟨a0, a1, a2⟩, -⟩ := row3i (kept_row HF.out.1 hSu.out (by simp))
        obtain ⟨⟨b0, b1, b2⟩, -⟩ := row3i (kept_row HF.out.2.1 hSu.out (by simp))
        go_simp
        first | done | with_reducible rfl
      (try simp only [Act.put, List.setIfInBounds_toArray, List.set_cons_zero, List.set_cons_succ])
      refine wpAnyH_ready (rs := [38]) (by kernel_rfl) (by simp) ?_
      refine AllReadyH.cons (o := { dst := some 58, op := Op.call { callee := Callee.value (Operand.func 13), args := #[], argTypes := #[] }, type := 4, pos := "law.go:45", after := #[{ on := 37, ground := Ground.chain }, { on := 37, ground := Ground.guard }], guard := some (37, true) }) rfl (fun Kz hK => ?_) AllReadyH.nil
      go_simp
      go_at_call 13
      refine (iawake_any _).mono ?_
      rintro e w7 ⟨rfl, hg⟩
      have H7n : Hid (w6.grownBy w7 none) := Lib.hid (grown_trans hHeld.out hg)
      clear hg
      refine hK.out _ _ (H7n) (fun hH2 => ?_)
      clear hK Kz hHeld
      have hHeld := hH2
      clear hH2
      (try simp only [Act.put, List.setIfInBounds_toArray, List.set_cons_zero, List.set_cons_succ])
      refine wpAnyH_take (i := 39) (oi := { dst := some 59, op := Op.pick (Operand.tmp 57) (Operand.tmp 58) (Operand.const (Value.bool false)), type := 4, pos := "law.go:45", after := #[{ on := 37, ground := Ground.data }, { on := 38, ground := Ground.data }], guard := none }) (v := ?_) rfl (by kernel_rfl) (by kernel_rfl) (by kernel_rfl) (fun _ _ _ h => h) (Or.inl ⟨by rfl, ?_⟩) hHeld ?_
      rotate_left 1
      · intro u hSu
        obtain ⟨⟨a0, a1, a2⟩, -⟩ := row3i (kept_row HF.out.1 hSu.out (by simp))
        obtain ⟨⟨b0, b1, b2⟩, -⟩ := row3i (kept_row HF.out.2.1 hSu.out (by simp))
        go_simp
        first | done | with_reducible rfl
      (try simp only [Act.put, List.setIfInBounds_toArray, List.set_cons_zero, List.set_cons_succ])
      refine wpAnyH_take (i := 40) (oi := { dst := some 6, op := Op.assign (Operand.tmp 59), type := 4, pos := "law.go:45", after := #[{ on := 39, ground := Ground.data }, { on := 38, ground := Ground.chain }, { on := 0, ground := Ground.phase }, { on := 1, ground := Ground.phase }, { on := 2, ground := Ground.phase }, { on := 3, ground := Ground.phase }, { on := 4, ground := Ground.phase }, { on := 5, ground := Ground.phase }, { on := 6, ground := Ground.phase }, { on := 7, ground := Ground.phase }, { on := 8, ground := Ground.phase }, { on := 9, ground := Ground.phase }, { on := 10, ground := Ground.phase }, { on := 11, ground := Ground.phase }, { on := 12, ground := Ground.phase }, { on := 13, ground := Ground.phase }, { on := 14, ground := Ground.phase }, { on := 15, ground := Ground.phase }, { on := 16, ground := Ground.phase }, { on := 17, ground := Ground.phase }, { on := 18, ground := Ground.phase }, { on := 19, ground := Ground.phase }, { on := 20, ground := Ground.phase }, { on := 21, ground := Ground.phase }, { on := 22, ground := Ground.phase }, { on := 23, ground := Ground.phase }, { on := 24, ground := Ground.phase }, { on := 25, ground := Ground.phase }, { on := 26, ground := Ground.phase }, { on := 27, ground := Ground.phase }, { on := 28, ground := Ground.phase }, { on := 29, ground := Ground.phase }, { on := 30, ground := Ground.phase }, { on := 31, ground := Ground.phase }, { on := 32, ground := Ground.phase }, { on := 33, ground := Ground.phase }, { on := 34, ground := Ground.phase }, { on := 35, ground := Ground.phase }, { on := 36, ground := Ground.phase }, { on := 37, ground := Ground.phase }, { on := 38, ground := Ground.phase }, { on := 39, ground := Ground.phase }], guard := none }) (v := ?_) rfl (by kernel_rfl) (by kernel_rfl) (by kernel_rfl) (fun _ _ _ h => h) (Or.inl ⟨by rfl, ?_⟩) hHeld ?_
      rotate_left 1
      · intro u hSu
        obtain ⟨⟨a0, a1, a2⟩, -⟩ := row3i (kept_row HF.out.1 hSu.out (by simp))
        obtain ⟨⟨b0, b1, b2⟩, -⟩ := row3i (kept_row HF.out.2.1 hSu.out (by simp))
        go_simp
        first | done | with_reducible rfl
      (try simp only [Act.put, List.setIfInBounds_toArray, List.set_cons_zero, List.set_cons_succ])
      refine wpAnyH_done (by kernel_rfl) ?_ _
      have G := Lib.hid (grown_trans HF.out.2.2.1 hHeld.out)
      clear hHeld HF GZ
      go_wp2_with fail
      go_ret
      exact ⟨rfl, G.out⟩
  · by_cases h2 : (200 : Int) < (E0.length : Int)
    · skip
      refine wp_region_held_drew (S := fun w' => Hid (w6.grownBy w' none)) (by kernel_rfl) (hid_drew GZ) (fun hHeld => ?_)
      refine wpAnyH_take (i := 0) (oi := { dst := some 20, op := Op.move (Operand.tmp 8), type := 23, pos := "law.go:45", after := #[], guard := none }) (v := ?_) rfl (by kernel_rfl) (by kernel_rfl) (by kernel_rfl) (fun _ _ _ h => h) (Or.inl ⟨by rfl, ?_⟩) hHeld ?_
      rotate_left 1
      · intro u hSu
        obtain ⟨⟨a0, a1, a2⟩, -⟩ := row3i (kept_row HF.out.1 hSu.out (by simp))
        obtain ⟨⟨b0, b1, b2⟩, -⟩ := row3i (kept_row HF.out.2.1 hSu.out (by simp))
        go_simp
        first | done | with_reducible rfl
      (try simp only [Act.put, List.setIfInBounds_toArray, List.set_cons_zero, List.set_cons_succ])
      refine wpAnyH_take (i := 2) (oi := { dst := some 22, op := Op.move (Operand.tmp 8), type := 23, pos := "law.go:45", after := #[], guard := none }) (v := ?_) rfl (by kernel_rfl) (by kernel_rfl) (by kernel_rfl) (fun _ _ _ h => h) (Or.inl ⟨by rfl, ?_⟩) hHeld ?_
      rotate_left 1
      · intro u hSu
        obtain ⟨⟨a0, a1, a2⟩, -⟩ := row3i (kept_row HF.out.1 hSu.out (by simp))
        obtain ⟨⟨b0, b1, b2⟩, -⟩ := row3i (kept_row HF.out.2.1 hSu.out (by simp))
        go_simp
        first | done | with_reducible rfl
      (try simp only [Act.put, List.setIfInBounds_toArray, List.set_cons_zero, List.set_cons_succ])
      refine wpAnyH_ready (rs := [1]) (by kernel_rfl) (by simp) ?_
      refine AllReadyH.cons (o := { dst := some 21, op := Op.call { callee := Callee.value (Operand.func 9), args := #[Operand.tmp 20], argTypes := #[23] }, type := 37, pos := "law.go:45", after := #[{ on := 0, ground := Ground.data }], guard := none }) rfl (fun Kz hK => ?_) AllReadyH.nil
      go_simp
      go_at_call 9
      refine (icheck_any l p c _ _ (HF.out.2.2.2.2.2.1.keep hHeld.out) hlm).mono ?_
      rintro e w7 ⟨rfl, hg⟩
      have H7n : Hid (w6.grownBy w7 none) := Lib.hid (grown_trans hHeld.out hg)
      clear hg
      refine hK.out _ _ (H7n) (fun hH2 => ?_)
      clear hK Kz hHeld
      have hHeld := hH2
      clear hH2
      (try simp only [Act.put, List.setIfInBounds_toArray, List.set_cons_zero, List.set_cons_succ])
      refine wpAnyH_ready (rs := [3]) (by kernel_rfl) (by simp) ?_
      refine AllReadyH.cons (o := { dst := some 23, op := Op.call { callee := Callee.value (Operand.func 10), args := #[Operand.tmp 22], argTypes := #[23] }, type := 37, pos := "law.go:45", after := #[{ on := 2, ground := Ground.data }, { on := 1, ground := Ground.chain }], guard := none }) rfl (fun Kz hK => ?_) AllReadyH.nil
      go_simp
      go_at_call 10
      refine (ircheck_any l p c _ _ (HF.out.2.2.2.2.2.1.keep hHeld.out) hlm).mono ?_
      rintro e w7 ⟨rfl, hg⟩
      have H7n : Hid (w6.grownBy w7 none) := Lib.hid (grown_trans hHeld.out hg)
      clear hg
      refine hK.out _ _ (H7n) (fun hH2 => ?_)
      clear hK Kz hHeld
      have hHeld := hH2
      clear hH2
      (try simp only [Act.put, List.setIfInBounds_toArray, List.set_cons_zero, List.set_cons_succ])
      refine wpAnyH_take (i := 4) (oi := { dst := some 24, op := Op.binOp BinOp.eql 37 (Operand.tmp 21) (Operand.tmp 23) 37, type := 4, pos := "law.go:45", after := #[{ on := 1, ground := Ground.data }, { on := 3, ground := Ground.data }], guard := none }) (v := .bool true) rfl (by kernel_rfl) (by kernel_rfl) (by kernel_rfl) (fun _ _ _ h => h) (Or.inl ⟨by rfl, ?_⟩) hHeld ?_
      · intro u hSu
        obtain ⟨⟨a0, a1, a2⟩, -⟩ := row3i (kept_row HF.out.1 hSu.out (by simp))
        obtain ⟨⟨b0, b1, b2⟩, -⟩ := row3i (kept_row HF.out.2.1 hSu.out (by simp))
        go_simp
        try simp
      (try simp only [Act.put, List.setIfInBounds_toArray, List.set_cons_zero, List.set_cons_succ])
      refine wpAnyH_take (i := 5) (oi := { dst := some 25, op := Op.move (Operand.tmp 24), type := 4, pos := "law.go:45", after := #[{ on := 4, ground := Ground.data }, { on := 3, ground := Ground.chain }], guard := none }) (v := ?_) rfl (by kernel_rfl) (by kernel_rfl) (by kernel_rfl) (fun _ _ _ h => h) (Or.inl ⟨by rfl, ?_⟩) hHeld ?_
      rotate_left 1
      · intro u hSu
        obtain ⟨⟨a0, a1, a2⟩, -⟩ := row3i (kept_row HF.out.1 hSu.out (by simp))
        obtain ⟨⟨b0, b1, b2⟩, -⟩ := row3i (kept_row HF.out.2.1 hSu.out (by simp))
        go_simp
        first | done | with_reducible rfl
      (try simp only [Act.put, List.setIfInBounds_toArray, List.set_cons_zero, List.set_cons_succ])
      refine wpAnyH_take (i := 6) (oi := { dst := some 26, op := Op.move (Operand.tmp 1), type := 23, pos := "law.go:45", after := #[{ on := 5, ground := Ground.guard }], guard := some (5, true) }) (v := ?_) rfl (by kernel_rfl) (by kernel_rfl) (by kernel_rfl) (fun _ _ _ h => h) (Or.inl ⟨by rfl, ?_⟩) hHeld ?_
      rotate_left 1
      · intro u hSu
        obtain ⟨⟨a0, a1, a2⟩, -⟩ := row3i (kept_row HF.out.1 hSu.out (by simp))
        obtain ⟨⟨b0, b1, b2⟩, -⟩ := row3i (kept_row HF.out.2.1 hSu.out (by simp))
        go_simp
        first | done | with_reducible rfl
      (try simp only [Act.put, List.setIfInBounds_toArray, List.set_cons_zero, List.set_cons_succ])
      refine wpAnyH_take (i := 7) (oi := { dst := some 27, op := Op.call { callee := Callee.builtin Builtin.len, args := #[Operand.tmp 26], argTypes := #[23] }, type := 3, pos := "law.go:45", after := #[{ on := 6, ground := Ground.data }, { on := 5, ground := Ground.guard }], guard := some (5, true) }) (v := ?_) rfl (by kernel_rfl) (by kernel_rfl) (by kernel_rfl) (fun _ _ _ h => h) (Or.inl ⟨by rfl, ?_⟩) hHeld ?_
      rotate_left 1
      · intro u hSu
        obtain ⟨⟨a0, a1, a2⟩, -⟩ := row3i (kept_row HF.out.1 hSu.out (by simp))
        obtain ⟨⟨b0, b1, b2⟩, -⟩ := row3i (kept_row HF.out.2.1 hSu.out (by simp))
        go_simp
        first | done | with_reducible rfl
      (try simp only [Act.put, List.setIfInBounds_toArray, List.set_cons_zero, List.set_cons_succ])
      refine wpAnyH_take (i := 8) (oi := { dst := some 28, op := Op.binOp BinOp.gtr 3 (Operand.tmp 27) (Operand.const (Value.int IntKind.i64 400)) 3, type := 4, pos := "law.go:45", after := #[{ on := 7, ground := Ground.data }, { on := 5, ground := Ground.guard }], guard := some (5, true) }) (v := .bool false) rfl (by kernel_rfl) (by kernel_rfl) (by kernel_rfl) (fun _ _ _ h => h) (Or.inl ⟨by rfl, ?_⟩) hHeld ?_
      · intro u hSu
        obtain ⟨⟨a0, a1, a2⟩, -⟩ := row3i (kept_row HF.out.1 hSu.out (by simp))
        obtain ⟨⟨b0, b1, b2⟩, -⟩ := row3i (kept_row HF.out.2.1 hSu.out (by simp))
        go_simp
        try simp
        try omega
      (try simp only [Act.put, List.setIfInBounds_toArray, List.set_cons_zero, List.set_cons_succ])
      refine wpAnyH_take (i := 9) (oi := { dst := some 29, op := Op.move (Operand.tmp 28), type := 4, pos := "law.go:45", after := #[{ on := 8, ground := Ground.data }, { on := 5, ground := Ground.chain }, { on := 5, ground := Ground.guard }], guard := some (5, true) }) (v := ?_) rfl (by kernel_rfl) (by kernel_rfl) (by kernel_rfl) (fun _ _ _ h => h) (Or.inl ⟨by rfl, ?_⟩) hHeld ?_
      rotate_left 1
      · intro u hSu
        obtain ⟨⟨a0, a1, a2⟩, -⟩ := row3i (kept_row HF.out.1 hSu.out (by simp))
        obtain ⟨⟨b0, b1, b2⟩, -⟩ := row3i (kept_row HF.out.2.1 hSu.out (by simp))
        go_simp
        first | done | with_reducible rfl
      (try simp only [Act.put, List.setIfInBounds_toArray, List.set_cons_zero, List.set_cons_succ])
      refine wpAnyH_take (i := 10) (oi := { dst := some 30, op := Op.move (Operand.tmp 1), type := 23, pos := "law.go:45", after := #[{ on := 9, ground := Ground.guard }], guard := some (9, false) }) (v := ?_) rfl (by kernel_rfl) (by kernel_rfl) (by kernel_rfl) (fun _ _ _ h => h) (Or.inl ⟨by rfl, ?_⟩) hHeld ?_
      rotate_left 1
      · intro u hSu
        obtain ⟨⟨a0, a1, a2⟩, -⟩ := row3i (kept_row HF.out.1 hSu.out (by simp))
        obtain ⟨⟨b0, b1, b2⟩, -⟩ := row3i (kept_row HF.out.2.1 hSu.out (by simp))
        go_simp
        first | done | with_reducible rfl
      (try simp only [Act.put, List.setIfInBounds_toArray, List.set_cons_zero, List.set_cons_succ])
      refine wpAnyH_take (i := 12) (oi := { dst := some 32, op := Op.move (Operand.tmp 1), type := 23, pos := "law.go:45", after := #[{ on := 9, ground := Ground.guard }], guard := some (9, false) }) (v := ?_) rfl (by kernel_rfl) (by kernel_rfl) (by kernel_rfl) (fun _ _ _ h => h) (Or.inl ⟨by rfl, ?_⟩) hHeld ?_
      rotate_left 1
      · intro u hSu
        obtain ⟨⟨a0, a1, a2⟩, -⟩ := row3i (kept_row HF.out.1 hSu.out (by simp))
        obtain ⟨⟨b0, b1, b2⟩, -⟩ := row3i (kept_row HF.out.2.1 hSu.out (by simp))
        go_simp
        first | done | with_reducible rfl
      (try simp only [Act.put, List.setIfInBounds_toArray, List.set_cons_zero, List.set_cons_succ])
      refine wpAnyH_ready (rs := [11]) (by kernel_rfl) (by simp) ?_
      refine AllReadyH.cons (o := { dst := some 31, op := Op.call { callee := Callee.value (Operand.func 9), args := #[Operand.tmp 30], argTypes := #[23] }, type := 37, pos := "law.go:45", after := #[{ on := 10, ground := Ground.data }, { on := 9, ground := Ground.chain }, { on := 9, ground := Ground.guard }], guard := some (9, false) }) rfl (fun Kz hK => ?_) AllReadyH.nil
      go_simp
      go_at_call 9
      refine (icheck_any rl rp rc _ _ (HF.out.2.2.2.1.keep hHeld.out) hrm).mono ?_
      rintro e w7 ⟨rfl, hg⟩
      have H7n : Hid (w6.grownBy w7 none) := Lib.hid (grown_trans hHeld.out hg)
      clear hg
      refine hK.out _ _ (H7n) (fun hH2 => ?_)
      clear hK Kz hHeld
      have hHeld := hH2
      clear hH2
      (try simp only [Act.put, List.setIfInBounds_toArray, List.set_cons_zero, List.set_cons_succ])
      refine wpAnyH_ready (rs := [13]) (by kernel_rfl) (by simp) ?_
      refine AllReadyH.cons (o := { dst := some 33, op := Op.call { callee := Callee.value (Operand.func 10), args := #[Operand.tmp 32], argTypes := #[23] }, type := 37, pos := "law.go:45", after := #[{ on := 12, ground := Ground.data }, { on := 11, ground := Ground.chain }, { on := 9, ground := Ground.guard }], guard := some (9, false) }) rfl (fun Kz hK => ?_) AllReadyH.nil
      go_simp
      go_at_call 10
      refine (ircheck_any rl rp rc _ _ (HF.out.2.2.2.1.keep hHeld.out) hrm).mono ?_
      rintro e w7 ⟨rfl, hg⟩
      have H7n : Hid (w6.grownBy w7 none) := Lib.hid (grown_trans hHeld.out hg)
      clear hg
      refine hK.out _ _ (H7n) (fun hH2 => ?_)
      clear hK Kz hHeld
      have hHeld := hH2
      clear hH2
      (try simp only [Act.put, List.setIfInBounds_toArray, List.set_cons_zero, List.set_cons_succ])
      refine wpAnyH_take (i := 14) (oi := { dst := some 34, op := Op.binOp BinOp.eql 37 (Operand.tmp 31) (Operand.tmp 33) 37, type := 4, pos := "law.go:45", after := #[{ on := 11, ground := Ground.data }, { on := 13, ground := Ground.data }, { on := 9, ground := Ground.guard }], guard := some (9, false) }) (v := .bool true) rfl (by kernel_rfl) (by kernel_rfl) (by kernel_rfl) (fun _ _ _ h => h) (Or.inl ⟨by rfl, ?_⟩) hHeld ?_
      · intro u hSu
        obtain ⟨⟨a0, a1, a2⟩, -⟩ := row3i (kept_row HF.out.1 hSu.out (by simp))
        obtain ⟨⟨b0, b1, b2⟩, -⟩ := row3i (kept_row HF.out.2.1 hSu.out (by simp))
        go_simp
        try simp
      (try simp only [Act.put, List.setIfInBounds_toArray, List.set_cons_zero, List.set_cons_succ])
      refine wpAnyH_take (i := 15) (oi := { dst := some 35, op := Op.pick (Operand.tmp 29) (Operand.const (Value.bool true)) (Operand.tmp 34), type := 4, pos := "law.go:45", after := #[{ on := 9, ground := Ground.data }, { on := 14, ground := Ground.data }, { on := 5, ground := Ground.guard }], guard := some (5, true) }) (v := ?_) rfl (by kernel_rfl) (by kernel_rfl) (by kernel_rfl) (fun _ _ _ h => h) (Or.inl ⟨by rfl, ?_⟩) hHeld ?_
      rotate_left 1
      · intro u hSu
        obtain ⟨⟨a0, a1, a2⟩, -⟩ := row3i (kept_row HF.out.1 hSu.out (by simp))
        obtain ⟨⟨b0, b1, b2⟩, -⟩ := row3i (kept_row HF.out.2.1 hSu.out (by simp))
        go_simp
        first | done | with_reducible rfl
      (try simp only [Act.put, List.setIfInBounds_toArray, List.set_cons_zero, List.set_cons_succ])
      refine wpAnyH_take (i := 16) (oi := { dst := some 36, op := Op.pick (Operand.tmp 25) (Operand.tmp 35) (Operand.const (Value.bool false)), type := 4, pos := "law.go:45", after := #[{ on := 5, ground := Ground.data }, { on := 15, ground := Ground.data }], guard := none }) (v := ?_) rfl (by kernel_rfl) (by kernel_rfl) (by kernel_rfl) (fun _ _ _ h => h) (Or.inl ⟨by rfl, ?_⟩) hHeld ?_
      rotate_left 1
      · intro u hSu
        obtain ⟨⟨a0, a1, a2⟩, -⟩ := row3i (kept_row HF.out.1 hSu.out (by simp))
        obtain ⟨⟨b0, b1, b2⟩, -⟩ := row3i (kept_row HF.out.2.1 hSu.out (by simp))
        go_simp
        first | done | with_reducible rfl
      (try simp only [Act.put, List.setIfInBounds_toArray, List.set_cons_zero, List.set_cons_succ])
      refine wpAnyH_take (i := 17) (oi := { dst := some 37, op := Op.move (Operand.tmp 36), type := 4, pos := "law.go:45", after := #[{ on := 16, ground := Ground.data }, { on := 13, ground := Ground.chain }], guard := none }) (v := ?_) rfl (by kernel_rfl) (by kernel_rfl) (by kernel_rfl) (fun _ _ _ h => h) (Or.inl ⟨by rfl, ?_⟩) hHeld ?_
      rotate_left 1
      · intro u hSu
        obtain ⟨⟨a0, a1, a2⟩, -⟩ := row3i (kept_row HF.out.1 hSu.out (by simp))
        obtain ⟨⟨b0, b1, b2⟩, -⟩ := row3i (kept_row HF.out.2.1 hSu.out (by simp))
        go_simp
        first | done | with_reducible rfl
      (try simp only [Act.put, List.setIfInBounds_toArray, List.set_cons_zero, List.set_cons_succ])
      refine wpAnyH_take (i := 18) (oi := { dst := some 38, op := Op.load 26 (Operand.tmp 9), type := 26, pos := "law.go:45", after := #[{ on := 17, ground := Ground.guard }], guard := some (17, true) }) (v := ?_) rfl (by kernel_rfl) (by kernel_rfl) (by kernel_rfl) (fun _ _ _ h => h) (Or.inl ⟨by rfl, ?_⟩) hHeld ?_
      rotate_left 1
      · intro u hSu
        obtain ⟨⟨a0, a1, a2⟩, -⟩ := row3i (kept_row HF.out.1 hSu.out (by simp))
        obtain ⟨⟨b0, b1, b2⟩, -⟩ := row3i (kept_row HF.out.2.1 hSu.out (by simp))
        go_simp
        first | done | with_reducible rfl
      (try simp only [Act.put, List.setIfInBounds_toArray, List.set_cons_zero, List.set_cons_succ])
      refine wpAnyH_take (i := 20) (oi := { dst := some 40, op := Op.load 26 (Operand.tmp 9), type := 26, pos := "law.go:45", after := #[{ on := 17, ground := Ground.guard }], guard := some (17, true) }) (v := ?_) rfl (by kernel_rfl) (by kernel_rfl) (by kernel_rfl) (fun _ _ _ h => h) (Or.inl ⟨by rfl, ?_⟩) hHeld ?_
      rotate_left 1
      · intro u hSu
        obtain ⟨⟨a0, a1, a2⟩, -⟩ := row3i (kept_row HF.out.1 hSu.out (by simp))
        obtain ⟨⟨b0, b1, b2⟩, -⟩ := row3i (kept_row HF.out.2.1 hSu.out (by simp))
        go_simp
        first | done | with_reducible rfl
      (try simp only [Act.put, List.setIfInBounds_toArray, List.set_cons_zero, List.set_cons_succ])
      refine wpAnyH_ready (rs := [19]) (by kernel_rfl) (by simp) ?_
      refine AllReadyH.cons (o := { dst := some 39, op := Op.call { callee := Callee.value (Operand.func 11), args := #[Operand.tmp 38], argTypes := #[26] }, type := 4, pos := "law.go:45", after := #[{ on := 18, ground := Ground.data }, { on := 17, ground := Ground.chain }, { on := 17, ground := Ground.guard }], guard := some (17, true) }) rfl (fun Kz hK => ?_) AllReadyH.nil
      go_simp
      go_at_call 11
      refine (ivplan_any s1 n1 E1 p1 c1 _ _ (HF.out.2.2.2.2.2.2.keep hHeld.out) hem).mono ?_
      rintro e w7 ⟨rfl, hg⟩
      have H7n : Hid (w6.grownBy w7 none) := Lib.hid (grown_trans hHeld.out hg)
      clear hg
      refine hK.out _ _ (H7n) (fun hH2 => ?_)
      clear hK Kz hHeld
      have hHeld := hH2
      clear hH2
      (try simp only [Act.put, List.setIfInBounds_toArray, List.set_cons_zero, List.set_cons_succ])
      refine wpAnyH_ready (rs := [21]) (by kernel_rfl) (by simp) ?_
      refine AllReadyH.cons (o := { dst := some 41, op := Op.call { callee := Callee.value (Operand.func 12), args := #[Operand.tmp 40], argTypes := #[26] }, type := 4, pos := "law.go:45", after := #[{ on := 20, ground := Ground.data }, { on := 19, ground := Ground.chain }, { on := 17, ground := Ground.guard }], guard := some (17, true) }) rfl (fun Kz hK => ?_) AllReadyH.nil
      go_simp
      go_at_call 12
      refine (irvplan_any s1 n1 E1 p1 c1 _ _ (HF.out.2.2.2.2.2.2.keep hHeld.out) hem).mono ?_
      rintro e w7 ⟨rfl, hg⟩
      have H7n : Hid (w6.grownBy w7 none) := Lib.hid (grown_trans hHeld.out hg)
      clear hg
      refine hK.out _ _ (H7n) (fun hH2 => ?_)
      clear hK Kz hHeld
      have hHeld := hH2
      clear hH2
      (try simp only [Act.put, List.setIfInBounds_toArray, List.set_cons_zero, List.set_cons_succ])
      refine wpAnyH_take (i := 22) (oi := { dst := some 42, op := Op.binOp BinOp.eql 4 (Operand.tmp 39) (Operand.tmp 41) 4, type := 4, pos := "law.go:45", after := #[{ on := 19, ground := Ground.data }, { on := 21, ground := Ground.data }, { on := 17, ground := Ground.guard }], guard := some (17, true) }) (v := .bool true) rfl (by kernel_rfl) (by kernel_rfl) (by kernel_rfl) (fun _ _ _ h => h) (Or.inl ⟨by rfl, ?_⟩) hHeld ?_
      · intro u hSu
        obtain ⟨⟨a0, a1, a2⟩, -⟩ := row3i (kept_row HF.out.1 hSu.out (by simp))
        obtain ⟨⟨b0, b1, b2⟩, -⟩ := row3i (kept_row HF.out.2.1 hSu.out (by simp))
        go_simp
        try simp
      (try simp only [Act.put, List.setIfInBounds_toArray, List.set_cons_zero, List.set_cons_succ])
      refine wpAnyH_take (i := 23) (oi := { dst := some 43, op := Op.pick (Operand.tmp 37) (Operand.tmp 42) (Operand.const (Value.bool false)), type := 4, pos := "law.go:45", after := #[{ on := 17, ground := Ground.data }, { on := 22, ground := Ground.data }], guard := none }) (v := ?_) rfl (by kernel_rfl) (by kernel_rfl) (by kernel_rfl) (fun _ _ _ h => h) (Or.inl ⟨by rfl, ?_⟩) hHeld ?_
      rotate_left 1
      · intro u hSu
        obtain ⟨⟨a0, a1, a2⟩, -⟩ := row3i (kept_row HF.out.1 hSu.out (by simp))
        obtain ⟨⟨b0, b1, b2⟩, -⟩ := row3i (kept_row HF.out.2.1 hSu.out (by simp))
        go_simp
        first | done | with_reducible rfl
      (try simp only [Act.put, List.setIfInBounds_toArray, List.set_cons_zero, List.set_cons_succ])
      refine wpAnyH_take (i := 24) (oi := { dst := some 44, op := Op.move (Operand.tmp 43), type := 4, pos := "law.go:45", after := #[{ on := 23, ground := Ground.data }, { on := 21, ground := Ground.chain }], guard := none }) (v := ?_) rfl (by kernel_rfl) (by kernel_rfl) (by kernel_rfl) (fun _ _ _ h => h) (Or.inl ⟨by rfl, ?_⟩) hHeld ?_
      rotate_left 1
      · intro u hSu
        obtain ⟨⟨a0, a1, a2⟩, -⟩ := row3i (kept_row HF.out.1 hSu.out (by simp))
        obtain ⟨⟨b0, b1, b2⟩, -⟩ := row3i (kept_row HF.out.2.1 hSu.out (by simp))
        go_simp
        first | done | with_reducible rfl
      (try simp only [Act.put, List.setIfInBounds_toArray, List.set_cons_zero, List.set_cons_succ])
      refine wpAnyH_take (i := 25) (oi := { dst := some 45, op := Op.fieldAddr 26 (Operand.tmp 5) 2, type := 0, pos := "law.go:45", after := #[{ on := 24, ground := Ground.guard }], guard := some (24, true) }) (v := ?_) rfl (by kernel_rfl) (by kernel_rfl) (by kernel_rfl) (fun _ _ _ h => h) (Or.inl ⟨by rfl, ?_⟩) hHeld ?_
      rotate_left 1
      · intro u hSu
        obtain ⟨⟨a0, a1, a2⟩, -⟩ := row3i (kept_row HF.out.1 hSu.out (by simp))
        obtain ⟨⟨b0, b1, b2⟩, -⟩ := row3i (kept_row HF.out.2.1 hSu.out (by simp))
        go_simp
        first | done | with_reducible rfl
      (try simp only [Act.put, List.setIfInBounds_toArray, List.set_cons_zero, List.set_cons_succ])
      refine wpAnyH_take (i := 26) (oi := { dst := some 46, op := Op.load 24 (Operand.tmp 45), type := 24, pos := "law.go:45", after := #[{ on := 25, ground := Ground.data }, { on := 24, ground := Ground.guard }], guard := some (24, true) }) (v := ?_) rfl (by kernel_rfl) (by kernel_rfl) (by kernel_rfl) (fun _ _ _ h => h) (Or.inl ⟨by rfl, ?_⟩) hHeld ?_
      rotate_left 1
      · intro u hSu
        obtain ⟨⟨a0, a1, a2⟩, -⟩ := row3i (kept_row HF.out.1 hSu.out (by simp))
        obtain ⟨⟨b0, b1, b2⟩, -⟩ := row3i (kept_row HF.out.2.1 hSu.out (by simp))
        go_simp
        first | done | with_reducible rfl
      (try simp only [Act.put, List.setIfInBounds_toArray, List.set_cons_zero, List.set_cons_succ])
      refine wpAnyH_take (i := 27) (oi := { dst := some 47, op := Op.call { callee := Callee.builtin Builtin.len, args := #[Operand.tmp 46], argTypes := #[24] }, type := 3, pos := "law.go:45", after := #[{ on := 26, ground := Ground.data }, { on := 24, ground := Ground.guard }], guard := some (24, true) }) (v := ?_) rfl (by kernel_rfl) (by kernel_rfl) (by kernel_rfl) (fun _ _ _ h => h) (Or.inl ⟨by rfl, ?_⟩) hHeld ?_
      rotate_left 1
      · intro u hSu
        obtain ⟨⟨a0, a1, a2⟩, -⟩ := row3i (kept_row HF.out.1 hSu.out (by simp))
        obtain ⟨⟨b0, b1, b2⟩, -⟩ := row3i (kept_row HF.out.2.1 hSu.out (by simp))
        go_simp
        first | done | with_reducible rfl
      (try simp only [Act.put, List.setIfInBounds_toArray, List.set_cons_zero, List.set_cons_succ])
      refine wpAnyH_take (i := 28) (oi := { dst := some 48, op := Op.binOp BinOp.gtr 3 (Operand.tmp 47) (Operand.const (Value.int IntKind.i64 200)) 3, type := 4, pos := "law.go:45", after := #[{ on := 27, ground := Ground.data }, { on := 24, ground := Ground.guard }], guard := some (24, true) }) (v := .bool true) rfl (by kernel_rfl) (by kernel_rfl) (by kernel_rfl) (fun _ _ _ h => h) (Or.inl ⟨by rfl, ?_⟩) hHeld ?_
      · intro u hSu
        obtain ⟨⟨a0, a1, a2⟩, -⟩ := row3i (kept_row HF.out.1 hSu.out (by simp))
        obtain ⟨⟨b0, b1, b2⟩, -⟩ := row3i (kept_row HF.out.2.1 hSu.out (by simp))
        go_simp
        try simp
        try omega
      (try simp only [Act.put, List.setIfInBounds_toArray, List.set_cons_zero, List.set_cons_succ])
      refine wpAnyH_take (i := 29) (oi := { dst := some 49, op := Op.move (Operand.tmp 48), type := 4, pos := "law.go:45", after := #[{ on := 28, ground := Ground.data }, { on := 24, ground := Ground.chain }, { on := 24, ground := Ground.guard }], guard := some (24, true) }) (v := ?_) rfl (by kernel_rfl) (by kernel_rfl) (by kernel_rfl) (fun _ _ _ h => h) (Or.inl ⟨by rfl, ?_⟩) hHeld ?_
      rotate_left 1
      · intro u hSu
        obtain ⟨⟨a0, a1, a2⟩, -⟩ := row3i (kept_row HF.out.1 hSu.out (by simp))
        obtain ⟨⟨b0, b1, b2⟩, -⟩ := row3i (kept_row HF.out.2.1 hSu.out (by simp))
        go_simp
        first | done | with_reducible rfl
      (try simp only [Act.put, List.setIfInBounds_toArray, List.set_cons_zero, List.set_cons_succ])
      refine wpAnyH_take (i := 30) (oi := { dst := some 50, op := Op.load 26 (Operand.tmp 5), type := 26, pos := "law.go:45", after := #[{ on := 29, ground := Ground.guard }], guard := some (29, false) }) (v := undef) rfl (by kernel_rfl) (by kernel_rfl) (by kernel_rfl) (fun _ _ _ h => h) (Or.inr ⟨by rfl, rfl⟩) hHeld ?_
      (try simp only [Act.put, List.setIfInBounds_toArray, List.set_cons_zero, List.set_cons_succ])
      refine wpAnyH_take (i := 31) (oi := { dst := some 51, op := Op.call { callee := Callee.value (Operand.func 11), args := #[Operand.tmp 50], argTypes := #[26] }, type := 4, pos := "law.go:45", after := #[{ on := 30, ground := Ground.data }, { on := 29, ground := Ground.chain }, { on := 29, ground := Ground.guard }], guard := some (29, false) }) (v := undef) rfl (by kernel_rfl) (by kernel_rfl) (by kernel_rfl) (fun _ _ _ h => h) (Or.inr ⟨by rfl, rfl⟩) hHeld ?_
      (try simp only [Act.put, List.setIfInBounds_toArray, List.set_cons_zero, List.set_cons_succ])
      refine wpAnyH_take (i := 32) (oi := { dst := some 52, op := Op.load 26 (Operand.tmp 5), type := 26, pos := "law.go:45", after := #[{ on := 29, ground := Ground.guard }], guard := some (29, false) }) (v := undef) rfl (by kernel_rfl) (by kernel_rfl) (by kernel_rfl) (fun _ _ _ h => h) (Or.inr ⟨by rfl, rfl⟩) hHeld ?_
      (try simp only [Act.put, List.setIfInBounds_toArray, List.set_cons_zero, List.set_cons_succ])
      refine wpAnyH_take (i := 33) (oi := { dst := some 53, op := Op.call { callee := Callee.value (Operand.func 12), args := #[Operand.tmp 52], argTypes := #[26] }, type := 4, pos := "law.go:45", after := #[{ on := 32, ground := Ground.data }, { on := 31, ground := Ground.chain }, { on := 29, ground := Ground.guard }], guard := some (29, false) }) (v := undef) rfl (by kernel_rfl) (by kernel_rfl) (by kernel_rfl) (fun _ _ _ h => h) (Or.inr ⟨by rfl, rfl⟩) hHeld ?_
      (try simp only [Act.put, List.setIfInBounds_toArray, List.set_cons_zero, List.set_cons_succ])
      refine wpAnyH_take (i := 34) (oi := { dst := some 54, op := Op.binOp BinOp.eql 4 (Operand.tmp 51) (Operand.tmp 53) 4, type := 4, pos := "law.go:45", after := #[{ on := 31, ground := Ground.data }, { on := 33, ground := Ground.data }, { on := 29, ground := Ground.guard }], guard := some (29, false) }) (v := undef) rfl (by kernel_rfl) (by kernel_rfl) (by kernel_rfl) (fun _ _ _ h => h) (Or.inr ⟨by rfl, rfl⟩) hHeld ?_
      (try simp only [Act.put, List.setIfInBounds_toArray, List.set_cons_zero, List.set_cons_succ])
      refine wpAnyH_take (i := 35) (oi := { dst := some 55, op := Op.pick (Operand.tmp 49) (Operand.const (Value.bool true)) (Operand.tmp 54), type := 4, pos := "law.go:45", after := #[{ on := 29, ground := Ground.data }, { on := 34, ground := Ground.data }, { on := 24, ground := Ground.guard }], guard := some (24, true) }) (v := ?_) rfl (by kernel_rfl) (by kernel_rfl) (by kernel_rfl) (fun _ _ _ h => h) (Or.inl ⟨by rfl, ?_⟩) hHeld ?_
      rotate_left 1
      · intro u hSu
        obtain ⟨⟨a0, a1, a2⟩, -⟩ := row3i (kept_row HF.out.1 hSu.out (by simp))
        obtain ⟨⟨b0, b1, b2⟩, -⟩ := row3i (kept_row HF.out.2.1 hSu.out (by simp))
        go_simp
        first | done | with_reducible rfl
      (try simp only [Act.put, List.setIfInBounds_toArray, List.set_cons_zero, List.set_cons_succ])
      refine wpAnyH_take (i := 36) (oi := { dst := some 56, op := Op.pick (Operand.tmp 44) (Operand.tmp 55) (Operand.const (Value.bool false)), type := 4, pos := "law.go:45", after := #[{ on := 24, ground := Ground.data }, { on := 35, ground := Ground.data }], guard := none }) (v := ?_) rfl (by kernel_rfl) (by kernel_rfl) (by kernel_rfl) (fun _ _ _ h => h) (Or.inl ⟨by rfl, ?_⟩) hHeld ?_
      rotate_left 1
      · intro u hSu
        obtain ⟨⟨a0, a1, a2⟩, -⟩ := row3i (kept_row HF.out.1 hSu.out (by simp))
        obtain ⟨⟨b0, b1, b2⟩, -⟩ := row3i (kept_row HF.out.2.1 hSu.out (by simp))
        go_simp
        first | done | with_reducible rfl
      (try simp only [Act.put, List.setIfInBounds_toArray, List.set_cons_zero, List.set_cons_succ])
      refine wpAnyH_take (i := 37) (oi := { dst := some 57, op := Op.move (Operand.tmp 56), type := 4, pos := "law.go:45", after := #[{ on := 36, ground := Ground.data }, { on := 33, ground := Ground.chain }], guard := none }) (v := ?_) rfl (by kernel_rfl) (by kernel_rfl) (by kernel_rfl) (fun _ _ _ h => h) (Or.inl ⟨by rfl, ?_⟩) hHeld ?_
      rotate_left 1
      · intro u hSu
        obtain ⟨⟨a0, a1, a2⟩, -⟩ := row3i (kept_row HF.out.1 hSu.out (by simp))
        obtain ⟨⟨b0, b1, b2⟩, -⟩ := row3i (kept_row HF.out.2.1 hSu.out (by simp))
        go_simp
        first | done | with_reducible rfl
      (try simp only [Act.put, List.setIfInBounds_toArray, List.set_cons_zero, List.set_cons_succ])
      refine wpAnyH_ready (rs := [38]) (by kernel_rfl) (by simp) ?_
      refine AllReadyH.cons (o := { dst := some 58, op := Op.call { callee := Callee.value (Operand.func 13), args := #[], argTypes := #[] }, type := 4, pos := "law.go:45", after := #[{ on := 37, ground := Ground.chain }, { on := 37, ground := Ground.guard }], guard := some (37, true) }) rfl (fun Kz hK => ?_) AllReadyH.nil
      go_simp
      go_at_call 13
      refine (iawake_any _).mono ?_
      rintro e w7 ⟨rfl, hg⟩
      have H7n : Hid (w6.grownBy w7 none) := Lib.hid (grown_trans hHeld.out hg)
      clear hg
      refine hK.out _ _ (H7n) (fun hH2 => ?_)
      clear hK Kz hHeld
      have hHeld := hH2
      clear hH2
      (try simp only [Act.put, List.setIfInBounds_toArray, List.set_cons_zero, List.set_cons_succ])
      refine wpAnyH_take (i := 39) (oi := { dst := some 59, op := Op.pick (Operand.tmp 57) (Operand.tmp 58) (Operand.const (Value.bool false)), type := 4, pos := "law.go:45", after := #[{ on := 37, ground := Ground.data }, { on := 38, ground := Ground.data }], guard := none }) (v := ?_) rfl (by kernel_rfl) (by kernel_rfl) (by kernel_rfl) (fun _ _ _ h => h) (Or.inl ⟨by rfl, ?_⟩) hHeld ?_
      rotate_left 1
      · intro u hSu
        obtain ⟨⟨a0, a1, a2⟩, -⟩ := row3i (kept_row HF.out.1 hSu.out (by simp))
        obtain ⟨⟨b0, b1, b2⟩, -⟩ := row3i (kept_row HF.out.2.1 hSu.out (by simp))
        go_simp
        first | done | with_reducible rfl
      (try simp only [Act.put, List.setIfInBounds_toArray, List.set_cons_zero, List.set_cons_succ])
      refine wpAnyH_take (i := 40) (oi := { dst := some 6, op := Op.assign (Operand.tmp 59), type := 4, pos := "law.go:45", after := #[{ on := 39, ground := Ground.data }, { on := 38, ground := Ground.chain }, { on := 0, ground := Ground.phase }, { on := 1, ground := Ground.phase }, { on := 2, ground := Ground.phase }, { on := 3, ground := Ground.phase }, { on := 4, ground := Ground.phase }, { on := 5, ground := Ground.phase }, { on := 6, ground := Ground.phase }, { on := 7, ground := Ground.phase }, { on := 8, ground := Ground.phase }, { on := 9, ground := Ground.phase }, { on := 10, ground := Ground.phase }, { on := 11, ground := Ground.phase }, { on := 12, ground := Ground.phase }, { on := 13, ground := Ground.phase }, { on := 14, ground := Ground.phase }, { on := 15, ground := Ground.phase }, { on := 16, ground := Ground.phase }, { on := 17, ground := Ground.phase }, { on := 18, ground := Ground.phase }, { on := 19, ground := Ground.phase }, { on := 20, ground := Ground.phase }, { on := 21, ground := Ground.phase }, { on := 22, ground := Ground.phase }, { on := 23, ground := Ground.phase }, { on := 24, ground := Ground.phase }, { on := 25, ground := Ground.phase }, { on := 26, ground := Ground.phase }, { on := 27, ground := Ground.phase }, { on := 28, ground := Ground.phase }, { on := 29, ground := Ground.phase }, { on := 30, ground := Ground.phase }, { on := 31, ground := Ground.phase }, { on := 32, ground := Ground.phase }, { on := 33, ground := Ground.phase }, { on := 34, ground := Ground.phase }, { on := 35, ground := Ground.phase }, { on := 36, ground := Ground.phase }, { on := 37, ground := Ground.phase }, { on := 38, ground := Ground.phase }, { on := 39, ground := Ground.phase }], guard := none }) (v := ?_) rfl (by kernel_rfl) (by kernel_rfl) (by kernel_rfl) (fun _ _ _ h => h) (Or.inl ⟨by rfl, ?_⟩) hHeld ?_
      rotate_left 1
      · intro u hSu
        obtain ⟨⟨a0, a1, a2⟩, -⟩ := row3i (kept_row HF.out.1 hSu.out (by simp))
        obtain ⟨⟨b0, b1, b2⟩, -⟩ := row3i (kept_row HF.out.2.1 hSu.out (by simp))
        go_simp
        first | done | with_reducible rfl
      (try simp only [Act.put, List.setIfInBounds_toArray, List.set_cons_zero, List.set_cons_succ])
      refine wpAnyH_done (by kernel_rfl) ?_ _
      have G := Lib.hid (grown_trans HF.out.2.2.1 hHeld.out)
      clear hHeld HF GZ
      go_wp2_with fail
      go_ret
      exact ⟨rfl, G.out⟩
    · skip
      refine wp_region_held_drew (S := fun w' => Hid (w6.grownBy w' none)) (by kernel_rfl) (hid_drew GZ) (fun hHeld => ?_)
      refine wpAnyH_take (i := 0) (oi := { dst := some 20, op := Op.move (Operand.tmp 8), type := 23, pos := "law.go:45", after := #[], guard := none }) (v := ?_) rfl (by kernel_rfl) (by kernel_rfl) (by kernel_rfl) (fun _ _ _ h => h) (Or.inl ⟨by rfl, ?_⟩) hHeld ?_
      rotate_left 1
      · intro u hSu
        obtain ⟨⟨a0, a1, a2⟩, -⟩ := row3i (kept_row HF.out.1 hSu.out (by simp))
        obtain ⟨⟨b0, b1, b2⟩, -⟩ := row3i (kept_row HF.out.2.1 hSu.out (by simp))
        go_simp
        first | done | with_reducible rfl
      (try simp only [Act.put, List.setIfInBounds_toArray, List.set_cons_zero, List.set_cons_succ])
      refine wpAnyH_take (i := 2) (oi := { dst := some 22, op := Op.move (Operand.tmp 8), type := 23, pos := "law.go:45", after := #[], guard := none }) (v := ?_) rfl (by kernel_rfl) (by kernel_rfl) (by kernel_rfl) (fun _ _ _ h => h) (Or.inl ⟨by rfl, ?_⟩) hHeld ?_
      rotate_left 1
      · intro u hSu
        obtain ⟨⟨a0, a1, a2⟩, -⟩ := row3i (kept_row HF.out.1 hSu.out (by simp))
        obtain ⟨⟨b0, b1, b2⟩, -⟩ := row3i (kept_row HF.out.2.1 hSu.out (by simp))
        go_simp
        first | done | with_reducible rfl
      (try simp only [Act.put, List.setIfInBounds_toArray, List.set_cons_zero, List.set_cons_succ])
      refine wpAnyH_ready (rs := [1]) (by kernel_rfl) (by simp) ?_
      refine AllReadyH.cons (o := { dst := some 21, op := Op.call { callee := Callee.value (Operand.func 9), args := #[Operand.tmp 20], argTypes := #[23] }, type := 37, pos := "law.go:45", after := #[{ on := 0, ground := Ground.data }], guard := none }) rfl (fun Kz hK => ?_) AllReadyH.nil
      go_simp
      go_at_call 9
      refine (icheck_any l p c _ _ (HF.out.2.2.2.2.2.1.keep hHeld.out) hlm).mono ?_
      rintro e w7 ⟨rfl, hg⟩
      have H7n : Hid (w6.grownBy w7 none) := Lib.hid (grown_trans hHeld.out hg)
      clear hg
      refine hK.out _ _ (H7n) (fun hH2 => ?_)
      clear hK Kz hHeld
      have hHeld := hH2
      clear hH2
      (try simp only [Act.put, List.setIfInBounds_toArray, List.set_cons_zero, List.set_cons_succ])
      refine wpAnyH_ready (rs := [3]) (by kernel_rfl) (by simp) ?_
      refine AllReadyH.cons (o := { dst := some 23, op := Op.call { callee := Callee.value (Operand.func 10), args := #[Operand.tmp 22], argTypes := #[23] }, type := 37, pos := "law.go:45", after := #[{ on := 2, ground := Ground.data }, { on := 1, ground := Ground.chain }], guard := none }) rfl (fun Kz hK => ?_) AllReadyH.nil
      go_simp
      go_at_call 10
      refine (ircheck_any l p c _ _ (HF.out.2.2.2.2.2.1.keep hHeld.out) hlm).mono ?_
      rintro e w7 ⟨rfl, hg⟩
      have H7n : Hid (w6.grownBy w7 none) := Lib.hid (grown_trans hHeld.out hg)
      clear hg
      refine hK.out _ _ (H7n) (fun hH2 => ?_)
      clear hK Kz hHeld
      have hHeld := hH2
      clear hH2
      (try simp only [Act.put, List.setIfInBounds_toArray, List.set_cons_zero, List.set_cons_succ])
      refine wpAnyH_take (i := 4) (oi := { dst := some 24, op := Op.binOp BinOp.eql 37 (Operand.tmp 21) (Operand.tmp 23) 37, type := 4, pos := "law.go:45", after := #[{ on := 1, ground := Ground.data }, { on := 3, ground := Ground.data }], guard := none }) (v := .bool true) rfl (by kernel_rfl) (by kernel_rfl) (by kernel_rfl) (fun _ _ _ h => h) (Or.inl ⟨by rfl, ?_⟩) hHeld ?_
      · intro u hSu
        obtain ⟨⟨a0, a1, a2⟩, -⟩ := row3i (kept_row HF.out.1 hSu.out (by simp))
        obtain ⟨⟨b0, b1, b2⟩, -⟩ := row3i (kept_row HF.out.2.1 hSu.out (by simp))
        go_simp
        try simp
      (try simp only [Act.put, List.setIfInBounds_toArray, List.set_cons_zero, List.set_cons_succ])
      refine wpAnyH_take (i := 5) (oi := { dst := some 25, op := Op.move (Operand.tmp 24), type := 4, pos := "law.go:45", after := #[{ on := 4, ground := Ground.data }, { on := 3, ground := Ground.chain }], guard := none }) (v := ?_) rfl (by kernel_rfl) (by kernel_rfl) (by kernel_rfl) (fun _ _ _ h => h) (Or.inl ⟨by rfl, ?_⟩) hHeld ?_
      rotate_left 1
      · intro u hSu
        obtain ⟨⟨a0, a1, a2⟩, -⟩ := row3i (kept_row HF.out.1 hSu.out (by simp))
        obtain ⟨⟨b0, b1, b2⟩, -⟩ := row3i (kept_row HF.out.2.1 hSu.out (by simp))
        go_simp
        first | done | with_reducible rfl
      (try simp only [Act.put, List.setIfInBounds_toArray, List.set_cons_zero, List.set_cons_succ])
      refine wpAnyH_take (i := 6) (oi := { dst := some 26, op := Op.move (Operand.tmp 1), type := 23, pos := "law.go:45", after := #[{ on := 5, ground := Ground.guard }], guard := some (5, true) }) (v := ?_) rfl (by kernel_rfl) (by kernel_rfl) (by kernel_rfl) (fun _ _ _ h => h) (Or.inl ⟨by rfl, ?_⟩) hHeld ?_
      rotate_left 1
      · intro u hSu
        obtain ⟨⟨a0, a1, a2⟩, -⟩ := row3i (kept_row HF.out.1 hSu.out (by simp))
        obtain ⟨⟨b0, b1, b2⟩, -⟩ := row3i (kept_row HF.out.2.1 hSu.out (by simp))
        go_simp
        first | done | with_reducible rfl
      (try simp only [Act.put, List.setIfInBounds_toArray, List.set_cons_zero, List.set_cons_succ])
      refine wpAnyH_take (i := 7) (oi := { dst := some 27, op := Op.call { callee := Callee.builtin Builtin.len, args := #[Operand.tmp 26], argTypes := #[23] }, type := 3, pos := "law.go:45", after := #[{ on := 6, ground := Ground.data }, { on := 5, ground := Ground.guard }], guard := some (5, true) }) (v := ?_) rfl (by kernel_rfl) (by kernel_rfl) (by kernel_rfl) (fun _ _ _ h => h) (Or.inl ⟨by rfl, ?_⟩) hHeld ?_
      rotate_left 1
      · intro u hSu
        obtain ⟨⟨a0, a1, a2⟩, -⟩ := row3i (kept_row HF.out.1 hSu.out (by simp))
        obtain ⟨⟨b0, b1, b2⟩, -⟩ := row3i (kept_row HF.out.2.1 hSu.out (by simp))
        go_simp
        first | done | with_reducible rfl
      (try simp only [Act.put, List.setIfInBounds_toArray, List.set_cons_zero, List.set_cons_succ])
      refine wpAnyH_take (i := 8) (oi := { dst := some 28, op := Op.binOp BinOp.gtr 3 (Operand.tmp 27) (Operand.const (Value.int IntKind.i64 400)) 3, type := 4, pos := "law.go:45", after := #[{ on := 7, ground := Ground.data }, { on := 5, ground := Ground.guard }], guard := some (5, true) }) (v := .bool false) rfl (by kernel_rfl) (by kernel_rfl) (by kernel_rfl) (fun _ _ _ h => h) (Or.inl ⟨by rfl, ?_⟩) hHeld ?_
      · intro u hSu
        obtain ⟨⟨a0, a1, a2⟩, -⟩ := row3i (kept_row HF.out.1 hSu.out (by simp))
        obtain ⟨⟨b0, b1, b2⟩, -⟩ := row3i (kept_row HF.out.2.1 hSu.out (by simp))
        go_simp
        try simp
        try omega
      (try simp only [Act.put, List.setIfInBounds_toArray, List.set_cons_zero, List.set_cons_succ])
      refine wpAnyH_take (i := 9) (oi := { dst := some 29, op := Op.move (Operand.tmp 28), type := 4, pos := "law.go:45", after := #[{ on := 8, ground := Ground.data }, { on := 5, ground := Ground.chain }, { on := 5, ground := Ground.guard }], guard := some (5, true) }) (v := ?_) rfl (by kernel_rfl) (by kernel_rfl) (by kernel_rfl) (fun _ _ _ h => h) (Or.inl ⟨by rfl, ?_⟩) hHeld ?_
      rotate_left 1
      · intro u hSu
        obtain ⟨⟨a0, a1, a2⟩, -⟩ := row3i (kept_row HF.out.1 hSu.out (by simp))
        obtain ⟨⟨b0, b1, b2⟩, -⟩ := row3i (kept_row HF.out.2.1 hSu.out (by simp))
        go_simp
        first | done | with_reducible rfl
      (try simp only [Act.put, List.setIfInBounds_toArray, List.set_cons_zero, List.set_cons_succ])
      refine wpAnyH_take (i := 10) (oi := { dst := some 30, op := Op.move (Operand.tmp 1), type := 23, pos := "law.go:45", after := #[{ on := 9, ground := Ground.guard }], guard := some (9, false) }) (v := ?_) rfl (by kernel_rfl) (by kernel_rfl) (by kernel_rfl) (fun _ _ _ h => h) (Or.inl ⟨by rfl, ?_⟩) hHeld ?_
      rotate_left 1
      · intro u hSu
        obtain ⟨⟨a0, a1, a2⟩, -⟩ := row3i (kept_row HF.out.1 hSu.out (by simp))
        obtain ⟨⟨b0, b1, b2⟩, -⟩ := row3i (kept_row HF.out.2.1 hSu.out (by simp))
        go_simp
        first | done | with_reducible rfl
      (try simp only [Act.put, List.setIfInBounds_toArray, List.set_cons_zero, List.set_cons_succ])
      refine wpAnyH_take (i := 12) (oi := { dst := some 32, op := Op.move (Operand.tmp 1), type := 23, pos := "law.go:45", after := #[{ on := 9, ground := Ground.guard }], guard := some (9, false) }) (v := ?_) rfl (by kernel_rfl) (by kernel_rfl) (by kernel_rfl) (fun _ _ _ h => h) (Or.inl ⟨by rfl, ?_⟩) hHeld ?_
      rotate_left 1
      · intro u hSu
        obtain ⟨⟨a0, a1, a2⟩, -⟩ := row3i (kept_row HF.out.1 hSu.out (by simp))
        obtain ⟨⟨b0, b1, b2⟩, -⟩ := row3i (kept_row HF.out.2.1 hSu.out (by simp))
        go_simp
        first | done | with_reducible rfl
      (try simp only [Act.put, List.setIfInBounds_toArray, List.set_cons_zero, List.set_cons_succ])
      refine wpAnyH_ready (rs := [11]) (by kernel_rfl) (by simp) ?_
      refine AllReadyH.cons (o := { dst := some 31, op := Op.call { callee := Callee.value (Operand.func 9), args := #[Operand.tmp 30], argTypes := #[23] }, type := 37, pos := "law.go:45", after := #[{ on := 10, ground := Ground.data }, { on := 9, ground := Ground.chain }, { on := 9, ground := Ground.guard }], guard := some (9, false) }) rfl (fun Kz hK => ?_) AllReadyH.nil
      go_simp
      go_at_call 9
      refine (icheck_any rl rp rc _ _ (HF.out.2.2.2.1.keep hHeld.out) hrm).mono ?_
      rintro e w7 ⟨rfl, hg⟩
      have H7n : Hid (w6.grownBy w7 none) := Lib.hid (grown_trans hHeld.out hg)
      clear hg
      refine hK.out _ _ (H7n) (fun hH2 => ?_)
      clear hK Kz hHeld
      have hHeld := hH2
      clear hH2
      (try simp only [Act.put, List.setIfInBounds_toArray, List.set_cons_zero, List.set_cons_succ])
      refine wpAnyH_ready (rs := [13]) (by kernel_rfl) (by simp) ?_
      refine AllReadyH.cons (o := { dst := some 33, op := Op.call { callee := Callee.value (Operand.func 10), args := #[Operand.tmp 32], argTypes := #[23] }, type := 37, pos := "law.go:45", after := #[{ on := 12, ground := Ground.data }, { on := 11, ground := Ground.chain }, { on := 9, ground := Ground.guard }], guard := some (9, false) }) rfl (fun Kz hK => ?_) AllReadyH.nil
      go_simp
      go_at_call 10
      refine (ircheck_any rl rp rc _ _ (HF.out.2.2.2.1.keep hHeld.out) hrm).mono ?_
      rintro e w7 ⟨rfl, hg⟩
      have H7n : Hid (w6.grownBy w7 none) := Lib.hid (grown_trans hHeld.out hg)
      clear hg
      refine hK.out _ _ (H7n) (fun hH2 => ?_)
      clear hK Kz hHeld
      have hHeld := hH2
      clear hH2
      (try simp only [Act.put, List.setIfInBounds_toArray, List.set_cons_zero, List.set_cons_succ])
      refine wpAnyH_take (i := 14) (oi := { dst := some 34, op := Op.binOp BinOp.eql 37 (Operand.tmp 31) (Operand.tmp 33) 37, type := 4, pos := "law.go:45", after := #[{ on := 11, ground := Ground.data }, { on := 13, ground := Ground.data }, { on := 9, ground := Ground.guard }], guard := some (9, false) }) (v := .bool true) rfl (by kernel_rfl) (by kernel_rfl) (by kernel_rfl) (fun _ _ _ h => h) (Or.inl ⟨by rfl, ?_⟩) hHeld ?_
      · intro u hSu
        obtain ⟨⟨a0, a1, a2⟩, -⟩ := row3i (kept_row HF.out.1 hSu.out (by simp))
        obtain ⟨⟨b0, b1, b2⟩, -⟩ := row3i (kept_row HF.out.2.1 hSu.out (by simp))
        go_simp
        try simp
      (try simp only [Act.put, List.setIfInBounds_toArray, List.set_cons_zero, List.set_cons_succ])
      refine wpAnyH_take (i := 15) (oi := { dst := some 35, op := Op.pick (Operand.tmp 29) (Operand.const (Value.bool true)) (Operand.tmp 34), type := 4, pos := "law.go:45", after := #[{ on := 9, ground := Ground.data }, { on := 14, ground := Ground.data }, { on := 5, ground := Ground.guard }], guard := some (5, true) }) (v := ?_) rfl (by kernel_rfl) (by kernel_rfl) (by kernel_rfl) (fun _ _ _ h => h) (Or.inl ⟨by rfl, ?_⟩) hHeld ?_
      rotate_left 1
      · intro u hSu
        obtain ⟨⟨a0, a1, a2⟩, -⟩ := row3i (kept_row HF.out.1 hSu.out (by simp))
        obtain ⟨⟨b0, b1, b2⟩, -⟩ := row3i (kept_row HF.out.2.1 hSu.out (by simp))
        go_simp
        first | done | with_reducible rfl
      (try simp only [Act.put, List.setIfInBounds_toArray, List.set_cons_zero, List.set_cons_succ])
      refine wpAnyH_take (i := 16) (oi := { dst := some 36, op := Op.pick (Operand.tmp 25) (Operand.tmp 35) (Operand.const (Value.bool false)), type := 4, pos := "law.go:45", after := #[{ on := 5, ground := Ground.data }, { on := 15, ground := Ground.data }], guard := none }) (v := ?_) rfl (by kernel_rfl) (by kernel_rfl) (by kernel_rfl) (fun _ _ _ h => h) (Or.inl ⟨by rfl, ?_⟩) hHeld ?_
      rotate_left 1
      · intro u hSu
        obtain ⟨⟨a0, a1, a2⟩, -⟩ := row3i (kept_row HF.out.1 hSu.out (by simp))
        obtain ⟨⟨b0, b1, b2⟩, -⟩ := row3i (kept_row HF.out.2.1 hSu.out (by simp))
        go_simp
        first | done | with_reducible rfl
      (try simp only [Act.put, List.setIfInBounds_toArray, List.set_cons_zero, List.set_cons_succ])
      refine wpAnyH_take (i := 17) (oi := { dst := some 37, op := Op.move (Operand.tmp 36), type := 4, pos := "law.go:45", after := #[{ on := 16, ground := Ground.data }, { on := 13, ground := Ground.chain }], guard := none }) (v := ?_) rfl (by kernel_rfl) (by kernel_rfl) (by kernel_rfl) (fun _ _ _ h => h) (Or.inl ⟨by rfl, ?_⟩) hHeld ?_
      rotate_left 1
      · intro u hSu
        obtain ⟨⟨a0, a1, a2⟩, -⟩ := row3i (kept_row HF.out.1 hSu.out (by simp))
        obtain ⟨⟨b0, b1, b2⟩, -⟩ := row3i (kept_row HF.out.2.1 hSu.out (by simp))
        go_simp
        first | done | with_reducible rfl
      (try simp only [Act.put, List.setIfInBounds_toArray, List.set_cons_zero, List.set_cons_succ])
      refine wpAnyH_take (i := 18) (oi := { dst := some 38, op := Op.load 26 (Operand.tmp 9), type := 26, pos := "law.go:45", after := #[{ on := 17, ground := Ground.guard }], guard := some (17, true) }) (v := ?_) rfl (by kernel_rfl) (by kernel_rfl) (by kernel_rfl) (fun _ _ _ h => h) (Or.inl ⟨by rfl, ?_⟩) hHeld ?_
      rotate_left 1
      · intro u hSu
        obtain ⟨⟨a0, a1, a2⟩, -⟩ := row3i (kept_row HF.out.1 hSu.out (by simp))
        obtain ⟨⟨b0, b1, b2⟩, -⟩ := row3i (kept_row HF.out.2.1 hSu.out (by simp))
        go_simp
        first | done | with_reducible rfl
      (try simp only [Act.put, List.setIfInBounds_toArray, List.set_cons_zero, List.set_cons_succ])
      refine wpAnyH_take (i := 20) (oi := { dst := some 40, op := Op.load 26 (Operand.tmp 9), type := 26, pos := "law.go:45", after := #[{ on := 17, ground := Ground.guard }], guard := some (17, true) }) (v := ?_) rfl (by kernel_rfl) (by kernel_rfl) (by kernel_rfl) (fun _ _ _ h => h) (Or.inl ⟨by rfl, ?_⟩) hHeld ?_
      rotate_left 1
      · intro u hSu
        obtain ⟨⟨a0, a1, a2⟩, -⟩ := row3i (kept_row HF.out.1 hSu.out (by simp))
        obtain ⟨⟨b0, b1, b2⟩, -⟩ := row3i (kept_row HF.out.2.1 hSu.out (by simp))
        go_simp
        first | done | with_reducible rfl
      (try simp only [Act.put, List.setIfInBounds_toArray, List.set_cons_zero, List.set_cons_succ])
      refine wpAnyH_ready (rs := [19]) (by kernel_rfl) (by simp) ?_
      refine AllReadyH.cons (o := { dst := some 39, op := Op.call { callee := Callee.value (Operand.func 11), args := #[Operand.tmp 38], argTypes := #[26] }, type := 4, pos := "law.go:45", after := #[{ on := 18, ground := Ground.data }, { on := 17, ground := Ground.chain }, { on := 17, ground := Ground.guard }], guard := some (17, true) }) rfl (fun Kz hK => ?_) AllReadyH.nil
      go_simp
      go_at_call 11
      refine (ivplan_any s1 n1 E1 p1 c1 _ _ (HF.out.2.2.2.2.2.2.keep hHeld.out) hem).mono ?_
      rintro e w7 ⟨rfl, hg⟩
      have H7n : Hid (w6.grownBy w7 none) := Lib.hid (grown_trans hHeld.out hg)
      clear hg
      refine hK.out _ _ (H7n) (fun hH2 => ?_)
      clear hK Kz hHeld
      have hHeld := hH2
      clear hH2
      (try simp only [Act.put, List.setIfInBounds_toArray, List.set_cons_zero, List.set_cons_succ])
      refine wpAnyH_ready (rs := [21]) (by kernel_rfl) (by simp) ?_
      refine AllReadyH.cons (o := { dst := some 41, op := Op.call { callee := Callee.value (Operand.func 12), args := #[Operand.tmp 40], argTypes := #[26] }, type := 4, pos := "law.go:45", after := #[{ on := 20, ground := Ground.data }, { on := 19, ground := Ground.chain }, { on := 17, ground := Ground.guard }], guard := some (17, true) }) rfl (fun Kz hK => ?_) AllReadyH.nil
      go_simp
      go_at_call 12
      refine (irvplan_any s1 n1 E1 p1 c1 _ _ (HF.out.2.2.2.2.2.2.keep hHeld.out) hem).mono ?_
      rintro e w7 ⟨rfl, hg⟩
      have H7n : Hid (w6.grownBy w7 none) := Lib.hid (grown_trans hHeld.out hg)
      clear hg
      refine hK.out _ _ (H7n) (fun hH2 => ?_)
      clear hK Kz hHeld
      have hHeld := hH2
      clear hH2
      (try simp only [Act.put, List.setIfInBounds_toArray, List.set_cons_zero, List.set_cons_succ])
      refine wpAnyH_take (i := 22) (oi := { dst := some 42, op := Op.binOp BinOp.eql 4 (Operand.tmp 39) (Operand.tmp 41) 4, type := 4, pos := "law.go:45", after := #[{ on := 19, ground := Ground.data }, { on := 21, ground := Ground.data }, { on := 17, ground := Ground.guard }], guard := some (17, true) }) (v := .bool true) rfl (by kernel_rfl) (by kernel_rfl) (by kernel_rfl) (fun _ _ _ h => h) (Or.inl ⟨by rfl, ?_⟩) hHeld ?_
      · intro u hSu
        obtain ⟨⟨a0, a1, a2⟩, -⟩ := row3i (kept_row HF.out.1 hSu.out (by simp))
        obtain ⟨⟨b0, b1, b2⟩, -⟩ := row3i (kept_row HF.out.2.1 hSu.out (by simp))
        go_simp
        try simp
      (try simp only [Act.put, List.setIfInBounds_toArray, List.set_cons_zero, List.set_cons_succ])
      refine wpAnyH_take (i := 23) (oi := { dst := some 43, op := Op.pick (Operand.tmp 37) (Operand.tmp 42) (Operand.const (Value.bool false)), type := 4, pos := "law.go:45", after := #[{ on := 17, ground := Ground.data }, { on := 22, ground := Ground.data }], guard := none }) (v := ?_) rfl (by kernel_rfl) (by kernel_rfl) (by kernel_rfl) (fun _ _ _ h => h) (Or.inl ⟨by rfl, ?_⟩) hHeld ?_
      rotate_left 1
      · intro u hSu
        obtain ⟨⟨a0, a1, a2⟩, -⟩ := row3i (kept_row HF.out.1 hSu.out (by simp))
        obtain ⟨⟨b0, b1, b2⟩, -⟩ := row3i (kept_row HF.out.2.1 hSu.out (by simp))
        go_simp
        first | done | with_reducible rfl
      (try simp only [Act.put, List.setIfInBounds_toArray, List.set_cons_zero, List.set_cons_succ])
      refine wpAnyH_take (i := 24) (oi := { dst := some 44, op := Op.move (Operand.tmp 43), type := 4, pos := "law.go:45", after := #[{ on := 23, ground := Ground.data }, { on := 21, ground := Ground.chain }], guard := none }) (v := ?_) rfl (by kernel_rfl) (by kernel_rfl) (by kernel_rfl) (fun _ _ _ h => h) (Or.inl ⟨by rfl, ?_⟩) hHeld ?_
      rotate_left 1
      · intro u hSu
        obtain ⟨⟨a0, a1, a2⟩, -⟩ := row3i (kept_row HF.out.1 hSu.out (by simp))
        obtain ⟨⟨b0, b1, b2⟩, -⟩ := row3i (kept_row HF.out.2.1 hSu.out (by simp))
        go_simp
        first | done | with_reducible rfl
      (try simp only [Act.put, List.setIfInBounds_toArray, List.set_cons_zero, List.set_cons_succ])
      refine wpAnyH_take (i := 25) (oi := { dst := some 45, op := Op.fieldAddr 26 (Operand.tmp 5) 2, type := 0, pos := "law.go:45", after := #[{ on := 24, ground := Ground.guard }], guard := some (24, true) }) (v := ?_) rfl (by kernel_rfl) (by kernel_rfl) (by kernel_rfl) (fun _ _ _ h => h) (Or.inl ⟨by rfl, ?_⟩) hHeld ?_
      rotate_left 1
      · intro u hSu
        obtain ⟨⟨a0, a1, a2⟩, -⟩ := row3i (kept_row HF.out.1 hSu.out (by simp))
        obtain ⟨⟨b0, b1, b2⟩, -⟩ := row3i (kept_row HF.out.2.1 hSu.out (by simp))
        go_simp
        first | done | with_reducible rfl
      (try simp only [Act.put, List.setIfInBounds_toArray, List.set_cons_zero, List.set_cons_succ])
      refine wpAnyH_take (i := 26) (oi := { dst := some 46, op := Op.load 24 (Operand.tmp 45), type := 24, pos := "law.go:45", after := #[{ on := 25, ground := Ground.data }, { on := 24, ground := Ground.guard }], guard := some (24, true) }) (v := ?_) rfl (by kernel_rfl) (by kernel_rfl) (by kernel_rfl) (fun _ _ _ h => h) (Or.inl ⟨by rfl, ?_⟩) hHeld ?_
      rotate_left 1
      · intro u hSu
        obtain ⟨⟨a0, a1, a2⟩, -⟩ := row3i (kept_row HF.out.1 hSu.out (by simp))
        obtain ⟨⟨b0, b1, b2⟩, -⟩ := row3i (kept_row HF.out.2.1 hSu.out (by simp))
        go_simp
        first | done | with_reducible rfl
      (try simp only [Act.put, List.setIfInBounds_toArray, List.set_cons_zero, List.set_cons_succ])
      refine wpAnyH_take (i := 27) (oi := { dst := some 47, op := Op.call { callee := Callee.builtin Builtin.len, args := #[Operand.tmp 46], argTypes := #[24] }, type := 3, pos := "law.go:45", after := #[{ on := 26, ground := Ground.data }, { on := 24, ground := Ground.guard }], guard := some (24, true) }) (v := ?_) rfl (by kernel_rfl) (by kernel_rfl) (by kernel_rfl) (fun _ _ _ h => h) (Or.inl ⟨by rfl, ?_⟩) hHeld ?_
      rotate_left 1
      · intro u hSu
        obtain ⟨⟨a0, a1, a2⟩, -⟩ := row3i (kept_row HF.out.1 hSu.out (by simp))
        obtain ⟨⟨b0, b1, b2⟩, -⟩ := row3i (kept_row HF.out.2.1 hSu.out (by simp))
        go_simp
        first | done | with_reducible rfl
      (try simp only [Act.put, List.setIfInBounds_toArray, List.set_cons_zero, List.set_cons_succ])
      refine wpAnyH_take (i := 28) (oi := { dst := some 48, op := Op.binOp BinOp.gtr 3 (Operand.tmp 47) (Operand.const (Value.int IntKind.i64 200)) 3, type := 4, pos := "law.go:45", after := #[{ on := 27, ground := Ground.data }, { on := 24, ground := Ground.guard }], guard := some (24, true) }) (v := .bool false) rfl (by kernel_rfl) (by kernel_rfl) (by kernel_rfl) (fun _ _ _ h => h) (Or.inl ⟨by rfl, ?_⟩) hHeld ?_
      · intro u hSu
        obtain ⟨⟨a0, a1, a2⟩, -⟩ := row3i (kept_row HF.out.1 hSu.out (by simp))
        obtain ⟨⟨b0, b1, b2⟩, -⟩ := row3i (kept_row HF.out.2.1 hSu.out (by simp))
        go_simp
        try simp
        try omega
      (try simp only [Act.put, List.setIfInBounds_toArray, List.set_cons_zero, List.set_cons_succ])
      refine wpAnyH_take (i := 29) (oi := { dst := some 49, op := Op.move (Operand.tmp 48), type := 4, pos := "law.go:45", after := #[{ on := 28, ground := Ground.data }, { on := 24, ground := Ground.chain }, { on := 24, ground := Ground.guard }], guard := some (24, true) }) (v := ?_) rfl (by kernel_rfl) (by kernel_rfl) (by kernel_rfl) (fun _ _ _ h => h) (Or.inl ⟨by rfl, ?_⟩) hHeld ?_
      rotate_left 1
      · intro u hSu
        obtain ⟨⟨a0, a1, a2⟩, -⟩ := row3i (kept_row HF.out.1 hSu.out (by simp))
        obtain ⟨⟨b0, b1, b2⟩, -⟩ := row3i (kept_row HF.out.2.1 hSu.out (by simp))
        go_simp
        first | done | with_reducible rfl
      (try simp only [Act.put, List.setIfInBounds_toArray, List.set_cons_zero, List.set_cons_succ])
      refine wpAnyH_take (i := 30) (oi := { dst := some 50, op := Op.load 26 (Operand.tmp 5), type := 26, pos := "law.go:45", after := #[{ on := 29, ground := Ground.guard }], guard := some (29, false) }) (v := ?_) rfl (by kernel_rfl) (by kernel_rfl) (by kernel_rfl) (fun _ _ _ h => h) (Or.inl ⟨by rfl, ?_⟩) hHeld ?_
      rotate_left 1
      · intro u hSu
        obtain ⟨⟨a0, a1, a2⟩, -⟩ := row3i (kept_row HF.out.1 hSu.out (by simp))
        obtain ⟨⟨b0, b1, b2⟩, -⟩ := row3i (kept_row HF.out.2.1 hSu.out (by simp))
        go_simp
        first | done | with_reducible rfl
      (try simp only [Act.put, List.setIfInBounds_toArray, List.set_cons_zero, List.set_cons_succ])
      refine wpAnyH_take (i := 32) (oi := { dst := some 52, op := Op.load 26 (Operand.tmp 5), type := 26, pos := "law.go:45", after := #[{ on := 29, ground := Ground.guard }], guard := some (29, false) }) (v := ?_) rfl (by kernel_rfl) (by kernel_rfl) (by kernel_rfl) (fun _ _ _ h => h) (Or.inl ⟨by rfl, ?_⟩) hHeld ?_
      rotate_left 1
      · intro u hSu
        obtain ⟨⟨a0, a1, a2⟩, -⟩ := row3i (kept_row HF.out.1 hSu.out (by simp))
        obtain ⟨⟨b0, b1, b2⟩, -⟩ := row3i (kept_row HF.out.2.1 hSu.out (by simp))
        go_simp
        first | done | with_reducible rfl
      (try simp only [Act.put, List.setIfInBounds_toArray, List.set_cons_zero, List.set_cons_succ])
      refine wpAnyH_ready (rs := [31]) (by kernel_rfl) (by simp) ?_
      refine AllReadyH.cons (o := { dst := some 51, op := Op.call { callee := Callee.value (Operand.func 11), args := #[Operand.tmp 50], argTypes := #[26] }, type := 4, pos := "law.go:45", after := #[{ on := 30, ground := Ground.data }, { on := 29, ground := Ground.chain }, { on := 29, ground := Ground.guard }], guard := some (29, false) }) rfl (fun Kz hK => ?_) AllReadyH.nil
      go_simp
      go_at_call 11
      refine (ivplan_any s0 n0 E0 pp pc _ _ (HF.out.2.2.2.2.1.keep hHeld.out) hpm).mono ?_
      rintro e w7 ⟨rfl, hg⟩
      have H7n : Hid (w6.grownBy w7 none) := Lib.hid (grown_trans hHeld.out hg)
      clear hg
      refine hK.out _ _ (H7n) (fun hH2 => ?_)
      clear hK Kz hHeld
      have hHeld := hH2
      clear hH2
      (try simp only [Act.put, List.setIfInBounds_toArray, List.set_cons_zero, List.set_cons_succ])
      refine wpAnyH_ready (rs := [33]) (by kernel_rfl) (by simp) ?_
      refine AllReadyH.cons (o := { dst := some 53, op := Op.call { callee := Callee.value (Operand.func 12), args := #[Operand.tmp 52], argTypes := #[26] }, type := 4, pos := "law.go:45", after := #[{ on := 32, ground := Ground.data }, { on := 31, ground := Ground.chain }, { on := 29, ground := Ground.guard }], guard := some (29, false) }) rfl (fun Kz hK => ?_) AllReadyH.nil
      go_simp
      go_at_call 12
      refine (irvplan_any s0 n0 E0 pp pc _ _ (HF.out.2.2.2.2.1.keep hHeld.out) hpm).mono ?_
      rintro e w7 ⟨rfl, hg⟩
      have H7n : Hid (w6.grownBy w7 none) := Lib.hid (grown_trans hHeld.out hg)
      clear hg
      refine hK.out _ _ (H7n) (fun hH2 => ?_)
      clear hK Kz hHeld
      have hHeld := hH2
      clear hH2
      (try simp only [Act.put, List.setIfInBounds_toArray, List.set_cons_zero, List.set_cons_succ])
      refine wpAnyH_take (i := 34) (oi := { dst := some 54, op := Op.binOp BinOp.eql 4 (Operand.tmp 51) (Operand.tmp 53) 4, type := 4, pos := "law.go:45", after := #[{ on := 31, ground := Ground.data }, { on := 33, ground := Ground.data }, { on := 29, ground := Ground.guard }], guard := some (29, false) }) (v := .bool true) rfl (by kernel_rfl) (by kernel_rfl) (by kernel_rfl) (fun _ _ _ h => h) (Or.inl ⟨by rfl, ?_⟩) hHeld ?_
      · intro u hSu
        obtain ⟨⟨a0, a1, a2⟩, -⟩ := row3i (kept_row HF.out.1 hSu.out (by simp))
        obtain ⟨⟨b0, b1, b2⟩, -⟩ := row3i (kept_row HF.out.2.1 hSu.out (by simp))
        go_simp
        try simp
      (try simp only [Act.put, List.setIfInBounds_toArray, List.set_cons_zero, List.set_cons_succ])
      refine wpAnyH_take (i := 35) (oi := { dst := some 55, op := Op.pick (Operand.tmp 49) (Operand.const (Value.bool true)) (Operand.tmp 54), type := 4, pos := "law.go:45", after := #[{ on := 29, ground := Ground.data }, { on := 34, ground := Ground.data }, { on := 24, ground := Ground.guard }], guard := some (24, true) }) (v := ?_) rfl (by kernel_rfl) (by kernel_rfl) (by kernel_rfl) (fun _ _ _ h => h) (Or.inl ⟨by rfl, ?_⟩) hHeld ?_
      rotate_left 1
      · intro u hSu
        obtain ⟨⟨a0, a1, a2⟩, -⟩ := row3i (kept_row HF.out.1 hSu.out (by simp))
        obtain ⟨⟨b0, b1, b2⟩, -⟩ := row3i (kept_row HF.out.2.1 hSu.out (by simp))
        go_simp
        first | done | with_reducible rfl
      (try simp only [Act.put, List.setIfInBounds_toArray, List.set_cons_zero, List.set_cons_succ])
      refine wpAnyH_take (i := 36) (oi := { dst := some 56, op := Op.pick (Operand.tmp 44) (Operand.tmp 55) (Operand.const (Value.bool false)), type := 4, pos := "law.go:45", after := #[{ on := 24, ground := Ground.data }, { on := 35, ground := Ground.data }], guard := none }) (v := ?_) rfl (by kernel_rfl) (by kernel_rfl) (by kernel_rfl) (fun _ _ _ h => h) (Or.inl ⟨by rfl, ?_⟩) hHeld ?_
      rotate_left 1
      · intro u hSu
        obtain ⟨⟨a0, a1, a2⟩, -⟩ := row3i (kept_row HF.out.1 hSu.out (by simp))
        obtain ⟨⟨b0, b1, b2⟩, -⟩ := row3i (kept_row HF.out.2.1 hSu.out (by simp))
        go_simp
        first | done | with_reducible rfl
      (try simp only [Act.put, List.setIfInBounds_toArray, List.set_cons_zero, List.set_cons_succ])
      refine wpAnyH_take (i := 37) (oi := { dst := some 57, op := Op.move (Operand.tmp 56), type := 4, pos := "law.go:45", after := #[{ on := 36, ground := Ground.data }, { on := 33, ground := Ground.chain }], guard := none }) (v := ?_) rfl (by kernel_rfl) (by kernel_rfl) (by kernel_rfl) (fun _ _ _ h => h) (Or.inl ⟨by rfl, ?_⟩) hHeld ?_
      rotate_left 1
      · intro u hSu
        obtain ⟨⟨a0, a1, a2⟩, -⟩ := row3i (kept_row HF.out.1 hSu.out (by simp))
        obtain ⟨⟨b0, b1, b2⟩, -⟩ := row3i (kept_row HF.out.2.1 hSu.out (by simp))
        go_simp
        first | done | with_reducible rfl
      (try simp only [Act.put, List.setIfInBounds_toArray, List.set_cons_zero, List.set_cons_succ])
      refine wpAnyH_ready (rs := [38]) (by kernel_rfl) (by simp) ?_
      refine AllReadyH.cons (o := { dst := some 58, op := Op.call { callee := Callee.value (Operand.func 13), args := #[], argTypes := #[] }, type := 4, pos := "law.go:45", after := #[{ on := 37, ground := Ground.chain }, { on := 37, ground := Ground.guard }], guard := some (37, true) }) rfl (fun Kz hK => ?_) AllReadyH.nil
      go_simp
      go_at_call 13
      refine (iawake_any _).mono ?_
      rintro e w7 ⟨rfl, hg⟩
      have H7n : Hid (w6.grownBy w7 none) := Lib.hid (grown_trans hHeld.out hg)
      clear hg
      refine hK.out _ _ (H7n) (fun hH2 => ?_)
      clear hK Kz hHeld
      have hHeld := hH2
      clear hH2
      (try simp only [Act.put, List.setIfInBounds_toArray, List.set_cons_zero, List.set_cons_succ])
      refine wpAnyH_take (i := 39) (oi := { dst := some 59, op := Op.pick (Operand.tmp 57) (Operand.tmp 58) (Operand.const (Value.bool false)), type := 4, pos := "law.go:45", after := #[{ on := 37, ground := Ground.data }, { on := 38, ground := Ground.data }], guard := none }) (v := ?_) rfl (by kernel_rfl) (by kernel_rfl) (by kernel_rfl) (fun _ _ _ h => h) (Or.inl ⟨by rfl, ?_⟩) hHeld ?_
      rotate_left 1
      · intro u hSu
        obtain ⟨⟨a0, a1, a2⟩, -⟩ := row3i (kept_row HF.out.1 hSu.out (by simp))
        obtain ⟨⟨b0, b1, b2⟩, -⟩ := row3i (kept_row HF.out.2.1 hSu.out (by simp))
        go_simp
        first | done | with_reducible rfl
      (try simp only [Act.put, List.setIfInBounds_toArray, List.set_cons_zero, List.set_cons_succ])
      refine wpAnyH_take (i := 40) (oi := { dst := some 6, op := Op.assign (Operand.tmp 59), type := 4, pos := "law.go:45", after := #[{ on := 39, ground := Ground.data }, { on := 38, ground := Ground.chain }, { on := 0, ground := Ground.phase }, { on := 1, ground := Ground.phase }, { on := 2, ground := Ground.phase }, { on := 3, ground := Ground.phase }, { on := 4, ground := Ground.phase }, { on := 5, ground := Ground.phase }, { on := 6, ground := Ground.phase }, { on := 7, ground := Ground.phase }, { on := 8, ground := Ground.phase }, { on := 9, ground := Ground.phase }, { on := 10, ground := Ground.phase }, { on := 11, ground := Ground.phase }, { on := 12, ground := Ground.phase }, { on := 13, ground := Ground.phase }, { on := 14, ground := Ground.phase }, { on := 15, ground := Ground.phase }, { on := 16, ground := Ground.phase }, { on := 17, ground := Ground.phase }, { on := 18, ground := Ground.phase }, { on := 19, ground := Ground.phase }, { on := 20, ground := Ground.phase }, { on := 21, ground := Ground.phase }, { on := 22, ground := Ground.phase }, { on := 23, ground := Ground.phase }, { on := 24, ground := Ground.phase }, { on := 25, ground := Ground.phase }, { on := 26, ground := Ground.phase }, { on := 27, ground := Ground.phase }, { on := 28, ground := Ground.phase }, { on := 29, ground := Ground.phase }, { on := 30, ground := Ground.phase }, { on := 31, ground := Ground.phase }, { on := 32, ground := Ground.phase }, { on := 33, ground := Ground.phase }, { on := 34, ground := Ground.phase }, { on := 35, ground := Ground.phase }, { on := 36, ground := Ground.phase }, { on := 37, ground := Ground.phase }, { on := 38, ground := Ground.phase }, { on := 39, ground := Ground.phase }], guard := none }) (v := ?_) rfl (by kernel_rfl) (by kernel_rfl) (by kernel_rfl) (fun _ _ _ h => h) (Or.inl ⟨by rfl, ?_⟩) hHeld ?_
      rotate_left 1
      · intro u hSu
        obtain ⟨⟨a0, a1, a2⟩, -⟩ := row3i (kept_row HF.out.1 hSu.out (by simp))
        obtain ⟨⟨b0, b1, b2⟩, -⟩ := row3i (kept_row HF.out.2.1 hSu.out (by simp))
        go_simp
        first | done | with_reducible rfl
      (try simp only [Act.put, List.setIfInBounds_toArray, List.set_cons_zero, List.set_cons_succ])
      refine wpAnyH_done (by kernel_rfl) ?_ _
      have G := Lib.hid (grown_trans HF.out.2.2.1 hHeld.out)
      clear hHeld HF GZ
      go_wp2_with fail
      go_ret
      exact ⟨rfl, G.out⟩
end Go.Proofs.Ytlgmankojgjfjaa
