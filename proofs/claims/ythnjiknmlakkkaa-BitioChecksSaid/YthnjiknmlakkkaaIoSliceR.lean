/- The reference's Slice. -/
import Derived.Test.YthnjiknmlakkkaaIoSlice
namespace Go.Proofs.Ythnjiknmlakkkaa
open Go.RowKit Bs
theorem put_val {f : Nat → Bool} {m : Nat} {x : Value} (hx : bw (f m) = x) (l : List Nat) (q : Nat → Prop) (p : Option Addr) (c : Nat) (hm : m ≤ 9000) (hl : l = pz f m ((m + 7) / 8)) (hpc : p = none → c = 0) (w : World) (hR : Rd w q (.slice p l.length c) (l.map nv)) :
    Calls Try.prog 35 #[.agg #[.slice p l.length c, .int .i64 (m : Int)], x] w fun e w' => StreamPost (pz f (m + 1) ((m + 8) / 8)) ((m + 1 : Nat) : Int) w e w' := by
  subst hx
  exact put_any f m l q p c hm hl hpc w hR
theorem BoxAt.drew {W w' : World} {b r : Nat} {p : Option Addr} {c : Nat} {l : List Nat} {n : Int} (h : BoxAt W b r p c l n w') : BoxAt W b r p c l n w'.drew := h.keep (grown_drew (grown_refl _ _))
set_option maxHeartbeats 3200000 in
theorem slicer_any (l : List Nat) (n a b : Int) (q : Nat → Prop) (p : Option Addr) (c : Nat) (hl : By l) (ha : I64 a) (hb : I64 b) (w : World) (hq : ∀ b, q b → b < w.heap.size) (hR : Rd w q (.slice p l.length c) (l.map nv)) :
    Calls Try.prog 25 #[.agg #[.slice p l.length c, .int .i64 n], .int .i64 a, .int .i64 b] w fun e w' => RPost (slV l n a b) w e w' := by
  obtain ⟨k1, k2, k3, k4⟩ := two_boxes w #[.slice p l.length c, .int .i64 n] #[.slice none 0 0, .int .i64 0] 25 25
  have H0 := Lib.hid (And.intro k1 (And.intro k2 (And.intro k3 k4)))
  have hR1 := hR.keep k3
  have hq1 : ∀ b, q b → b < ((w.alloc (.cells #[.slice p l.length c, .int .i64 n] 25)).alloc (.cells #[.slice none 0 0, .int .i64 0] 25)).heap.size := fun b hb => Nat.lt_of_lt_of_le (hq b hb) k3.size
  unfold I64 at ha hb
  clear k1 k2 k3 k4
  go_enter Try.func25, Try.ntmps25
  go_wp2_with fail
  generalize (w.alloc (.cells #[.slice p l.length c, .int .i64 n] 25)).alloc (.cells #[.slice none 0 0, .int .i64 0] 25) = w1 at *
  refine (validr_any l n q p c hl _ hq1 hR1).mono ?_
  rintro e w2 ⟨rfl, hg⟩
  have HROW := Lib.hid (kept_row H0.out.1 hg (by simp))
  have HRES := Lib.hid (kept_row H0.out.2.1 hg (by simp))
  obtain ⟨c0, c1⟩ := row_cells HROW.out
  obtain ⟨r0, r1⟩ := row_cells HRES.out
  have g0 := frozen_of_row _ _ 0 _ _ HRES.out
  have g1 := frozen_of_row _ _ 1 _ _ HRES.out
  have HG := Lib.hid (grown_trans H0.out.2.2.1 hg)
  have HSZ : Hid (w.heap.size + 2 ≤ w2.heap.size) := Lib.hid (by rw [← H0.out.2.2.2]; exact hg.size)
  clear hg hR1 H0 hq1
  by_cases hv : vs l n = true
  · obtain ⟨N, rfl⟩ := vs_nat hv
    obtain ⟨hN, hlen⟩ := vs_bits hv
    rw [hv]
    by_cases h1 : a < 0
    · have V := Lib.hid (slV_range (b := b) hv (.inl h1))
      clear hv hlen
      go_wp2_with fail
      refine bodyPost_ret (res_stream_err rfl _ _ (w.heap.size + 1) _ _ rfl (store2 HRES.out)) rfl ?_
      exact RPost.err V.out HG.out (by omega)
    · by_cases h2 : b < a
      · have V := Lib.hid (slV_range hv (.inr (.inl h2)))
        clear hv hlen
        go_wp2_with fail
        refine bodyPost_ret (res_stream_err rfl _ _ (w.heap.size + 1) _ _ rfl (store2 HRES.out)) rfl ?_
        exact RPost.err V.out HG.out (by omega)
      · by_cases h3 : (N : Int) < b
        · have V := Lib.hid (slV_range (a := a) hv (.inr (.inr h3)))
          clear hv hlen
          go_wp2_with fail
          refine bodyPost_ret (res_stream_err rfl _ _ (w.heap.size + 1) _ _ rfl (store2 HRES.out)) rfl ?_
          exact RPost.err V.out HG.out (by omega)
        · obtain ⟨A, rfl⟩ := Int.eq_ofNat_of_zero_le (show 0 ≤ a by omega)
          obtain ⟨B, rfl⟩ := Int.eq_ofNat_of_zero_le (show 0 ≤ b by omega)
          obtain ⟨T, hB⟩ : ∃ T : Nat, A + T = B := ⟨B - A, by omega⟩
          have hBN : B ≤ N := by omega
          have V := Lib.hid (slV_ok hv hB hBN)
          have HL := Lib.hid hlen
          have hA8 : A ≤ 8192 := by omega
          have hT8 : T ≤ 8192 := by omega
          have hBA : ¬ B < A := by omega
          have hNB : ¬ N < B := by omega
          have dBA : decide (B < A) = false := by simpa using hBA
          have dNB : decide (N < B) = false := by simpa using hNB
          have dA0 : decide ((A : Int) < 0) = false := by simp
          have hB8 : B ≤ 8192 := by omega
          obtain ⟨t1, t2⟩ := one_box w2 #[.slice none 0 0, .int .i64 0] 25
          obtain ⟨D, hD⟩ : ∃ D : Nat, D = w2.heap.size := ⟨_, rfl⟩
          have P0 : Hid (PutsRel (fun i => bt l (A + i)) w D (w.heap.size + 1) 0 0 (w2.alloc (.cells #[.slice none 0 0, .int .i64 0] 25))) := by
            refine Lib.hid ⟨none, 0, ?_⟩
            rw [hD]
            exact ⟨t1, kept_row HRES.out t2 (by simp), Rd.nil_ _ _ _ _, fun _ => rfl, (fun x hx => by cases hx), grown_trans HG.out t2⟩
          have Q0 := Lib.hid (kept_row HROW.out t2 (by simp))
          have S0 : Hid (D + 1 ≤ (w2.alloc (.cells #[.slice none 0 0, .int .i64 0] 25)).heap.size) := Lib.hid (by rw [hD]; simp)
          have hWD : w.heap.size + 2 ≤ D := by rw [hD]; exact HSZ.out
          have HB := Lib.hid hB
          have HRR := Lib.hid hR
          clear hv hlen t1 t2 hB r0 r1 g0 g1 hR
          have hDs : w2.heap.size = D := hD.symm
          clear hD
          go_wp2_with fail
          go_loopw [9] (fun i wr => ∃ j : Nat, j ≤ T ∧ i = .int .i64 ((A + j : Nat) : Int) ∧ PutsRel (fun i => bt l (A + i)) w D (w.heap.size + 1) 0 j wr ∧ D + 1 ≤ wr.heap.size ∧ wr.heap[w.heap.size]? = some (.cells #[.slice p l.length c, .int .i64 (N : Int)] 25 (0, 0))) (fun i _ => (B - (intOf i).toNat))
          case atStart => exact ⟨0, Nat.zero_le _, rfl, P0.out, S0.out, Q0.out⟩
          case round =>
            obtain ⟨j, hj, rfl, hP, hsz, hrow⟩ := hrel
            obtain ⟨p1, c1, l1, HL1, hB1⟩ := hP.open_
            have HZ := Lib.hid hsz
            have HRW := Lib.hid hrow
            obtain ⟨m, hm⟩ : ∃ m : Nat, 0 + j = m := ⟨_, rfl⟩
            rw [hm] at HL1 hB1
            have HB1 := Lib.hid hB1
            clear hP hB1 P0 S0 Q0 hsz hrow
            by_cases hlt : j < T
            · have hmj : m = j := by omega
              obtain ⟨xv, hxv⟩ : ∃ xv : Value, bw (bt l (A + j)) = xv := ⟨_, rfl⟩
              have HRd := HRR.out.keep HB1.out.drew.gr
              have C1 := bitr_any l (A + j) q p c hl (by have := HL.out; have := HB.out; omega) (by omega) wr.drew HRd
              rw [hxv] at C1
              have C2 := put_val (f := fun i => bt l (A + i)) (m := m) (x := xv) (by rw [← hxv, hmj]) l1 _ p1 c1 (by omega) HL1.out HB1.out.pc wr.drew HB1.out.drew.rd
              obtain ⟨l3, hl3⟩ : ∃ l3, l3 = pz (fun i => bt l (A + i)) (m + 1) ((m + 8) / 8) := ⟨_, rfl⟩
              rw [← hl3] at C2
              have H1 := Lib.hid C1
              have H2 := Lib.hid C2
              have HL3 := Lib.hid hl3
              have HM := Lib.hid hm
              obtain ⟨b0, b1, f0, f1, r0, r1, g0, g1⟩ := HB1.out.limbs
              obtain ⟨c0, c2⟩ := row_cells HRW.out
              have hAj : A + j ≤ 8192 := by have := HB.out; omega
              have hAjB : A + j < B := by have := HB.out; omega
              have hm9 : m ≤ 8192 := by omega
              clear C1 C2 hl3 hm hxv HRd hmj
              generalize hE : A + j = E at *
              have HE := Lib.hid hE
              clear hE
              go_wp2_with fail
              go_region_law (first
                | (go_simp; go_at_call 39; refine H1.out.mono ?_; rintro e w' ⟨rfl, rfl⟩)
                | (go_simp; go_at_call 35; refine H2.out.mono ?_; rintro e w3 ⟨p3, c3, rfl, hown3, hg3⟩; obtain ⟨x0, x1, y0, y1, z0, z1, u0, u1⟩ := (HB1.out.drew.keep hg3).limbs))
              all_goals
                have HB3 := Lib.hid (HB1.out.drew.keep hg3)
                have hD3 : D < wr.drew.heap.size := by have := HZ.out; show D < wr.heap.size; omega
                have R := puts_next (f := fun i => bt l (A + i)) (N := 0) (j := j) HB3 HM.out HL3.out hown3 (by omega) (by omega) hD3 (by omega)
                have R2 : Hid (D + 1 ≤ w3.heap.size) := Lib.hid (Nat.le_trans HZ.out hg3.size)
                have R3 := Lib.hid (kept_row (kept_row HRW.out (grown_trans (grown_drew (grown_refl _ none)) hg3) (by simp)) (grown_store2 w3 D (.slice p3 l3.length c3) (.int .i64 ((m : Int) + 1))) (by intro e; have := Option.some.inj e; omega))
                clear hown3 hg3 HB3 hD3
                go_wp2_with fail
                go_roundw
                case rel => exact ⟨j + 1, by omega, by congr 1; have := HE.out; omega, R.out, by simpa using R2.out, R3.out⟩
                case measure => simp [intOf]; omega
            · obtain rfl : j = T := by omega
              obtain ⟨b0, b1, f0, f1, r0, r1, g0, g1⟩ := HB1.out.limbs
              have F := Lib.hid (HB1.out.fin (V := slV l (N : Int) (A : Int) (B : Int)) (by rw [V.out, HL1.out, show m = j by omega]) (by omega))
              have hE : A + j = B := HB.out
              rw [hE]
              clear HB1 hE hm
              go_wp2_with fail
              refine bodyPost_ret (res_stream_err rfl _ _ (w.heap.size + 1) _ _ rfl F.out.1) rfl ?_
              exact F.out.2
  · have hv0 : vs l n = false := by simpa using hv
    have V := Lib.hid (slV_inv (a := a) (b := b) hv0)
    rw [hv0]
    go_wp2_with fail
    refine bodyPost_ret (res_stream_err rfl _ _ (w.heap.size + 1) _ _ rfl (store2 HRES.out)) rfl ?_
    exact RPost.err V.out HG.out (by omega)
end Go.Proofs.Ythnjiknmlakkkaa
