/- The reference's Join and Align. -/
import Derived.Test.YthnjiknmlakkkaaIoJoin
import Derived.Test.YthnjiknmlakkkaaIoSliceR
namespace Go.Proofs.Ythnjiknmlakkkaa
open Go.RowKit Bs
theorem pz_valid {l : List Nat} {N : Nat} {f : Nat → Bool} (hl : By l) (hv : vs l (N : Int) = true) (hf : ∀ i, i < N → f i = bt l i) : l = pz f N ((N + 7) / 8) := by
  have e := pz_copy (M := l.length) hl hv (Nat.le_refl _) hf
  rw [List.drop_of_length_le (by simp), List.append_nil, (vs_bits hv).2] at e
  exact e
set_option maxHeartbeats 3200000 in
theorem joinr_any (l l' : List Nat) (n n' : Int) (q : Nat → Prop) (p p' : Option Addr) (c c' : Nat) (hl : By l) (hl' : By l') (hpc : p = none → c = 0) (w : World) (hq : ∀ b, q b → b < w.heap.size) (hR : Rd w q (.slice p l.length c) (l.map nv)) (hR' : Rd w q (.slice p' l'.length c') (l'.map nv)) :
    Calls Try.prog 27 #[.agg #[.slice p l.length c, .int .i64 n], .agg #[.slice p' l'.length c', .int .i64 n']] w fun e w' => RPost (jnV l n l' n') w e w' := by
  obtain ⟨k1, k2, k2', k3, k4⟩ := three_boxes w #[.slice p l.length c, .int .i64 n] #[.slice p' l'.length c', .int .i64 n'] #[.slice none 0 0, .int .i64 0] 25
  have hR1 := hR.keep k3
  have hR1' := hR'.keep k3
  have H0 := Lib.hid (show BoxAt w w.heap.size (w.heap.size + 2) p c l n _ from ⟨k1, k2', hR1.mono fun x hx => by have := hq x hx; exact ⟨by omega, by omega⟩, hpc, hl, k3⟩)
  have HX := Lib.hid k2
  have HZ0 := Lib.hid k4
  have hq1 : ∀ b, q b → b < (((w.alloc (.cells #[.slice p l.length c, .int .i64 n] 25)).alloc (.cells #[.slice p' l'.length c', .int .i64 n'] 25)).alloc (.cells #[.slice none 0 0, .int .i64 0] 25)).heap.size := fun b hb => Nat.lt_of_lt_of_le (hq b hb) k3.size
  clear k1 k2 k2' k3 k4 hR
  go_enter Try.func27, Try.ntmps27
  go_wp2_with fail
  generalize ((w.alloc (.cells #[.slice p l.length c, .int .i64 n] 25)).alloc (.cells #[.slice p' l'.length c', .int .i64 n'] 25)).alloc (.cells #[.slice none 0 0, .int .i64 0] 25) = w1 at *
  refine (validr_any l n q p c hl _ hq1 hR1).mono ?_
  rintro e wa ⟨rfl, hga⟩
  have A0 := Lib.hid (H0.out.keep hga)
  have B0 := Lib.hid (kept_row HX.out hga (by simp))
  have ZA : Hid (w.heap.size + 3 ≤ wa.heap.size) := Lib.hid (by rw [← HZ0.out]; exact hga.size)
  have hRa' := hR1'.keep hga
  have hqa : ∀ b, q b → b < wa.heap.size := fun b hb => Nat.lt_of_lt_of_le (hq1 b hb) hga.size
  clear hga hR1 hR1' H0 HX HZ0 hq1
  by_cases hv : vs l n = true
  · obtain ⟨N, rfl⟩ := vs_nat hv
    obtain ⟨hN, hlen⟩ := vs_bits hv
    rw [hv]
    obtain ⟨c0, c1, f0, f1, r0, r1, g0, g1⟩ := A0.out.limbs
    obtain ⟨d0, d1⟩ := row_cells B0.out
    have HV := Lib.hid hv
    clear hv hlen
    go_wp2_with fail
    refine (validr_any l' n' q p' c' hl' _ hqa hRa').mono ?_
    rintro e w2 ⟨rfl, hg⟩
    have A2 := Lib.hid (A0.out.keep hg)
    have B2 := Lib.hid (kept_row B0.out hg (by simp))
    have HSZ : Hid (w.heap.size + 3 ≤ w2.heap.size) := Lib.hid (Nat.le_trans ZA.out hg.size)
    clear c0 c1 f0 f1 r0 r1 g0 g1 d0 d1 A0 B0 ZA hRa' hg hqa
    obtain ⟨c0, c1, f0, f1, r0, r1, g0, g1⟩ := A2.out.limbs
    obtain ⟨d0, d1⟩ := row_cells B2.out
    by_cases hv' : vs l' n' = true
    · obtain ⟨N', rfl⟩ := vs_nat hv'
      obtain ⟨hN', hlen'⟩ := vs_bits hv'
      rw [hv']
      obtain ⟨T, hT⟩ : ∃ T : Nat, N + N' = T := ⟨_, rfl⟩
      have hTi : (N : Int) + (N' : Int) = (T : Int) := by omega
      by_cases h4 : 8192 < T
      · have V := Lib.hid (jnV_limit HV.out hv' (by omega))
        clear hv' hlen'
        go_wp2_with fail
        refine bodyPost_ret (res_stream_err rfl _ _ (w.heap.size + 2) _ _ rfl (store2 A2.out.res)) rfl ?_
        exact RPost.err V.out A2.out.gr (by omega)
      · have V := Lib.hid (jnV_ok HV.out hv' hT h4)
        have hT8 : T ≤ 8192 := by omega
        have d8 : decide (8192 < T) = false := by simpa using h4
        have P0 : Hid (PutsRel (jnf l N l') w w.heap.size (w.heap.size + 2) N 0 w2) := by
          refine Lib.hid ⟨p, c, ?_⟩
          show BoxAt w w.heap.size (w.heap.size + 2) p c (pz (jnf l N l') N ((N + 7) / 8)) (N : Int) w2
          rw [← pz_valid hl HV.out jnf_low]
          exact A2.out
        have HL' := Lib.hid hlen'
        have HT := Lib.hid hT
        have HRR := Lib.hid hR'
        clear hv' hlen' hT hR' f0 f1 r0 r1 g0 g1
        go_wp2_with fail
        go_loopw [6] (fun i wr => ∃ j : Nat, j ≤ N' ∧ i = .int .i64 (j : Int) ∧ PutsRel (jnf l N l') w w.heap.size (w.heap.size + 2) N j wr ∧ w.heap.size + 3 ≤ wr.heap.size ∧ wr.heap[w.heap.size + 1]? = some (.cells #[.slice p' l'.length c', .int .i64 (N' : Int)] 25 (0, 0))) (fun i _ => (N' - (intOf i).toNat))
        case atStart => exact ⟨0, Nat.zero_le _, rfl, P0.out, HSZ.out, B2.out⟩
        case round =>
          obtain ⟨j, hj, rfl, hP, hsz, hrow⟩ := hrel
          obtain ⟨p1, c1, l1, HL1, hB1⟩ := hP.open_
          have HZ := Lib.hid hsz
          have HRW := Lib.hid hrow
          obtain ⟨m, hm⟩ : ∃ m : Nat, N + j = m := ⟨_, rfl⟩
          rw [hm] at HL1 hB1
          have HB1 := Lib.hid hB1
          clear hP hB1 P0 hsz hrow A2 B2
          clear c0 d0 d1
          obtain ⟨d0, d1⟩ := row_cells HRW.out
          by_cases hlt : j < N'
          · obtain ⟨xv, hxv⟩ : ∃ xv : Value, bw (bt l' j) = xv := ⟨_, rfl⟩
            have HRd := HRR.out.keep HB1.out.drew.gr
            have C1 := bitr_any l' j q p' c' hl' (by have := HL'.out; omega) (by omega) wr.drew HRd
            rw [hxv] at C1
            have hfm : jnf l N l' m = bt l' j := by rw [← hm, jnf_high j (K := N') hlt, Nat.zero_add]
            have C2 := put_val (f := jnf l N l') (m := m) (x := xv) (by rw [hfm, hxv]) l1 _ p1 c1 (by omega) HL1.out HB1.out.pc wr.drew HB1.out.drew.rd
            obtain ⟨l3, hl3⟩ : ∃ l3, l3 = pz (jnf l N l') (m + 1) ((m + 8) / 8) := ⟨_, rfl⟩
            rw [← hl3] at C2
            have H1 := Lib.hid C1
            have H2 := Lib.hid C2
            have HL3 := Lib.hid hl3
            have HM := Lib.hid hm
            obtain ⟨b0, b1, f0, f1, r0, r1, g0, g1⟩ := HB1.out.limbs
            have hm9 : m ≤ 9000 := by omega
            have hj9 : j ≤ 9000 := by omega
            clear C1 C2 hl3 hm hxv HRd hfm
            go_wp2_with fail
            go_region_law (first
              | (go_simp; go_at_call 39; refine H1.out.mono ?_; rintro e w' ⟨rfl, rfl⟩)
              | (go_simp; go_at_call 35; refine H2.out.mono ?_; rintro e w3 ⟨p3, c3, rfl, hown3, hg3⟩; obtain ⟨x0, x1, y0, y1, z0, z1, u0, u1⟩ := (HB1.out.drew.keep hg3).limbs))
            all_goals
              have HB3 := Lib.hid (HB1.out.drew.keep hg3)
              have hD3 : w.heap.size + 2 < wr.drew.heap.size := by have := HZ.out; show w.heap.size + 2 < wr.heap.size; omega
              have R := puts_next (f := jnf l N l') (N := N) (j := j) HB3 HM.out HL3.out hown3 (by omega) (by omega) (by omega) hD3
              have R2 : Hid (w.heap.size + 3 ≤ w3.heap.size) := Lib.hid (Nat.le_trans HZ.out hg3.size)
              have R3 := Lib.hid (kept_row (kept_row HRW.out (grown_trans (grown_drew (grown_refl _ none)) hg3) (by simp)) (grown_store2 w3 w.heap.size (.slice p3 l3.length c3) (.int .i64 ((m : Int) + 1))) (by intro e; have := Option.some.inj e; omega))
              clear hown3 hg3 HB3 hD3
              go_wp2_with fail
              go_roundw
              case rel => exact ⟨j + 1, by omega, by go_num, R.out, by simpa using R2.out, R3.out⟩
              case measure => simp [intOf]; omega
          · obtain rfl : j = N' := by omega
            obtain ⟨b0, b1, f0, f1, r0, r1, g0, g1⟩ := HB1.out.limbs
            have hmT : m = T := by have := HT.out; omega
            have F := Lib.hid (HB1.out.fin (V := jnV l (N : Int) l' (j : Int)) (by rw [V.out, HL1.out, hmT]) (by omega))
            clear HB1 hm hmT
            go_wp2_with fail
            refine bodyPost_ret (res_stream_err rfl _ _ (w.heap.size + 2) _ _ rfl F.out.1) rfl ?_
            exact F.out.2
    · have hv0 : vs l' n' = false := by simpa using hv'
      have V := Lib.hid (jnV_inv2 HV.out hv0)
      rw [hv0]
      clear hv'
      go_wp2_with fail
      refine bodyPost_ret (res_stream_err rfl _ _ (w.heap.size + 2) _ _ rfl (store2 A2.out.res)) rfl ?_
      exact RPost.err V.out A2.out.gr (by omega)
  · have hv0 : vs l n = false := by simpa using hv
    have V := Lib.hid (jnV_inv (l' := l') (n' := n') hv0)
    rw [hv0]
    obtain ⟨c0, c1, f0, f1, r0, r1, g0, g1⟩ := A0.out.limbs
    clear hv
    go_wp2_with fail
    refine bodyPost_ret (res_stream_err rfl _ _ (w.heap.size + 2) _ _ rfl (store2 A0.out.res)) rfl ?_
    exact RPost.err V.out A0.out.gr (by omega)
set_option maxHeartbeats 3200000 in
theorem alignr_any (l : List Nat) (n : Int) (q : Nat → Prop) (p : Option Addr) (c : Nat) (hl : By l) (hpc : p = none → c = 0) (w : World) (hq : ∀ b, q b → b < w.heap.size) (hR : Rd w q (.slice p l.length c) (l.map nv)) :
    Calls Try.prog 29 #[.agg #[.slice p l.length c, .int .i64 n]] w fun e w' => RPost (alV l n) w e w' := by
  obtain ⟨k1, k2, k3, k4⟩ := two_boxes w #[.slice p l.length c, .int .i64 n] #[.slice none 0 0, .int .i64 0] 25 25
  have hR1 := hR.keep k3
  have H0 := Lib.hid (show BoxAt w w.heap.size (w.heap.size + 1) p c l n _ from ⟨k1, k2, hR1.mono fun x hx => by have := hq x hx; exact ⟨by omega, by omega⟩, hpc, hl, k3⟩)
  have HZ0 := Lib.hid k4
  have hq1 : ∀ b, q b → b < ((w.alloc (.cells #[.slice p l.length c, .int .i64 n] 25)).alloc (.cells #[.slice none 0 0, .int .i64 0] 25)).heap.size := fun b hb => Nat.lt_of_lt_of_le (hq b hb) k3.size
  clear k1 k2 k3 k4 hR
  go_enter Try.func29, Try.ntmps29
  go_wp2_with fail
  generalize (w.alloc (.cells #[.slice p l.length c, .int .i64 n] 25)).alloc (.cells #[.slice none 0 0, .int .i64 0] 25) = w1 at *
  refine (validr_any l n q p c hl _ hq1 hR1).mono ?_
  rintro e w2 ⟨rfl, hg⟩
  have HB := Lib.hid (H0.out.keep hg)
  have HSZ2 : Hid (w.heap.size + 2 ≤ w2.heap.size) := Lib.hid (by rw [← HZ0.out]; exact hg.size)
  clear hg hR1 H0 hq1 HZ0
  obtain ⟨c0, c1, f0, f1, r0, r1, g0, g1⟩ := HB.out.limbs
  by_cases hv : vs l n = true
  · have V := Lib.hid (alV_ok hv)
    obtain ⟨N, rfl⟩ := vs_nat hv
    obtain ⟨hN, hlen⟩ := vs_bits hv
    rw [hv]
    have P0 : Hid (PutsRel (bt l) w w.heap.size (w.heap.size + 1) N 0 w2) := by
      refine Lib.hid ⟨p, c, ?_⟩
      show BoxAt w w.heap.size (w.heap.size + 1) p c (pz (bt l) N ((N + 7) / 8)) (N : Int) w2
      rw [← pz_valid hl hv fun _ _ => rfl]
      exact HB.out
    have HV := Lib.hid hv
    have HL := Lib.hid hlen
    clear hv hlen HB f0 f1 r0 r1 g0 g1 c0 c1
    go_wp2_with fail
    go_loopg [] (8 * l.length - N) (fun g wr => ∃ j : Nat, N + j + g = 8 * l.length ∧ PutsRel (bt l) w w.heap.size (w.heap.size + 1) N j wr ∧ w.heap.size + 2 ≤ wr.heap.size)
    case atStart => exact ⟨0, by have := HL.out; omega, P0.out, HSZ2.out⟩
    case round =>
      obtain ⟨j, hjg, hP, hsz⟩ := hrel
      obtain ⟨p1, c1, l1, HL1, hB1⟩ := hP.open_
      have HZ := Lib.hid hsz
      have HJG := Lib.hid hjg
      obtain ⟨m, hm⟩ : ∃ m : Nat, N + j = m := ⟨_, rfl⟩
      rw [hm] at HL1 hB1
      have HB1 := Lib.hid hB1
      have hm8 : m ≤ 8 * l.length := by omega
      have hll : l.length ≤ 1025 := by have := HL.out; omega
      obtain ⟨b0, b1, f0, f1, r0, r1, g0, g1⟩ := HB1.out.limbs
      clear hP hB1 P0 hsz
      cases gk with
      | zero =>
        have hz8 : (m : Int) % 8 = 0 := by omega
        have hml : m = 8 * l.length := by omega
        have hl1 : l1 = l := by
          rw [HL1.out, hml, show (8 * l.length + 7) / 8 = l.length by omega]
          exact (pz_bt l (8 * l.length) hl fun i h1 h2 => by omega).symm
        have F := Lib.hid (HB1.out.fin (V := alV l (N : Int)) (by rw [V.out, hl1, hml]) (by omega))
        clear HB1 hm hml hl1 hjg
        go_wp2_with fail
        refine bodyPost_ret (res_stream_err rfl _ _ (w.heap.size + 1) _ _ rfl F.out.1) rfl ?_
        exact F.out.2
      | succ g =>
        have hz8 : ¬ ((m : Int) % 8 = 0) := by have := HL.out; omega
        have hfm : bt l m = false := (vs_iff.1 HV.out).2.2 m (by omega) (by omega)
        have C2 := put_val (f := bt l) (m := m) (x := .int .u64 0) (by rw [bw_false hfm]) l1 _ p1 c1 (by omega) HL1.out HB1.out.pc wr HB1.out.rd
        obtain ⟨l3, hl3⟩ : ∃ l3, l3 = pz (bt l) (m + 1) ((m + 8) / 8) := ⟨_, rfl⟩
        rw [← hl3] at C2
        have H2 := Lib.hid C2
        have HL3 := Lib.hid hl3
        have HM := Lib.hid hm
        have hm9 : m ≤ 9000 := by omega
        clear C2 hl3 hm hfm hjg
        go_wp2_with fail
        refine H2.out.mono ?_
        rintro e w3 ⟨p3, c3, rfl, hown3, hg3⟩
        have HB3 := Lib.hid (HB1.out.keep hg3)
        have R := puts_next (f := bt l) (N := N) (j := j) HB3 HM.out HL3.out hown3 (by omega) (by omega) (by have := HZ.out; omega) (by have := HZ.out; omega)
        have R2 : Hid (w.heap.size + 2 ≤ w3.heap.size) := Lib.hid (Nat.le_trans HZ.out hg3.size)
        clear b0 b1 f0 f1 r0 r1 g0 g1
        obtain ⟨b0, b1, f0, f1, r0, r1, g0, g1⟩ := HB3.out.limbs
        clear hown3 hg3 HB1
        go_wp2_with fail
        go_roundg g
        case measure => omega
        case rel => exact ⟨j + 1, by have := HJG.out; omega, R.out, by simpa using R2.out⟩
  · have hv0 : vs l n = false := by simpa using hv
    have V := Lib.hid (alV_inv hv0)
    rw [hv0]
    clear hv
    go_wp2_with fail
    refine bodyPost_ret (res_stream_err rfl _ _ (w.heap.size + 1) _ _ rfl (store2 HB.out.res)) rfl ?_
    exact RPost.err V.out HB.out.gr (by omega)
end Go.Proofs.Ythnjiknmlakkkaa
