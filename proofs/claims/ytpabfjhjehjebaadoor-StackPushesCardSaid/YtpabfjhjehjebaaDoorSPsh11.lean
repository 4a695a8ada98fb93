/- Parts of the proof, packed: IoSliceR, IoJoinR, PkText, Ref, Draw, PkTape, PkTapeN, PkList. -/
import Derived.Test.YtpabfjhjehjebaaDoorSPsh4
import Derived.Test.YtpabfjhjehjebaaDoorSPsh2
import Derived.Test.YtpabfjhjehjebaaDoorSPsh7
import Derived.Test.YtpabfjhjehjebaaDoorSPsh6
import Derived.Test.YtpabfjhjehjebaaDoorSPsh5
import Derived.Test.YtpabfjhjehjebaaDoorSPsh1
import Derived.Test.YtpabfjhjehjebaaDoorSPsh9
import Derived.Deep.CutRange
import Derived.Deep.RegionHeld3
/- The reference's Slice. -/
namespace Go.Proofs.YtpabfjhjehjebaaDoor
open Go.RowKit Bs
set_option maxRecDepth 100000 in
theorem put_val {f : Nat → Bool} {m : Nat} {x : Value} (hx : bw (f m) = x) (l : List Nat) (q : Nat → Prop) (p : Option Addr) (c : Nat) (hm : m ≤ 9000) (hl : l = pz f m ((m + 7) / 8)) (hpc : p = none → c = 0) (w : World) (hR : Rd w q (.slice p l.length c) (l.map nv)) :
    Calls Tryd.prog 77 #[.agg #[.slice p l.length c, .int .i64 (m : Int)], x] w fun e w' => StreamPost (pz f (m + 1) ((m + 8) / 8)) ((m + 1 : Nat) : Int) w e w' := by
  subst hx
  exact put_any f m l q p c hm hl hpc w hR
set_option maxRecDepth 100000 in
theorem BoxAt.drew {W w' : World} {b r : Nat} {p : Option Addr} {c : Nat} {l : List Nat} {n : Int} (h : BoxAt W b r p c l n w') : BoxAt W b r p c l n w'.drew := h.keep (grown_drew (grown_refl _ _))
set_option maxRecDepth 100000 in
set_option maxHeartbeats 3200000 in
theorem slicer_any (l : List Nat) (n a b : Int) (q : Nat → Prop) (p : Option Addr) (c : Nat) (hl : By l) (ha : I64 a) (hb : I64 b) (w : World) (hq : ∀ b, q b → b < w.heap.size) (hR : Rd w q (.slice p l.length c) (l.map nv)) :
    Calls Tryd.prog 64 #[.agg #[.slice p l.length c, .int .i64 n], .int .i64 a, .int .i64 b] w fun e w' => RPost (slV l n a b) w e w' := by
  obtain ⟨k1, k2, k3, k4⟩ := two_boxes w #[.slice p l.length c, .int .i64 n] #[.slice none 0 0, .int .i64 0] 74 74
  have H0 := Lib.hid (And.intro k1 (And.intro k2 (And.intro k3 k4)))
  have hR1 := hR.keep k3
  have hq1 : ∀ b, q b → b < ((w.alloc (.cells #[.slice p l.length c, .int .i64 n] 74)).alloc (.cells #[.slice none 0 0, .int .i64 0] 74)).heap.size := fun b hb => Nat.lt_of_lt_of_le (hq b hb) k3.size
  unfold I64 at ha hb
  clear k1 k2 k3 k4
  go_enter Tryd.func64, Tryd.ntmps64
  go_wp2_with fail
  generalize (w.alloc (.cells #[.slice p l.length c, .int .i64 n] 74)).alloc (.cells #[.slice none 0 0, .int .i64 0] 74) = w1 at *
  refine (validr_any l n q p c hl _ hq1 hR1).mono ?_
  rintro e w2 ⟨rfl, hg⟩
  have HROW := Lib.hid (kept_row H0.out.1 hg (by simp))
  have HRES := Lib.hid (kept_row H0.out.2.1 hg (by simp))
  obtain ⟨c0, c1⟩ := row_cells HROW.out
  obtain ⟨r0, r1⟩ := row_cells HRES.out
  have g0 := frozen_of_row _ _ 0 _ _ HRES.out
  have g1 := frozen_of_row _ _ 1 _ _ HRES.out
  have HG := Lib.hid (grown_trans H0.out.2.2.1 hg)
  have HSZ : Hid (w.heap.size + 2 ≤ w2.heap.size) := Lib.hid (by rw [← H0.out.2.2.2]; exact hg.size)
  clear hg hR1 H0 hq1
  by_cases hv : vs l n = true
  · obtain ⟨N, rfl⟩ := vs_nat hv
    obtain ⟨hN, hlen⟩ := vs_bits hv
    rw [hv]
    by_cases h1 : a < 0
    · have V := Lib.hid (slV_range (b := b) hv (.inl h1))
      clear hv hlen
      go_wp2_with fail
      refine bodyPost_ret (res_stream_err rfl _ _ (w.heap.size + 1) _ _ rfl (store2 HRES.out)) rfl ?_
      exact RPost.err V.out HG.out (by omega)
    · by_cases h2 : b < a
      · have V := Lib.hid (slV_range hv (.inr (.inl h2)))
        clear hv hlen
        go_wp2_with fail
        refine bodyPost_ret (res_stream_err rfl _ _ (w.heap.size + 1) _ _ rfl (store2 HRES.out)) rfl ?_
        exact RPost.err V.out HG.out (by omega)
      · by_cases h3 : (N : Int) < b
        · have V := Lib.hid (slV_range (a := a) hv (.inr (.inr h3)))
          clear hv hlen
          go_wp2_with fail
          refine bodyPost_ret (res_stream_err rfl _ _ (w.heap.size + 1) _ _ rfl (store2 HRES.out)) rfl ?_
          exact RPost.err V.out HG.out (by omega)
        · obtain ⟨A, rfl⟩ := Int.eq_ofNat_of_zero_le (show 0 ≤ a by omega)
          obtain ⟨B, rfl⟩ := Int.eq_ofNat_of_zero_le (show 0 ≤ b by omega)
          obtain ⟨T, hB⟩ : ∃ T : Nat, A + T = B := ⟨B - A, by omega⟩
          have hBN : B ≤ N := by omega
          have V := Lib.hid (slV_ok hv hB hBN)
          have HL := Lib.hid hlen
          have hA8 : A ≤ 8192 := by omega
          have hT8 : T ≤ 8192 := by omega
          have hBA : ¬ B < A := by omega
          have hNB : ¬ N < B := by omega
          have dBA : decide (B < A) = false := by simpa using hBA
          have dNB : decide (N < B) = false := by simpa using hNB
          have dA0 : decide ((A : Int) < 0) = false := by simp
          have hB8 : B ≤ 8192 := by omega
          obtain ⟨t1, t2⟩ := one_box w2 #[.slice none 0 0, .int .i64 0] 74
          obtain ⟨D, hD⟩ : ∃ D : Nat, D = w2.heap.size := ⟨_, rfl⟩
          have P0 : Hid (PutsRel (fun i => bt l (A + i)) w D (w.heap.size + 1) 0 0 (w2.alloc (.cells #[.slice none 0 0, .int .i64 0] 74))) := by
            refine Lib.hid ⟨none, 0, ?_⟩
            rw [hD]
            exact ⟨t1, kept_row HRES.out t2 (by simp), Rd.nil_ _ _ _ _, fun _ => rfl, (fun x hx => by cases hx), grown_trans HG.out t2⟩
          have Q0 := Lib.hid (kept_row HROW.out t2 (by simp))
          have S0 : Hid (D + 1 ≤ (w2.alloc (.cells #[.slice none 0 0, .int .i64 0] 74)).heap.size) := Lib.hid (by rw [hD]; simp)
          have hWD : w.heap.size + 2 ≤ D := by rw [hD]; exact HSZ.out
          have HB := Lib.hid hB
          have HRR := Lib.hid hR
          clear hv hlen t1 t2 hB r0 r1 g0 g1 hR
          have hDs : w2.heap.size = D := hD.symm
          clear hD
          go_wp2_with fail
          go_loopw [9] (fun i wr => ∃ j : Nat, j ≤ T ∧ i = .int .i64 ((A + j : Nat) : Int) ∧ PutsRel (fun i => bt l (A + i)) w D (w.heap.size + 1) 0 j wr ∧ D + 1 ≤ wr.heap.size ∧ wr.heap[w.heap.size]? = some (.cells #[.slice p l.length c, .int .i64 (N : Int)] 74 (0, 0))) (fun i _ => (B - (intOf i).toNat))
          case atStart => exact ⟨0, Nat.zero_le _, rfl, P0.out, S0.out, Q0.out⟩
          case round =>
            obtain ⟨j, hj, rfl, hP, hsz, hrow⟩ := hrel
            obtain ⟨p1, c1, l1, HL1, hB1⟩ := hP.open_
            have HZ := Lib.hid hsz
            have HRW := Lib.hid hrow
            obtain ⟨m, hm⟩ : ∃ m : Nat, 0 + j = m := ⟨_, rfl⟩
            rw [hm] at HL1 hB1
            have HB1 := Lib.hid hB1
            clear hP hB1 P0 S0 Q0 hsz hrow
            by_cases hlt : j < T
            · have hmj : m = j := by omega
              obtain ⟨xv, hxv⟩ : ∃ xv : Value, bw (bt l (A + j)) = xv := ⟨_, rfl⟩
              have HRd := HRR.out.keep HB1.out.drew.gr
              have C1 := bitr_any l (A + j) q p c hl (by have := HL.out; have := HB.out; omega) (by omega) wr.drew HRd
              rw [hxv] at C1
              have C2 := put_val (f := fun i => bt l (A + i)) (m := m) (x := xv) (by rw [← hxv, hmj]) l1 _ p1 c1 (by omega) HL1.out HB1.out.pc wr.drew HB1.out.drew.rd
              obtain ⟨l3, hl3⟩ : ∃ l3, l3 = pz (fun i => bt l (A + i)) (m + 1) ((m + 8) / 8) := ⟨_, rfl⟩
              rw [← hl3] at C2
              have H1 := Lib.hid C1
              have H2 := Lib.hid C2
              have HL3 := Lib.hid hl3
              have HM := Lib.hid hm
              obtain ⟨b0, b1, f0, f1, r0, r1, g0, g1⟩ := HB1.out.limbs
              obtain ⟨c0, c2⟩ := row_cells HRW.out
              have hAj : A + j ≤ 8192 := by have := HB.out; omega
              have hAjB : A + j < B := by have := HB.out; omega
              have hm9 : m ≤ 8192 := by omega
              clear C1 C2 hl3 hm hxv HRd hmj
              generalize hE : A + j = E at *
              have HE := Lib.hid hE
              clear hE
              go_wp2_with fail
              go_region_law (first
                | (go_simp; go_at_call 78; refine H1.out.mono ?_; rintro e w' ⟨rfl, rfl⟩)
                | (go_simp; go_at_call 77; refine H2.out.mono ?_; rintro e w3 ⟨p3, c3, rfl, hown3, hg3⟩; obtain ⟨x0, x1, y0, y1, z0, z1, u0, u1⟩ := (HB1.out.drew.keep hg3).limbs))
              all_goals
                have HB3 := Lib.hid (HB1.out.drew.keep hg3)
                have hD3 : D < wr.drew.heap.size := by have := HZ.out; show D < wr.heap.size; omega
                have R := puts_next (f := fun i => bt l (A + i)) (N := 0) (j := j) HB3 HM.out HL3.out hown3 (by omega) (by omega) hD3 (by omega)
                have R2 : Hid (D + 1 ≤ w3.heap.size) := Lib.hid (Nat.le_trans HZ.out hg3.size)
                have R3 := Lib.hid (kept_row (kept_row HRW.out (grown_trans (grown_drew (grown_refl _ none)) hg3) (by simp)) (grown_store2 w3 D (.slice p3 l3.length c3) (.int .i64 ((m : Int) + 1))) (by intro e; have := Option.some.inj e; omega))
                clear hown3 hg3 HB3 hD3
                go_wp2_with fail
                go_roundw
                case rel => exact ⟨j + 1, by omega, by congr 1; have := HE.out; omega, R.out, by simpa using R2.out, R3.out⟩
                case measure => simp [intOf]; omega
            · obtain rfl : j = T := by omega
              obtain ⟨b0, b1, f0, f1, r0, r1, g0, g1⟩ := HB1.out.limbs
              have F := Lib.hid (HB1.out.fin (V := slV l (N : Int) (A : Int) (B : Int)) (by rw [V.out, HL1.out, show m = j by omega]) (by omega))
              have hE : A + j = B := HB.out
              rw [hE]
              clear HB1 hE hm
              go_wp2_with fail
              refine bodyPost_ret (res_stream_err rfl _ _ (w.heap.size + 1) _ _ rfl F.out.1) rfl ?_
              exact F.out.2
  · have hv0 : vs l n = false := by simpa using hv
    have V := Lib.hid (slV_inv (a := a) (b := b) hv0)
    rw [hv0]
    go_wp2_with fail
    refine bodyPost_ret (res_stream_err rfl _ _ (w.heap.size + 1) _ _ rfl (store2 HRES.out)) rfl ?_
    exact RPost.err V.out HG.out (by omega)
end Go.Proofs.YtpabfjhjehjebaaDoor

/- The reference's Join and Align. -/
namespace Go.Proofs.YtpabfjhjehjebaaDoor
open Go.RowKit Bs
set_option maxRecDepth 100000 in
theorem pz_valid {l : List Nat} {N : Nat} {f : Nat → Bool} (hl : By l) (hv : vs l (N : Int) = true) (hf : ∀ i, i < N → f i = bt l i) : l = pz f N ((N + 7) / 8) := by
  have e := pz_copy (M := l.length) hl hv (Nat.le_refl _) hf
  rw [List.drop_of_length_le (by simp), List.append_nil, (vs_bits hv).2] at e
  exact e
set_option maxRecDepth 100000 in
set_option maxHeartbeats 3200000 in
theorem alignr_any (l : List Nat) (n : Int) (q : Nat → Prop) (p : Option Addr) (c : Nat) (hl : By l) (hpc : p = none → c = 0) (w : World) (hq : ∀ b, q b → b < w.heap.size) (hR : Rd w q (.slice p l.length c) (l.map nv)) :
    Calls Tryd.prog 48 #[.agg #[.slice p l.length c, .int .i64 n]] w fun e w' => RPost (alV l n) w e w' := by
  obtain ⟨k1, k2, k3, k4⟩ := two_boxes w #[.slice p l.length c, .int .i64 n] #[.slice none 0 0, .int .i64 0] 74 74
  have hR1 := hR.keep k3
  have H0 := Lib.hid (show BoxAt w w.heap.size (w.heap.size + 1) p c l n _ from ⟨k1, k2, hR1.mono fun x hx => by have := hq x hx; exact ⟨by omega, by omega⟩, hpc, hl, k3⟩)
  have HZ0 := Lib.hid k4
  have hq1 : ∀ b, q b → b < ((w.alloc (.cells #[.slice p l.length c, .int .i64 n] 74)).alloc (.cells #[.slice none 0 0, .int .i64 0] 74)).heap.size := fun b hb => Nat.lt_of_lt_of_le (hq b hb) k3.size
  clear k1 k2 k3 k4 hR
  go_enter Tryd.func48, Tryd.ntmps48
  go_wp2_with fail
  generalize (w.alloc (.cells #[.slice p l.length c, .int .i64 n] 74)).alloc (.cells #[.slice none 0 0, .int .i64 0] 74) = w1 at *
  refine (validr_any l n q p c hl _ hq1 hR1).mono ?_
  rintro e w2 ⟨rfl, hg⟩
  have HB := Lib.hid (H0.out.keep hg)
  have HSZ2 : Hid (w.heap.size + 2 ≤ w2.heap.size) := Lib.hid (by rw [← HZ0.out]; exact hg.size)
  clear hg hR1 H0 hq1 HZ0
  obtain ⟨c0, c1, f0, f1, r0, r1, g0, g1⟩ := HB.out.limbs
  by_cases hv : vs l n = true
  · have V := Lib.hid (alV_ok hv)
    obtain ⟨N, rfl⟩ := vs_nat hv
    obtain ⟨hN, hlen⟩ := vs_bits hv
    rw [hv]
    have P0 : Hid (PutsRel (bt l) w w.heap.size (w.heap.size + 1) N 0 w2) := by
      refine Lib.hid ⟨p, c, ?_⟩
      show BoxAt w w.heap.size (w.heap.size + 1) p c (pz (bt l) N ((N + 7) / 8)) (N : Int) w2
      rw [← pz_valid hl hv fun _ _ => rfl]
      exact HB.out
    have HV := Lib.hid hv
    have HL := Lib.hid hlen
    clear hv hlen HB f0 f1 r0 r1 g0 g1 c0 c1
    go_wp2_with fail
    go_loopg [] (8 * l.length - N) (fun g wr => ∃ j : Nat, N + j + g = 8 * l.length ∧ PutsRel (bt l) w w.heap.size (w.heap.size + 1) N j wr ∧ w.heap.size + 2 ≤ wr.heap.size)
    case atStart => exact ⟨0, by have := HL.out; omega, P0.out, HSZ2.out⟩
    case round =>
      obtain ⟨j, hjg, hP, hsz⟩ := hrel
      obtain ⟨p1, c1, l1, HL1, hB1⟩ := hP.open_
      have HZ := Lib.hid hsz
      have HJG := Lib.hid hjg
      obtain ⟨m, hm⟩ : ∃ m : Nat, N + j = m := ⟨_, rfl⟩
      rw [hm] at HL1 hB1
      have HB1 := Lib.hid hB1
      have hm8 : m ≤ 8 * l.length := by omega
      have hll : l.length ≤ 1025 := by have := HL.out; omega
      obtain ⟨b0, b1, f0, f1, r0, r1, g0, g1⟩ := HB1.out.limbs
      clear hP hB1 P0 hsz
      cases gk with
      | zero =>
        have hz8 : (m : Int) % 8 = 0 := by omega
        have hml : m = 8 * l.length := by omega
        have hl1 : l1 = l := by
          rw [HL1.out, hml, show (8 * l.length + 7) / 8 = l.length by omega]
          exact (pz_bt l (8 * l.length) hl fun i h1 h2 => by omega).symm
        have F := Lib.hid (HB1.out.fin (V := alV l (N : Int)) (by rw [V.out, hl1, hml]) (by omega))
        clear HB1 hm hml hl1 hjg
        go_wp2_with fail
        refine bodyPost_ret (res_stream_err rfl _ _ (w.heap.size + 1) _ _ rfl F.out.1) rfl ?_
        exact F.out.2
      | succ g =>
        have hz8 : ¬ ((m : Int) % 8 = 0) := by have := HL.out; omega
        have hfm : bt l m = false := (vs_iff.1 HV.out).2.2 m (by omega) (by omega)
        have C2 := put_val (f := bt l) (m := m) (x := .int .u64 0) (by rw [bw_false hfm]) l1 _ p1 c1 (by omega) HL1.out HB1.out.pc wr HB1.out.rd
        obtain ⟨l3, hl3⟩ : ∃ l3, l3 = pz (bt l) (m + 1) ((m + 8) / 8) := ⟨_, rfl⟩
        rw [← hl3] at C2
        have H2 := Lib.hid C2
        have HL3 := Lib.hid hl3
        have HM := Lib.hid hm
        have hm9 : m ≤ 9000 := by omega
        clear C2 hl3 hm hfm hjg
        go_wp2_with fail
        refine H2.out.mono ?_
        rintro e w3 ⟨p3, c3, rfl, hown3, hg3⟩
        have HB3 := Lib.hid (HB1.out.keep hg3)
        have R := puts_next (f := bt l) (N := N) (j := j) HB3 HM.out HL3.out hown3 (by omega) (by omega) (by have := HZ.out; omega) (by have := HZ.out; omega)
        have R2 : Hid (w.heap.size + 2 ≤ w3.heap.size) := Lib.hid (Nat.le_trans HZ.out hg3.size)
        clear b0 b1 f0 f1 r0 r1 g0 g1
        obtain ⟨b0, b1, f0, f1, r0, r1, g0, g1⟩ := HB3.out.limbs
        clear hown3 hg3 HB1
        go_wp2_with fail
        go_roundg g
        case measure => omega
        case rel => exact ⟨j + 1, by have := HJG.out; omega, R.out, by simpa using R2.out⟩
  · have hv0 : vs l n = false := by simpa using hv
    have V := Lib.hid (alV_inv hv0)
    rw [hv0]
    clear hv
    go_wp2_with fail
    refine bodyPost_ret (res_stream_err rfl _ _ (w.heap.size + 1) _ _ rfl (store2 HB.out.res)) rfl ?_
    exact RPost.err V.out HB.out.gr (by omega)
end Go.Proofs.YtpabfjhjehjebaaDoor

/- The tape's texts. -/
namespace Go.Proofs.YtpabfjhjehjebaaDoor
open Go.RowKit Bs
def bval (x : UInt8) : Value := .int .u8 (x.toNat : Int)
set_option maxRecDepth 100000 in
theorem conv_bytes {w : World} {q : Nat → Prop} {v : Value} {l : List UInt8} (hR : Rd w q v (l.map bval)) (h0 : l = [] → v = .slice none 0 0) :
    (convert 23 9 v).run Tryd.prog w = .ok (.string ⟨l.toArray⟩) w := by
  by_cases hl : l = []
  · rw [h0 hl, hl]
    exact Lib.run_convert_nil_bytes (P := Tryd.prog) w 23 9 5 0 Tryd.underlying23 Tryd.underlying5 Tryd.underlying9
  · obtain ⟨p, c, rfl, hc⟩ := hR
    obtain ⟨b, off, rfl, _, hcell⟩ := hc (by simpa using hl)
    rw [List.length_map]
    refine run_convert_bytes_back (P := Tryd.prog) w 23 9 5 ⟨b, off, none⟩ c l Tryd.underlying23 Tryd.underlying5 Tryd.underlying9 (fun j hj => ?_)
    have hadd : (⟨b, off, none⟩ : Addr).add j = ⟨b, off + j, none⟩ := by unfold Addr.add; split <;> simp_all
    rw [hadd]
    exact hcell j _ (by rw [List.getElem?_map, List.getElem?_eq_getElem hj]; rfl)
/-- A drawn text. -/
def TextRel (a most : Nat) (w : World) (v : Value) (k : Nat) (wr : World) : Prop :=
  ∃ l : List UInt8, l.length + k ≤ most ∧ wr.ownsRow w.heap.size 5 1 v l.length (l.map bval) ∧ (l = [] → v = .slice none 0 0) ∧ St a w wr
set_option maxRecDepth 100000 in
theorem TextRel.open_ {a most k : Nat} {w wr : World} {v : Value} (h : TextRel a most w v k wr) : ∃ l : List UInt8, l.length + k ≤ most ∧ wr.ownsRow w.heap.size 5 1 v l.length (l.map bval) ∧ (l = [] → v = .slice none 0 0) ∧ St a w wr := h
def TextPost (a most : Nat) (w : World) (e : Ending) (w' : World) : Prop := ∃ s : ByteArray, e = .returned (.string s) ∧ s.size ≤ most ∧ St a w w'
set_option maxRecDepth 100000 in
set_option maxHeartbeats 1600000 in
theorem text_any (a : Nat) (most : Nat) (hm : most ≤ 1000) (w : World) (hT : Tp w a) :
    Calls Tryd.prog 52 #[.pointer (some ⟨a, 0, none⟩), .int .i64 (most : Int)] w fun e w' => TextPost a most w e w' := by
  obtain ⟨i0, hi, hz0, hz1, hz2⟩ := info_parts info_u8
  have ha := hT.lt
  go_enter Tryd.func52, Tryd.ntmps52
  go_wp2_with fail
  refine (range_any a 0 (most : Int) (by omega) (by omega) (by omega) (by omega) _ hT).mono ?_
  rintro e w1 ⟨r, rfl, hr, hs1⟩
  obtain ⟨K, rfl⟩ := Int.eq_ofNat_of_zero_le hr.1
  have hK : K ≤ most := by unfold RangeOf at hr; omega
  have L0 : Hid (TextRel a most w (.slice none 0 0) K w1) :=
    Lib.hid ⟨[], by simpa using hK, World.ownsRow_nil _ _ _ _, fun _ => rfl, hs1⟩
  clear hr hs1
  go_wp2_with fail
  go_loopw [5, 6] (fun v i wr => ∃ k : Nat, k ≤ most ∧ i = .int .i64 (k : Int) ∧ TextRel a most w v k wr) (fun _ i _ => (intOf i).toNat)
  case atStart => exact ⟨K, hK, rfl, L0.out⟩
  case round =>
    obtain ⟨k, hk, rfl, hL⟩ := hrel
    obtain ⟨l, hlk, hown0, hnil, hs⟩ := hL.open_
    clear hL L0
    by_cases hk1 : 1 ≤ k
    · clear hnil
      go_wp2_with fail
      refine (next_any a 256 (by unfold I64; omega) _ hs.2).mono ?_
      rintro e w2 ⟨x, rfl, hx, hs2⟩
      obtain ⟨X, rfl⟩ := Int.eq_ofNat_of_zero_le hx.1
      have hX : X < 256 := by have := hx.2.1 (by omega); omega
      have hown := own_kept ha hown0 hs2.1
      have HS := Lib.hid (hs.trans hs2)
      have HO := Lib.hid hown
      have hsz := HS.out.1.size
      have hll : l.length ≤ 1000 := by omega
      have HLK := Lib.hid hlk
      clear hx hs hs2 hown0
      go_wp2_with (at_builtin; refine wpList_append_own _ rfl _ _ 23 rfl w.heap.size 5 i0 (.int .u8 0) 1 1 Tryd.underlying23 hi hz0 hz1 hz2 rfl (by decide) _ _ _ rfl (hown.alloc _) ⟨w2.heap.size, 0, none⟩ 1 1 [.int .u8 (X : Int)] rfl rfl ?c1 ?c2 ?c3 ?c4 ?c5 ?_)
      case c1 => exact cell_one _ _ _
      case c2 => intro u hu; simp at hu; subst hu; rfl
      case c3 => unfold maxLen; omega
      case c4 => omega
      case c5 => simp; omega
      intro v' w3 hown' hg _
      have R : Hid (TextRel a most w v' (k - 1) w3) := by
        have e1 := st_append HS.out ha HO.out hg
        have ex : bval (UInt8.ofNat X) = .int .u8 (X : Int) := by
          show Value.int .u8 (((UInt8.ofNat X).toNat : Nat) : Int) = _
          rw [UInt8.toNat_ofNat', Nat.mod_eq_of_lt hX]
        exact Lib.hid ⟨l ++ [UInt8.ofNat X], by rw [List.length_append]; have := HLK.out; simp; omega, by rw [List.length_append, List.map_append, List.map_cons, List.map_nil, ex]; exact hown', fun e => by simp at e, e1⟩
      clear hown' hg hown
      go_wp2_with fail
      go_roundw
      case rel => exact ⟨k - 1, by omega, by congr 1; omega, R.out⟩
      case measure => simp [intOf]; omega
    · obtain rfl : k = 0 := by omega
      have hconv := conv_bytes (rd_of_own hown0) hnil
      have HS := Lib.hid hs
      have HL := Lib.hid hlk
      clear hown0 hnil hs hlk
      go_wp2_with fail
      go_ret
      exact ⟨_, rfl, by have := HL.out; show l.toArray.size ≤ most; simp; omega, HS.out⟩
end Go.Proofs.YtpabfjhjehjebaaDoor

/- The reference's functions on bits: Count, Nth, First, Rank, Spread, Gather. -/
namespace Go.Proofs.YtpabfjhjehjebaaDoor
open Go.RowKit Bs

/-- The call returned v and made memory alone. -/
def Nw (v : Value) (w : World) (e : Ending) (w' : World) : Prop := e = .returned v ∧ w.grownBy w' none
set_option maxRecDepth 100000 in
theorem Rd.form {w : World} {q : Nat → Prop} {v : Value} {vs : List Value} {n : Nat} (h : Rd w q v vs) (hn : vs.length = n) : ∃ p c, v = .slice p n c := by
  obtain ⟨p, c, hv, _⟩ := h
  exact ⟨p, c, by rw [hv, hn]⟩
set_option maxRecDepth 100000 in
theorem Rd.at1_ {w : World} {q : Nat → Prop} {p : Option Addr} {n c : Nat} {vs : List Value} {i : Nat} {x : Value} (h : Rd w q (.slice p n c) vs) (hi : vs[i]? = some x) :
    ∃ b off, p = some ⟨b, off, none⟩ ∧ w.cell? ⟨b, off + i, none⟩ = some x := by
  obtain ⟨p', c', hv, hc⟩ := h
  injection hv with e1 e2 e3
  subst e1
  obtain ⟨b, off, hp, _, hx⟩ := hc (by intro e; rw [e] at hi; simp at hi)
  exact ⟨b, off, hp, hx i x hi⟩
set_option maxRecDepth 100000 in
theorem bl_map_len (b : Nat) : ((bl b).map ival).length = cnt b := by rw [List.length_map]; rfl
set_option maxRecDepth 100000 in
theorem bl_map_at {b i k : Nat} (h : (bl b)[i]? = some k) : ((bl b).map ival)[i]? = some (.int .i64 (k : Int)) := by rw [List.getElem?_map, h]; rfl
set_option maxRecDepth 100000 in
theorem bl_at {b i : Nat} (h : i < cnt b) : ∃ k, (bl b)[i]? = some k ∧ k < 64 := by
  have h' : i < (bl b).length := h
  exact ⟨(bl b)[i], List.getElem?_eq_getElem h', bl_lt (List.getElem_mem h')⟩

set_option maxRecDepth 100000 in
theorem nth_zero (b : Nat) (hb : U64 b) : nth b 0 = fst b := by
  by_cases h0 : b = 0
  · subst h0; decide +kernel
  · rw [fst_pos h0]; exact nth_at (bl_head h0 hb.lt)
set_option maxRecDepth 100000 in
theorem rk_step_t {b j : Nat} (h : b.testBit j = true) : (blN (j + 1) b).length = (blN j b).length + 1 := by rw [bl_snoc_t h]; simp
def rkN (j b : Nat) : Nat := (blN j b).length
set_option maxRecDepth 100000 in
theorem rkN_le (j b : Nat) : rkN j b ≤ j := blN_length_le j b
set_option maxRecDepth 100000 in
theorem rkN_t {b j : Nat} (h : b.testBit j = true) : rkN (j + 1) b = rkN j b + 1 := rk_step_t h
set_option maxRecDepth 100000 in
theorem rkN_f {b j : Nat} (h : b.testBit j = false) : rkN (j + 1) b = rkN j b := by unfold rkN; rw [bl_snoc_f h]
set_option maxRecDepth 100000 in
theorem put_t (k : Nat) : put true k = b2 k := rfl
set_option maxRecDepth 100000 in
theorem put_f (k : Nat) : put false k = 0 := rfl
set_option maxRecDepth 100000 in
theorem spr_hit {x b j k : Nat} (hk : (bl b)[j]? = some k) (ht : x.testBit j = true) (h64 : k < 64) :
    bits .or .u64 ((spr x (bl b) j : Nat) : Int) ((b2 k : Nat) : Int) = ((spr x (bl b) (j + 1) : Nat) : Int) := by
  rw [orU _ _ (spr_u64 x b j) (b2_u64 h64), spr_next hk, ht]; rfl
set_option maxRecDepth 100000 in
theorem spr_miss {x j : Nat} {l : List Nat} (ht : x.testBit j = false) : spr x l (j + 1) = spr x l j := by
  rw [spr, ht, put_f]; simp
set_option maxRecDepth 100000 in
theorem gat_hit {x b j k : Nat} (hk : (bl b)[j]? = some k) (ht : x.testBit k = true) (h64 : j < 64) :
    bits .or .u64 ((gat x (bl b) j : Nat) : Int) ((b2 j : Nat) : Int) = ((gat x (bl b) (j + 1) : Nat) : Int) := by
  rw [orU _ _ (gat_u64 x _ j (by omega)) (b2_u64 h64), gat_next hk, ht]; rfl
set_option maxRecDepth 100000 in
theorem gat_miss {x j k : Nat} {l : List Nat} (hk : l[j]? = some k) (ht : x.testBit k = false) : gat x l (j + 1) = gat x l j := by
  rw [gat_next hk, ht, put_f]; simp
end Go.Proofs.YtpabfjhjehjebaaDoor

/- The tape's bit strings. -/
namespace Go.Proofs.YtpabfjhjehjebaaDoor
open Go.RowKit Bs

set_option maxRecDepth 100000 in
theorem vb_full {n : Int} (h : vl n = true) (z : Nat) : vb (z &&& full n) n = true := by
  unfold vb
  rw [h, and_compl z (full_u64 n)]; rfl
/-- A bit string drawn for a length. -/
def BitsPost (n : Int) (a : Nat) (w : World) (e : Ending) (w' : World) : Prop := ∃ x : Nat, e = .returned (.int .u64 (x : Int)) ∧ U64 x ∧ vb x n = true ∧ St a w w'
set_option maxRecDepth 100000 in
theorem bits_end {n : Int} (h : vl n = true) (z : Nat) (hz : U64 z) : ∃ x : Nat, bits .and .u64 (z : Int) ((full n : Nat) : Int) = (x : Int) ∧ U64 x ∧ vb x n = true :=
  ⟨z &&& full n, andU z _ hz (full_u64 n), u64_and_le z _ hz, vb_full h z⟩
set_option maxRecDepth 100000 in
theorem all_ones : (18446744073709551615 : Int) = ((lo 64 : Nat) : Int) := by decide +kernel
set_option maxRecDepth 100000 in
set_option maxHeartbeats 800000 in
theorem bits_any (a : Nat) (n : Int) (hn : vl n = true) (w : World) (hT : Tp w a) :
    Calls Tryd.prog 51 #[.pointer (some ⟨a, 0, none⟩), .int .i64 n] w fun e w' => BitsPost n a w e w' := by
  have hn1 : 1 ≤ n := by rcases vl_cases hn with h | h | h | h <;> omega
  have hn2 : n ≤ 64 := by rcases vl_cases hn with h | h | h | h <;> omega
  have HV := Lib.hid hn
  clear hn
  go_enter Tryd.func51, Tryd.ntmps51
  go_wp2_with fail
  refine (raw_any a _ hT).mono ?_
  rintro e w1 ⟨x1, rfl, hx1, hs1⟩
  go_wp2_with fail
  refine (raw_any a _ hs1.2).mono ?_
  rintro e w2 ⟨x2, rfl, hx2, hs2⟩
  have h12 := hs1.trans hs2
  clear hx1 hx2 hs1 hs2
  go_wp2_with fail
  generalize hB : bits BinOp.xor IntKind.u64 _ _ = B
  obtain ⟨z, hz, hzB⟩ : ∃ z : Nat, U64 z ∧ B = (z : Int) := by rw [← hB]; exact bitsU _ _ _
  subst hzB
  clear hB
  refine (next_any a 6 (by unfold I64; omega) _ h12.2).mono ?_
  rintro e w3 ⟨r, rfl, hr, hs3⟩
  have h13 := h12.trans hs3
  have hr0 : 0 ≤ r := hr.1
  have hr1 : r < 6 := hr.2.1 (by omega)
  clear hr h12 hs3
  by_cases c0 : r = 0
  · subst c0
    obtain ⟨y, hy, hyu, hyv⟩ := bits_end HV.out 0 (by unfold U64; decide)
    have HY := Lib.hid hy
    clear hy
    go_wp2_with (go_at_call 80; refine (fullr_any _ _).mono ?_; rintro e w' ⟨rfl, rfl⟩)
    go_ret
    exact ⟨y, ret_int HY.out, hyu, hyv, h13⟩
  · by_cases c1 : r = 1
    · subst c1
      clear c0
      go_wp2_with fail
      refine (next_any a n (by unfold I64; omega) _ h13.2).mono ?_
      rintro e w4 ⟨k, rfl, hk, hs4⟩
      have h14 := h13.trans hs4
      obtain ⟨K, rfl⟩ := Int.eq_ofNat_of_zero_le hk.1
      have hK : K < 64 := by have := hk.2.1 hn1; omega
      clear hk hs4
      obtain ⟨y, hy, hyu, hyv⟩ := bits_end HV.out (b2 K) (b2_u64 hK)
      have HY := Lib.hid hy
      clear hy
      go_wp2_with (first
        | (go_at_call 79; refine (bit_any K hK _).mono ?_; rintro e w' ⟨rfl, rfl⟩)
        | (go_at_call 80; refine (fullr_any _ _).mono ?_; rintro e w' ⟨rfl, rfl⟩))
      go_ret
      exact ⟨y, ret_int HY.out, hyu, hyv, h14⟩
    · by_cases c2 : r = 2
      · subst c2
        clear c0 c1
        obtain ⟨y, hy, hyu, hyv⟩ := bits_end HV.out (lo 64) (lo_u64 (by omega))
        rw [← all_ones] at hy
        have HY := Lib.hid hy
        clear hy
        go_wp2_with (go_at_call 80; refine (fullr_any _ _).mono ?_; rintro e w' ⟨rfl, rfl⟩)
        go_ret
        exact ⟨y, ret_int HY.out, hyu, hyv, h13⟩
      · have b0 : (r == 0) = false := by simpa using c0
        have b1 : (r == 1) = false := by simpa using c1
        have b2' : (r == 2) = false := by simpa using c2
        clear c0 c1 c2
        obtain ⟨y, hy, hyu, hyv⟩ := bits_end HV.out z hz
        have HY := Lib.hid hy
        clear hy
        go_wp2_with (go_at_call 80; refine (fullr_any _ _).mono ?_; rintro e w' ⟨rfl, rfl⟩)
        go_ret
        exact ⟨y, ret_int HY.out, hyu, hyv, h13⟩
end Go.Proofs.YtpabfjhjehjebaaDoor

/- The tape's packets. -/
namespace Go.Proofs.YtpabfjhjehjebaaDoor
open Go.RowKit Bs
/-- A drawn packet with no mistake is valid. -/
def PacketPost (a : Nat) (w : World) (e : Ending) (w' : World) : Prop := ∃ P : Pk, e = .returned P.val ∧ P.Wf ∧ vpk P = true ∧ St a w w'
set_option maxRecDepth 100000 in
theorem tp_store {w1 w2 : World} {a b : Nat} (h : Tp w1 a) (k : w1.grownBy w2 (some b)) (hb : a < b) : Tp w2 a := tp_new2 h k hb
set_option maxRecDepth 100000 in
theorem St.store {a b : Nat} {W w w1 : World} (h : St a W w) (k : w.grownBy w1 (some b)) (hb : W.heap.size ≤ b) (ha : a < W.heap.size) : St a W w1 :=
  ⟨⟨k.os.trans h.1.os, k.tape.trans h.1.tape, k.output.trans h.1.output, Nat.le_trans h.1.size k.size, fun i hi hia => (k.block i (Nat.lt_of_lt_of_le hi h.1.size) (fun e => by have := Option.some.inj e; omega)).trans (h.1.block i hi hia)⟩, by
    exact tp_store h.2 k (by omega)⟩
set_option maxRecDepth 100000 in
theorem res_packet {fn : Func} {p : Tmp} (h : fn.results = #[.cell p 31]) (tmps : Array Value) (w : World) (g : Nat) (xs : Array Value) (hp : tmps.getD p undef = .pointer (some ⟨g, 0, none⟩)) (hn : xs.size = 10) (hg : w.heap[g]? = some (.cells xs 31 (0, 0))) :
    (results fn tmps).run Tryd.prog w = .ok (.agg xs) w := by
  exact results_cell_row h tmps w g _ _ _ _ hp hg Tryd.underlying31 rfl (by rw [hn]; exact packet_size)
set_option maxRecDepth 100000 in
theorem i64_small {x : Int} (h1 : -2000 ≤ x) (h2 : x ≤ 2000) : I64 x := by unfold I64; omega
set_option maxRecDepth 100000 in
set_option maxHeartbeats 3200000 in
theorem packet0_any (a : Nat) (w : World) (hT : Tp w a) :
    Calls Tryd.prog 23 #[.pointer (some ⟨a, 0, none⟩), .int .i64 0] w fun e w' => PacketPost a w e w' := by
  have ha := hT.lt
  obtain ⟨k1, k2⟩ := one_box w zpk 31
  have HB := Lib.hid k1
  have S0 : St a w (w.alloc (.cells zpk 31)) := ⟨grown_none k2 _, hT.keep k2⟩
  clear k1 k2
  unfold zpk at HB S0
  go_enter Tryd.func23, Tryd.ntmps23
  go_wp2_with fail
  generalize w.alloc _ = wa at *
  change Hid (wa.heap[w.heap.size]? = some (.cells zpk 31 (0, 0))) at HB
  refine (length_any a _ S0.2).mono ?_
  rintro e w1 ⟨len, rfl, hlen, hs1⟩
  have S1 := S0.trans hs1
  go_wp2_with fail
  refine (range_any a 1 3 (by decide) (by decide) (by decide) (by decide) _ S1.2).mono ?_
  rintro e w2 ⟨mode, rfl, hmode, hs2⟩
  go_wp2_with fail
  refine (range_any a 0 7 (by decide) (by decide) (by decide) (by decide) _ hs2.2).mono ?_
  rintro e w3 ⟨sub, rfl, hsub, hs3⟩
  go_wp2_with fail
  refine (pick_any (fun r => 0 ≤ r ∧ r ≤ 31) a _ 0 5 5 (by omega) (by omega) _ (hs3.2.alloc _) (among_list _ w3 a [0, 0, 1, 2, 31] _ _ hs3.2.lt rfl (by decide))).mono ?_
  rintro e w4 ⟨set, rfl, hset, hs4⟩
  go_wp2_with fail
  refine (pick_any (fun r => 0 ≤ r ∧ r ≤ 63) a _ 0 5 5 (by omega) (by omega) _ (hs4.2.alloc _) (among_list _ w4 a [0, 1, 2, 5, 63] _ _ hs4.2.lt rfl (by decide))).mono ?_
  rintro e w5 ⟨ttl, rfl, httl, hs5⟩
  go_wp2_with fail
  refine (next_any a 1024 (by unfold I64; omega) _ hs5.2).mono ?_
  rintro e w6 ⟨ent, rfl, hent, hs6⟩
  go_wp2_with fail
  refine (pick_any (fun r => 0 ≤ r ∧ r ≤ 256) a _ 0 5 5 (by omega) (by omega) _ (hs6.2.alloc _) (among_list _ w6 a [0, 1, 8, 255, 256] _ _ hs6.2.lt rfl (by decide))).mono ?_
  rintro e w7 ⟨ing, rfl, hing, hs7⟩
  go_wp2_with fail
  refine (next_any a 8 (by unfold I64; omega) _ hs7.2).mono ?_
  rintro e w8 ⟨pro, rfl, hpro, hs8⟩
  go_wp2_with fail
  refine (bits_any a len hlen _ hs8.2).mono ?_
  rintro e w9 ⟨bits, rfl, hbu, hbv, hs9⟩
  go_wp2_with fail
  refine (text_any a 6 (by decide) _ hs9.2).mono ?_
  rintro e w10 ⟨pay, rfl, hpay, hs10⟩
  have S' := ((((((((hs1.trans hs2).trans hs3).trans hs4.alloc_left).trans hs5.alloc_left).trans hs6).trans hs7.alloc_left).trans hs8).trans hs9).trans hs10
  have S := Lib.hid (S0.trans S')
  have HR := Lib.hid (kept_row HB.out S'.1 (fun e => by have := Option.some.inj e; omega))
  have hV : Hid (vpk ⟨mode, sub, set, len, ttl, ent, ing, pro, bits, pay⟩ = true ∧ (⟨mode, sub, set, len, ttl, ent, ing, pro, bits, pay⟩ : Pk).Wf) := by
    have r1 := hmode.1
    have r2 := hmode.2.1 (by decide)
    have r3 := hsub.1
    have r4 := hsub.2.1 (by decide)
    have r5 := hent.1
    have r6 := hent.2.1 (by decide)
    have r7 := hpro.1
    have r8 := hpro.2.1 (by decide)
    refine Lib.hid ⟨decide_eq_true ⟨⟨r1, r2⟩, ⟨r3, r4⟩, hset, httl, ⟨r5, by show ent ≤ 1023; omega⟩, hing, ⟨r7, by show pro ≤ 7; omega⟩, Nat.le_trans hpay (by decide), hbv⟩, ?_⟩
    have hl : I64 len := by rcases vl_cases hlen with h | h | h | h <;> rw [h] <;> (unfold I64; decide)
    obtain ⟨q1, q2⟩ := hset
    obtain ⟨q3, q4⟩ := httl
    obtain ⟨q5, q6⟩ := hing
    exact ⟨i64_small (x := mode) (by omega) (by omega), i64_small (x := sub) (by omega) (by omega), i64_small (x := set) (by omega) (by omega), hl, i64_small (x := ttl) (by omega) (by omega), i64_small (x := ent) (by omega) (by omega), i64_small (x := ing) (by omega) (by omega), i64_small (x := pro) (by omega) (by omega), hbu, Nat.le_trans hpay (by decide)⟩
  have g11 := World.grownBy_alloc w10 (.cells #[.int .i64 mode, .int .i64 sub, .int .i64 set, .int .i64 len, .int .i64 ttl, .int .i64 ent, .int .i64 ing, .int .i64 pro, .int .u64 (bits : Int), .string pay] 31) none
  have HR2 := Lib.hid (kept_row HR.out g11 (by simp))
  have S2 := Lib.hid (S.out.none_ g11)
  obtain ⟨⟨r0, r1, r2, r3, r4, r5, r6, r7, r8, r9⟩, f0, f1, f2, f3, f4, f5, f6, f7, f8, f9⟩ := zp_cells HR2.out
  clear S' S HR HB S0 S1 hs1 hs2 hs3 hs4 hs5 hs6 hs7 hs8 hs9 hs10 hmode hsub hset httl hent hing hpro hbu hbv hpay hlen g11
  go_wp2_with fail
  refine bodyPost_ret (res_packet rfl _ _ w.heap.size _ rfl rfl (pput_row _ _ _ _ _ _ _ _ _ _ HR2.out)) rfl ?_
  exact ⟨⟨mode, sub, set, len, ttl, ent, ing, pro, bits, pay⟩, rfl, hV.out.2, hV.out.1, S2.out.store (pput_grown _ w.heap.size _ _ _ _ _ _ _ _ _ _) (Nat.le_refl _) ha⟩
end Go.Proofs.YtpabfjhjehjebaaDoor

/- The tape's packets, also with a mistake. -/
namespace Go.Proofs.YtpabfjhjehjebaaDoor
open Go.RowKit Bs
def AnyPacketPost (a : Nat) (w : World) (e : Ending) (w' : World) : Prop := ∃ P : Pk, e = .returned P.val ∧ P.Wf ∧ P.pay.size ≤ 100 ∧ St a w w'
/-- The packet's block and the result's, while a mistake is laid. -/
structure TK (a : Nat) (W : World) (B : Nat) (P : Pk) (w : World) : Prop where
  pb : w.heap[B]? = some (.cells (pcells P) 31 (0, 0))
  rb : w.heap[W.heap.size]? = some (.cells zpk 31 (0, 0))
  st : St a W w
  wf : P.Wf
  sm : P.pay.size ≤ 100
section
variable {a B : Nat} {W w w1 : World} {P P' : Pk}
set_option maxRecDepth 100000 in
theorem TK.tape (H : TK a W B P w) (ha : a < W.heap.size) (hB : W.heap.size < B) (g : St a w w1) : TK a W B P w1 :=
  ⟨kept_row H.pb g.1 (fun e => by have := Option.some.inj e; omega), kept_row H.rb g.1 (fun e => by have := Option.some.inj e; omega), H.st.trans g, H.wf, H.sm⟩
set_option maxRecDepth 100000 in
theorem TK.turn (H : TK a W B P w) (ha : a < W.heap.size) (hB : W.heap.size < B) {k : Nat} {v : Value} (h : (pcells P).setIfInBounds k v = pcells P') (hw : P'.Wf) (hs : P'.pay.size ≤ 100) : TK a W B P' (w.setCell ⟨B, k, none⟩ v) := by
  have j := grown_setCell w ⟨B, k, none⟩ v
  refine ⟨?_, kept_row H.rb j (fun e => by have : W.heap.size = B := Option.some.inj e; omega), H.st.store (b := B) j (by omega) ha, hw, hs⟩
  rw [← h]
  exact heap_setCell_same w _ k _ _ _ H.pb
set_option maxRecDepth 100000 in
theorem TK.at_mode (H : TK a W B P w) (ha : a < W.heap.size) (hB : W.heap.size < B) {x : Int} (hx : I64 x) : TK a W B { P with mode := x } (w.setCell ⟨B, 0, none⟩ (.int .i64 x)) :=
  H.turn ha hB rfl ⟨hx, H.wf.sub, H.wf.set, H.wf.len, H.wf.ttl, H.wf.ent, H.wf.ing, H.wf.pro, H.wf.bits, H.wf.pay⟩ H.sm
set_option maxRecDepth 100000 in
theorem TK.at_sub (H : TK a W B P w) (ha : a < W.heap.size) (hB : W.heap.size < B) {x : Int} (hx : I64 x) : TK a W B { P with sub := x } (w.setCell ⟨B, 1, none⟩ (.int .i64 x)) :=
  H.turn ha hB rfl ⟨H.wf.mode, hx, H.wf.set, H.wf.len, H.wf.ttl, H.wf.ent, H.wf.ing, H.wf.pro, H.wf.bits, H.wf.pay⟩ H.sm
set_option maxRecDepth 100000 in
theorem TK.at_set (H : TK a W B P w) (ha : a < W.heap.size) (hB : W.heap.size < B) {x : Int} (hx : I64 x) : TK a W B { P with set := x } (w.setCell ⟨B, 2, none⟩ (.int .i64 x)) :=
  H.turn ha hB rfl ⟨H.wf.mode, H.wf.sub, hx, H.wf.len, H.wf.ttl, H.wf.ent, H.wf.ing, H.wf.pro, H.wf.bits, H.wf.pay⟩ H.sm
set_option maxRecDepth 100000 in
theorem TK.at_len (H : TK a W B P w) (ha : a < W.heap.size) (hB : W.heap.size < B) {x : Int} (hx : I64 x) : TK a W B { P with len := x } (w.setCell ⟨B, 3, none⟩ (.int .i64 x)) :=
  H.turn ha hB rfl ⟨H.wf.mode, H.wf.sub, H.wf.set, hx, H.wf.ttl, H.wf.ent, H.wf.ing, H.wf.pro, H.wf.bits, H.wf.pay⟩ H.sm
set_option maxRecDepth 100000 in
theorem TK.at_ttl (H : TK a W B P w) (ha : a < W.heap.size) (hB : W.heap.size < B) {x : Int} (hx : I64 x) : TK a W B { P with ttl := x } (w.setCell ⟨B, 4, none⟩ (.int .i64 x)) :=
  H.turn ha hB rfl ⟨H.wf.mode, H.wf.sub, H.wf.set, H.wf.len, hx, H.wf.ent, H.wf.ing, H.wf.pro, H.wf.bits, H.wf.pay⟩ H.sm
set_option maxRecDepth 100000 in
theorem TK.at_ent (H : TK a W B P w) (ha : a < W.heap.size) (hB : W.heap.size < B) {x : Int} (hx : I64 x) : TK a W B { P with ent := x } (w.setCell ⟨B, 5, none⟩ (.int .i64 x)) :=
  H.turn ha hB rfl ⟨H.wf.mode, H.wf.sub, H.wf.set, H.wf.len, H.wf.ttl, hx, H.wf.ing, H.wf.pro, H.wf.bits, H.wf.pay⟩ H.sm
set_option maxRecDepth 100000 in
theorem TK.at_ing (H : TK a W B P w) (ha : a < W.heap.size) (hB : W.heap.size < B) {x : Int} (hx : I64 x) : TK a W B { P with ing := x } (w.setCell ⟨B, 6, none⟩ (.int .i64 x)) :=
  H.turn ha hB rfl ⟨H.wf.mode, H.wf.sub, H.wf.set, H.wf.len, H.wf.ttl, H.wf.ent, hx, H.wf.pro, H.wf.bits, H.wf.pay⟩ H.sm
set_option maxRecDepth 100000 in
theorem TK.at_pro (H : TK a W B P w) (ha : a < W.heap.size) (hB : W.heap.size < B) {x : Int} (hx : I64 x) : TK a W B { P with pro := x } (w.setCell ⟨B, 7, none⟩ (.int .i64 x)) :=
  H.turn ha hB rfl ⟨H.wf.mode, H.wf.sub, H.wf.set, H.wf.len, H.wf.ttl, H.wf.ent, H.wf.ing, hx, H.wf.bits, H.wf.pay⟩ H.sm
set_option maxRecDepth 100000 in
theorem TK.at_pay (H : TK a W B P w) (ha : a < W.heap.size) (hB : W.heap.size < B) {s : ByteArray} (hs : s.size ≤ 100) : TK a W B { P with pay := s } (w.setCell ⟨B, 9, none⟩ (.string s)) :=
  H.turn ha hB rfl ⟨H.wf.mode, H.wf.sub, H.wf.set, H.wf.len, H.wf.ttl, H.wf.ent, H.wf.ing, H.wf.pro, H.wf.bits, Nat.le_trans hs (by decide)⟩ hs
end
/-- How much the payload lacks. -/
def payLeft (w : World) (B : Nat) : Nat := match w.cell? ⟨B, 9, none⟩ with | some (.string s) => 62 - s.size | _ => 0
set_option maxRecDepth 100000 in
set_option maxHeartbeats 3200000 in
theorem packetN_any (a : Nat) (n : Int) (hn : 1 ≤ n) (hn2 : n ≤ 1000) (w : World) (hT : Tp w a) :
    Calls Tryd.prog 23 #[.pointer (some ⟨a, 0, none⟩), .int .i64 n] w fun e w' => AnyPacketPost a w e w' := by
  have ha := hT.lt
  obtain ⟨k1, k2⟩ := one_box w zpk 31
  have HB := Lib.hid k1
  have S0 : St a w (w.alloc (.cells zpk 31)) := ⟨grown_none k2 _, hT.keep k2⟩
  clear k1 k2
  unfold zpk at HB S0
  go_enter Tryd.func23, Tryd.ntmps23
  go_wp2_with fail
  generalize w.alloc _ = wa at *
  change Hid (wa.heap[w.heap.size]? = some (.cells zpk 31 (0, 0))) at HB
  refine (length_any a _ S0.2).mono ?_
  rintro e w1 ⟨len, rfl, hlen, hs1⟩
  have S1 := S0.trans hs1
  go_wp2_with fail
  refine (range_any a 1 3 (by decide) (by decide) (by decide) (by decide) _ S1.2).mono ?_
  rintro e w2 ⟨mode, rfl, hmode, hs2⟩
  go_wp2_with fail
  refine (range_any a 0 7 (by decide) (by decide) (by decide) (by decide) _ hs2.2).mono ?_
  rintro e w3 ⟨sub, rfl, hsub, hs3⟩
  go_wp2_with fail
  refine (pick_any (fun r => 0 ≤ r ∧ r ≤ 31) a _ 0 5 5 (by omega) (by omega) _ (hs3.2.alloc _) (among_list _ w3 a [0, 0, 1, 2, 31] _ _ hs3.2.lt rfl (by decide))).mono ?_
  rintro e w4 ⟨set, rfl, hset, hs4⟩
  go_wp2_with fail
  refine (pick_any (fun r => 0 ≤ r ∧ r ≤ 63) a _ 0 5 5 (by omega) (by omega) _ (hs4.2.alloc _) (among_list _ w4 a [0, 1, 2, 5, 63] _ _ hs4.2.lt rfl (by decide))).mono ?_
  rintro e w5 ⟨ttl, rfl, httl, hs5⟩
  go_wp2_with fail
  refine (next_any a 1024 (by unfold I64; omega) _ hs5.2).mono ?_
  rintro e w6 ⟨ent, rfl, hent, hs6⟩
  go_wp2_with fail
  refine (pick_any (fun r => 0 ≤ r ∧ r ≤ 256) a _ 0 5 5 (by omega) (by omega) _ (hs6.2.alloc _) (among_list _ w6 a [0, 1, 8, 255, 256] _ _ hs6.2.lt rfl (by decide))).mono ?_
  rintro e w7 ⟨ing, rfl, hing, hs7⟩
  go_wp2_with fail
  refine (next_any a 8 (by unfold I64; omega) _ hs7.2).mono ?_
  rintro e w8 ⟨pro, rfl, hpro, hs8⟩
  go_wp2_with fail
  refine (bits_any a len hlen _ hs8.2).mono ?_
  rintro e w9 ⟨bits, rfl, hbu, hbv, hs9⟩
  go_wp2_with fail
  refine (text_any a 6 (by decide) _ hs9.2).mono ?_
  rintro e w10 ⟨pay, rfl, hpay, hs10⟩
  have S' := ((((((((hs1.trans hs2).trans hs3).trans hs4.alloc_left).trans hs5.alloc_left).trans hs6).trans hs7.alloc_left).trans hs8).trans hs9).trans hs10
  have S := Lib.hid (S0.trans S')
  have HR := Lib.hid (kept_row HB.out S'.1 (fun e => by have := Option.some.inj e; omega))
  have hV : Hid (vpk ⟨mode, sub, set, len, ttl, ent, ing, pro, bits, pay⟩ = true ∧ (⟨mode, sub, set, len, ttl, ent, ing, pro, bits, pay⟩ : Pk).Wf) := by
    have r1 := hmode.1
    have r2 := hmode.2.1 (by decide)
    have r3 := hsub.1
    have r4 := hsub.2.1 (by decide)
    have r5 := hent.1
    have r6 := hent.2.1 (by decide)
    have r7 := hpro.1
    have r8 := hpro.2.1 (by decide)
    refine Lib.hid ⟨decide_eq_true ⟨⟨r1, r2⟩, ⟨r3, r4⟩, hset, httl, ⟨r5, by show ent ≤ 1023; omega⟩, hing, ⟨r7, by show pro ≤ 7; omega⟩, Nat.le_trans hpay (by decide), hbv⟩, ?_⟩
    have hl : I64 len := by rcases vl_cases hlen with h | h | h | h <;> rw [h] <;> (unfold I64; decide)
    obtain ⟨q1, q2⟩ := hset
    obtain ⟨q3, q4⟩ := httl
    obtain ⟨q5, q6⟩ := hing
    exact ⟨i64_small (x := mode) (by omega) (by omega), i64_small (x := sub) (by omega) (by omega), i64_small (x := set) (by omega) (by omega), hl, i64_small (x := ttl) (by omega) (by omega), i64_small (x := ent) (by omega) (by omega), i64_small (x := ing) (by omega) (by omega), i64_small (x := pro) (by omega) (by omega), hbu, Nat.le_trans hpay (by decide)⟩
  have g11 := World.grownBy_alloc w10 (.cells #[.int .i64 mode, .int .i64 sub, .int .i64 set, .int .i64 len, .int .i64 ttl, .int .i64 ent, .int .i64 ing, .int .i64 pro, .int .u64 (bits : Int), .string pay] 31) none
  have HR2 := Lib.hid (kept_row HR.out g11 (by simp))
  have S2 := Lib.hid (S.out.none_ g11)
  have K0 : Hid (TK a w w10.heap.size ⟨mode, sub, set, len, ttl, ent, ing, pro, bits, pay⟩ (w10.alloc (.cells #[.int .i64 mode, .int .i64 sub, .int .i64 set, .int .i64 len, .int .i64 ttl, .int .i64 ent, .int .i64 ing, .int .i64 pro, .int .u64 (bits : Int), .string pay] 31))) := Lib.hid ⟨heap_alloc_new w10 _, HR2.out, S2.out, hV.out.2, Nat.le_trans hpay (by decide)⟩
  have hB : w.heap.size < w10.heap.size := by have h := S.out.1.size; have h2 := World.lt_of_row' HR.out; omega
  have HBB := Lib.hid hB
  have HPY := Lib.hid hpay
  clear S' S HR HR2 S2 hV hB HB S0 S1 hs1 hs2 hs3 hs4 hs5 hs6 hs7 hs8 hs9 hs10 hmode hsub hset httl hent hing hpro hbu hbv hpay hlen g11
  go_upto_region 3 with fail
  generalize w10.alloc (.cells #[.int .i64 mode, .int .i64 sub, .int .i64 set, .int .i64 len, .int .i64 ttl, .int .i64 ent, .int .i64 ing, .int .i64 pro, .int .u64 (bits : Int), .string pay] 31) = w11 at *
  have hT11 := K0.out.st.2
  go_wp2_with fail
  refine (one_any a n (by unfold I64; omega) _ hT11).mono ?_
  rintro e w12 ⟨b, rfl, hs⟩
  have K1 := Lib.hid (K0.out.tape ha HBB.out hs)
  clear K0 hT11 hs
  go_upto_if 39 with fail
  go_cut [] from 40 to 96 (fun wx => ∃ P, Hid (TK a w w10.heap.size P wx))
  case first =>
    cases b with
    | false =>
      go_wp2_with fail
      go_meet
      exact ⟨_, K1⟩
    | true =>
      have hT12 := K1.out.st.2
      go_wp2_with fail
      refine (next_any a 9 (by unfold I64; omega) _ hT12).mono ?_
      rintro e w13 ⟨r, rfl, hr, hs⟩
      have K2 := Lib.hid (K1.out.tape ha HBB.out hs)
      clear K1 hT12 hs
      have hr9 : 0 ≤ r ∧ r < 9 := ⟨hr.1, hr.2.1 (by decide)⟩
      obtain ⟨p0, p1, p2, p3, p4, p5, p6, p7, p8, p9⟩ := p_facts K2.out.pb
      have hT13 := K2.out.st.2
      rcases (show r = 0 ∨ r = 1 ∨ r = 2 ∨ r = 3 ∨ r = 4 ∨ r = 5 ∨ r = 6 ∨ r = 7 ∨ r = 8 by omega) with rfl | rfl | rfl | rfl | rfl | rfl | rfl | rfl | rfl
      · go_wp2_with fail
        refine (wild_any a _ hT13).mono ?_
        rintro e w14 ⟨x, rfl, hx, hs⟩
        have K3 := Lib.hid (K2.out.tape ha HBB.out hs)
        have c0 : w14.cell? ⟨w10.heap.size, 0, none⟩ = some (.int .i64 mode) := cell_of_row _ _ _ _ _ _ K3.out.pb
        have c1 := frozen_of_row _ _ 0 _ _ K3.out.pb
        have K4 := Lib.hid (K3.out.at_mode ha HBB.out hx)
        clear K2 K3 hs p0 p1 p2 p3 p4 p5 p6 p7 p8 p9
        go_wp2_with fail
        go_meet
        exact ⟨_, K4⟩
      · go_wp2_with fail
        refine (wild_any a _ hT13).mono ?_
        rintro e w14 ⟨x, rfl, hx, hs⟩
        have K3 := Lib.hid (K2.out.tape ha HBB.out hs)
        have c0 : w14.cell? ⟨w10.heap.size, 1, none⟩ = some (.int .i64 sub) := cell_of_row _ _ _ _ _ _ K3.out.pb
        have c1 := frozen_of_row _ _ 1 _ _ K3.out.pb
        have K4 := Lib.hid (K3.out.at_sub ha HBB.out hx)
        clear K2 K3 hs p0 p1 p2 p3 p4 p5 p6 p7 p8 p9
        go_wp2_with fail
        go_meet
        exact ⟨_, K4⟩
      · go_wp2_with fail
        refine (wild_any a _ hT13).mono ?_
        rintro e w14 ⟨x, rfl, hx, hs⟩
        have K3 := Lib.hid (K2.out.tape ha HBB.out hs)
        have c0 : w14.cell? ⟨w10.heap.size, 2, none⟩ = some (.int .i64 set) := cell_of_row _ _ _ _ _ _ K3.out.pb
        have c1 := frozen_of_row _ _ 2 _ _ K3.out.pb
        have K4 := Lib.hid (K3.out.at_set ha HBB.out hx)
        clear K2 K3 hs p0 p1 p2 p3 p4 p5 p6 p7 p8 p9
        go_wp2_with fail
        go_meet
        exact ⟨_, K4⟩
      · go_wp2_with fail
        refine (pick_any (fun r => I64 r) a _ 0 8 8 (by omega) (by omega) _ (hT13.alloc _) (among_list _ w13 a [0, 8, 16, 24, 63, 64, 65, -8] _ _ hT13.lt rfl (by unfold I64; decide))).mono ?_
        rintro e w14 ⟨x, rfl, hx, hs0⟩
        have hs := hs0.alloc_left
        have K3 := Lib.hid (K2.out.tape ha HBB.out hs)
        have c0 : w14.cell? ⟨w10.heap.size, 3, none⟩ = some (.int .i64 len) := cell_of_row _ _ _ _ _ _ K3.out.pb
        have c1 := frozen_of_row _ _ 3 _ _ K3.out.pb
        have K4 := Lib.hid (K3.out.at_len ha HBB.out hx)
        clear K2 K3 hs hs0 p0 p1 p2 p3 p4 p5 p6 p7 p8 p9
        go_wp2_with fail
        go_meet
        exact ⟨_, K4⟩
      · go_wp2_with fail
        refine (wild_any a _ hT13).mono ?_
        rintro e w14 ⟨x, rfl, hx, hs⟩
        have K3 := Lib.hid (K2.out.tape ha HBB.out hs)
        have c0 : w14.cell? ⟨w10.heap.size, 4, none⟩ = some (.int .i64 ttl) := cell_of_row _ _ _ _ _ _ K3.out.pb
        have c1 := frozen_of_row _ _ 4 _ _ K3.out.pb
        have K4 := Lib.hid (K3.out.at_ttl ha HBB.out hx)
        clear K2 K3 hs p0 p1 p2 p3 p4 p5 p6 p7 p8 p9
        go_wp2_with fail
        go_meet
        exact ⟨_, K4⟩
      · go_wp2_with fail
        refine (wild_any a _ hT13).mono ?_
        rintro e w14 ⟨x, rfl, hx, hs⟩
        have K3 := Lib.hid (K2.out.tape ha HBB.out hs)
        have c0 : w14.cell? ⟨w10.heap.size, 5, none⟩ = some (.int .i64 ent) := cell_of_row _ _ _ _ _ _ K3.out.pb
        have c1 := frozen_of_row _ _ 5 _ _ K3.out.pb
        have K4 := Lib.hid (K3.out.at_ent ha HBB.out hx)
        clear K2 K3 hs p0 p1 p2 p3 p4 p5 p6 p7 p8 p9
        go_wp2_with fail
        go_meet
        exact ⟨_, K4⟩
      · go_wp2_with fail
        refine (wild_any a _ hT13).mono ?_
        rintro e w14 ⟨x, rfl, hx, hs⟩
        have K3 := Lib.hid (K2.out.tape ha HBB.out hs)
        have c0 : w14.cell? ⟨w10.heap.size, 6, none⟩ = some (.int .i64 ing) := cell_of_row _ _ _ _ _ _ K3.out.pb
        have c1 := frozen_of_row _ _ 6 _ _ K3.out.pb
        have K4 := Lib.hid (K3.out.at_ing ha HBB.out hx)
        clear K2 K3 hs p0 p1 p2 p3 p4 p5 p6 p7 p8 p9
        go_wp2_with fail
        go_meet
        exact ⟨_, K4⟩
      · go_wp2_with fail
        refine (wild_any a _ hT13).mono ?_
        rintro e w14 ⟨x, rfl, hx, hs⟩
        have K3 := Lib.hid (K2.out.tape ha HBB.out hs)
        have c0 : w14.cell? ⟨w10.heap.size, 7, none⟩ = some (.int .i64 pro) := cell_of_row _ _ _ _ _ _ K3.out.pb
        have c1 := frozen_of_row _ _ 7 _ _ K3.out.pb
        have K4 := Lib.hid (K3.out.at_pro ha HBB.out hx)
        clear K2 K3 hs p0 p1 p2 p3 p4 p5 p6 p7 p8 p9
        go_wp2_with fail
        go_meet
        exact ⟨_, K4⟩
      · go_wp2_with fail
        go_loopw [44] (fun _ wr => ∃ P : Pk, P.pay.size ≤ 64 ∧ Hid (TK a w w10.heap.size P wr)) (fun _ wr => payLeft wr w10.heap.size)
        case atStart => exact ⟨_, Nat.le_trans HPY.out (by decide), K2⟩
        case round =>
          obtain ⟨P, hP64, HK⟩ := hrel
          clear K2 p0 p1 p2 p3 p4 p5 p6 p7 p8 p9 hT13
          have c9 : wr.cell? ⟨w10.heap.size, 9, none⟩ = some (.string P.pay) := cell_of_row _ _ _ _ _ _ HK.out.pb
          have d9 := frozen_of_row _ _ 9 _ _ HK.out.pb
          by_cases hlt : P.pay.size < 62
          · have hsz : (P.pay ++ ⟨#[97, 98, 99]⟩ : ByteArray).size = P.pay.size + 3 := by rw [ByteArray.size_append]; rfl
            have K' := HK.out.at_pay ha HBB.out (s := P.pay ++ ⟨#[97, 98, 99]⟩) (by rw [hsz]; omega)
            have c9' : (wr.setCell ⟨w10.heap.size, 9, none⟩ (.string (P.pay ++ ⟨#[97, 98, 99]⟩))).cell? ⟨w10.heap.size, 9, none⟩ = some (.string (P.pay ++ ⟨#[97, 98, 99]⟩)) := cell_of_row _ _ _ _ _ _ K'.pb
            have H9 := Lib.hid (And.intro c9 (And.intro c9' hsz))
            have HK' := Lib.hid K'
            clear c9' hsz K'
            go_wp2_with fail
            go_roundw
            case rel => exact ⟨_, by show (P.pay ++ ⟨#[97, 98, 99]⟩ : ByteArray).size ≤ 64; rw [H9.out.2.2]; omega, HK'⟩
            case measure =>
              unfold payLeft
              rw [H9.out.1, H9.out.2.1]
              show 62 - (P.pay ++ ⟨#[97, 98, 99]⟩ : ByteArray).size < 62 - P.pay.size
              rw [H9.out.2.2]; omega
          · have hT14 := HK.out.st.2
            go_wp2_with fail
            go_region_law (first
              | (go_simp; go_at_call 52; refine (text_any a 4 (by decide) _ hT14.drew).mono ?_; rintro e w15 ⟨s, rfl, hs4, hs⟩; have K5 := Lib.hid (HK.out.tape ha HBB.out (w1 := w15) ⟨grown_trans (grown_drew (grown_refl wr _)) hs.1, hs.2⟩); have e9 : w15.cell? ⟨w10.heap.size, 9, none⟩ = some (.string P.pay) := cell_of_row _ _ _ _ _ _ K5.out.pb; have f9 := frozen_of_row _ _ 9 _ _ K5.out.pb; have K6 := Lib.hid (K5.out.at_pay ha HBB.out (s := P.pay ++ s) (by rw [ByteArray.size_append]; omega)); have hcat : ¬ 9223372036854775807 < P.pay.size + s.size := (by omega); clear hs))
            all_goals
              clear K5 c9 d9 e9 f9 hcat hs4
              go_wp2_with fail
              go_meet
              exact ⟨_, K6⟩
  case rest =>
    obtain ⟨P, HK⟩ := hcut
    obtain ⟨⟨r0, r1, r2, r3, r4, r5, r6, r7, r8, r9⟩, f0, f1, f2, f3, f4, f5, f6, f7, f8, f9⟩ := zp_cells HK.out.rb
    obtain ⟨p0, p1, p2, p3, p4, p5, p6, p7, p8, p9⟩ := p_facts HK.out.pb
    clear K1
    go_wp2_with fail
    refine bodyPost_ret (res_packet rfl _ _ w.heap.size _ rfl rfl (pput_row _ _ _ _ _ _ _ _ _ _ HK.out.rb)) rfl ?_
    exact ⟨P, rfl, HK.out.wf, HK.out.sm, HK.out.st.store (pput_grown _ w.heap.size _ _ _ _ _ _ _ _ _ _) (Nat.le_refl _) ha⟩
end Go.Proofs.YtpabfjhjehjebaaDoor

/- A list of three packets that a statement draws, and its members. -/
namespace Go.Proofs.YtpabfjhjehjebaaDoor
open Go.RowKit Bs
set_option maxRecDepth 100000 in
theorem ints_keep {w w1 : World} {v : Value} (h : IntsIn w v) (g : w.grownBy w1 none) : IntsIn w1 v := by
  obtain ⟨p, n, c, hv, h1, h2, h3⟩ := h
  refine ⟨p, n, c, hv, h1, h2, fun hn => ?_⟩
  obtain ⟨b, off, hp, hb, hx⟩ := h3 hn
  refine ⟨b, off, hp, Nat.lt_of_lt_of_le hb g.size, fun i hi => ?_⟩
  obtain ⟨x, hx1, hx2⟩ := hx i hi
  exact ⟨x, hx1, g.cell hx2 (by simp)⟩
set_option maxRecDepth 100000 in
theorem grown_undrew_some {a : Nat} {w w1 : World} (g : w.drew.grownBy w1 (some a)) : w.grownBy w1 (some a) := ⟨g.os, g.tape, g.output, g.size, g.block⟩
set_option maxRecDepth 100000 in
theorem St.tp {a : Nat} {w w1 : World} (h : St a w w1) : Tp w1 a := h.2
set_option maxRecDepth 100000 in
theorem St.gr {a : Nat} {w w1 : World} (h : St a w w1) : w.grownBy w1 (some a) := h.1
/-- A packet comes back, cell by cell. -/
def AggPost (a : Nat) (w : World) (e : Ending) (w' : World) : Prop := ∃ P : Pk, e = .returned (.agg #[.int .i64 P.mode, .int .i64 P.sub, .int .i64 P.set, .int .i64 P.len, .int .i64 P.ttl, .int .i64 P.ent, .int .i64 P.ing, .int .i64 P.pro, .int .u64 (P.bits : Int), .string P.pay]) ∧ P.Wf ∧ St a w w'
set_option maxRecDepth 100000 in
theorem packetN_agg (a : Nat) (n : Int) (hn : 1 ≤ n) (hn2 : n ≤ 1000) (w : World) (hT : Tp w a) :
    Calls Tryd.prog 23 #[.pointer (some ⟨a, 0, none⟩), .int .i64 n] w fun e w' => AggPost a w e w' := by
  refine (packetN_any a n hn hn2 w hT).mono ?_
  rintro e w' ⟨P, rfl, h1, _, h2⟩
  exact ⟨P, rfl, h1, h2⟩
set_option maxRecDepth 100000 in
theorem packet1_agg (a : Nat) (w : World) (hT : Tp w a) :
    Calls Tryd.prog 23 #[.pointer (some ⟨a, 0, none⟩), .int .i64 1] w fun e w' => AggPost a w e w' := packetN_agg a 1 (by decide) (by decide) w hT
set_option maxRecDepth 100000 in
theorem packet2_agg (a : Nat) (w : World) (hT : Tp w a) :
    Calls Tryd.prog 23 #[.pointer (some ⟨a, 0, none⟩), .int .i64 2] w fun e w' => AggPost a w e w' := packetN_agg a 2 (by decide) (by decide) w hT
set_option maxRecDepth 100000 in
theorem packet4_agg (a : Nat) (w : World) (hT : Tp w a) :
    Calls Tryd.prog 23 #[.pointer (some ⟨a, 0, none⟩), .int .i64 4] w fun e w' => AggPost a w e w' := packetN_agg a 4 (by decide) (by decide) w hT
set_option maxRecDepth 100000 in
theorem packet0_agg (a : Nat) (w : World) (hT : Tp w a) :
    Calls Tryd.prog 23 #[.pointer (some ⟨a, 0, none⟩), .int .i64 0] w fun e w' => AggPost a w e w' := by
  refine (packet0_any a w hT).mono ?_
  rintro e w' ⟨P, rfl, h1, _, h2⟩
  exact ⟨P, rfl, h1, h2⟩
set_option maxRecDepth 100000 in
theorem keep12 {w0 w' : World} {a b : Nat} {P : Pk} (h : w0.heap[b]? = some (.cells (pcells P) 31 (0, 0))) (hab : b ≠ a) (hT : Tp w' a) (hg : Hid (w0.grownBy w' (some a))) :
    w'.cell? ⟨b, 0, none⟩ = some (.int .i64 P.mode) ∧ w'.cell? ⟨b, 1, none⟩ = some (.int .i64 P.sub) ∧ w'.cell? ⟨b, 2, none⟩ = some (.int .i64 P.set) ∧ w'.cell? ⟨b, 3, none⟩ = some (.int .i64 P.len) ∧ w'.cell? ⟨b, 4, none⟩ = some (.int .i64 P.ttl) ∧ w'.cell? ⟨b, 5, none⟩ = some (.int .i64 P.ent) ∧ w'.cell? ⟨b, 6, none⟩ = some (.int .i64 P.ing) ∧ w'.cell? ⟨b, 7, none⟩ = some (.int .i64 P.pro) ∧ w'.cell? ⟨b, 8, none⟩ = some (.int .u64 (P.bits : Int)) ∧ w'.cell? ⟨b, 9, none⟩ = some (.string P.pay) ∧ Tp w' a ∧ Hid (w0.grownBy w' (some a)) := by
  obtain ⟨h0, h1, h2, h3, h4, h5, h6, h7, h8, h9⟩ := p_facts (kept_row h hg.out (fun e => hab (Option.some.inj e)))
  exact ⟨h0, h1, h2, h3, h4, h5, h6, h7, h8, h9, hT, hg⟩
/-- The cells of three packets. -/
def c30 (P Q R : Pk) : Array Value := #[.int .i64 P.mode, .int .i64 P.sub, .int .i64 P.set, .int .i64 P.len, .int .i64 P.ttl, .int .i64 P.ent, .int .i64 P.ing, .int .i64 P.pro, .int .u64 (P.bits : Int), .string P.pay,
  .int .i64 Q.mode, .int .i64 Q.sub, .int .i64 Q.set, .int .i64 Q.len, .int .i64 Q.ttl, .int .i64 Q.ent, .int .i64 Q.ing, .int .i64 Q.pro, .int .u64 (Q.bits : Int), .string Q.pay,
  .int .i64 R.mode, .int .i64 R.sub, .int .i64 R.set, .int .i64 R.len, .int .i64 R.ttl, .int .i64 R.ent, .int .i64 R.ing, .int .i64 R.pro, .int .u64 (R.bits : Int), .string R.pay]
def sel3 (P Q R : Pk) (j : Nat) : Pk := match j with | 0 => P | 1 => Q | _ => R
/-- Member j of the list. -/
def At10 (w : World) (b j : Nat) (P : Pk) : Prop :=
  w.cell? ⟨b, j * 10, none⟩ = some (.int .i64 P.mode) ∧ w.cell? ⟨b, j * 10 + 1, none⟩ = some (.int .i64 P.sub) ∧ w.cell? ⟨b, j * 10 + 2, none⟩ = some (.int .i64 P.set) ∧ w.cell? ⟨b, j * 10 + 3, none⟩ = some (.int .i64 P.len) ∧ w.cell? ⟨b, j * 10 + 4, none⟩ = some (.int .i64 P.ttl) ∧ w.cell? ⟨b, j * 10 + 5, none⟩ = some (.int .i64 P.ent) ∧ w.cell? ⟨b, j * 10 + 6, none⟩ = some (.int .i64 P.ing) ∧ w.cell? ⟨b, j * 10 + 7, none⟩ = some (.int .i64 P.pro) ∧ w.cell? ⟨b, j * 10 + 8, none⟩ = some (.int .u64 (P.bits : Int)) ∧ w.cell? ⟨b, j * 10 + 9, none⟩ = some (.string P.pay)
set_option maxRecDepth 100000 in
theorem c30_at {w : World} {b : Nat} {P Q R : Pk} (hr : w.heap[b]? = some (.cells (c30 P Q R) 31 (0, 0))) (j : Nat) (hj : j < 3) : At10 w b j (sel3 P Q R j) := by
  rcases (show j = 0 ∨ j = 1 ∨ j = 2 by omega) with rfl | rfl | rfl
  · exact ⟨cell_of_row _ _ _ _ _ _ hr, cell_of_row _ _ _ _ _ _ hr, cell_of_row _ _ _ _ _ _ hr, cell_of_row _ _ _ _ _ _ hr, cell_of_row _ _ _ _ _ _ hr, cell_of_row _ _ _ _ _ _ hr, cell_of_row _ _ _ _ _ _ hr, cell_of_row _ _ _ _ _ _ hr, cell_of_row _ _ _ _ _ _ hr, cell_of_row _ _ _ _ _ _ hr⟩
  · exact ⟨cell_of_row _ _ _ _ _ _ hr, cell_of_row _ _ _ _ _ _ hr, cell_of_row _ _ _ _ _ _ hr, cell_of_row _ _ _ _ _ _ hr, cell_of_row _ _ _ _ _ _ hr, cell_of_row _ _ _ _ _ _ hr, cell_of_row _ _ _ _ _ _ hr, cell_of_row _ _ _ _ _ _ hr, cell_of_row _ _ _ _ _ _ hr, cell_of_row _ _ _ _ _ _ hr⟩
  · exact ⟨cell_of_row _ _ _ _ _ _ hr, cell_of_row _ _ _ _ _ _ hr, cell_of_row _ _ _ _ _ _ hr, cell_of_row _ _ _ _ _ _ hr, cell_of_row _ _ _ _ _ _ hr, cell_of_row _ _ _ _ _ _ hr, cell_of_row _ _ _ _ _ _ hr, cell_of_row _ _ _ _ _ _ hr, cell_of_row _ _ _ _ _ _ hr, cell_of_row _ _ _ _ _ _ hr⟩
set_option maxRecDepth 100000 in
theorem At10.keep {w w' : World} {b j : Nat} {P : Pk} (h : At10 w b j P) (g : w.grownBy w' none) : At10 w' b j P := by
  obtain ⟨h0, h1, h2, h3, h4, h5, h6, h7, h8, h9⟩ := h
  exact ⟨g.cell h0 (by simp), g.cell h1 (by simp), g.cell h2 (by simp), g.cell h3 (by simp), g.cell h4 (by simp), g.cell h5 (by simp), g.cell h6 (by simp), g.cell h7 (by simp), g.cell h8 (by simp), g.cell h9 (by simp)⟩
set_option maxRecDepth 100000 in
theorem sel3_wf {P Q R : Pk} (h1 : P.Wf) (h2 : Q.Wf) (h3 : R.Wf) (j : Nat) : (sel3 P Q R j).Wf := by
  unfold sel3
  split <;> assumption
end Go.Proofs.YtpabfjhjehjebaaDoor
