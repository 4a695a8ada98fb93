/- BitioBursts: the walk. -/
import Derived.Test.YthnjiknmlakkkaaIoJoinsLaw
import Derived.Test.YthnjiknmlakkkaaIoFlip
import Derived.Test.YthnjiknmlakkkaaIoCheckMath
namespace Go.Proofs.Ythnjiknmlakkkaa
open Go.RowKit Bs
section
variable {w : World} {p : Option Addr} {c : Nat} {l : List Nat}
theorem checkp_st (h : Hid (Std w p c l)) (n : Int) : Calls Try.prog 31 #[.agg #[.slice p l.length c, .int .i64 n]] w fun e w' => CheckPost l n w e w' := checkp_any l n _ p c h.out.2.2 w h.out.1
theorem flip_st (h : Hid (Std w p c l)) (N a : Nat) (hll : l.length ≤ 2000) (ha : a < 8 * l.length) (hN : N ≤ 100000) : Calls Try.prog 34 #[.agg #[.slice p l.length c, .int .i64 (N : Int)], .int .i64 (a : Int)] w fun e w' => StreamPost (flp l a) (N : Int) w e w' := flip_any l N a _ p c h.out.2.2 hll ha hN h.out.2.1 w h.out.1
end
/-- Turned bits leave a stream valid. -/
theorem flp_vs {l : List Nat} {N a : Nat} (h : vs l (N : Int) = true) (ha : a < N) : vs (flp l a) (N : Int) = true := by
  obtain ⟨h1, h2, h3⟩ := vs_iff.1 h
  rw [vs_iff, flp_len]
  refine ⟨h1, h2, fun i hi hi2 => ?_⟩
  rw [flp_bt (by omega), h3 i hi hi2]
  have : ¬ i = a := by omega
  simp [this]
/-- l2 is l with the bits of a burst from a on turned, the first among them. -/
def Burst (l l2 : List Nat) (N a k : Nat) : Prop := l2.length = l.length ∧ By l2 ∧ vs l2 (N : Int) = true ∧ (∀ i, i < N → (i < a ∨ a + k ≤ i) → bt l i = bt l2 i) ∧ bt l a ≠ bt l2 a
theorem burst_one {l : List Nat} {N a : Nat} (hl : By l) (h : vs l (N : Int) = true) (ha : a < N) : Burst l (flp l a) N a 1 := by
  have hlen := (vs_bits h).2
  refine ⟨flp_len l a, flp_by hl (by omega), flp_vs h ha, fun i hi hia => ?_, ?_⟩
  · rw [flp_bt (by omega)]
    have : ¬ i = a := by omega
    simp [this]
  · rw [flp_bt (by omega)]
    cases bt l a <;> simp
theorem burst_next {l l2 : List Nat} {N a k : Nat} (hB : Burst l l2 N a k) (hk : 1 ≤ k) (ha : a + k < N) : Burst l (flp l2 (a + k)) N a (k + 1) := by
  obtain ⟨h1, h2, h3, h4, h5⟩ := hB
  have hlen := (vs_bits h3).2
  refine ⟨by rw [flp_len, h1], flp_by h2 (by omega), flp_vs h3 (by omega), fun i hi hia => ?_, ?_⟩
  · rw [h4 i hi (by omega), flp_bt (by omega)]
    have : ¬ i = a + k := by omega
    simp [this]
  · rw [flp_bt (by omega), show decide (a = a + k) = false by rw [decide_eq_false_iff_not]; omega, Bool.bne_false]
    exact h5
theorem burst_same {l l2 : List Nat} {N a k : Nat} (hB : Burst l l2 N a k) : Burst l l2 N a (k + 1) := by
  obtain ⟨h1, h2, h3, h4, h5⟩ := hB
  exact ⟨h1, h2, h3, fun i hi hia => h4 i hi (by omega), h5⟩
theorem burst_ne {l l2 : List Nat} {N a : Nat} (h : vs l (N : Int) = true) (hB : Burst l l2 N a 16) (ha : a + 16 ≤ N) : chk (bt l) N ≠ chk (bt l2) N := by
  obtain ⟨h1, h2, h3, h4, h5⟩ := hB
  refine chk_ne (dif_burst (p := a) ha (fun i hi => ?_) ?_ fun i hi hi2 => ?_)
  · rw [h4 i (by omega) (by omega)]; simp
  · revert h5; cases bt l a <;> cases bt l2 a <;> simp
  · rw [h4 i hi2 (by omega)]; simp
theorem nat_ne_beq {a b : Nat} (h : a ≠ b) : (((a : Nat) : Int) == ((b : Nat) : Int)) = false := by
  rw [beq_eq_false_iff_ne]; omega
theorem nat_ne_bne {a b : Nat} (h : a ≠ b) : (((a : Nat) : Int) != ((b : Nat) : Int)) = true := by
  rw [bne, nat_ne_beq h]; rfl
/-- The row of the turned stream, the tape, the first stream's facts. -/
structure BurstAt (W : World) (ta b : Nat) (l : List Nat) (N a k : Nat) (p : Option Addr) (c : Nat) (l2 : List Nat) (w' : World) : Prop where
  row : Row2 w' b (.slice p l2.length c) (.int .i64 (N : Int))
  own : Own w' (ta + 1) p c l2
  br : Burst l l2 N a k
  gr : W.grownBy w' none
  tp : Tp w' ta
  tb : ta < b
theorem BurstAt.turn {W w' w2 : World} {ta b N a k c : Nat} {p : Option Addr} {l l2 : List Nat} (h : BurstAt W ta b l N a k p c l2 w') (hta : W.heap.size ≤ ta) (s : St ta w' w2) : BurstAt W ta b l N a k p c l2 w2 :=
  ⟨kept_row h.row s.1 (by intro e; have := Option.some.inj e; have := h.tb; omega), h.own.other s.1 (by omega), h.br, grown_new h.gr s.1 hta, s.2, h.tb⟩
theorem BurstAt.keep {W w' w2 : World} {ta b N a k c : Nat} {p : Option Addr} {l l2 : List Nat} (h : BurstAt W ta b l N a k p c l2 w') (g : w'.grownBy w2 none) : BurstAt W ta b l N a k p c l2 w2 :=
  ⟨kept_row h.row g (by simp), h.own.keep g, h.br, grown_trans h.gr g, h.tp.keep g, h.tb⟩
def BurstRel (W : World) (ta b : Nat) (l : List Nat) (N a k : Nat) (w' : World) : Prop := ∃ p c l2, BurstAt W ta b l N a k p c l2 w'
theorem BurstAt.store {W w2 : World} {ta b N a k k' c c' base : Nat} {p p' : Option Addr} {l l2 l3 : List Nat} (h : BurstAt W ta b l N a k p c l2 w2) (hta : W.heap.size ≤ ta) (o : Own w2 base p' c' l3) (hb : b < base) (hr : Burst l l3 N a k') :
    BurstAt W ta b l N a k' p' c' l3 ((w2.setCell ⟨b, 0, none⟩ (.slice p' l3.length c')).setCell ⟨b, 1, none⟩ (.int .i64 (N : Int))) := by
  have g := grown_store2 w2 b (.slice p' l3.length c') (.int .i64 (N : Int))
  have htb := h.tb
  exact ⟨store2 h.row, (o.other g hb).mono (by omega), hr, grown_new h.gr g (by omega), tp_new h.tp g h.tb, h.tb⟩
set_option maxRecDepth 100000 in
set_option maxHeartbeats 3200000 in
theorem bursts_walk (v : Value) (w : World) (hv : IntsIn w v) :
    Calls Try.prog 10 #[v] w fun e w' => e = .returned (.bool true) ∧ w.grownBy w' none := by
  go_enter Try.func10, Try.ntmps10
  go_wp2_with fail
  refine (new_any v w hv).mono ?_
  rintro e w2 ⟨rfl, hg1, hT1⟩
  have hlt := hT1.lt
  go_wp2_with fail
  refine (stream0_any _ 120 (by omega) _ hT1).mono ?_
  rintro e w3 ⟨l, n, ⟨p, c, rfl, hown⟩, ⟨f, N, hN, rfl, hlf⟩, hs⟩
  obtain ⟨r1, r2⟩ := box_new w3 (.slice p l.length c) (.int .i64 (N : Int))
  have hT := hs.2.keep r2
  have G := Lib.hid (grown_trans (grown_tape hg1 hs.1) r2)
  have S := (hown.keep r2).std
  have hlt3 : w.heap.size < w3.heap.size := by have := hs.1.size; omega
  have HV : Hid (vs l (N : Int) = true) := Lib.hid (by rw [hlf]; exact pz_vs (by omega))
  have O4 := hown.keep r2
  obtain ⟨c0, c1⟩ := Row2.cells r1
  clear hs hg1 hT1 hv r2 hown hlf
  by_cases hsm : N < 16
  · go_wp2_with fail
    generalize w3.alloc (.cells #[.slice p l.length c, .int .i64 (N : Int)] 25) = w4 at *
    refine (awake_any _).mono ?_
    rintro e wz ⟨rfl, hz⟩
    have G := Lib.hid (grown_trans G.out hz)
    clear hz
    go_wp2_with fail
    go_ret
    exact ⟨rfl, G.out⟩
  · go_wp2_with fail
    generalize w3.alloc (.cells #[.slice p l.length c, .int .i64 (N : Int)] 25) = w4 at *
    refine (checkp_st S (N : Int)).mono ?_
    intro e w5 h
    obtain ⟨rfl, h5⟩ := h.op (chkV_ok HV.out)
    have r1 := Row2.keep r1 h5
    have S := Std.keep S h5
    have G := Lib.hid (grown_trans G.out h5)
    have O5 := O4.keep h5
    have hT := hT.keep h5
    clear h h5 c0 c1
    obtain ⟨c0, c1⟩ := Row2.cells r1
    have hN15 : (N : Int) - 15 = ((N - 15 : Nat) : Int) := by omega
    go_wp2_with fail
    refine (next_any _ ((N - 15 : Nat) : Int) (by unfold I64; omega) _ hT).mono ?_
    rintro e w6 ⟨r, rfl, hr, hs6⟩
    obtain ⟨a, rfl⟩ := Int.eq_ofNat_of_zero_le hr.1
    have haN : a + 16 ≤ N := by have := hr.2.1 (by omega); omega
    have r1 : Hid (Row2 _ _ _ _) := Lib.hid (kept_row r1.out hs6.1 (by intro e; have := Option.some.inj e; omega))
    have S : Hid (Std w6 p c l) := (O5.other hs6.1 (by omega)).std
    have G := Lib.hid (grown_tape G.out hs6.1)
    have hT := hs6.2
    clear hr hs6 c0 c1 O5 O4 hN15
    obtain ⟨c0, c1⟩ := Row2.cells r1
    have HF := Lib.hid (flip_st S N a (by have := (vs_bits HV.out).2; omega) (by have := (vs_bits HV.out).2; omega) (by omega))
    go_wp2_with fail
    refine HF.out.mono ?_
    rintro e w7 ⟨p2, c2, rfl, hown2, h7⟩
    obtain ⟨l2, hl2⟩ : ∃ l2, l2 = flp l a := ⟨_, rfl⟩
    have HB1 : Hid (Burst l l2 N a 1) := Lib.hid (by rw [hl2]; exact burst_one S.out.2.2 HV.out (by omega))
    rw [← hl2] at hown2
    rw [← hl2]
    obtain ⟨b1, b2⟩ := box_new w7 (.slice p2 l2.length c2) (.int .i64 (N : Int))
    have hszt := hT.lt
    have R0 : Hid (BurstRel w w.heap.size w7.heap.size l N a 1 (w7.alloc (.cells #[.slice p2 l2.length c2, .int .i64 (N : Int)] 25))) :=
      Lib.hid ⟨p2, c2, l2, b1.out, (hown2.keep b2).mono (by omega), HB1.out, grown_trans (grown_trans G.out h7) b2, (hT.keep h7).keep b2, by have := h7.size; omega⟩
    have Z0 : Hid (w7.heap.size < (w7.alloc (.cells #[.slice p2 l2.length c2, .int .i64 (N : Int)] 25)).heap.size) := Lib.hid (by simp)
    clear hown2 h7 hl2 HB1 b1 b2 c0 c1 S r1 G hT hszt hlt3 hlt
    go_wp2_with fail
    generalize w7.alloc (.cells #[.slice p2 l2.length c2, .int .i64 (N : Int)] 25) = w8 at *
    generalize w7.heap.size = B at *
    go_loopw [9] (fun i wr => ∃ k : Nat, 1 ≤ k ∧ k ≤ 16 ∧ i = .int .i64 (k : Int) ∧ BurstRel w w.heap.size B l N a k wr ∧ B < wr.heap.size) (fun i _ => (16 - (intOf i).toNat))
    case atStart => exact ⟨1, by omega, by omega, rfl, R0.out, Z0.out⟩
    case round =>
      obtain ⟨k, hk1, hk, rfl, hR, hz⟩ := hrel
      obtain ⟨p3, c3, l3, hA⟩ := hR
      have HA := Lib.hid hA
      have HZ := Lib.hid hz
      clear hA hz R0 Z0
      by_cases hlt : k < 16
      · have hT := HA.out.tp
        go_wp2_with fail
        refine (next_any _ 2 (by unfold I64; omega) _ hT).mono ?_
        rintro e w9 ⟨r, rfl, hr, hs9⟩
        have hr0 : 0 ≤ r := hr.1
        have hr2 : r < 2 := hr.2.1 (by omega)
        have HA9 := Lib.hid (HA.out.turn (Nat.le_refl _) hs9)
        have HZ9 := Lib.hid (Nat.lt_of_lt_of_le HZ.out hs9.1.size)
        clear hr hs9 HA HZ hT
        by_cases h1 : r = 1
        · subst h1
          obtain ⟨c0, c1⟩ := row_cells HA9.out.row
          have hak : a + k < N := by omega
          have C := flip_st (HA9.out.own.std) N (a + k) (by have := HA9.out.br.1; have := (vs_bits HV.out).2; omega) (by have := HA9.out.br.1; have := (vs_bits HV.out).2; omega) (by omega)
          obtain ⟨A, hA⟩ : ∃ A : Nat, a + k = A := ⟨_, rfl⟩
          have hAi : (a : Int) + (k : Int) = (A : Int) := by omega
          rw [hA] at C
          have H1 := Lib.hid C
          have HAE := Lib.hid hA
          have hA9 : A ≤ 8192 := by omega
          clear C hA
          go_wp2_with fail
          refine H1.out.mono ?_
          rintro e w10 ⟨p4, c4, rfl, hown4, h10⟩
          obtain ⟨l4, hl4⟩ : ∃ l4, l4 = flp l3 A := ⟨_, rfl⟩
          have HB4 : Hid (Burst l l4 N a (k + 1)) := Lib.hid (by rw [hl4, ← HAE.out]; exact burst_next HA9.out.br hk1 hak)
          rw [← hl4] at hown4
          rw [← hl4]
          have HAX := Lib.hid ((HA9.out.keep h10).store (k' := k + 1) (Nat.le_refl _) hown4 HZ9.out HB4.out)
          have HZX : Hid (B < w10.heap.size) := Lib.hid (Nat.lt_of_lt_of_le HZ9.out h10.size)
          have hrow := (HA9.out.keep h10).row
          clear c0 c1
          obtain ⟨c0, c1⟩ := row_cells hrow
          have f0 := frozen_of_row _ _ 0 _ _ hrow
          have f1 := frozen_of_row _ _ 1 _ _ hrow
          clear hown4 h10 hl4 hrow
          go_wp2_with fail
          go_roundw
          case rel => exact ⟨k + 1, by omega, by omega, by go_num, ⟨p4, c4, l4, HAX.out⟩, by simpa using HZX.out⟩
          case measure => simp [intOf]; omega
        · have b1 : (r == 1) = false := by simpa using h1
          obtain ⟨q1, q2, q3, q4, q5, q6⟩ := HA9.out
          have HA10 := Lib.hid (show BurstAt w w.heap.size B l N a (k + 1) p3 c3 l3 w9 from ⟨q1, q2, burst_same q3, q4, q5, q6⟩)
          clear q1 q2 q3 q4 q5 q6
          go_wp2_with fail
          go_roundw
          case rel => exact ⟨k + 1, by omega, by omega, by go_num, ⟨p3, c3, l3, HA10.out⟩, HZ9.out⟩
          case measure => simp [intOf]; omega
      · obtain rfl : k = 16 := by omega
        obtain ⟨c0, c1⟩ := row_cells HA.out.row
        have hne := burst_ne HV.out HA.out.br haN
        have hn1 : ((((chk (bt l) N : Nat) : Int)) == ((chk (bt l3) N : Nat) : Int)) = false := nat_ne_beq hne
        have hn2 : ((((chk (bt l) N : Nat) : Int)) != ((chk (bt l3) N : Nat) : Int)) = true := nat_ne_bne hne
        have S3 := HA.out.own.std
        have V3 := chkV_ok HA.out.br.2.2.1
        have HC := Lib.hid (checkp_st S3 (N : Int))
        have HV3 := Lib.hid V3
        clear hne V3
        generalize chk (bt l) N = x1 at *
        generalize hx2 : chk (bt l3) N = x2 at *
        clear hx2
        go_wp2_with fail
        refine HC.out.mono ?_
        intro e w9 h
        obtain ⟨rfl, h9⟩ := h.op HV3.out
        have G := Lib.hid (grown_trans HA.out.gr h9)
        clear h h9
        go_wp2_with fail
        refine (awake_any _).mono ?_
        rintro e wz ⟨rfl, hz⟩
        have G := Lib.hid (grown_trans G.out hz)
        clear hz
        go_wp2_with fail
        go_ret
        exact ⟨rfl, G.out⟩
end Go.Proofs.Ythnjiknmlakkkaa
