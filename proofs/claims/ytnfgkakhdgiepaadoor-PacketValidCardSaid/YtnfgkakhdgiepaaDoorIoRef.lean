/- Of the reference: one bit, Valid. -/
import Derived.Test.YtnfgkakhdgiepaaDoorIoValid
namespace Go.Proofs.YtnfgkakhdgiepaaDoor
open Go.RowKit Bs
/-- A bit as a word. -/
def bw (b : Bool) : Value := .int .u64 ((b.toNat : Nat) : Int)
set_option maxRecDepth 100000 in
theorem bt_word {l : List Nat} {i x s : Nat} (hx : l.getD (i / 8) 0 = x) (hs : 7 - i % 8 = s) (hx8 : x < 256) : bits .and .u64 (IntKind.u64.wrap ((x : Int) / 2 ^ s)) 1 = (((bt l i).toNat : Nat) : Int) := by
  rw [show IntKind.u64.wrap ((x : Int) / 2 ^ s) = (x : Int) / 2 ^ s by rw [shrW]; exact wrapU _ (u64_div _ _ (u64_mk (by omega))), bitW x s (u64_mk (by omega))]
  unfold bt
  rw [hx, hs, Nat.toNat_testBit]
set_option maxRecDepth 100000 in
set_option maxHeartbeats 800000 in
theorem bitr_any (l : List Nat) (i : Nat) (q : Nat → Prop) (p : Option Addr) (c : Nat) (hl : By l) (hi : i < 8 * l.length) (hi2 : i ≤ 1000000) (w : World) (hR : Rd w q (.slice p l.length c) (l.map nv)) :
    Calls Tryd.prog 118 #[.slice p l.length c, .int .i64 (i : Int)] w fun e w' => e = .returned (bw (bt l i)) ∧ w = w' := by
  have hK : i / 8 < l.length := by omega
  obtain ⟨g, off, rfl, _, hcell⟩ := hR.at_ (nv_at hK)
  have hx := hl.at_ hK
  generalize hX : l.getD (i / 8) 0 = x at *
  obtain ⟨s, hs⟩ : ∃ s : Nat, 7 - i % 8 = s := ⟨_, rfl⟩
  have hs8 : s ≤ 7 := by omega
  have hsub : 7 - (i : Int) % 8 = (s : Int) := by omega
  have HB := Lib.hid (bt_word hX hs hx)
  clear hs hX hR
  go_enter Tryd.func118, Tryd.ntmps118
  go_wp2_with fail
  go_ret
  exact ⟨ret_int HB.out, rfl⟩
set_option maxRecDepth 100000 in
theorem bw_true {b : Bool} (h : b = true) : bw b = .int .u64 1 := by rw [h]; rfl
set_option maxRecDepth 100000 in
theorem bw_false {b : Bool} (h : b = false) : bw b = .int .u64 0 := by rw [h]; rfl
set_option maxRecDepth 100000 in
set_option maxHeartbeats 1600000 in
theorem validr_any (l : List Nat) (n : Int) (q : Nat → Prop) (p : Option Addr) (c : Nat) (hl : By l) (w : World) (hq : ∀ b, q b → b < w.heap.size) (hR : Rd w q (.slice p l.length c) (l.map nv)) :
    Calls Tryd.prog 116 #[.agg #[.slice p l.length c, .int .i64 n]] w fun e w' => ValidPost l n w e w' := by
  by_cases h1 : n < 0
  · have V := Lib.hid (vs_neg (l := l) h1)
    go_enter Tryd.func116, Tryd.ntmps116
    go_wp2_with fail
    go_ret
    exact ⟨ret_bool (by rw [V.out]), World.grownBy_alloc _ _ _⟩
  · by_cases h2 : 8192 < n
    · have V := Lib.hid (vs_big (l := l) h2)
      go_enter Tryd.func116, Tryd.ntmps116
      go_wp2_with fail
      go_ret
      exact ⟨ret_bool (by rw [V.out]), World.grownBy_alloc _ _ _⟩
    · obtain ⟨N, rfl⟩ := Int.eq_ofNat_of_zero_le (show 0 ≤ n by omega)
      have hN : N ≤ 8192 := by omega
      obtain ⟨M, hM⟩ : ∃ M : Nat, M = (N + 7) / 8 := ⟨_, rfl⟩
      have hMe : ((N : Int) + 7) / 8 = (M : Int) := by omega
      by_cases h3 : l.length = M
      · have hM2 : M ≤ 1024 := by omega
        subst h3
        have HM := Lib.hid hM
        clear hM
        go_enter Tryd.func116, Tryd.ntmps116
        go_wp2_with fail
        obtain ⟨c0, c1⟩ := box2 w (.slice p l.length c) (.int .i64 (N : Int)) 91
        have HG := Lib.hid (World.grownBy_alloc w (.cells #[.slice p l.length c, .int .i64 (N : Int)] 91) none)
        have hR1 := hR.keep HG.out
        generalize w.alloc (.cells #[.slice p l.length c, .int .i64 (N : Int)] 91) = w1 at *
        generalize w.heap.size = b at *
        go_wp2_with fail
        go_loop [3] (fun i => ∃ j : Nat, N ≤ j ∧ i = .int .i64 (j : Int) ∧ (N ≤ 8 * l.length → j ≤ 8 * l.length) ∧ ∀ t, t < j → N ≤ t → t < 8 * l.length → bt l t = false) (fun i => (8 * l.length - (intOf i).toNat))
        case atStart => exact ⟨N, Nat.le_refl _, rfl, fun h => h, fun t h1 h2 => by omega⟩
        case round =>
          obtain ⟨j, hj, rfl, hj2, hz⟩ := hrel
          by_cases hlt : j < 8 * l.length
          · have C1 := bitr_any l j q p c hl hlt (by omega) w1 hR1
            have HZ := Lib.hid hz
            have hj9 : j ≤ 9000 := by omega
            by_cases hb : bt l j = true
            · rw [bw_true hb] at C1
              have H1 := Lib.hid C1
              have V : Hid (vs l (N : Int) = false) := by
                show vs l (N : Int) = false
                rw [Bool.eq_false_iff]
                intro h
                have := (vs_iff.1 h).2.2 j hlt hj
                rw [hb] at this; cases this
              clear C1 hz hb
              go_wp2_with (go_at_call 118; refine H1.out.mono ?_; rintro e w' ⟨rfl, rfl⟩)
              go_ret
              exact ⟨ret_bool (by rw [V.out]), HG.out⟩
            · have hb0 : bt l j = false := by simpa using hb
              rw [bw_false hb0] at C1
              have H1 := Lib.hid C1
              have HB := Lib.hid hb0
              clear C1 hz hb hb0
              go_wp2_with (go_at_call 118; refine H1.out.mono ?_; rintro e w' ⟨rfl, rfl⟩)
              go_round
              case rel =>
                refine ⟨j + 1, by omega, by go_num, fun _ => by omega, fun t h1 h2 h3 => ?_⟩
                by_cases e : t = j
                · rw [e]; exact HB.out
                · exact HZ.out t (by omega) h2 h3
              case measure => simp [intOf]; omega
          · have V : Hid (vs l (N : Int) = true) := by
              show vs l (N : Int) = true
              exact vs_iff.2 ⟨hN, by have := HM.out; omega, fun i h1 h2 => hz i (by omega) h2 (by omega)⟩
            clear hz
            go_wp2_with fail
            go_ret
            exact ⟨ret_bool (by rw [V.out]), HG.out⟩
      · have V := Lib.hid (vs_len (l := l) (N := N) (by omega))
        have d4 : ¬ ((l.length : Int) = (M : Int)) := by omega
        clear hM
        go_enter Tryd.func116, Tryd.ntmps116
        go_wp2_with fail
        go_ret
        exact ⟨ret_bool (by rw [V.out]), World.grownBy_alloc _ _ _⟩
end Go.Proofs.YtnfgkakhdgiepaaDoor
