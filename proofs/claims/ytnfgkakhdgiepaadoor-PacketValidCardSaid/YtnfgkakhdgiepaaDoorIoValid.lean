/- Valid, of the program and of the reference. -/
import Derived.Test.YtnfgkakhdgiepaaDoorIoWrite
import Derived.Deep.LoopGhost
namespace Go.Proofs.YtnfgkakhdgiepaaDoor
open Go.RowKit Bs
set_option maxRecDepth 100000 in
theorem qt0 {P : Program} {f : FuncId} {args : Array Value} {w : World} {v : Value} (h : Calls P f args w fun e w' => e = .returned v ∧ w = w') :
    Calls P f args w fun e w'' => e = .returned v ∧ ∃ m, w'' = w.drewN m := h.mono fun _ _ ⟨he, hw⟩ => ⟨he, 0, hw.symm⟩
set_option maxRecDepth 100000 in
theorem qt1 {P : Program} {f : FuncId} {args : Array Value} {w : World} {n : Nat} {v : Value} (h : Calls P f args (w.drewN n) fun e w' => e = .returned v ∧ w.drewN n = w') :
    Calls P f args (w.drewN n) fun e w'' => e = .returned v ∧ ∃ m, w'' = w.drewN m := h.mono fun _ _ ⟨he, hw⟩ => ⟨he, n, hw.symm⟩
set_option maxRecDepth 100000 in
theorem qt2 {P : Program} {f : FuncId} {args : Array Value} {w : World} {a n : Nat} {v : Value} (h : Calls P f args (w.drewN (a + n)) fun e w' => e = .returned v ∧ w.drewN (a + n) = w') :
    Calls P f args (w.drewN (a + n)) fun e w'' => e = .returned v ∧ ∃ m, w'' = w.drewN (a + m) := h.mono fun _ _ ⟨he, hw⟩ => ⟨he, n, hw.symm⟩
/-- A stream is valid. -/
def vs (l : List Nat) (n : Int) : Bool := decide (0 ≤ n ∧ n ≤ 8192 ∧ l.length = (n.toNat + 7) / 8 ∧ ∀ i, i < 8 * l.length → n.toNat ≤ i → bt l i = false)
set_option maxRecDepth 100000 in
theorem vs_iff {l : List Nat} {N : Nat} : vs l (N : Int) = true ↔ N ≤ 8192 ∧ l.length = (N + 7) / 8 ∧ ∀ i, i < 8 * l.length → N ≤ i → bt l i = false := by
  unfold vs
  rw [decide_eq_true_eq, Int.toNat_natCast]
  constructor
  · rintro ⟨_, h1, h2⟩; exact ⟨by omega, h2⟩
  · rintro ⟨h1, h2⟩; exact ⟨by omega, by omega, h2⟩
set_option maxRecDepth 100000 in
theorem vs_neg {l : List Nat} {n : Int} (h : n < 0) : vs l n = false := by
  unfold vs; rw [decide_eq_false_iff_not]; rintro ⟨h1, _⟩; omega
set_option maxRecDepth 100000 in
theorem vs_big {l : List Nat} {n : Int} (h : 8192 < n) : vs l n = false := by
  unfold vs; rw [decide_eq_false_iff_not]; rintro ⟨_, h1, _⟩; omega
set_option maxRecDepth 100000 in
theorem vs_len {l : List Nat} {N : Nat} (h : l.length ≠ (N + 7) / 8) : vs l (N : Int) = false := by
  unfold vs; rw [decide_eq_false_iff_not, Int.toNat_natCast]; rintro ⟨_, _, h1, _⟩; exact h h1
set_option maxRecDepth 100000 in
theorem vs_full {l : List Nat} {N : Nat} (h0 : N ≤ 8192) (h : l.length = (N + 7) / 8) (h8 : N % 8 = 0) : vs l (N : Int) = true := by
  rw [vs_iff]; exact ⟨h0, h, fun i h1 h2 => by omega⟩
set_option maxRecDepth 100000 in
theorem vs_nat {l : List Nat} {n : Int} (h : vs l n = true) : ∃ N : Nat, n = (N : Int) := by
  unfold vs at h; rw [decide_eq_true_eq] at h
  exact ⟨n.toNat, by omega⟩
set_option maxRecDepth 100000 in
theorem vs_last {l : List Nat} {N r x : Nat} (h0 : N ≤ 8192) (h : l.length = (N + 7) / 8) (h8 : r ≠ 0) (hr : N % 8 = r) (hx : l.getD (N / 8) 0 = x) : vs l (N : Int) = decide (x * 2 ^ r % 256 = 0) := by
  have e8 : (256 : Nat) = 2 ^ 8 := rfl
  rw [Bool.eq_iff_iff, vs_iff, decide_eq_true_eq]
  constructor
  · rintro ⟨_, _, h2⟩
    apply Nat.eq_of_testBit_eq
    intro j
    rw [e8, Nat.testBit_mod_two_pow, ← Nat.shiftLeft_eq, Nat.testBit_shiftLeft, Nat.zero_testBit]
    by_cases hj : j < 8
    · by_cases hjr : r ≤ j
      · have := h2 (8 * (N / 8) + (7 - j + r)) (by omega) (by omega)
        unfold bt at this
        rw [show (8 * (N / 8) + (7 - j + r)) / 8 = N / 8 by omega, hx, show 7 - (8 * (N / 8) + (7 - j + r)) % 8 = j - r by omega] at this
        rw [this]; simp
      · simp [hjr]
    · simp [hj]
  · intro h2
    refine ⟨h0, h, fun i h3 h4 => ?_⟩
    have h5 : (x * 2 ^ r % 256).testBit (7 - i % 8 + r) = false := by rw [h2]; exact Nat.zero_testBit _
    rw [e8, Nat.testBit_mod_two_pow, ← Nat.shiftLeft_eq, Nat.testBit_shiftLeft] at h5
    have h6 : 7 - i % 8 + r < 8 := by omega
    have h7 : 7 - i % 8 + r ≥ r := by omega
    rw [Nat.add_sub_cancel] at h5
    simp only [h6, h7, decide_true, Bool.true_and] at h5
    unfold bt
    rw [show i / 8 = N / 8 by omega, hx]; exact h5
set_option maxRecDepth 100000 in
theorem shl_zero (x r : Nat) : ((x : Int) * 2 ^ r % 256 == 0) = decide (x * 2 ^ r % 256 = 0) := by
  rw [powI, show (x : Int) * ((2 ^ r : Nat) : Int) = ((x * 2 ^ r : Nat) : Int) by simp]
  generalize x * 2 ^ r = y
  rw [Bool.eq_iff_iff, beq_iff_eq, decide_eq_true_eq]
  omega
/-- The value of a stream. -/
def sval (p : Option Addr) (k c : Nat) (n : Int) : Value := .agg #[.slice p k c, .int .i64 n]
def ValidPost (l : List Nat) (n : Int) (w : World) (e : Ending) (w' : World) : Prop := e = .returned (.bool (vs l n)) ∧ w.grownBy w' none
set_option maxRecDepth 100000 in
theorem grown_alloc_drewN (w : World) (o : Obj) (n : Nat) : w.grownBy ((w.alloc o).drewN n) none := grown_trans (World.grownBy_alloc w o _) (grown_drewN _ _ _)
set_option maxRecDepth 100000 in
/-- A block of two cells. -/
theorem box2 (w : World) (v0 v1 : Value) (t : TypeId) : (w.alloc (.cells #[v0, v1] t)).cell? ⟨w.heap.size, 0, none⟩ = some v0 ∧ (w.alloc (.cells #[v0, v1] t)).cell? ⟨w.heap.size, 1, none⟩ = some v1 := by
  have hb : (w.alloc (.cells #[v0, v1] t)).heap[w.heap.size]? = some (.cells #[v0, v1] t (0, 0)) := heap_alloc_new w _
  refine ⟨?_, ?_⟩
  · rw [cell_of_row _ _ _ _ _ _ hb]; rfl
  · rw [cell_of_row _ _ _ _ _ _ hb]; rfl
set_option maxRecDepth 100000 in
set_option maxHeartbeats 800000 in
theorem valid_last (l : List Nat) (N : Nat) (q : Nat → Prop) (p : Option Addr) (c : Nat) (hl : By l) (hN : N ≤ 8192) (hM : (N + 7) / 8 = l.length) (h8 : ¬ N % 8 = 0) (w : World) (hR : Rd w q (.slice p l.length c) (l.map nv)) :
    Calls Tryd.prog 110 #[.agg #[.slice p l.length c, .int .i64 (N : Int)]] w fun e w' => ValidPost l (N : Int) w e w' := by
  have h1 : ¬ ((N : Int) < 0) := by omega
  have h2 : ¬ (8192 < (N : Int)) := by omega
  have d1 : decide ((N : Int) < 0) = false := by simp
  have d2 : decide (8192 < (N : Int)) = false := by simp; omega
  have hB := fun w => bytesFor_any N (by omega) w
  rw [hM] at hB
  obtain ⟨r, hr⟩ : ∃ r : Nat, N % 8 = r := ⟨_, rfl⟩
  have hr0 : r ≠ 0 := by omega
  have hr8 : r < 8 := by omega
  have z8 : (N : Int) % 8 = (r : Int) := by omega
  have z9 : ((r : Int) == 0) = false := by simp; omega
  obtain ⟨K, hK⟩ : ∃ K : Nat, N / 8 = K := ⟨_, rfl⟩
  have hKl : K < l.length := by omega
  have hK2 : K ≤ 1024 := by omega
  have hKe : (l.length : Int) - 1 = (K : Int) := by omega
  obtain ⟨g, off, rfl, _, hcell⟩ := hR.at_ (nv_at hKl)
  have hx := hl.at_ hKl
  generalize hX : l.getD K 0 = x at *
  have hX' : l.getD (N / 8) 0 = x := by rw [hK]; exact hX
  have V := Lib.hid (vs_last (l := l) hN (by omega) hr0 hr hX' )
  have hc2 : (w.alloc (.cells #[.slice (some ⟨g, off, none⟩) l.length c, .int .i64 (N : Int)] 91)).cell? ⟨g, off + K, none⟩ = some (.int .u8 (x : Int)) := (World.grownBy_alloc w _ none).cell hcell (by simp)
  clear hM hK hX hX' hcell hR h8
  go_enter Tryd.func110, Tryd.ntmps110
  go_wp2_with fail
  obtain ⟨c0, c1⟩ := box2 w (.slice (some ⟨g, off, none⟩) l.length c) (.int .i64 (N : Int)) 91
  have HG := Lib.hid (World.grownBy_alloc w (.cells #[.slice (some ⟨g, off, none⟩) l.length c, .int .i64 (N : Int)] 91) none)
  generalize w.alloc (.cells #[.slice (some ⟨g, off, none⟩) l.length c, .int .i64 (N : Int)] 91) = w1 at *
  generalize w.heap.size = b at *
  go_quiet (first | (go_at_call 115; first | exact qt0 (hB _) | exact qt1 (hB _) | exact qt2 (hB _)))
  go_wp2_with fail
  go_ret
  exact ⟨ret_bool (by rw [V.out]; exact shl_zero x r), grown_trans HG.out (grown_drewN _ _ _)⟩
set_option maxRecDepth 100000 in
set_option maxHeartbeats 800000 in
theorem validp_any (l : List Nat) (n : Int) (q : Nat → Prop) (p : Option Addr) (c : Nat) (hl : By l) (w : World) (hR : Rd w q (.slice p l.length c) (l.map nv)) :
    Calls Tryd.prog 110 #[.agg #[.slice p l.length c, .int .i64 n]] w fun e w' => ValidPost l n w e w' := by
  by_cases h1 : n < 0
  · have V := Lib.hid (vs_neg (l := l) h1)
    go_enter Tryd.func110, Tryd.ntmps110
    go_wp2_with fail
    go_quiet (fail)
    go_wp2_with fail
    go_ret
    exact ⟨ret_bool (by rw [V.out]), grown_alloc_drewN _ _ _⟩
  · by_cases h2 : 8192 < n
    · have V := Lib.hid (vs_big (l := l) h2)
      go_enter Tryd.func110, Tryd.ntmps110
      go_wp2_with fail
      go_quiet (fail)
      go_wp2_with fail
      go_ret
      exact ⟨ret_bool (by rw [V.out]), grown_alloc_drewN _ _ _⟩
    · obtain ⟨N, rfl⟩ := Int.eq_ofNat_of_zero_le (show 0 ≤ n by omega)
      have hN : N ≤ 8192 := by omega
      obtain ⟨M, hM⟩ : ∃ M : Nat, M = (N + 7) / 8 := ⟨_, rfl⟩
      have hB := fun w => bytesFor_any N (by omega) w
      rw [← hM] at hB
      have d1 : decide ((N : Int) < 0) = false := by simp
      have d2 : decide (8192 < (N : Int)) = false := by simp; omega
      by_cases h3 : l.length = M
      · subst h3
        by_cases h8 : N % 8 = 0
        · have V := Lib.hid (vs_full (l := l) hN (by omega) h8)
          have z8 : (N : Int) % 8 = 0 := by omega
          clear hM
          go_enter Tryd.func110, Tryd.ntmps110
          go_wp2_with fail
          obtain ⟨c0, c1⟩ := box2 w (.slice p l.length c) (.int .i64 (N : Int)) 91
          have HG := Lib.hid (World.grownBy_alloc w (.cells #[.slice p l.length c, .int .i64 (N : Int)] 91) none)
          generalize w.alloc (.cells #[.slice p l.length c, .int .i64 (N : Int)] 91) = w1 at *
          generalize w.heap.size = b at *
          go_quiet (first | (go_at_call 115; first | exact qt0 (hB _) | exact qt1 (hB _) | exact qt2 (hB _)))
          go_wp2_with fail
          go_ret
          exact ⟨ret_bool (by rw [V.out]), grown_trans HG.out (grown_drewN _ _ _)⟩
        · exact valid_last l N q p c hl hN hM.symm h8 w hR
      · have V := Lib.hid (vs_len (l := l) (N := N) (by omega))
        have d3 : ((l.length : Int) == (M : Int)) = false := by simp; omega
        have d4 : ¬ ((l.length : Int) = (M : Int)) := by omega
        clear hM
        go_enter Tryd.func110, Tryd.ntmps110
        go_wp2_with fail
        obtain ⟨c0, c1⟩ := box2 w (.slice p l.length c) (.int .i64 (N : Int)) 91
        have HG := Lib.hid (World.grownBy_alloc w (.cells #[.slice p l.length c, .int .i64 (N : Int)] 91) none)
        generalize w.alloc (.cells #[.slice p l.length c, .int .i64 (N : Int)] 91) = w1 at *
        generalize w.heap.size = b at *
        go_quiet (first | (go_at_call 115; first | exact qt0 (hB _) | exact qt1 (hB _) | exact qt2 (hB _)))
        go_wp2_with fail
        go_ret
        exact ⟨ret_bool (by rw [V.out]), grown_trans HG.out (grown_drewN _ _ _)⟩
end Go.Proofs.YtnfgkakhdgiepaaDoor
