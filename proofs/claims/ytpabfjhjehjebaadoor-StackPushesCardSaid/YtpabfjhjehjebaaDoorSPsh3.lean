/- Parts of the proof, packed: IoValid, IoRef, IoPut, IoZeros, IoTake. -/
import Derived.Test.YtpabfjhjehjebaaDoorSPsh2
import Derived.Deep.LoopGhost
import Derived.Laws.AppendOwnNone
import Derived.Laws.CopyOwn
import Derived.Laws.ResultCell
import Derived.Deep.Onto
import Derived.Deep.AppendLies
import Derived.Deep.RegionHeld3
import Derived.Deep.OwnRows
/- Valid, of the program and of the reference. -/
namespace Go.Proofs.YtpabfjhjehjebaaDoor
open Go.RowKit Bs
set_option maxRecDepth 100000 in
theorem qt0 {P : Program} {f : FuncId} {args : Array Value} {w : World} {v : Value} (h : Calls P f args w fun e w' => e = .returned v ∧ w = w') :
    Calls P f args w fun e w'' => e = .returned v ∧ ∃ m, w'' = w.drewN m := h.mono fun _ _ ⟨he, hw⟩ => ⟨he, 0, hw.symm⟩
set_option maxRecDepth 100000 in
theorem qt1 {P : Program} {f : FuncId} {args : Array Value} {w : World} {n : Nat} {v : Value} (h : Calls P f args (w.drewN n) fun e w' => e = .returned v ∧ w.drewN n = w') :
    Calls P f args (w.drewN n) fun e w'' => e = .returned v ∧ ∃ m, w'' = w.drewN m := h.mono fun _ _ ⟨he, hw⟩ => ⟨he, n, hw.symm⟩
set_option maxRecDepth 100000 in
theorem qt2 {P : Program} {f : FuncId} {args : Array Value} {w : World} {a n : Nat} {v : Value} (h : Calls P f args (w.drewN (a + n)) fun e w' => e = .returned v ∧ w.drewN (a + n) = w') :
    Calls P f args (w.drewN (a + n)) fun e w'' => e = .returned v ∧ ∃ m, w'' = w.drewN (a + m) := h.mono fun _ _ ⟨he, hw⟩ => ⟨he, n, hw.symm⟩
/-- A stream is valid. -/
def vs (l : List Nat) (n : Int) : Bool := decide (0 ≤ n ∧ n ≤ 8192 ∧ l.length = (n.toNat + 7) / 8 ∧ ∀ i, i < 8 * l.length → n.toNat ≤ i → bt l i = false)
set_option maxRecDepth 100000 in
theorem vs_iff {l : List Nat} {N : Nat} : vs l (N : Int) = true ↔ N ≤ 8192 ∧ l.length = (N + 7) / 8 ∧ ∀ i, i < 8 * l.length → N ≤ i → bt l i = false := by
  unfold vs
  rw [decide_eq_true_eq, Int.toNat_natCast]
  constructor
  · rintro ⟨_, h1, h2⟩; exact ⟨by omega, h2⟩
  · rintro ⟨h1, h2⟩; exact ⟨by omega, by omega, h2⟩
set_option maxRecDepth 100000 in
theorem vs_neg {l : List Nat} {n : Int} (h : n < 0) : vs l n = false := by
  unfold vs; rw [decide_eq_false_iff_not]; rintro ⟨h1, _⟩; omega
set_option maxRecDepth 100000 in
theorem vs_big {l : List Nat} {n : Int} (h : 8192 < n) : vs l n = false := by
  unfold vs; rw [decide_eq_false_iff_not]; rintro ⟨_, h1, _⟩; omega
set_option maxRecDepth 100000 in
theorem vs_len {l : List Nat} {N : Nat} (h : l.length ≠ (N + 7) / 8) : vs l (N : Int) = false := by
  unfold vs; rw [decide_eq_false_iff_not, Int.toNat_natCast]; rintro ⟨_, _, h1, _⟩; exact h h1
set_option maxRecDepth 100000 in
theorem vs_full {l : List Nat} {N : Nat} (h0 : N ≤ 8192) (h : l.length = (N + 7) / 8) (h8 : N % 8 = 0) : vs l (N : Int) = true := by
  rw [vs_iff]; exact ⟨h0, h, fun i h1 h2 => by omega⟩
set_option maxRecDepth 100000 in
theorem vs_nat {l : List Nat} {n : Int} (h : vs l n = true) : ∃ N : Nat, n = (N : Int) := by
  unfold vs at h; rw [decide_eq_true_eq] at h
  exact ⟨n.toNat, by omega⟩
set_option maxRecDepth 100000 in
theorem vs_last {l : List Nat} {N r x : Nat} (h0 : N ≤ 8192) (h : l.length = (N + 7) / 8) (h8 : r ≠ 0) (hr : N % 8 = r) (hx : l.getD (N / 8) 0 = x) : vs l (N : Int) = decide (x * 2 ^ r % 256 = 0) := by
  have e8 : (256 : Nat) = 2 ^ 8 := rfl
  rw [Bool.eq_iff_iff, vs_iff, decide_eq_true_eq]
  constructor
  · rintro ⟨_, _, h2⟩
    apply Nat.eq_of_testBit_eq
    intro j
    rw [e8, Nat.testBit_mod_two_pow, ← Nat.shiftLeft_eq, Nat.testBit_shiftLeft, Nat.zero_testBit]
    by_cases hj : j < 8
    · by_cases hjr : r ≤ j
      · have := h2 (8 * (N / 8) + (7 - j + r)) (by omega) (by omega)
        unfold bt at this
        rw [show (8 * (N / 8) + (7 - j + r)) / 8 = N / 8 by omega, hx, show 7 - (8 * (N / 8) + (7 - j + r)) % 8 = j - r by omega] at this
        rw [this]; simp
      · simp [hjr]
    · simp [hj]
  · intro h2
    refine ⟨h0, h, fun i h3 h4 => ?_⟩
    have h5 : (x * 2 ^ r % 256).testBit (7 - i % 8 + r) = false := by rw [h2]; exact Nat.zero_testBit _
    rw [e8, Nat.testBit_mod_two_pow, ← Nat.shiftLeft_eq, Nat.testBit_shiftLeft] at h5
    have h6 : 7 - i % 8 + r < 8 := by omega
    have h7 : 7 - i % 8 + r ≥ r := by omega
    rw [Nat.add_sub_cancel] at h5
    simp only [h6, h7, decide_true, Bool.true_and] at h5
    unfold bt
    rw [show i / 8 = N / 8 by omega, hx]; exact h5
set_option maxRecDepth 100000 in
theorem shl_zero (x r : Nat) : ((x : Int) * 2 ^ r % 256 == 0) = decide (x * 2 ^ r % 256 = 0) := by
  rw [powI, show (x : Int) * ((2 ^ r : Nat) : Int) = ((x * 2 ^ r : Nat) : Int) by simp]
  generalize x * 2 ^ r = y
  rw [Bool.eq_iff_iff, beq_iff_eq, decide_eq_true_eq]
  omega
/-- The value of a stream. -/
def sval (p : Option Addr) (k c : Nat) (n : Int) : Value := .agg #[.slice p k c, .int .i64 n]
def ValidPost (l : List Nat) (n : Int) (w : World) (e : Ending) (w' : World) : Prop := e = .returned (.bool (vs l n)) ∧ w.grownBy w' none
set_option maxRecDepth 100000 in
theorem grown_alloc_drewN (w : World) (o : Obj) (n : Nat) : w.grownBy ((w.alloc o).drewN n) none := grown_trans (World.grownBy_alloc w o _) (grown_drewN _ _ _)
set_option maxRecDepth 100000 in
/-- A block of two cells. -/
theorem box2 (w : World) (v0 v1 : Value) (t : TypeId) : (w.alloc (.cells #[v0, v1] t)).cell? ⟨w.heap.size, 0, none⟩ = some v0 ∧ (w.alloc (.cells #[v0, v1] t)).cell? ⟨w.heap.size, 1, none⟩ = some v1 := by
  have hb : (w.alloc (.cells #[v0, v1] t)).heap[w.heap.size]? = some (.cells #[v0, v1] t (0, 0)) := heap_alloc_new w _
  refine ⟨?_, ?_⟩
  · rw [cell_of_row _ _ _ _ _ _ hb]; rfl
  · rw [cell_of_row _ _ _ _ _ _ hb]; rfl
set_option maxRecDepth 100000 in
set_option maxHeartbeats 800000 in
theorem valid_last (l : List Nat) (N : Nat) (q : Nat → Prop) (p : Option Addr) (c : Nat) (hl : By l) (hN : N ≤ 8192) (hM : (N + 7) / 8 = l.length) (h8 : ¬ N % 8 = 0) (w : World) (hR : Rd w q (.slice p l.length c) (l.map nv)) :
    Calls Tryd.prog 92 #[.agg #[.slice p l.length c, .int .i64 (N : Int)]] w fun e w' => ValidPost l (N : Int) w e w' := by
  have h1 : ¬ ((N : Int) < 0) := by omega
  have h2 : ¬ (8192 < (N : Int)) := by omega
  have d1 : decide ((N : Int) < 0) = false := by simp
  have d2 : decide (8192 < (N : Int)) = false := by simp; omega
  have hB := fun w => bytesFor_any N (by omega) w
  rw [hM] at hB
  obtain ⟨r, hr⟩ : ∃ r : Nat, N % 8 = r := ⟨_, rfl⟩
  have hr0 : r ≠ 0 := by omega
  have hr8 : r < 8 := by omega
  have z8 : (N : Int) % 8 = (r : Int) := by omega
  have z9 : ((r : Int) == 0) = false := by simp; omega
  obtain ⟨K, hK⟩ : ∃ K : Nat, N / 8 = K := ⟨_, rfl⟩
  have hKl : K < l.length := by omega
  have hK2 : K ≤ 1024 := by omega
  have hKe : (l.length : Int) - 1 = (K : Int) := by omega
  obtain ⟨g, off, rfl, _, hcell⟩ := hR.at_ (nv_at hKl)
  have hx := hl.at_ hKl
  generalize hX : l.getD K 0 = x at *
  have hX' : l.getD (N / 8) 0 = x := by rw [hK]; exact hX
  have V := Lib.hid (vs_last (l := l) hN (by omega) hr0 hr hX' )
  have hc2 : (w.alloc (.cells #[.slice (some ⟨g, off, none⟩) l.length c, .int .i64 (N : Int)] 74)).cell? ⟨g, off + K, none⟩ = some (.int .u8 (x : Int)) := (World.grownBy_alloc w _ none).cell hcell (by simp)
  clear hM hK hX hX' hcell hR h8
  go_enter Tryd.func92, Tryd.ntmps92
  go_wp2_with fail
  obtain ⟨c0, c1⟩ := box2 w (.slice (some ⟨g, off, none⟩) l.length c) (.int .i64 (N : Int)) 74
  have HG := Lib.hid (World.grownBy_alloc w (.cells #[.slice (some ⟨g, off, none⟩) l.length c, .int .i64 (N : Int)] 74) none)
  generalize w.alloc (.cells #[.slice (some ⟨g, off, none⟩) l.length c, .int .i64 (N : Int)] 74) = w1 at *
  generalize w.heap.size = b at *
  go_quiet (first | (go_at_call 99; first | exact qt0 (hB _) | exact qt1 (hB _) | exact qt2 (hB _)))
  go_wp2_with fail
  go_ret
  exact ⟨ret_bool (by rw [V.out]; exact shl_zero x r), grown_trans HG.out (grown_drewN _ _ _)⟩
set_option maxRecDepth 100000 in
set_option maxHeartbeats 800000 in
theorem validp_any (l : List Nat) (n : Int) (q : Nat → Prop) (p : Option Addr) (c : Nat) (hl : By l) (w : World) (hR : Rd w q (.slice p l.length c) (l.map nv)) :
    Calls Tryd.prog 92 #[.agg #[.slice p l.length c, .int .i64 n]] w fun e w' => ValidPost l n w e w' := by
  by_cases h1 : n < 0
  · have V := Lib.hid (vs_neg (l := l) h1)
    go_enter Tryd.func92, Tryd.ntmps92
    go_wp2_with fail
    go_quiet (fail)
    go_wp2_with fail
    go_ret
    exact ⟨ret_bool (by rw [V.out]), grown_alloc_drewN _ _ _⟩
  · by_cases h2 : 8192 < n
    · have V := Lib.hid (vs_big (l := l) h2)
      go_enter Tryd.func92, Tryd.ntmps92
      go_wp2_with fail
      go_quiet (fail)
      go_wp2_with fail
      go_ret
      exact ⟨ret_bool (by rw [V.out]), grown_alloc_drewN _ _ _⟩
    · obtain ⟨N, rfl⟩ := Int.eq_ofNat_of_zero_le (show 0 ≤ n by omega)
      have hN : N ≤ 8192 := by omega
      obtain ⟨M, hM⟩ : ∃ M : Nat, M = (N + 7) / 8 := ⟨_, rfl⟩
      have hB := fun w => bytesFor_any N (by omega) w
      rw [← hM] at hB
      have d1 : decide ((N : Int) < 0) = false := by simp
      have d2 : decide (8192 < (N : Int)) = false := by simp; omega
      by_cases h3 : l.length = M
      · subst h3
        by_cases h8 : N % 8 = 0
        · have V := Lib.hid (vs_full (l := l) hN (by omega) h8)
          have z8 : (N : Int) % 8 = 0 := by omega
          clear hM
          go_enter Tryd.func92, Tryd.ntmps92
          go_wp2_with fail
          obtain ⟨c0, c1⟩ := box2 w (.slice p l.length c) (.int .i64 (N : Int)) 74
          have HG := Lib.hid (World.grownBy_alloc w (.cells #[.slice p l.length c, .int .i64 (N : Int)] 74) none)
          generalize w.alloc (.cells #[.slice p l.length c, .int .i64 (N : Int)] 74) = w1 at *
          generalize w.heap.size = b at *
          go_quiet (first | (go_at_call 99; first | exact qt0 (hB _) | exact qt1 (hB _) | exact qt2 (hB _)))
          go_wp2_with fail
          go_ret
          exact ⟨ret_bool (by rw [V.out]), grown_trans HG.out (grown_drewN _ _ _)⟩
        · exact valid_last l N q p c hl hN hM.symm h8 w hR
      · have V := Lib.hid (vs_len (l := l) (N := N) (by omega))
        have d3 : ((l.length : Int) == (M : Int)) = false := by simp; omega
        have d4 : ¬ ((l.length : Int) = (M : Int)) := by omega
        clear hM
        go_enter Tryd.func92, Tryd.ntmps92
        go_wp2_with fail
        obtain ⟨c0, c1⟩ := box2 w (.slice p l.length c) (.int .i64 (N : Int)) 74
        have HG := Lib.hid (World.grownBy_alloc w (.cells #[.slice p l.length c, .int .i64 (N : Int)] 74) none)
        generalize w.alloc (.cells #[.slice p l.length c, .int .i64 (N : Int)] 74) = w1 at *
        generalize w.heap.size = b at *
        go_quiet (first | (go_at_call 99; first | exact qt0 (hB _) | exact qt1 (hB _) | exact qt2 (hB _)))
        go_wp2_with fail
        go_ret
        exact ⟨ret_bool (by rw [V.out]), grown_trans HG.out (grown_drewN _ _ _)⟩
end Go.Proofs.YtpabfjhjehjebaaDoor

/- Of the reference: one bit, Valid. -/
namespace Go.Proofs.YtpabfjhjehjebaaDoor
open Go.RowKit Bs
/-- A bit as a word. -/
def bw (b : Bool) : Value := .int .u64 ((b.toNat : Nat) : Int)
set_option maxRecDepth 100000 in
theorem bt_word {l : List Nat} {i x s : Nat} (hx : l.getD (i / 8) 0 = x) (hs : 7 - i % 8 = s) (hx8 : x < 256) : bits .and .u64 (IntKind.u64.wrap ((x : Int) / 2 ^ s)) 1 = (((bt l i).toNat : Nat) : Int) := by
  rw [show IntKind.u64.wrap ((x : Int) / 2 ^ s) = (x : Int) / 2 ^ s by rw [shrW]; exact wrapU _ (u64_div _ _ (u64_mk (by omega))), bitW x s (u64_mk (by omega))]
  unfold bt
  rw [hx, hs, Nat.toNat_testBit]
set_option maxRecDepth 100000 in
set_option maxHeartbeats 800000 in
theorem bitr_any (l : List Nat) (i : Nat) (q : Nat → Prop) (p : Option Addr) (c : Nat) (hl : By l) (hi : i < 8 * l.length) (hi2 : i ≤ 1000000) (w : World) (hR : Rd w q (.slice p l.length c) (l.map nv)) :
    Calls Tryd.prog 78 #[.slice p l.length c, .int .i64 (i : Int)] w fun e w' => e = .returned (bw (bt l i)) ∧ w = w' := by
  have hK : i / 8 < l.length := by omega
  obtain ⟨g, off, rfl, _, hcell⟩ := hR.at_ (nv_at hK)
  have hx := hl.at_ hK
  generalize hX : l.getD (i / 8) 0 = x at *
  obtain ⟨s, hs⟩ : ∃ s : Nat, 7 - i % 8 = s := ⟨_, rfl⟩
  have hs8 : s ≤ 7 := by omega
  have hsub : 7 - (i : Int) % 8 = (s : Int) := by omega
  have HB := Lib.hid (bt_word hX hs hx)
  clear hs hX hR
  go_enter Tryd.func78, Tryd.ntmps78
  go_wp2_with fail
  go_ret
  exact ⟨ret_int HB.out, rfl⟩
set_option maxRecDepth 100000 in
theorem bw_true {b : Bool} (h : b = true) : bw b = .int .u64 1 := by rw [h]; rfl
set_option maxRecDepth 100000 in
theorem bw_false {b : Bool} (h : b = false) : bw b = .int .u64 0 := by rw [h]; rfl
set_option maxRecDepth 100000 in
set_option maxHeartbeats 1600000 in
theorem validr_any (l : List Nat) (n : Int) (q : Nat → Prop) (p : Option Addr) (c : Nat) (hl : By l) (w : World) (hq : ∀ b, q b → b < w.heap.size) (hR : Rd w q (.slice p l.length c) (l.map nv)) :
    Calls Tryd.prog 76 #[.agg #[.slice p l.length c, .int .i64 n]] w fun e w' => ValidPost l n w e w' := by
  by_cases h1 : n < 0
  · have V := Lib.hid (vs_neg (l := l) h1)
    go_enter Tryd.func76, Tryd.ntmps76
    go_wp2_with fail
    go_ret
    exact ⟨ret_bool (by rw [V.out]), World.grownBy_alloc _ _ _⟩
  · by_cases h2 : 8192 < n
    · have V := Lib.hid (vs_big (l := l) h2)
      go_enter Tryd.func76, Tryd.ntmps76
      go_wp2_with fail
      go_ret
      exact ⟨ret_bool (by rw [V.out]), World.grownBy_alloc _ _ _⟩
    · obtain ⟨N, rfl⟩ := Int.eq_ofNat_of_zero_le (show 0 ≤ n by omega)
      have hN : N ≤ 8192 := by omega
      obtain ⟨M, hM⟩ : ∃ M : Nat, M = (N + 7) / 8 := ⟨_, rfl⟩
      have hMe : ((N : Int) + 7) / 8 = (M : Int) := by omega
      by_cases h3 : l.length = M
      · have hM2 : M ≤ 1024 := by omega
        subst h3
        have HM := Lib.hid hM
        clear hM
        go_enter Tryd.func76, Tryd.ntmps76
        go_wp2_with fail
        obtain ⟨c0, c1⟩ := box2 w (.slice p l.length c) (.int .i64 (N : Int)) 74
        have HG := Lib.hid (World.grownBy_alloc w (.cells #[.slice p l.length c, .int .i64 (N : Int)] 74) none)
        have hR1 := hR.keep HG.out
        generalize w.alloc (.cells #[.slice p l.length c, .int .i64 (N : Int)] 74) = w1 at *
        generalize w.heap.size = b at *
        go_wp2_with fail
        go_loop [3] (fun i => ∃ j : Nat, N ≤ j ∧ i = .int .i64 (j : Int) ∧ (N ≤ 8 * l.length → j ≤ 8 * l.length) ∧ ∀ t, t < j → N ≤ t → t < 8 * l.length → bt l t = false) (fun i => (8 * l.length - (intOf i).toNat))
        case atStart => exact ⟨N, Nat.le_refl _, rfl, fun h => h, fun t h1 h2 => by omega⟩
        case round =>
          obtain ⟨j, hj, rfl, hj2, hz⟩ := hrel
          by_cases hlt : j < 8 * l.length
          · have C1 := bitr_any l j q p c hl hlt (by omega) w1 hR1
            have HZ := Lib.hid hz
            have hj9 : j ≤ 9000 := by omega
            by_cases hb : bt l j = true
            · rw [bw_true hb] at C1
              have H1 := Lib.hid C1
              have V : Hid (vs l (N : Int) = false) := by
                show vs l (N : Int) = false
                rw [Bool.eq_false_iff]
                intro h
                have := (vs_iff.1 h).2.2 j hlt hj
                rw [hb] at this; cases this
              clear C1 hz hb
              go_wp2_with (go_at_call 78; refine H1.out.mono ?_; rintro e w' ⟨rfl, rfl⟩)
              go_ret
              exact ⟨ret_bool (by rw [V.out]), HG.out⟩
            · have hb0 : bt l j = false := by simpa using hb
              rw [bw_false hb0] at C1
              have H1 := Lib.hid C1
              have HB := Lib.hid hb0
              clear C1 hz hb hb0
              go_wp2_with (go_at_call 78; refine H1.out.mono ?_; rintro e w' ⟨rfl, rfl⟩)
              go_round
              case rel =>
                refine ⟨j + 1, by omega, by go_num, fun _ => by omega, fun t h1 h2 h3 => ?_⟩
                by_cases e : t = j
                · rw [e]; exact HB.out
                · exact HZ.out t (by omega) h2 h3
              case measure => simp [intOf]; omega
          · have V : Hid (vs l (N : Int) = true) := by
              show vs l (N : Int) = true
              exact vs_iff.2 ⟨hN, by have := HM.out; omega, fun i h1 h2 => hz i (by omega) h2 (by omega)⟩
            clear hz
            go_wp2_with fail
            go_ret
            exact ⟨ret_bool (by rw [V.out]), HG.out⟩
      · have V := Lib.hid (vs_len (l := l) (N := N) (by omega))
        have d4 : ¬ ((l.length : Int) = (M : Int)) := by omega
        clear hM
        go_enter Tryd.func76, Tryd.ntmps76
        go_wp2_with fail
        go_ret
        exact ⟨ret_bool (by rw [V.out]), World.grownBy_alloc _ _ _⟩
end Go.Proofs.YtpabfjhjehjebaaDoor

/- Streams as values; the reference's Put. -/
namespace Go.Proofs.YtpabfjhjehjebaaDoor
open Go.RowKit Bs
/-- v is a stream of n bits with the bytes l. -/
def SR (w : World) (q : Nat → Prop) (v : Value) (l : List Nat) (n : Int) : Prop := ∃ p c, v = .agg #[.slice p l.length c, .int .i64 n] ∧ Rd w q (.slice p l.length c) (l.map nv) ∧ (p = none → c = 0) ∧ By l
/-- A stream whose bytes lie in a row of the call's own. -/
structure Own (w : World) (base : Nat) (p : Option Addr) (c : Nat) (l : List Nat) : Prop where
  own : w.ownsRow base 5 1 (.slice p l.length c) l.length (l.map nv)
  pc : p = none → c = 0
  by_ : By l
def StreamPost (l : List Nat) (n : Int) (w : World) (e : Ending) (w' : World) : Prop := ∃ p c, e = .returned (.agg #[.slice p l.length c, .int .i64 n]) ∧ Own w' w.heap.size p c l ∧ w.grownBy w' none
def StreamErr (l : List Nat) (n err : Int) (w : World) (e : Ending) (w' : World) : Prop := ∃ v, e = .returned (.tuple #[v, .int .i64 err]) ∧ SR w' (w.heap.size ≤ ·) v l n ∧ w.grownBy w' none
set_option maxRecDepth 100000 in
theorem add_plain (b off j : Nat) : (⟨b, off, none⟩ : Addr).add j = ⟨b, off + j, none⟩ := by unfold Addr.add; split <;> simp_all
set_option maxRecDepth 100000 in
theorem nv_one {l : List Nat} : ∀ u ∈ l.map nv, u.oneCell' = true := by
  intro u hu
  obtain ⟨x, _, rfl⟩ := List.mem_map.1 hu
  rfl
set_option maxRecDepth 100000 in
theorem Rd.news {w : World} {q : Nat → Prop} {ad : Addr} {n c : Nat} {r : List Nat} (hR : Rd w q (.slice (some ad) n c) (r.map nv)) : ∀ j u, (r.map nv)[j]? = some u → w.cell? (ad.add j) = some u := by
  obtain ⟨p1, c1, e1, hx⟩ := hR
  injection e1 with a1 a2 a3
  subst a1
  intro j u hj
  obtain ⟨b, off, hp, hq, hc⟩ := hx (by intro e; rw [e] at hj; simp at hj)
  obtain rfl := Option.some.inj hp
  rw [add_plain]; exact hc j u hj
set_option maxRecDepth 100000 in
/-- append of a slice that is read, onto a row of the call's own. -/
theorem wpList_append_rd {w : World} {ops : Array Oper} {rest : List Oper} {o : Oper} {a : Act} {Q : Exit → Act → World → Prop} (hgd : o.guard = none) (s x : Operand)
    (ho : o.op = .call { callee := .builtin .append, args := #[s, x], argTypes := #[23, 23] }) (base : Nat) (v : Value) (n : Nat) (l : List Nat) (hs : a.eval s = v) (hown : w.ownsRow base 5 1 v n (l.map nv))
    (p : Option Addr) (k c : Nat) (r : List Nat) (hx : a.eval x = .slice p k c) (hk : k = r.length) (q : Nat → Prop) (hR : Rd w q (.slice p k c) (r.map nv)) (hpc : p = none → c = 0) (h63 : n + r.length ≤ 100000) (hbase : base ≤ w.heap.size)
    (h : ∀ v' w', w'.ownsRow base 5 1 v' (n + r.length) ((l ++ r).map nv) → w.grownBy w' v.ownBlock → wpList Tryd.prog ops Q rest (a.put o.dst v') w') : wpList Tryd.prog ops Q (o :: rest) a w := by
  obtain ⟨i0, hi, hz0, hz1, hz2⟩ := info_parts info_u8
  subst hk
  cases p with
  | none =>
    obtain rfl := hpc rfl
    have hr : r = [] := by
      obtain ⟨p1, c1, e1, hx⟩ := hR
      injection e1 with a1 a2 a3
      subst a1
      cases r with
      | nil => rfl
      | cons y r => obtain ⟨b, off, hp, _⟩ := hx (by simp); cases hp
    subst hr
    refine wpList_append_own_none hgd s x 23 ho base 5 i0 1 Tryd.underlying23 hi v n (l.map nv) hs hown hx ?_
    refine h v w ?_ (grown_refl _ _)
    rw [List.append_nil]; exact hown
  | some ad =>
    refine wpList_append_own w hgd s x 23 ho base 5 i0 (.int .u8 0) 1 1 Tryd.underlying23 hi hz0 hz1 hz2 rfl (by decide) v n (l.map nv) hs hown ad r.length c (r.map nv) hx (by simp) hR.news nv_one (by unfold maxLen; omega) (by omega) hbase ?_
    intro v' w' h1 h2 _
    refine h v' w' ?_ h2
    rw [List.map_append]; exact h1
set_option maxRecDepth 100000 in
theorem grown_drew {w w' : World} {r : Option Nat} (h : w.grownBy w' r) : w.grownBy w'.drew r := ⟨h.os, h.tape, h.output, h.size, h.block⟩
set_option maxRecDepth 100000 in
/-- Two blocks laid one behind the other. -/
theorem two_boxes (w : World) (A Z : Array Value) (t u : TypeId) :
    ((w.alloc (.cells A t)).alloc (.cells Z u)).heap[w.heap.size]? = some (.cells A t (0, 0)) ∧ ((w.alloc (.cells A t)).alloc (.cells Z u)).heap[w.heap.size + 1]? = some (.cells Z u (0, 0)) ∧
      w.grownBy ((w.alloc (.cells A t)).alloc (.cells Z u)) none ∧ ((w.alloc (.cells A t)).alloc (.cells Z u)).heap.size = w.heap.size + 2 := by
  have e1 : (w.alloc (.cells A t)).heap.size = w.heap.size + 1 := by simp
  refine ⟨?_, ?_, grown_trans (World.grownBy_alloc w _ _) (World.grownBy_alloc _ _ _), by simp⟩
  · rw [Below.heap_alloc _ _ _ (by omega)]; exact heap_alloc_new w _
  · rw [← e1]; exact heap_alloc_new _ _
set_option maxRecDepth 100000 in
theorem row_cells {w : World} {b : Nat} {x y : Value} {t : TypeId} (h : w.heap[b]? = some (.cells #[x, y] t (0, 0))) : w.cell? ⟨b, 0, none⟩ = some x ∧ w.cell? ⟨b, 1, none⟩ = some y := by
  refine ⟨?_, ?_⟩
  · rw [cell_of_row _ _ _ _ _ _ h]; rfl
  · rw [cell_of_row _ _ _ _ _ _ h]; rfl
set_option maxRecDepth 100000 in
theorem kept_row {w w' : World} {b : Nat} {o : Obj} {r : Option Nat} (h : w.heap[b]? = some o) (g : w.grownBy w' r) (hr : some b ≠ r) : w'.heap[b]? = some o :=
  (g.block b (Array.getElem?_eq_some_iff.1 h).1 hr).trans h
set_option maxRecDepth 100000 in
theorem rd_new (w : World) (cs : Array Value) (t : TypeId) (c : Nat) : Rd (w.alloc (.cells cs t)) (· = w.heap.size) (.slice (some ⟨w.heap.size, 0, none⟩) cs.toList.length c) cs.toList := by
  have hb : (w.alloc (.cells cs t)).heap[w.heap.size]? = some (.cells cs t (0, 0)) := heap_alloc_new w _
  refine ⟨_, c, rfl, fun _ => ⟨w.heap.size, 0, rfl, rfl, fun i x hi => ?_⟩⟩
  rw [Nat.zero_add, cell_of_row _ _ _ _ _ _ hb]
  simpa using hi
/-- What stands behind the copy: the boxes, the row of the call's own. -/
structure PutAt (w : World) (m : Nat) (v0 : Value) (v : Value) (L : List Nat) (wr : World) : Prop where
  b0 : wr.heap[w.heap.size]? = some (.cells #[v0, .int .i64 (m : Int)] 74 (0, 0))
  b1 : wr.heap[w.heap.size + 1]? = some (.cells #[.slice none 0 0, .int .i64 0] 74 (0, 0))
  own : wr.ownsRow (w.heap.size + 2) 5 1 v L.length (L.map nv)
  gr : w.grownBy wr none
  sz : w.heap.size + 2 ≤ wr.heap.size
set_option maxRecDepth 100000 in
theorem own_ne {w : World} {base k n : Nat} {e : TypeId} {v : Value} {xs : List Value} (h : w.ownsRow base e 1 v n xs) (hk : k < base) : some k ≠ v.ownBlock := by
  intro e2
  have := (h.lt k e2.symm).1
  omega
set_option maxRecDepth 100000 in
theorem grown_own {w wr w1 : World} {base n : Nat} {e : TypeId} {v : Value} {xs : List Value} (hg : w.grownBy wr none) (h : wr.ownsRow base e 1 v n xs) (hb : w.heap.size ≤ base) (k : wr.grownBy w1 v.ownBlock) : w.grownBy w1 none :=
  ⟨k.os.trans hg.os, k.tape.trans hg.tape, k.output.trans hg.output, Nat.le_trans hg.size k.size, fun b hb2 _ => (k.block b (Nat.lt_of_lt_of_le hb2 hg.size) (own_ne h (by omega))).trans (hg.block b hb2 (by simp))⟩
set_option maxRecDepth 100000 in
theorem PutAt.next {w wr w1 : World} {m : Nat} {v0 v v' : Value} {L L' : List Nat} {n : Nat} (h : PutAt w m v0 v L wr) (k : wr.grownBy w1 v.ownBlock) (hn : n = L'.length) (hown : w1.ownsRow (w.heap.size + 2) 5 1 v' n (L'.map nv)) : PutAt w m v0 v' L' w1 := by
  subst hn
  exact ⟨kept_row h.b0 k (own_ne h.own (by omega)), kept_row h.b1 k (own_ne h.own (by omega)), hown, grown_own h.gr h.own (by omega) k, Nat.le_trans h.sz k.size⟩
set_option maxRecDepth 100000 in
theorem pz_snoc (f : Nat → Bool) {m N : Nat} (h8 : m % 8 = 0) (hN : N = (m + 7) / 8) : pz f m N ++ [0] = pz f m (m / 8 + 1) := by
  obtain rfl : N = m / 8 := by omega
  unfold pz
  rw [List.range_succ, List.map_append, List.map_singleton, py_zero f (by omega)]
set_option maxRecDepth 100000 in
theorem pz_up (f : Nat → Bool) {m N : Nat} (hf : f m = false) : pz f m N = pz f (m + 1) N := by
  apply pz_congr
  intro i _
  by_cases e : i = m
  · subst e; rw [hf]; simp
  · rw [show decide (i < m) = decide (i < m + 1) by rw [decide_eq_decide]; omega]
set_option maxRecDepth 100000 in
theorem own_form {w : World} {base n : Nat} {e : TypeId} {v : Value} {xs : List Value} (h : w.ownsRow base e 1 v n xs) (hn : 0 < n) : ∃ g cap, v = .slice (some ⟨g, 0, none⟩) n cap ∧ base ≤ g := by
  rcases h.2 with ⟨_, h0⟩ | ⟨g, cap, cur, rfl, hb, _⟩
  · omega
  · exact ⟨g, cap, rfl, hb⟩
set_option maxRecDepth 100000 in
theorem or_bit {f : Nat → Bool} {m x s : Nat} (hf : f m = true) (hx : py f m (m / 8) = x) (hs : 7 - m % 8 = s) : bits .or .u8 (x : Int) (2 ^ s % 256) = ((py f (m + 1) (m / 8) : Nat) : Int) := by
  have h1 := py_lt f m (m / 8)
  have e := py_or f m 1 (by omega)
  rw [hx, show num f m 1 = 1 by simp [num, hf], Nat.one_mul, show 8 - m % 8 - 1 = s by omega] at e
  have h2 : 2 ^ s < 256 := Nat.pow_lt_pow_right (n := 8) (by decide) (by omega)
  rw [powI, ← e]
  generalize 2 ^ s = y at *
  rw [show ((y : Int) % 256) = (y : Int) by omega, u8_or_nat x _ (by omega) h2]
set_option maxRecDepth 100000 in
theorem PutAt.stored {w wr : World} {m : Nat} {v0 : Value} {L L' : List Nat} {g n cap j x : Nat} (h : PutAt w m v0 (.slice (some ⟨g, 0, none⟩) n cap) L wr) (hn : n = L.length) (hg : w.heap.size + 2 ≤ g) (hL : L' = L.set j x) :
    PutAt w m v0 (.slice (some ⟨g, 0, none⟩) n cap) L' (wr.setCell ⟨g, j, none⟩ (nv x)).drew := by
  subst hL
  subst hn
  obtain ⟨k1, k2⟩ := h.own.stored j (nv x)
  have k3 := h.next k2 (L' := L.set j x) (v' := .slice (some ⟨g, 0, none⟩) L.length cap) (by rw [List.length_set]) (by rw [List.map_set]; exact k1)
  exact ⟨k3.b0, k3.b1, k3.own, grown_drew k3.gr, k3.sz⟩
set_option maxRecDepth 100000 in
theorem store2 {w : World} {b : Nat} {x y u z : Value} {t : TypeId} (h : w.heap[b]? = some (.cells #[x, y] t (0, 0))) : ((w.setCell ⟨b, 0, none⟩ u).setCell ⟨b, 1, none⟩ z).heap[b]? = some (.cells #[u, z] t (0, 0)) := by
  have e1 := heap_setCell_same w b 0 _ _ u h
  have e2 := heap_setCell_same _ b 1 _ _ z e1
  rw [e2]; rfl
set_option maxRecDepth 100000 in
theorem grown_store2 (w : World) (b : Nat) (u z : Value) : w.grownBy ((w.setCell ⟨b, 0, none⟩ u).setCell ⟨b, 1, none⟩ z) (some b) := grown_trans (grown_setCell w ⟨b, 0, none⟩ u) (grown_setCell _ ⟨b, 1, none⟩ z)
set_option maxRecDepth 100000 in
/-- What lies behind the call's start may turn. -/
theorem grown_new {w w1 w2 : World} {b : Nat} (h : w.grownBy w1 none) (k : w1.grownBy w2 (some b)) (hb : w.heap.size ≤ b) : w.grownBy w2 none :=
  ⟨k.os.trans h.os, k.tape.trans h.tape, k.output.trans h.output, Nat.le_trans h.size k.size, fun i hi _ => (k.block i (Nat.lt_of_lt_of_le hi h.size) (by intro e; have := Option.some.inj e; omega)).trans (h.block i hi (by simp))⟩
set_option maxRecDepth 100000 in
theorem own_sr {w : World} {base : Nat} {v : Value} {l : List Nat} {n : Int} (h : w.ownsRow base 5 1 v l.length (l.map nv)) (hl : By l) (q : Nat → Prop) (hq : ∀ b, base ≤ b → q b) : SR w q (.agg #[v, .int .i64 n]) l n := by
  have hR := (rd_of_own h).mono hq
  rcases h.2 with ⟨rfl, h0⟩ | ⟨g, cap, cur, rfl, _⟩
  · obtain rfl : l = [] := List.eq_nil_of_length_eq_zero h0
    exact ⟨none, 0, rfl, hR, fun _ => rfl, hl⟩
  · exact ⟨some ⟨g, 0, none⟩, cap, rfl, hR, (by intro e; cases e), hl⟩
set_option maxRecDepth 100000 in
theorem own_parts {w : World} {base n : Nat} {e : TypeId} {v : Value} {xs : List Value} (h : w.ownsRow base e 1 v n xs) : ∃ p c, v = .slice p n c ∧ (p = none → c = 0) := by
  rcases h.2 with ⟨rfl, h0⟩ | ⟨g, cap, cur, rfl, _⟩
  · subst h0; exact ⟨none, 0, rfl, fun _ => rfl⟩
  · exact ⟨some ⟨g, 0, none⟩, cap, rfl, (by intro e; cases e)⟩
set_option maxRecDepth 100000 in
theorem Own.rd {w : World} {base : Nat} {p : Option Addr} {c : Nat} {l : List Nat} (h : Own w base p c l) : Rd w (base ≤ ·) (.slice p l.length c) (l.map nv) := rd_of_own h.own
set_option maxRecDepth 100000 in
theorem Own.keep {w w' : World} {base : Nat} {p : Option Addr} {c : Nat} {l : List Nat} (h : Own w base p c l) (g : w.grownBy w' none) : Own w' base p c l := ⟨h.own.kept g (by cases hv : (Value.slice p l.length c).ownBlock <;> simp), h.pc, h.by_⟩
set_option maxRecDepth 100000 in
theorem Own.other {w w' : World} {base b : Nat} {p : Option Addr} {c : Nat} {l : List Nat} (h : Own w base p c l) (g : w.grownBy w' (some b)) (hb : b < base) : Own w' base p c l :=
  ⟨h.own.kept g (.inr (fun e => by have := h.own.lt _ e; omega)), h.pc, h.by_⟩
set_option maxRecDepth 100000 in
theorem Own.mono {w : World} {base base' : Nat} {p : Option Addr} {c : Nat} {l : List Nat} (h : Own w base p c l) (hb : base' ≤ base) : Own w base' p c l := ⟨h.own.mono hb, h.pc, h.by_⟩
set_option maxRecDepth 100000 in
theorem Own.sr {w : World} {base : Nat} {p : Option Addr} {c : Nat} {l : List Nat} (h : Own w base p c l) (n : Int) (q : Nat → Prop) (hq : ∀ b, base ≤ b → q b) : SR w q (.agg #[.slice p l.length c, .int .i64 n]) l n := ⟨p, c, rfl, h.rd.mono hq, h.pc, h.by_⟩
set_option maxRecDepth 100000 in
theorem PutAt.ends {w wr : World} {m : Nat} {v0 v : Value} {L : List Nat} {n : Int} (h : PutAt w m v0 v L wr) (hl : By L) :
    StreamPost L n w (.returned (.agg #[v, .int .i64 n])) ((wr.setCell ⟨w.heap.size + 1, 0, none⟩ v).setCell ⟨w.heap.size + 1, 1, none⟩ (.int .i64 n)) := by
  have g := grown_store2 wr (w.heap.size + 1) v (.int .i64 n)
  have hown := h.own.kept g (.inr (by
    intro e
    have := h.own.lt _ e
    omega))
  have hgr := grown_new h.gr g (Nat.le_succ _)
  rcases own_parts h.own with ⟨p, c, rfl, hpc⟩
  exact ⟨p, c, rfl, ⟨hown.mono (by omega), hpc, hl⟩, hgr⟩
set_option maxRecDepth 100000 in
theorem stream_size : (Tryd.prog.info? 74).map (·.size) = some 2 := by kernel_rfl
set_option maxRecDepth 100000 in
theorem PutAt.fin {w wr : World} {m N : Nat} {v0 v : Value} {f : Nat → Bool} (h : PutAt w m v0 v (pz f (m + 1) N) wr) (hN : N = (m + 8) / 8) :
    StreamPost (pz f (m + 1) ((m + 8) / 8)) ((m + 1 : Nat) : Int) w (.returned (.agg #[v, .int .i64 ((m : Int) + 1)])) ((wr.setCell ⟨w.heap.size + 1, 0, none⟩ v).setCell ⟨w.heap.size + 1, 1, none⟩ (.int .i64 ((m : Int) + 1))) := by
  subst hN
  exact h.ends (pz_lt _ _ _)
set_option maxRecDepth 100000 in
/-- A struct comes back out of its block. -/
theorem res_stream {fn : Func} {p : Tmp} (h : fn.results = #[.cell p 74]) (tmps : Array Value) (w : World) (g : Nat) (x y : Value) (hp : tmps.getD p undef = .pointer (some ⟨g, 0, none⟩)) (hg : w.heap[g]? = some (.cells #[x, y] 74 (0, 0))) :
    (results fn tmps).run Tryd.prog w = .ok (.agg #[x, y]) w := by
  exact results_cell_row h tmps w g _ _ _ _ hp hg Tryd.underlying74 rfl stream_size
set_option maxRecDepth 100000 in
theorem res_stream_err {fn : Func} {p u : Tmp} (h : fn.results = #[.cell p 74, .tmp u]) (tmps : Array Value) (w : World) (g : Nat) (x y : Value) (hp : tmps.getD p undef = .pointer (some ⟨g, 0, none⟩)) (hg : w.heap[g]? = some (.cells #[x, y] 74 (0, 0))) :
    (results fn tmps).run Tryd.prog w = .ok (.tuple #[.agg #[x, y], tmps.getD u undef]) w := by
  have hp' : tmps[p]?.getD undef = .pointer (some ⟨g, 0, none⟩) := by simpa using hp
  rw [results_cell_tmp h]
  simp [hp', asAddr, run_loadVar_row w g _ _ _ _ _ hg Tryd.underlying74 rfl stream_size, Result.andThen]
set_option maxRecDepth 100000 in
set_option maxHeartbeats 1600000 in
theorem put_any (f : Nat → Bool) (m : Nat) (l : List Nat) (q : Nat → Prop) (p : Option Addr) (c : Nat) (hm : m ≤ 9000) (hl : l = pz f m ((m + 7) / 8)) (hpc : p = none → c = 0) (w : World) (hR : Rd w q (.slice p l.length c) (l.map nv)) :
    Calls Tryd.prog 77 #[.agg #[.slice p l.length c, .int .i64 (m : Int)], bw (f m)] w fun e w' => StreamPost (pz f (m + 1) ((m + 8) / 8)) ((m + 1 : Nat) : Int) w e w' := by
  have hll : l.length = (m + 7) / 8 := by rw [hl, pz_len]
  have HL := Lib.hid hl
  have HLL := Lib.hid hll
  have hl2 : l.length ≤ 2000 := by omega
  clear hl hll
  obtain ⟨i0, hi, hz0, hz1, hz2⟩ := info_parts info_u8
  obtain ⟨k1, k2, k3, k4⟩ := two_boxes w #[.slice p l.length c, .int .i64 (m : Int)] #[.slice none 0 0, .int .i64 0] 74 74
  have K := Lib.hid (And.intro k1 (And.intro k2 (And.intro k3 k4)))
  have hR2 := hR.keep k3
  clear hR k1 k2 k3 k4
  go_enter Tryd.func77, Tryd.ntmps77
  go_wp2_with (at_builtin; refine wpList_append_rd rfl _ _ rfl (w.heap.size + 2) _ 0 [] rfl (World.ownsRow_nil _ _ _ _) p l.length c l rfl rfl q hR2 hpc ?c1 ?c2 ?_)
  case c1 => omega
  case c2 => rw [K.out.2.2.2]; exact Nat.le_refl _
  intro v1 w1 hown1 hg1
  have P0 : PutAt w m (.slice p l.length c) v1 l w1 := by
    obtain ⟨k1, k2, k3, k4⟩ := K.out
    exact ⟨kept_row k1 hg1 (by exact nofun), kept_row k2 hg1 (by exact nofun), hown1, grown_trans k3 hg1, by rw [← k4]; exact hg1.size⟩
  clear hown1 hg1 hR2 K
  by_cases h8 : m % 8 = 0
  · have z8 : (m : Int) % 8 = 0 := by omega
    obtain ⟨c0, c1⟩ := row_cells P0.b0
    have H0 := Lib.hid P0
    have hown := P0.own
    have hbs : w.heap.size + 2 ≤ (w1.alloc (.cells #[nv 0] 5)).heap.size := by have := P0.sz; simp; omega
    clear P0
    go_wp2_with (at_builtin; refine wpList_append_rd rfl _ _ rfl (w.heap.size + 2) v1 l.length l rfl (hown.alloc _) (some ⟨w1.heap.size, 0, none⟩) 1 1 [0] rfl rfl _ (rd_new w1 #[nv 0] 5 1) (by exact nofun) ?c3 ?c4 ?_)
    case c3 => simp; omega
    case c4 => exact hbs
    intro v2 w2 hown2 hg2
    have P1 : PutAt w m (.slice p l.length c) v2 (pz f m (m / 8 + 1)) w2 := by
      refine PutAt.next ⟨(H0.out).b0, H0.out.b1, H0.out.own, H0.out.gr, H0.out.sz⟩ (grown_trans (World.grownBy_alloc w1 _ _) hg2) (n := l.length + 1) ?_ ?_
      · rw [pz_len]; have := HLL.out; omega
      · rw [← pz_snoc f h8 (N := l.length) (by have := HLL.out; omega)]
        have := HL.out
        rw [show pz f m l.length = l by rw [HLL.out]; exact this.symm]
        rw [List.map_append]; exact hown2
    clear hown2 hg2 hown H0 c0 c1
    obtain ⟨c0, c1⟩ := row_cells P1.b0
    by_cases hf : f m = true
    · skip
      obtain ⟨g, cap, rfl, hgb⟩ := own_form P1.own (by rw [pz_len]; omega)
      rw [pz_len]
      have hcell : w2.cell? ⟨g, m / 8, none⟩ = some (.int .u8 ((py f m (m / 8) : Nat) : Int)) := by
        rw [P1.own.cellAt (m / 8) (by rw [pz_len]; omega), List.getElem?_map, pz_at _ _ _ _ (by omega)]; rfl
      have hfz := P1.own.frozenAt (m / 8)
      have hx8 := py_lt f m (m / 8)
      obtain ⟨s, hs⟩ : ∃ s : Nat, 7 - m % 8 = s := ⟨_, rfl⟩
      have hs8 : s ≤ 7 := by omega
      have hsub : 7 - (m : Int) % 8 = (s : Int) := by omega
      obtain rfl : s = 7 := by omega
      have O0 := or_bit hf rfl hs
      rw [show ((2 : Int) ^ 7 % 256) = 128 from rfl] at O0
      have O := Lib.hid O0
      clear O0
      have P2 := P1.stored (x := py f (m + 1) (m / 8)) (j := m / 8) rfl hgb (pz_set f m 1 (m / 8 + 1) (by omega) (by omega)).symm
      rw [pz_len] at P2
      have H2 := Lib.hid P2
      clear P1 P2 hs
      generalize py f m (m / 8) = x at *
      generalize py f (m + 1) (m / 8) = y at *
      rw [bw_true hf]
      go_wp2_with fail
      go_region
      rw [O.out]
      have HB1 := H2.out.b1
      obtain ⟨d0, d1⟩ := row_cells H2.out.b0
      obtain ⟨e0, e1⟩ := row_cells HB1
      have f0 := frozen_of_row _ _ 0 _ _ HB1
      have f1 := frozen_of_row _ _ 1 _ _ HB1
      have HB := Lib.hid HB1
      clear HB1 c0 c1
      change Exit.then _ _ _ _ ((w2.setCell _ (nv y)).drew)
      generalize (w2.setCell ⟨g, m / 8, none⟩ (nv y)).drew = w3 at *
      go_wp2_with fail
      refine bodyPost_ret (res_stream rfl _ _ (w.heap.size + 1) _ _ rfl (store2 HB.out)) rfl ?_
      exact H2.out.fin (by omega)
    · skip
      have hf0 : f m = false := by simpa using hf
      obtain ⟨g, cap, rfl, hgb⟩ := own_form P1.own (by rw [pz_len]; omega)
      rw [pz_len] at P1 ⊢
      have P2 : PutAt w m (.slice p l.length c) (.slice (some ⟨g, 0, none⟩) (m / 8 + 1) cap) (pz f (m + 1) (m / 8 + 1)) w2 := by rw [← pz_up f hf0]; exact P1
      have H2 := Lib.hid P2
      have HB1 := H2.out.b1
      obtain ⟨e0, e1⟩ := row_cells HB1
      have f0 := frozen_of_row _ _ 0 _ _ HB1
      have f1 := frozen_of_row _ _ 1 _ _ HB1
      have HB := Lib.hid HB1
      clear HB1 P1 P2
      rw [bw_false hf0]
      go_wp2_with fail
      refine bodyPost_ret (res_stream rfl _ _ (w.heap.size + 1) _ _ rfl (store2 HB.out)) rfl ?_
      exact H2.out.fin (by omega)
  · have z8 : ¬ ((m : Int) % 8 = 0) := by omega
    have P1 : PutAt w m (.slice p l.length c) v1 (pz f m (m / 8 + 1)) w1 := by
      rw [show m / 8 + 1 = (m + 7) / 8 by omega, ← HL.out]
      exact P0
    clear P0
    obtain ⟨c0, c1⟩ := row_cells P1.b0
    by_cases hf : f m = true
    · skip
      obtain ⟨g, cap, rfl, hgb⟩ := own_form P1.own (by rw [pz_len]; omega)
      rw [pz_len]
      have hcell : w1.cell? ⟨g, m / 8, none⟩ = some (.int .u8 ((py f m (m / 8) : Nat) : Int)) := by
        rw [P1.own.cellAt (m / 8) (by rw [pz_len]; omega), List.getElem?_map, pz_at _ _ _ _ (by omega)]; rfl
      have hfz := P1.own.frozenAt (m / 8)
      have hx8 := py_lt f m (m / 8)
      obtain ⟨s, hs⟩ : ∃ s : Nat, 7 - m % 8 = s := ⟨_, rfl⟩
      have hs8 : s ≤ 7 := by omega
      have hsub : 7 - (m : Int) % 8 = (s : Int) := by omega
      have z9 : ((m : Int) % 8 == 0) = false := by simp; omega
      have O0 := or_bit hf rfl hs
      have O := Lib.hid O0
      clear O0
      have P2 := P1.stored (x := py f (m + 1) (m / 8)) (j := m / 8) rfl hgb (pz_set f m 1 (m / 8 + 1) (by omega) (by omega)).symm
      rw [pz_len] at P2
      have H2 := Lib.hid P2
      clear P1 P2 hs
      generalize py f m (m / 8) = x at *
      generalize py f (m + 1) (m / 8) = y at *
      rw [bw_true hf]
      go_wp2_with fail
      go_region
      rw [O.out]
      have HB1 := H2.out.b1
      obtain ⟨d0, d1⟩ := row_cells H2.out.b0
      obtain ⟨e0, e1⟩ := row_cells HB1
      have f0 := frozen_of_row _ _ 0 _ _ HB1
      have f1 := frozen_of_row _ _ 1 _ _ HB1
      have HB := Lib.hid HB1
      clear HB1 c0 c1
      change Exit.then _ _ _ _ ((w1.setCell _ (nv y)).drew)
      generalize (w1.setCell ⟨g, m / 8, none⟩ (nv y)).drew = w3 at *
      go_wp2_with fail
      refine bodyPost_ret (res_stream rfl _ _ (w.heap.size + 1) _ _ rfl (store2 HB.out)) rfl ?_
      exact H2.out.fin (by omega)
    · skip
      have hf0 : f m = false := by simpa using hf
      obtain ⟨g, cap, rfl, hgb⟩ := own_form P1.own (by rw [pz_len]; omega)
      rw [pz_len] at P1 ⊢
      have P2 : PutAt w m (.slice p l.length c) (.slice (some ⟨g, 0, none⟩) (m / 8 + 1) cap) (pz f (m + 1) (m / 8 + 1)) w1 := by rw [← pz_up f hf0]; exact P1
      have H2 := Lib.hid P2
      have HB1 := H2.out.b1
      obtain ⟨e0, e1⟩ := row_cells HB1
      have f0 := frozen_of_row _ _ 0 _ _ HB1
      have f1 := frozen_of_row _ _ 1 _ _ HB1
      have HB := Lib.hid HB1
      clear HB1 P1 P2
      rw [bw_false hf0]
      go_wp2_with fail
      refine bodyPost_ret (res_stream rfl _ _ (w.heap.size + 1) _ _ rfl (store2 HB.out)) rfl ?_
      exact H2.out.fin (by omega)
end Go.Proofs.YtpabfjhjehjebaaDoor

/- The program's zeros; copy into a row of the call's own. -/
namespace Go.Proofs.YtpabfjhjehjebaaDoor
open Go.RowKit Bs
set_option maxRecDepth 100000 in
theorem made_zero (N : Nat) : madeCells #[Value.int .u8 0] N = ((List.replicate N 0).map nv).toArray := by
  unfold madeCells
  apply Array.ext'
  rw [Array.toList_map, Array.toList_range, List.map_replicate]
  apply List.ext_getElem?
  intro i
  rw [List.getElem?_map, List.getElem?_replicate]
  by_cases h : i < N
  · rw [List.getElem?_range h, if_pos h]
    simp [nv, Nat.mod_one]
  · rw [List.getElem?_eq_none (by simpa using h), if_neg h]; rfl
/-- A stream of zero bits: its block is new. -/
def ZerosPost (n : Nat) (w : World) (e : Ending) (w' : World) : Prop :=
  ∃ g, e = .returned (.agg #[.slice (some ⟨g, 0, none⟩) ((n + 7) / 8) ((n + 7) / 8), .int .i64 (n : Int)]) ∧ w.heap.size ≤ g ∧ Blk w' g (List.replicate ((n + 7) / 8) 0) ∧ w.grownBy w' none
set_option maxRecDepth 100000 in
/-- make of bytes, as a law for the walk: the block a letter. -/
theorem wpList_make_bytes (w : World) {ops : Array Oper} {rest : List Oper} {o : Oper} {a : Act} {Q : Exit → Act → World → Prop} (hg : o.guard = none) (l c : Operand) (hop : o.op = Op.makeSlice 23 l c) (M : Nat)
    (hl : a.eval l = .int .i64 (M : Int)) (hc : a.eval c = .int .i64 (M : Int)) (hM : M ≤ 100000)
    (hK : ∀ g w', w.heap.size ≤ g → Blk w' g (List.replicate M 0) → w.grownBy w' none → wpList Tryd.prog ops Q rest (a.put o.dst (.slice (some ⟨g, 0, none⟩) M M)) w') : wpList Tryd.prog ops Q (o :: rest) a w := by
  obtain ⟨i0, hi, hz0, hz1, hz2⟩ := info_parts info_u8
  refine wpList_make_row w hg l c 23 hop 5 i0 (.int .u8 0) Tryd.underlying23 hi hz0 hz1 rfl .i64 .i64 M hl hc (by rw [hz2]; omega) (by omega) ?_
  refine hK w.heap.size _ (Nat.le_refl _) ?_ (World.grownBy_alloc w _ _)
  refine (heap_alloc_new w _).trans ?_
  rw [made_zero]
set_option maxRecDepth 100000 in
theorem zeros_fin {w w3 : World} {n M g : Nat} (hrow : w3.heap[w.heap.size]? = some (.cells #[.slice none 0 0, .int .i64 0] 74 (0, 0))) (hg : w.heap.size + 1 ≤ g) (hB : Blk w3 g (List.replicate M 0)) (hgr : w.grownBy w3 none) (hM : M = (n + 7) / 8) :
    (((w3.setCell ⟨w.heap.size, 0, none⟩ (.slice (some ⟨g, 0, none⟩) M M)).setCell ⟨w.heap.size, 1, none⟩ (.int .i64 (n : Int)))).heap[w.heap.size]? = some (.cells #[.slice (some ⟨g, 0, none⟩) M M, .int .i64 (n : Int)] 74 (0, 0)) ∧
      ZerosPost n w (.returned (.agg #[.slice (some ⟨g, 0, none⟩) M M, .int .i64 (n : Int)])) ((w3.setCell ⟨w.heap.size, 0, none⟩ (.slice (some ⟨g, 0, none⟩) M M)).setCell ⟨w.heap.size, 1, none⟩ (.int .i64 (n : Int))) := by
  subst hM
  have gr := grown_store2 w3 w.heap.size (.slice (some ⟨g, 0, none⟩) ((n + 7) / 8) ((n + 7) / 8)) (.int .i64 (n : Int))
  exact ⟨store2 hrow, g, rfl, by omega, hB.grown gr (by intro e; have := Option.some.inj e; omega), grown_new hgr gr (Nat.le_refl _)⟩
set_option maxRecDepth 100000 in
set_option maxHeartbeats 800000 in
theorem zeros_any (n : Nat) (hn : n ≤ 20000) (w : World) :
    Calls Tryd.prog 95 #[.int .i64 (n : Int)] w fun e w' => ZerosPost n w e w' := by
  obtain ⟨M, hM⟩ : ∃ M : Nat, M = (n + 7) / 8 := ⟨_, rfl⟩
  have hB := fun w => bytesFor_any n (by omega) w
  rw [← hM] at hB
  have HM := Lib.hid hM
  have hM9 : M ≤ 20000 := by omega
  clear hM
  go_enter Tryd.func95, Tryd.ntmps95
  go_wp2_with fail
  generalize hw2 : w.alloc (.cells #[.slice none 0 0, .int .i64 0] 74) = w2
  have hs : w2.heap.size = w.heap.size + 1 := by rw [← hw2]; simp
  have hrow : Hid (w2.heap[w.heap.size]? = some (.cells #[.slice none 0 0, .int .i64 0] 74 (0, 0))) := Lib.hid (by rw [← hw2]; exact heap_alloc_new w _)
  have hgw : Hid (w.grownBy w2 none) := Lib.hid (by rw [← hw2]; exact World.grownBy_alloc w _ _)
  have HS := Lib.hid hs
  clear hw2 hs
  go_wp2_with (first
    | (go_at_call 99; refine (hB _).mono ?_; rintro e w' ⟨rfl, rfl⟩)
    | (at_make; refine wpList_make_bytes _ rfl _ _ rfl M rfl rfl (by omega) ?_; intro g w3 hge hB3 hg3; have hrow3 := kept_row hrow.out hg3 (by simp); obtain ⟨r0, r1⟩ := row_cells hrow3; have g0 := frozen_of_row _ _ 0 _ _ hrow3; have g1 := frozen_of_row _ _ 1 _ _ hrow3; have HB := Lib.hid (zeros_fin (n := n) hrow3 (by rw [← HS.out]; exact hge) hB3 (grown_trans hgw.out hg3) HM.out); clear hrow3 hB3 hg3))
  refine bodyPost_ret (res_stream rfl _ _ w.heap.size _ _ rfl HB.out.1) rfl ?_
  exact HB.out.2
end Go.Proofs.YtpabfjhjehjebaaDoor

/- Take, of the program and of the reference. -/
namespace Go.Proofs.YtpabfjhjehjebaaDoor
open Go.RowKit Bs
/-- What Take returns. -/
def takeV (l : List Nat) (n a k : Int) : Nat × Int :=
  if vs l n = false then (0, 1) else if vw k = false then (0, 2) else if a < 0 then (0, 2) else if n - k < a then (0, 20) else (num (bt l) a.toNat k.toNat, 0)
set_option maxRecDepth 100000 in
theorem takeV_inv {l : List Nat} {n a k : Int} (h : vs l n = false) : takeV l n a k = (0, 1) := by unfold takeV; rw [if_pos h]
set_option maxRecDepth 100000 in
theorem takeV_width {l : List Nat} {n a k : Int} (h : vs l n = true) (h2 : vw k = false) : takeV l n a k = (0, 2) := by unfold takeV; rw [if_neg (by simp [h]), if_pos h2]
set_option maxRecDepth 100000 in
theorem takeV_neg {l : List Nat} {n a k : Int} (h : vs l n = true) (h2 : vw k = true) (h3 : a < 0) : takeV l n a k = (0, 2) := by unfold takeV; rw [if_neg (by simp [h]), if_neg (by simp [h2]), if_pos h3]
set_option maxRecDepth 100000 in
theorem takeV_short {l : List Nat} {n a k : Int} (h : vs l n = true) (h2 : vw k = true) (h3 : ¬ a < 0) (h4 : n - k < a) : takeV l n a k = (0, 20) := by unfold takeV; rw [if_neg (by simp [h]), if_neg (by simp [h2]), if_neg h3, if_pos h4]
set_option maxRecDepth 100000 in
theorem takeV_ok {l : List Nat} {n a k : Int} (h : vs l n = true) (h2 : vw k = true) (h3 : ¬ a < 0) (h4 : ¬ n - k < a) : takeV l n a k = (num (bt l) a.toNat k.toNat, 0) := by unfold takeV; rw [if_neg (by simp [h]), if_neg (by simp [h2]), if_neg h3, if_neg h4]
def TakePost (l : List Nat) (n a k : Int) (w : World) (e : Ending) (w' : World) : Prop := e = .returned (.tuple #[.int .u64 (((takeV l n a k).1 : Nat) : Int), .int .i64 (takeV l n a k).2]) ∧ w.grownBy w' none
set_option maxRecDepth 100000 in
theorem take_end {l : List Nat} {n a k : Int} {x : Nat} {y : Int} {w w' : World} (h : takeV l n a k = (x, y)) (g : w.grownBy w' none) : TakePost l n a k w (.returned (.tuple #[.int .u64 (x : Int), .int .i64 y])) w' := ⟨by rw [h], g⟩
set_option maxRecDepth 100000 in
theorem vw_nat {k : Int} (h : vw k = true) : ∃ K : Nat, k = (K : Int) ∧ K ≤ 64 := by
  unfold vw at h
  simp at h
  exact ⟨k.toNat, by omega, by omega⟩
set_option maxRecDepth 100000 in
theorem vs_bits {l : List Nat} {N : Nat} (h : vs l (N : Int) = true) : N ≤ 8192 ∧ l.length = (N + 7) / 8 := ⟨(vs_iff.1 h).1, (vs_iff.1 h).2.1⟩
set_option maxRecDepth 100000 in
/-- One block laid. -/
theorem one_box (w : World) (A : Array Value) (t : TypeId) : (w.alloc (.cells A t)).heap[w.heap.size]? = some (.cells A t (0, 0)) ∧ w.grownBy (w.alloc (.cells A t)) none := ⟨heap_alloc_new w _, World.grownBy_alloc w _ _⟩
set_option maxRecDepth 100000 in
set_option maxHeartbeats 1600000 in
theorem takep_any (l : List Nat) (n a k : Int) (q : Nat → Prop) (p : Option Addr) (c : Nat) (hl : By l) (ha : I64 a) (w : World) (hR : Rd w q (.slice p l.length c) (l.map nv)) :
    Calls Tryd.prog 82 #[.agg #[.slice p l.length c, .int .i64 n], .int .i64 a, .int .i64 k] w fun e w' => TakePost l n a k w e w' := by
  obtain ⟨k1, k2⟩ := one_box w #[.slice p l.length c, .int .i64 n] 74
  have H0 := Lib.hid (And.intro k1 k2)
  have hR1 := hR.keep k2
  unfold I64 at ha
  clear k1 k2 hR
  go_enter Tryd.func82, Tryd.ntmps82
  go_wp2_with fail
  generalize w.alloc (.cells #[.slice p l.length c, .int .i64 n] 74) = w1 at *
  refine (validp_any l n q p c hl _ hR1).mono ?_
  rintro e w2 ⟨rfl, hg⟩
  have hrow := kept_row H0.out.1 hg (by simp)
  obtain ⟨c0, c1⟩ := row_cells hrow
  have HG := Lib.hid (grown_trans H0.out.2 hg)
  have hR2 := hR1.keep hg
  clear hrow hg hR1 H0
  by_cases hv : vs l n = true
  · obtain ⟨N, rfl⟩ := vs_nat hv
    obtain ⟨hN, hlen⟩ := vs_bits hv
    rw [hv]
    by_cases hw : vw k = true
    · obtain ⟨K, rfl, hK⟩ := vw_nat hw
      by_cases h3 : a < 0
      · have V := Lib.hid (takeV_neg hv hw h3)
        clear hv hlen
        go_wp2_with (go_at_call 93; refine (width_any _ _).mono ?_; rintro e w' ⟨rfl, rfl⟩; rw [hw])
        go_ret2
        exact take_end V.out HG.out
      · by_cases h4 : (N : Int) - (K : Int) < a
        · have V := Lib.hid (takeV_short hv hw h3 h4)
          clear hv hlen
          go_wp2_with (go_at_call 93; refine (width_any _ _).mono ?_; rintro e w' ⟨rfl, rfl⟩; rw [hw])
          go_ret2
          exact take_end V.out HG.out
        · have V := Lib.hid (takeV_ok hv hw h3 h4)
          obtain ⟨A, rfl⟩ := Int.eq_ofNat_of_zero_le (show 0 ≤ a by omega)
          have C := read_any l q p c A K hl (by omega) (by omega) hK w2 hR2
          have H1 := Lib.hid C
          clear hv hlen C
          go_wp2_with (first
            | (go_at_call 93; refine (width_any _ _).mono ?_; rintro e w' ⟨rfl, rfl⟩; rw [hw])
            | (go_at_call 94; refine H1.out.mono ?_; rintro e w' ⟨rfl, m, rfl⟩))
          go_ret2
          exact take_end V.out (grown_trans HG.out (grown_drewN _ _ _))
    · have hw0 : vw k = false := by simpa using hw
      have V := Lib.hid (takeV_width (a := a) hv hw0)
      clear hv hlen
      go_wp2_with (go_at_call 93; refine (width_any _ _).mono ?_; rintro e w' ⟨rfl, rfl⟩; rw [hw0])
      go_ret2
      exact take_end V.out HG.out
  · have hv0 : vs l n = false := by simpa using hv
    have V := Lib.hid (takeV_inv (a := a) (k := k) hv0)
    rw [hv0]
    go_wp2_with fail
    go_ret2
    exact take_end V.out HG.out
set_option maxRecDepth 100000 in
theorem tk_word (v b : Nat) (hb : b ≤ 1) (hv : v * 2 + 2 ≤ 18446744073709551616) : bits .or .u64 (IntKind.u64.wrap ((v : Int) * 2)) (b : Int) = ((2 * v + b : Nat) : Int) := by
  rw [show IntKind.u64.wrap ((v : Int) * 2) = ((v * 2 : Nat) : Int) by rw [IntKind.wrap_u64]; omega, orU _ _ (u64_mk (by omega)) (u64_mk (by omega))]
  rw [nat_join 1 (v * 2) b (by omega) (by omega)]
  congr 1; omega
set_option maxRecDepth 100000 in
theorem tk_step {l : List Nat} {a j : Nat} (hj : j < 64) : bits .or .u64 (IntKind.u64.wrap (((num (bt l) a j : Nat) : Int) * 2)) (((bt l (a + j)).toNat : Nat) : Int) = ((num (bt l) a (j + 1) : Nat) : Int) := by
  have h1 := num_lt (bt l) a j
  have h2 : 2 ^ (j + 1) ≤ 2 ^ 64 := Nat.pow_le_pow_right (by decide) hj
  rw [Nat.pow_succ] at h2
  rw [tk_word _ _ (Bool.toNat_le _) (by have h3 : (2 : Nat) ^ 64 = 18446744073709551616 := rfl; omega)]
  rfl
set_option maxRecDepth 100000 in
set_option maxHeartbeats 1600000 in
theorem taker_any (l : List Nat) (n a k : Int) (q : Nat → Prop) (p : Option Addr) (c : Nat) (hl : By l) (ha : I64 a) (w : World) (hq : ∀ b, q b → b < w.heap.size) (hR : Rd w q (.slice p l.length c) (l.map nv)) :
    Calls Tryd.prog 61 #[.agg #[.slice p l.length c, .int .i64 n], .int .i64 a, .int .i64 k] w fun e w' => TakePost l n a k w e w' := by
  obtain ⟨k1, k2⟩ := one_box w #[.slice p l.length c, .int .i64 n] 74
  have H0 := Lib.hid (And.intro k1 k2)
  have hR1 := hR.keep k2
  have hq1 : ∀ b, q b → b < (w.alloc (.cells #[.slice p l.length c, .int .i64 n] 74)).heap.size := fun b hb => Nat.lt_of_lt_of_le (hq b hb) k2.size
  unfold I64 at ha
  clear k1 k2 hR
  go_enter Tryd.func61, Tryd.ntmps61
  go_wp2_with fail
  generalize w.alloc (.cells #[.slice p l.length c, .int .i64 n] 74) = w1 at *
  refine (validr_any l n q p c hl _ hq1 hR1).mono ?_
  rintro e w2 ⟨rfl, hg⟩
  have hrow := kept_row H0.out.1 hg (by simp)
  obtain ⟨c0, c1⟩ := row_cells hrow
  have HG := Lib.hid (grown_trans H0.out.2 hg)
  have hR2 := hR1.keep hg
  clear hrow hg hR1 H0 hq1
  by_cases hv : vs l n = true
  · obtain ⟨N, rfl⟩ := vs_nat hv
    obtain ⟨hN, hlen⟩ := vs_bits hv
    rw [hv]
    by_cases hw : vw k = true
    · obtain ⟨K, rfl, hK⟩ := vw_nat hw
      by_cases h3 : a < 0
      · have V := Lib.hid (takeV_neg hv hw h3)
        clear hv hlen hw
        go_wp2_with fail
        go_ret2
        exact take_end V.out HG.out
      · by_cases h4 : (N : Int) - (K : Int) < a
        · have V := Lib.hid (takeV_short hv hw h3 h4)
          clear hv hlen hw
          go_wp2_with fail
          go_ret2
          exact take_end V.out HG.out
        · have V := Lib.hid (takeV_ok hv hw h3 h4)
          obtain ⟨A, rfl⟩ := Int.eq_ofNat_of_zero_le (show 0 ≤ a by omega)
          have hA : A ≤ 8192 := by omega
          have hAK : A + K ≤ 8 * l.length := by omega
          rw [Int.toNat_natCast, Int.toNat_natCast] at V
          clear hv hw hlen
          go_wp2_with fail
          go_loop [8, 9] (fun x i => ∃ j : Nat, j ≤ K ∧ i = .int .i64 ((A + j : Nat) : Int) ∧ x = .int .u64 ((num (bt l) A j : Nat) : Int)) (fun _ i => (A + K - (intOf i).toNat))
          case atStart => exact ⟨0, Nat.zero_le _, rfl, rfl⟩
          case round =>
            obtain ⟨j, hj, rfl, rfl⟩ := hrel
            by_cases hlt : j < K
            · have C := bitr_any l (A + j) q p c hl (by omega) (by omega) w2 hR2
              unfold bw at C
              have H1 := Lib.hid C
              have S := Lib.hid (tk_step (l := l) (a := A) (j := j) (by omega))
              have hAj : A + j ≤ 9000 := by omega
              clear C
              generalize (bt l (A + j)).toNat = x at *
              generalize num (bt l) A j = y at *
              go_wp2_with (go_at_call 78; refine H1.out.mono ?_; rintro e w' ⟨rfl, rfl⟩)
              go_round
              case rel => exact ⟨j + 1, by omega, by simp; omega, by rw [S.out]⟩
              case measure => simp [intOf]; omega
            · obtain rfl : j = K := by omega
              go_wp2_with fail
              go_ret2
              exact take_end V.out HG.out
    · have hw0 : vw k = false := by simpa using hw
      have V := Lib.hid (takeV_width (a := a) hv hw0)
      have hk : k < 0 ∨ 64 < k := by unfold vw at hw0; simp at hw0; omega
      clear hv hlen hw hw0
      rcases hk with hk | hk
      · go_wp2_with fail
        go_ret2
        exact take_end V.out HG.out
      · have hk0 : ¬ k < 0 := by omega
        go_wp2_with fail
        go_ret2
        exact take_end V.out HG.out
  · have hv0 : vs l n = false := by simpa using hv
    have V := Lib.hid (takeV_inv (a := a) (k := k) hv0)
    rw [hv0]
    go_wp2_with fail
    go_ret2
    exact take_end V.out HG.out
end Go.Proofs.YtpabfjhjehjebaaDoor
