/- Take, of the program and of the reference. -/
import Derived.Test.YtokolidakcfopaaIoZeros
namespace Go.Proofs.Ytokolidakcfopaa
open Go.RowKit Bs
/-- What Take returns. -/
def takeV (l : List Nat) (n a k : Int) : Nat × Int :=
  if vs l n = false then (0, 1) else if vw k = false then (0, 2) else if a < 0 then (0, 2) else if n - k < a then (0, 20) else (num (bt l) a.toNat k.toNat, 0)
theorem takeV_inv {l : List Nat} {n a k : Int} (h : vs l n = false) : takeV l n a k = (0, 1) := by unfold takeV; rw [if_pos h]
theorem takeV_width {l : List Nat} {n a k : Int} (h : vs l n = true) (h2 : vw k = false) : takeV l n a k = (0, 2) := by unfold takeV; rw [if_neg (by simp [h]), if_pos h2]
theorem takeV_neg {l : List Nat} {n a k : Int} (h : vs l n = true) (h2 : vw k = true) (h3 : a < 0) : takeV l n a k = (0, 2) := by unfold takeV; rw [if_neg (by simp [h]), if_neg (by simp [h2]), if_pos h3]
theorem takeV_short {l : List Nat} {n a k : Int} (h : vs l n = true) (h2 : vw k = true) (h3 : ¬ a < 0) (h4 : n - k < a) : takeV l n a k = (0, 20) := by unfold takeV; rw [if_neg (by simp [h]), if_neg (by simp [h2]), if_neg h3, if_pos h4]
theorem takeV_ok {l : List Nat} {n a k : Int} (h : vs l n = true) (h2 : vw k = true) (h3 : ¬ a < 0) (h4 : ¬ n - k < a) : takeV l n a k = (num (bt l) a.toNat k.toNat, 0) := by unfold takeV; rw [if_neg (by simp [h]), if_neg (by simp [h2]), if_neg h3, if_neg h4]
def TakePost (l : List Nat) (n a k : Int) (w : World) (e : Ending) (w' : World) : Prop := e = .returned (.tuple #[.int .u64 (((takeV l n a k).1 : Nat) : Int), .int .i64 (takeV l n a k).2]) ∧ w.grownBy w' none
theorem take_end {l : List Nat} {n a k : Int} {x : Nat} {y : Int} {w w' : World} (h : takeV l n a k = (x, y)) (g : w.grownBy w' none) : TakePost l n a k w (.returned (.tuple #[.int .u64 (x : Int), .int .i64 y])) w' := ⟨by rw [h], g⟩
theorem vw_nat {k : Int} (h : vw k = true) : ∃ K : Nat, k = (K : Int) ∧ K ≤ 64 := by
  unfold vw at h
  simp at h
  exact ⟨k.toNat, by omega, by omega⟩
theorem vs_bits {l : List Nat} {N : Nat} (h : vs l (N : Int) = true) : N ≤ 8192 ∧ l.length = (N + 7) / 8 := ⟨(vs_iff.1 h).1, (vs_iff.1 h).2.1⟩
/-- One block laid. -/
theorem one_box (w : World) (A : Array Value) (t : TypeId) : (w.alloc (.cells A t)).heap[w.heap.size]? = some (.cells A t (0, 0)) ∧ w.grownBy (w.alloc (.cells A t)) none := ⟨heap_alloc_new w _, World.grownBy_alloc w _ _⟩
set_option maxHeartbeats 1600000 in
theorem takep_any (l : List Nat) (n a k : Int) (q : Nat → Prop) (p : Option Addr) (c : Nat) (hl : By l) (ha : I64 a) (w : World) (hR : Rd w q (.slice p l.length c) (l.map nv)) :
    Calls Try.prog 12 #[.agg #[.slice p l.length c, .int .i64 n], .int .i64 a, .int .i64 k] w fun e w' => TakePost l n a k w e w' := by
  obtain ⟨k1, k2⟩ := one_box w #[.slice p l.length c, .int .i64 n] 25
  have H0 := Lib.hid (And.intro k1 k2)
  have hR1 := hR.keep k2
  unfold I64 at ha
  clear k1 k2 hR
  go_enter Try.func12, Try.ntmps12
  go_wp2_with fail
  generalize w.alloc (.cells #[.slice p l.length c, .int .i64 n] 25) = w1 at *
  refine (validp_any l n q p c hl _ hR1).mono ?_
  rintro e w2 ⟨rfl, hg⟩
  have hrow := kept_row H0.out.1 hg (by simp)
  obtain ⟨c0, c1⟩ := row_cells hrow
  have HG := Lib.hid (grown_trans H0.out.2 hg)
  have hR2 := hR1.keep hg
  clear hrow hg hR1 H0
  by_cases hv : vs l n = true
  · obtain ⟨N, rfl⟩ := vs_nat hv
    obtain ⟨hN, hlen⟩ := vs_bits hv
    rw [hv]
    by_cases hw : vw k = true
    · obtain ⟨K, rfl, hK⟩ := vw_nat hw
      by_cases h3 : a < 0
      · have V := Lib.hid (takeV_neg hv hw h3)
        clear hv hlen
        go_wp2_with (go_at_call 14; refine (width_any _ _).mono ?_; rintro e w' ⟨rfl, rfl⟩; rw [hw])
        go_ret2
        exact take_end V.out HG.out
      · by_cases h4 : (N : Int) - (K : Int) < a
        · have V := Lib.hid (takeV_short hv hw h3 h4)
          clear hv hlen
          go_wp2_with (go_at_call 14; refine (width_any _ _).mono ?_; rintro e w' ⟨rfl, rfl⟩; rw [hw])
          go_ret2
          exact take_end V.out HG.out
        · have V := Lib.hid (takeV_ok hv hw h3 h4)
          obtain ⟨A, rfl⟩ := Int.eq_ofNat_of_zero_le (show 0 ≤ a by omega)
          have C := read_any l q p c A K hl (by omega) (by omega) hK w2 hR2
          have H1 := Lib.hid C
          clear hv hlen C
          go_wp2_with (first
            | (go_at_call 14; refine (width_any _ _).mono ?_; rintro e w' ⟨rfl, rfl⟩; rw [hw])
            | (go_at_call 20; refine H1.out.mono ?_; rintro e w' ⟨rfl, m, rfl⟩))
          go_ret2
          exact take_end V.out (grown_trans HG.out (grown_drewN _ _ _))
    · have hw0 : vw k = false := by simpa using hw
      have V := Lib.hid (takeV_width (a := a) hv hw0)
      clear hv hlen
      go_wp2_with (go_at_call 14; refine (width_any _ _).mono ?_; rintro e w' ⟨rfl, rfl⟩; rw [hw0])
      go_ret2
      exact take_end V.out HG.out
  · have hv0 : vs l n = false := by simpa using hv
    have V := Lib.hid (takeV_inv (a := a) (k := k) hv0)
    rw [hv0]
    go_wp2_with fail
    go_ret2
    exact take_end V.out HG.out
theorem tk_word (v b : Nat) (hb : b ≤ 1) (hv : v * 2 + 2 ≤ 18446744073709551616) : bits .or .u64 (IntKind.u64.wrap ((v : Int) * 2)) (b : Int) = ((2 * v + b : Nat) : Int) := by
  rw [show IntKind.u64.wrap ((v : Int) * 2) = ((v * 2 : Nat) : Int) by rw [IntKind.wrap_u64]; omega, orU _ _ (u64_mk (by omega)) (u64_mk (by omega))]
  rw [nat_join 1 (v * 2) b (by omega) (by omega)]
  congr 1; omega
theorem tk_step {l : List Nat} {a j : Nat} (hj : j < 64) : bits .or .u64 (IntKind.u64.wrap (((num (bt l) a j : Nat) : Int) * 2)) (((bt l (a + j)).toNat : Nat) : Int) = ((num (bt l) a (j + 1) : Nat) : Int) := by
  have h1 := num_lt (bt l) a j
  have h2 : 2 ^ (j + 1) ≤ 2 ^ 64 := Nat.pow_le_pow_right (by decide) hj
  rw [Nat.pow_succ] at h2
  rw [tk_word _ _ (Bool.toNat_le _) (by have h3 : (2 : Nat) ^ 64 = 18446744073709551616 := rfl; omega)]
  rfl
end Go.Proofs.Ytokolidakcfopaa
