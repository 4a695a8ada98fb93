/- The program's small functions, and its reading of bits. -/
import Derived.Test.YtnfgkakhdgiepaaDoorIoMem
import Derived.WalkLawsBesides
namespace Go.Proofs.YtnfgkakhdgiepaaDoor
open Go.RowKit Bs

/-- A byte. -/
def nv (x : Nat) : Value := .int .u8 (x : Int)
/-- Bytes, each below 256. -/
def By (l : List Nat) : Prop := ∀ x ∈ l, x < 256
set_option maxRecDepth 100000 in
theorem By.at_ {l : List Nat} (h : By l) {j : Nat} (hj : j < l.length) : l.getD j 0 < 256 := by
  rw [List.getD_eq_getElem?_getD, List.getElem?_eq_getElem hj]
  exact h _ (List.getElem_mem hj)
set_option maxRecDepth 100000 in
theorem nv_at {l : List Nat} {j : Nat} (h : j < l.length) : (l.map nv)[j]? = some (.int .u8 ((l.getD j 0 : Nat) : Int)) := by
  rw [List.getElem?_map, List.getElem?_eq_getElem h, List.getD_eq_getElem?_getD, List.getElem?_eq_getElem h]; rfl
set_option maxRecDepth 100000 in
theorem Rd.at_ {w : World} {q : Nat → Prop} {p : Option Addr} {n c i : Nat} {vs : List Value} {x : Value} (h : Rd w q (.slice p n c) vs) (hi : vs[i]? = some x) :
    ∃ b off, p = some ⟨b, off, none⟩ ∧ q b ∧ w.cell? ⟨b, off + i, none⟩ = some x := by
  obtain ⟨p1, c1, e1, hx⟩ := h
  injection e1 with a1 a2 a3
  subst a1
  obtain ⟨b, off, hp, hq, hc⟩ := hx (by intro e; rw [e] at hi; simp at hi)
  exact ⟨b, off, hp, hq, hc i x hi⟩
set_option maxRecDepth 100000 in
set_option maxHeartbeats 400000 in
theorem bytesFor_any (n : Nat) (hn : n ≤ 100000) (w : World) :
    Calls Tryd.prog 115 #[.int .i64 (n : Int)] w fun e w' => e = .returned (.int .i64 (((n + 7) / 8 : Nat) : Int)) ∧ w = w' := by
  go_enter Tryd.func115, Tryd.ntmps115
  go_wp2
  go_ret
  exact ⟨ret_int (by omega), rfl⟩
def vw (n : Int) : Bool := decide (0 ≤ n) && decide (n ≤ 64)
set_option maxRecDepth 100000 in
set_option maxHeartbeats 400000 in
theorem width_any (n : Int) (w : World) :
    Calls Tryd.prog 111 #[.int .i64 n] w fun e w' => e = .returned (.bool (vw n)) ∧ w = w' := by
  go_enter Tryd.func111, Tryd.ntmps111
  go_wp2
  all_goals go_ret
  all_goals exact ⟨ret_bool (by unfold vw; simp [*] <;> omega), rfl⟩
set_option maxRecDepth 100000 in
/-- One round of reading: k bits of the byte at A. -/
theorem read_step {l : List Nat} {at0 j A x k s : Nat} (hA : at0 + j = A) (hX : l.getD (A / 8) 0 = x) (hs : s + k + A % 8 = 8) (hj : j + k ≤ 64) (hx : x < 256) :
    bits .or .u64 (IntKind.u64.wrap (((num (bt l) at0 j : Nat) : Int) * 2 ^ k)) (bits .and .u64 ((x : Int) / 2 ^ s) (IntKind.u64.wrap (IntKind.u64.wrap (2 ^ k) - 1))) = ((num (bt l) at0 (j + k) : Nat) : Int) := by
  have h1 := num_lt (bt l) at0 j
  have h2 : 2 ^ (j + k) ≤ 2 ^ 64 := Nat.pow_le_pow_right (by decide) hj
  have h3 : num (bt l) at0 j * 2 ^ k + 2 ^ k ≤ 2 ^ (j + k) := by
    rw [Nat.pow_add, ← Nat.succ_mul]
    exact Nat.mul_le_mul_right _ h1
  rw [rd_word _ x s k (by omega) hx (Nat.le_trans h3 h2), num_add, hA]
  rw [num_byte x s k A (A % 8) (bt l) hs]
  intro t ht
  unfold bt
  rw [show (A + t) / 8 = A / 8 by omega, hX, show (A + t) % 8 = A % 8 + t by omega]
set_option maxRecDepth 100000 in
set_option maxHeartbeats 1600000 in
theorem read_any (l : List Nat) (q : Nat → Prop) (p : Option Addr) (c at0 n0 : Nat) (hl : By l) (hll : l.length ≤ 4000) (h0 : at0 + n0 ≤ 8 * l.length) (hn : n0 ≤ 64) (w : World) (hR : Rd w q (.slice p l.length c) (l.map nv)) :
    Calls Tryd.prog 127 #[.slice p l.length c, .int .i64 (at0 : Int), .int .i64 (n0 : Int)] w fun e w' => e = .returned (.int .u64 ((num (bt l) at0 n0 : Nat) : Int)) ∧ ∃ m, w' = w.drewN m := by
  go_enter Tryd.func127, Tryd.ntmps127
  go_wp2_with fail
  go_loopw [1, 2, 7] (fun a n v wr => ∃ j N m : Nat, j + N = n0 ∧ a = .int .i64 ((at0 + j : Nat) : Int) ∧ n = .int .i64 (N : Int) ∧ v = .int .u64 ((num (bt l) at0 j : Nat) : Int) ∧ wr = w.drewN m) (fun _ n _ _ => (intOf n).toNat)
  case atStart => exact ⟨0, n0, 0, by omega, rfl, rfl, rfl, rfl⟩
  case round =>
    obtain ⟨j, N, m, hj, rfl, rfl, rfl, hwr⟩ := hrel
    have HW := Lib.hid hwr
    generalize hA : at0 + j = A
    have HA := Lib.hid hA
    by_cases hlt : 0 < N
    · have hAl : A / 8 < l.length := by omega
      obtain ⟨g, off, rfl, _, hcell⟩ := hR.at_ (nv_at hAl)
      have hx := hl.at_ hAl
      generalize hX : l.getD (A / 8) 0 = x at *
      have HX := Lib.hid hX
      have hA4 : A ≤ 32000 := by omega
      obtain ⟨R, hr⟩ : ∃ R : Nat, R = 8 - A % 8 := ⟨_, rfl⟩
      have hroom : (8 - (A : Int) % 8) = (R : Int) := by omega
      have hR8 : R ≤ 8 := by omega
      have hR1 : 1 ≤ R := by omega
      have HR := Lib.hid hr
      have HJ := Lib.hid hj
      have hN : N ≤ 64 := by omega
      have hcell' : wr.cell? ⟨g, off + A / 8, none⟩ = some (.int .u8 (x : Int)) := by rw [hwr]; exact hcell
      clear hr hX hj hA hR hcell hwr
      by_cases hc : N < R
      · obtain ⟨s, hs⟩ : ∃ s : Nat, s = R - N := ⟨_, rfl⟩
        have hsub : (R : Int) - (N : Int) = (s : Int) := by omega
        have hs8 : s ≤ 8 := by omega
        have HS := Lib.hid (read_step (l := l) (k := N) (s := s) HA.out HX.out (by have := HR.out; omega) (by have := HJ.out; omega) hx)
        clear hs
        generalize hv : num (bt l) at0 j = v at *
        go_wp2_with fail
        go_quiet (fail)
        go_wp2_with fail
        go_roundw
        case rel => exact ⟨j + N, 0, m + nq, by have := HJ.out; omega, by congr 1; have := HA.out; omega, by simp, by rw [HS.out], by rw [HW.out, World.drewN_drewN]⟩
        case measure => simp [intOf]; omega
      · have HS := Lib.hid (read_step (l := l) (k := R) (s := 0) HA.out HX.out (by have := HR.out; omega) (by have := HJ.out; omega) hx)
        generalize hv : num (bt l) at0 j = v at *
        have hmin : Min.min (R : Int) (N : Int) = (R : Int) := by omega
        go_wp2_with fail
        go_quiet (fail)
        go_wp2_with fail
        go_roundw
        case rel => exact ⟨j + R, N - R, m + nq, by have := HJ.out; omega, by congr 1; have := HA.out; omega, by congr 1; omega, by rw [← HS.out]; simp, by rw [HW.out, World.drewN_drewN]⟩
        case measure => simp [intOf]; omega
    · obtain rfl : N = 0 := by omega
      obtain rfl : j = n0 := by omega
      clear hwr
      go_wp2_with fail
      go_ret
      exact ⟨rfl, _, HW.out⟩
end Go.Proofs.YtnfgkakhdgiepaaDoor
