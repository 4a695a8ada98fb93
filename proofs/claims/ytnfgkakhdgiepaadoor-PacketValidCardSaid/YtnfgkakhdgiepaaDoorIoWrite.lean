/- A block of bytes that a call has made; the program's writing and moving of bits. -/
import Derived.Test.YtnfgkakhdgiepaaDoorIoRead
import Derived.BigRegion
namespace Go.Proofs.YtnfgkakhdgiepaaDoor
open Go.RowKit Bs

/-- Block g holds the bytes l. -/
def Blk (w : World) (g : Nat) (l : List Nat) : Prop := w.heap[g]? = some (.cells (l.map nv).toArray 5 (0, 0))
section
variable {w w' : World} {g : Nat} {l : List Nat}
set_option maxRecDepth 100000 in
theorem Blk.cell (h : Blk w g l) {j : Nat} (hj : j < l.length) : w.cell? ⟨g, j, none⟩ = some (.int .u8 ((l.getD j 0 : Nat) : Int)) := by
  rw [cell_of_row w g j _ _ (0, 0) h]
  rw [List.getElem?_toArray]
  exact nv_at hj
set_option maxRecDepth 100000 in
theorem Blk.frozen (h : Blk w g l) (j : Nat) : w.frozen? ⟨g, j, none⟩ = false := frozen_of_row w g j _ _ h
set_option maxRecDepth 100000 in
theorem Blk.set (h : Blk w g l) (j x : Nat) : Blk (w.setCell ⟨g, j, none⟩ (nv x)) g (l.set j x) := by
  have e := heap_setCell_same w g j _ _ (nv x) h
  unfold Blk
  rw [e]
  congr 2
  rw [List.setIfInBounds_toArray, List.map_set]
set_option maxRecDepth 100000 in
theorem Blk.lt (h : Blk w g l) : g < w.heap.size := (Array.getElem?_eq_some_iff.1 h).1
set_option maxRecDepth 100000 in
theorem Blk.grown {r : Option Nat} (h : Blk w g l) (k : w.grownBy w' r) (hr : some g ≠ r) : Blk w' g l := (k.block g h.lt hr).trans h
set_option maxRecDepth 100000 in
theorem Blk.keep (h : Blk w g l) (k : w.grownBy w' none) : Blk w' g l := h.grown k (by simp)
set_option maxRecDepth 100000 in
theorem Blk.rd (h : Blk w g l) (q : Nat → Prop) (hq : q g) (c : Nat) : Rd w q (.slice (some ⟨g, 0, none⟩) l.length c) (l.map nv) := by
  refine ⟨some ⟨g, 0, none⟩, c, by rw [List.length_map], fun _ => ⟨g, 0, rfl, hq, fun i x hi => ?_⟩⟩
  rw [Nat.zero_add, cell_of_row w g i _ _ (0, 0) h, List.getElem?_toArray]
  exact hi
end
set_option maxRecDepth 100000 in
theorem set_grown {w0 w : World} {g j : Nat} {x : Value} (h : w0.grownBy w (some g)) : w0.grownBy (w.setCell ⟨g, j, none⟩ x) (some g) := grown_trans h (grown_setCell w ⟨g, j, none⟩ x)
set_option maxRecDepth 100000 in
theorem wr_word (x V d k s : Nat) (hx : x < 256) (hV : U64 V) (hs : s + k ≤ 8) :
    bits .or .u8 (x : Int) (IntKind.u8.wrap (IntKind.u8.wrap (bits .and .u64 ((V : Int) / 2 ^ d) (IntKind.u64.wrap (IntKind.u64.wrap (2 ^ k) - 1))) * 2 ^ s)) = ((x ||| (V / 2 ^ d % 2 ^ k * 2 ^ s) : Nat) : Int) := by
  have h1 := p2_le (show k ≤ 8 by omega)
  have h0 : 0 < 2 ^ k := Nat.pow_pos (by decide)
  rw [mask_word k (by omega), shrW, andU _ _ (u64_div _ _ hV) (u64_mk (by omega)), Nat.and_two_pow_sub_one_eq_mod]
  have hm := Nat.mod_lt (V / 2 ^ d) h0
  generalize V / 2 ^ d % 2 ^ k = z at *
  have e1 : IntKind.u8.wrap (z : Int) = (z : Int) := by rw [IntKind.wrap_u8']; omega
  have h2 : 2 ^ (s + k) ≤ 256 := p2_le hs
  have h3 : z * 2 ^ s < 2 ^ (s + k) := by
    rw [Nat.pow_add, Nat.mul_comm (2 ^ s)]
    exact Nat.mul_lt_mul_of_pos_right hm (Nat.pow_pos (by decide))
  rw [e1, powI, show ((z : Int) * ((2 ^ s : Nat) : Int)) = ((z * 2 ^ s : Nat) : Int) by simp]
  generalize z * 2 ^ s = y at *
  have e2 : IntKind.u8.wrap (y : Int) = (y : Int) := by rw [IntKind.wrap_u8']; omega
  rw [e2, u8_or_nat x y hx (by omega)]
set_option maxRecDepth 100000 in
/-- One round of writing: k bits at A, out of n bits that are left. -/
theorem write_step {f : Nat → Bool} {A n N V k s d x : Nat} (hx : (pz f A N).getD (A / 8) 0 = x) (hN : A / 8 < N) (hV : U64 V) (hs : s + k + A % 8 = 8) (hd : d + k = n) (hf : ∀ t, t < k → f (A + t) = V.testBit (n - 1 - t)) :
    bits .or .u8 (x : Int) (IntKind.u8.wrap (IntKind.u8.wrap (bits .and .u64 ((V : Int) / 2 ^ d) (IntKind.u64.wrap (IntKind.u64.wrap (2 ^ k) - 1))) * 2 ^ s)) = ((py f (A + k) (A / 8) : Nat) : Int) := by
  rw [pz_getD f A N _ hN] at hx
  subst hx
  rw [wr_word _ V d k s (py_lt _ _ _) hV (by omega), show d = n - k by omega, num_word V n k A f (by omega) hf, show s = 8 - A % 8 - k by omega, py_or f A k (by omega)]
set_option maxRecDepth 100000 in
theorem write_step1 {f : Nat → Bool} {A N V k s x : Nat} (hx : (pz f A N).getD (A / 8) 0 = x) (hN : A / 8 < N) (hV : U64 V) (hs : s + k + A % 8 = 8) (hf : ∀ t, t < k → f (A + t) = V.testBit (k - 1 - t)) :
    bits .or .u8 (x : Int) (bits .and .u64 (V : Int) (IntKind.u64.wrap (IntKind.u64.wrap (2 ^ k) - 1)) % 256 * 2 ^ s % 256) = ((py f (A + k) (A / 8) : Nat) : Int) := by
  rw [← write_step (d := 0) (n := k) hx hN hV hs (by omega) hf, IntKind.wrap_u8', IntKind.wrap_u8']
  simp
set_option maxRecDepth 100000 in
theorem write_step2 {f : Nat → Bool} {A n N V k d x : Nat} (hx : (pz f A N).getD (A / 8) 0 = x) (hN : A / 8 < N) (hV : U64 V) (hs : k + A % 8 = 8) (hd : d + k = n) (hf : ∀ t, t < k → f (A + t) = V.testBit (n - 1 - t)) :
    bits .or .u8 (x : Int) (bits .and .u64 ((V : Int) / 2 ^ d) (IntKind.u64.wrap (IntKind.u64.wrap (2 ^ k) - 1)) % 256) = ((py f (A + k) (A / 8) : Nat) : Int) := by
  rw [← write_step (s := 0) (n := n) hx hN hV (by omega) hd hf, IntKind.wrap_u8', IntKind.wrap_u8']
  simp
set_option maxRecDepth 100000 in
theorem write_set {f : Nat → Bool} {A k N g : Nat} {w wr : World} (h : Blk wr g (pz f A N)) (hg : w.grownBy wr (some g)) (hk : A % 8 + k ≤ 8) (hN : A / 8 < N) :
    Blk (wr.setCell ⟨g, A / 8, none⟩ (.int .u8 ((py f (A + k) (A / 8) : Nat) : Int))) g (pz f (A + k) N) ∧ w.grownBy (wr.setCell ⟨g, A / 8, none⟩ (.int .u8 ((py f (A + k) (A / 8) : Nat) : Int))) (some g) := by
  refine ⟨?_, set_grown hg⟩
  have := h.set (A / 8) (py f (A + k) (A / 8))
  rw [pz_set f A k N hk hN] at this
  exact this
def WriteRel (f : Nat → Bool) (N g : Nat) (w : World) (A : Nat) (wr : World) : Prop := Blk wr g (pz f A N) ∧ w.grownBy wr (some g)
set_option maxRecDepth 100000 in
theorem writeRel_next {f : Nat → Bool} {N g A k : Nat} {w wr : World} {x : Int} (h : WriteRel f N g w A wr) (hk : A % 8 + k ≤ 8) (hN : A / 8 < N) (hx : x = ((py f (A + k) (A / 8) : Nat) : Int)) :
    WriteRel f N g w (A + k) (wr.setCell ⟨g, A / 8, none⟩ (.int .u8 x)).drew := by
  subst hx
  have k := write_set h.1 h.2 hk hN
  exact ⟨k.1, k.2.os, k.2.tape, k.2.output, k.2.size, k.2.block⟩
set_option maxRecDepth 100000 in
set_option maxHeartbeats 1600000 in
theorem write_any (f : Nat → Bool) (N g c at0 n0 V : Nat) (hN : N ≤ 4000) (h0 : at0 + n0 ≤ 8 * N) (hn : n0 ≤ 64) (hV : U64 V) (hf : ∀ t, t < n0 → f (at0 + t) = V.testBit (n0 - 1 - t)) (w : World) (hB : Blk w g (pz f at0 N)) :
    Calls Tryd.prog 113 #[.slice (some ⟨g, 0, none⟩) N c, .int .i64 (at0 : Int), .int .u64 (V : Int), .int .i64 (n0 : Int)] w fun e w' => e = .returned (.tuple #[]) ∧ WriteRel f N g w (at0 + n0) w' := by
  have HF := Lib.hid hf
  clear hf
  go_enter Tryd.func113, Tryd.ntmps113
  go_wp2_with fail
  go_loopw [1, 3] (fun a n wr => ∃ A M : Nat, A + M = at0 + n0 ∧ at0 ≤ A ∧ a = .int .i64 (A : Int) ∧ n = .int .i64 (M : Int) ∧ WriteRel f N g w A wr) (fun _ n _ => (intOf n).toNat)
  case atStart => exact ⟨at0, n0, rfl, Nat.le_refl _, rfl, rfl, hB, grown_refl _ _⟩
  case round =>
    obtain ⟨A, M, hj, hA, rfl, rfl, hR⟩ := hrel
    clear hB
    by_cases hlt : 0 < M
    · have hAl : A / 8 < N := by omega
      have hcell := hR.1.cell (j := A / 8) (by rw [pz_len]; exact hAl)
      have hfz := hR.1.frozen (A / 8)
      have hx : (pz f A N).getD (A / 8) 0 < 256 := by rw [pz_getD f A N _ hAl]; exact py_lt _ _ _
      generalize hX : (pz f A N).getD (A / 8) 0 = x at *
      have HX := Lib.hid hX
      have HR0 := Lib.hid hR
      have hA4 : A ≤ 32000 := by omega
      obtain ⟨R, hr⟩ : ∃ R : Nat, R = 8 - A % 8 := ⟨_, rfl⟩
      have hroom : (8 - (A : Int) % 8) = (R : Int) := by omega
      have hR8 : R ≤ 8 := by omega
      have hR1 : 1 ≤ R := by omega
      have HR := Lib.hid hr
      have HJ := Lib.hid hj
      have hM : M ≤ 64 := by omega
      have HA := Lib.hid hA
      have HN := Lib.hid h0
      have hfA : ∀ t, t < M → f (A + t) = V.testBit (M - 1 - t) := by
        intro t ht
        have := HF.out (A - at0 + t) (by omega)
        rw [show at0 + (A - at0 + t) = A + t by omega, show n0 - 1 - (A - at0 + t) = M - 1 - t by omega] at this
        exact this
      have HFA := Lib.hid hfA
      clear hr hX hj hA hR hfA
      by_cases hc : M < R
      · obtain ⟨s, hs⟩ : ∃ s : Nat, s = R - M := ⟨_, rfl⟩
        have hsub : (R : Int) - (M : Int) = (s : Int) := by omega
        have hs8 : s ≤ 8 := by omega
        have HW := Lib.hid (writeRel_next (k := M) HR0.out (by have := HR.out; omega) hAl (write_step1 (k := M) (s := s) HX.out hAl hV (by have := HR.out; omega) HFA.out))
        clear hs
        go_wp2_with fail
        go_region
        go_wp2_with fail
        go_roundw
        case rel => exact ⟨A + M, 0, HJ.out, by have := HA.out; omega, by simp, by simp, HW.out⟩
        case measure => simp [intOf]; omega
      · obtain ⟨d, hd⟩ : ∃ d : Nat, d = M - R := ⟨_, rfl⟩
        have hsub : (M : Int) - (R : Int) = (d : Int) := by omega
        have hd8 : d ≤ 64 := by omega
        have hmin : Min.min (R : Int) (M : Int) = (R : Int) := by omega
        have HW := Lib.hid (writeRel_next (k := R) HR0.out (by have := HR.out; omega) hAl (write_step2 (n := M) (k := R) (d := d) HX.out hAl hV (by have := HR.out; omega) (by omega) (fun t ht => HFA.out t (by omega))))
        have HD := Lib.hid hd
        clear hd
        go_wp2_with fail
        go_region
        go_wp2_with fail
        go_roundw
        case rel => exact ⟨A + R, d, by have := HJ.out; have := HD.out; omega, by have := HA.out; omega, by simp, by simp, HW.out⟩
        case measure => simp [intOf]; omega
    · obtain rfl : M = 0 := by omega
      have HR := Lib.hid hR
      have HJ := Lib.hid hj
      clear hR hj
      go_wp2_with fail
      go_end0
      exact ⟨rfl, by rw [← HJ.out]; exact HR.out⟩
set_option maxRecDepth 100000 in
/-- Bits moved: the k bits from place at on are those of the source from place fr on. -/
theorem writeRel_trans {f : Nat → Bool} {N g A B : Nat} {w w1 w2 : World} (h : WriteRel f N g w A w1) (k : WriteRel f N g w1 B w2) : WriteRel f N g w B w2 :=
  ⟨k.1, grown_trans h.2 k.2⟩
set_option maxRecDepth 100000 in
set_option maxHeartbeats 1600000 in
theorem move_any (f : Nat → Bool) (N g c at0 fr n0 : Nat) (l : List Nat) (q : Nat → Prop) (p : Option Addr) (cs : Nat) (hN : N ≤ 4000) (h0 : at0 + n0 ≤ 8 * N) (hl : By l) (hll : l.length ≤ 4000) (h1 : fr + n0 ≤ 8 * l.length)
    (hf : ∀ t, t < n0 → f (at0 + t) = bt l (fr + t)) (w : World) (hB : Blk w g (pz f at0 N)) (hR : Rd w q (.slice p l.length cs) (l.map nv)) (hq : ¬ q g) :
    Calls Tryd.prog 114 #[.slice (some ⟨g, 0, none⟩) N c, .int .i64 (at0 : Int), .slice p l.length cs, .int .i64 (fr : Int), .int .i64 (n0 : Int)] w fun e w' => e = .returned (.tuple #[]) ∧ WriteRel f N g w (at0 + n0) w' := by
  have HF := Lib.hid hf
  clear hf
  have hqg : ∀ b, q b → some b ≠ some g := fun b hb e => hq (by rw [← Option.some.inj e]; exact hb)
  have HQ := Lib.hid hqg
  clear hqg
  go_enter Tryd.func114, Tryd.ntmps114
  go_wp2_with fail
  go_loopw [1, 3, 4] (fun a b n wr => ∃ j M : Nat, j + M = n0 ∧ a = .int .i64 ((at0 + j : Nat) : Int) ∧ b = .int .i64 ((fr + j : Nat) : Int) ∧ n = .int .i64 (M : Int) ∧ WriteRel f N g w (at0 + j) wr) (fun _ _ n _ => (intOf n).toNat)
  case atStart => exact ⟨0, n0, by omega, rfl, rfl, rfl, hB, grown_refl _ _⟩
  case round =>
    obtain ⟨j, M, hj, rfl, rfl, rfl, hW⟩ := hrel
    have HJ := Lib.hid hj
    have HW := Lib.hid hW
    by_cases hlt : 0 < M
    · have hRr := hR.grown hW.2 HQ.out
      have key : ∀ k, k ≤ M → k ≤ 8 → Hid (Calls Tryd.prog 127 #[.slice p l.length cs, .int .i64 ((fr + j : Nat) : Int), .int .i64 (k : Int)] wr fun e w' => e = .returned (.int .u64 ((num (bt l) (fr + j) k : Nat) : Int)) ∧ ∃ m, w' = wr.drewN m) ∧
          Hid (∀ m, Calls Tryd.prog 113 #[.slice (some ⟨g, 0, none⟩) N c, .int .i64 ((at0 + j : Nat) : Int), .int .u64 ((num (bt l) (fr + j) k : Nat) : Int), .int .i64 (k : Int)] (wr.drewN m) fun e w' => e = .returned (.tuple #[]) ∧ WriteRel f N g (wr.drewN m) (at0 + j + k) w') := by
        intro k hkM hk8
        refine ⟨Lib.hid (read_any l q p cs (fr + j) k hl hll (by omega) (by omega) wr hRr), Lib.hid fun m => write_any f N g c (at0 + j) k _ hN (by omega) (by omega) ?_ ?_ _ hW.1⟩
        · have e1 := num_lt (bt l) (fr + j) k
          have e2 := p2_le hk8
          exact u64_mk (by omega)
        · intro t ht
          rw [num_test, show k - 1 - (k - 1 - t) = t by omega, Nat.add_assoc, HF.out (j + t) (by omega), Nat.add_assoc]
          simp; omega
      have hN1 : at0 + j ≤ 32000 := by omega
      have hN2 : fr + j ≤ 32000 := by omega
      have hM3 : M ≤ 32000 := by omega
      clear hj hW hRr hR hB
      generalize hE1 : at0 + j = A1 at *
      generalize hE2 : fr + j = A2 at *
      have HE1 := Lib.hid hE1
      have HE2 := Lib.hid hE2
      clear hE1 hE2
      by_cases hc : M < 8
      · obtain ⟨H1, H2⟩ := key M (Nat.le_refl _) (by omega)
        clear key
        generalize num (bt l) A2 M = V at *
        go_wp2_with fail
        refine H1.out.mono ?_
        rintro e w' ⟨rfl, m, rfl⟩
        go_wp2_with fail
        refine (H2.out m).mono ?_
        rintro e w2 ⟨rfl, hr⟩
        have HR := Lib.hid (writeRel_trans (writeRel_trans HW.out (show WriteRel f N g wr A1 (wr.drewN m) from ⟨HW.out.1, grown_drewN _ _ _⟩)) hr)
        clear hr
        go_wp2_with fail
        go_roundw
        case rel => exact ⟨j + M, 0, HJ.out, by have := HE1.out; congr 1; omega, by have := HE2.out; congr 1; omega, by simp, by have := HE1.out; rw [show at0 + (j + M) = A1 + M by omega]; exact HR.out⟩
        case measure => simp [intOf]; omega
      · obtain ⟨H1, H2⟩ := key 8 (by omega) (by omega)
        clear key
        generalize num (bt l) A2 8 = V at *
        have hmin : Min.min (8 : Int) (M : Int) = (8 : Int) := by omega
        go_wp2_with fail
        refine H1.out.mono ?_
        rintro e w' ⟨rfl, m, rfl⟩
        go_wp2_with fail
        refine (H2.out m).mono ?_
        rintro e w2 ⟨rfl, hr⟩
        have HR := Lib.hid (writeRel_trans (writeRel_trans HW.out (show WriteRel f N g wr A1 (wr.drewN m) from ⟨HW.out.1, grown_drewN _ _ _⟩)) hr)
        clear hr
        go_wp2_with fail
        go_roundw
        case rel => exact ⟨j + 8, M - 8, by have := HJ.out; omega, by have := HE1.out; congr 1; omega, by have := HE2.out; congr 1; omega, by congr 1; omega, by have := HE1.out; rw [show at0 + (j + 8) = A1 + 8 by omega]; exact HR.out⟩
        case measure => simp [intOf]; omega
    · obtain rfl : M = 0 := by omega
      obtain rfl : j = n0 := by omega
      clear hW hj
      go_wp2_with fail
      go_end0
      exact ⟨rfl, HW.out⟩
end Go.Proofs.YtnfgkakhdgiepaaDoor
