/- Slice, of the program and of the reference. -/
import Derived.Test.YtnfgkakhdgiepaaDoorIoAppendR
namespace Go.Proofs.YtnfgkakhdgiepaaDoor
open Go.RowKit Bs
/-- What Slice returns. -/
def slV (l : List Nat) (n a b : Int) : List Nat × Int × Int :=
  if vs l n = false then ([], 0, 1) else if a < 0 then ([], 0, 2) else if b < a then ([], 0, 2) else if n < b then ([], 0, 2) else
    (pz (fun i => bt l (a.toNat + i)) (b.toNat - a.toNat) ((b.toNat - a.toNat + 7) / 8), ((b.toNat - a.toNat : Nat) : Int), 0)
set_option maxRecDepth 100000 in
theorem slV_inv {l : List Nat} {n a b : Int} (h : vs l n = false) : slV l n a b = ([], 0, 1) := by unfold slV; rw [if_pos h]
set_option maxRecDepth 100000 in
theorem slV_range {l : List Nat} {n a b : Int} (h : vs l n = true) (h2 : a < 0 ∨ b < a ∨ n < b) : slV l n a b = ([], 0, 2) := by
  unfold slV; rw [if_neg (by simp [h])]
  by_cases x1 : a < 0
  · rw [if_pos x1]
  · rw [if_neg x1]
    by_cases x2 : b < a
    · rw [if_pos x2]
    · rw [if_neg x2, if_pos (by omega)]
set_option maxRecDepth 100000 in
theorem slV_ok {l : List Nat} {N A T B : Nat} (h : vs l (N : Int) = true) (hB : A + T = B) (h2 : B ≤ N) : slV l (N : Int) (A : Int) (B : Int) = (pz (fun i => bt l (A + i)) T ((T + 7) / 8), (T : Int), 0) := by
  subst hB
  unfold slV
  rw [if_neg (by simp [h]), if_neg (by omega), if_neg (by omega), if_neg (by omega), Int.toNat_natCast, Int.toNat_natCast, show A + T - A = T by omega]
set_option maxRecDepth 100000 in
theorem pz_none (f : Nat → Bool) (M : Nat) : List.replicate M 0 = pz f 0 M := (pz_zero f M).symm
set_option maxRecDepth 100000 in
set_option maxHeartbeats 3200000 in
theorem slicep_any (l : List Nat) (n a b : Int) (q : Nat → Prop) (p : Option Addr) (c : Nat) (hl : By l) (ha : I64 a) (hb : I64 b) (w : World) (hq : ∀ b, q b → b < w.heap.size) (hR : Rd w q (.slice p l.length c) (l.map nv)) :
    Calls Tryd.prog 120 #[.agg #[.slice p l.length c, .int .i64 n], .int .i64 a, .int .i64 b] w fun e w' => SPost (slV l n a b) w e w' := by
  obtain ⟨k1, k2, k3, k4⟩ := two_boxes w #[.slice p l.length c, .int .i64 n] #[.slice none 0 0, .int .i64 0] 91 91
  have H0 := Lib.hid (And.intro k1 (And.intro k2 (And.intro k3 k4)))
  have hR1 := hR.keep k3
  unfold I64 at ha hb
  clear k1 k2 k3 k4 hR
  go_enter Tryd.func120, Tryd.ntmps120
  go_wp2_with fail
  generalize (w.alloc (.cells #[.slice p l.length c, .int .i64 n] 91)).alloc (.cells #[.slice none 0 0, .int .i64 0] 91) = w1 at *
  refine (validp_any l n q p c hl _ hR1).mono ?_
  rintro e w2 ⟨rfl, hg⟩
  have hrow := kept_row H0.out.1 hg (by simp)
  have hres := kept_row H0.out.2.1 hg (by simp)
  obtain ⟨c0, c1⟩ := row_cells hrow
  obtain ⟨r0, r1⟩ := row_cells hres
  have g0 := frozen_of_row _ _ 0 _ _ hres
  have g1 := frozen_of_row _ _ 1 _ _ hres
  have HG := Lib.hid (grown_trans H0.out.2.2.1 hg)
  have HRES := Lib.hid hres
  have HROW := Lib.hid hrow
  have HSZ : Hid (w.heap.size + 2 ≤ w2.heap.size) := Lib.hid (by rw [← H0.out.2.2.2]; exact hg.size)
  have hR2 := hR1.keep hg
  clear hrow hres hg hR1 H0
  by_cases hv : vs l n = true
  · obtain ⟨N, rfl⟩ := vs_nat hv
    obtain ⟨hN, hlen⟩ := vs_bits hv
    rw [hv]
    by_cases h1 : a < 0
    · have V := Lib.hid (slV_range (b := b) hv (.inl h1))
      clear hv hlen
      go_wp2_with fail
      refine bodyPost_ret (res_stream_err rfl _ _ (w.heap.size + 1) _ _ rfl (store2 HRES.out)) rfl ?_
      exact SPost.of V.out (err_end HG.out (by omega))
    · by_cases h2 : b < a
      · have V := Lib.hid (slV_range hv (.inr (.inl h2)))
        clear hv hlen
        go_wp2_with fail
        refine bodyPost_ret (res_stream_err rfl _ _ (w.heap.size + 1) _ _ rfl (store2 HRES.out)) rfl ?_
        exact SPost.of V.out (err_end HG.out (by omega))
      · by_cases h3 : (N : Int) < b
        · have V := Lib.hid (slV_range (a := a) hv (.inr (.inr h3)))
          clear hv hlen
          go_wp2_with fail
          refine bodyPost_ret (res_stream_err rfl _ _ (w.heap.size + 1) _ _ rfl (store2 HRES.out)) rfl ?_
          exact SPost.of V.out (err_end HG.out (by omega))
        · obtain ⟨A, rfl⟩ := Int.eq_ofNat_of_zero_le (show 0 ≤ a by omega)
          obtain ⟨B, rfl⟩ := Int.eq_ofNat_of_zero_le (show 0 ≤ b by omega)
          obtain ⟨T, hB⟩ : ∃ T : Nat, A + T = B := ⟨B - A, by omega⟩
          have hBN : B ≤ N := by omega
          have V := Lib.hid (slV_ok hv hB hBN)
          have hTi : (B : Int) - (A : Int) = (T : Int) := by omega
          have C := zeros_any T (by omega) w2
          unfold ZerosPost at C
          generalize hM : (T + 7) / 8 = M at C
          have H1 := Lib.hid C
          have HM := Lib.hid hM
          have HL := Lib.hid hlen
          have hT8 : T ≤ 8192 := by omega
          have hA8 : A ≤ 8192 := by omega
          have HAT : Hid (A + T ≤ N) := Lib.hid (by omega)
          have HB := Lib.hid hB
          have hB8 : B ≤ 8192 := by omega
          clear hv hlen C hM hB
          go_wp2_with fail
          refine H1.out.mono ?_
          rintro e w3 ⟨g, rfl, hgg, hB3, hg3⟩
          have hrow := kept_row HROW.out hg3 (by simp)
          have hres := kept_row HRES.out hg3 (by simp)
          obtain ⟨c0, c1⟩ := row_cells hrow
          obtain ⟨r0, r1⟩ := row_cells hres
          have g0 := frozen_of_row _ _ 0 _ _ hres
          have g1 := frozen_of_row _ _ 1 _ _ hres
          have hqg : ¬ q g := fun h => by have := hq g h; have := HG.out.size; omega
          have M4 := Lib.hid (made_of (W := w) (M := M) (T := (T : Int)) hB3 (by have := HG.out.size; omega) (grown_trans HG.out hg3))
          have hR4 := (hR2.keep hg3).keep (World.grownBy_alloc w3 (.cells #[.slice (some ⟨g, 0, none⟩) M M, .int .i64 (T : Int)] 91) none)
          have HR4 := Lib.hid hR4
          have n1 : ¬ w.heap.size = w3.heap.size := by have := HSZ.out; have := hg3.size; omega
          have n2 : w.heap.size ≠ w3.heap.size := n1
          have n3 : w.heap.size < w3.heap.size := by have := HSZ.out; have := hg3.size; omega
          have hgw : w.heap.size + 2 ≤ g := by have := HSZ.out; omega
          have HRES3 := Lib.hid (kept_row hres (World.grownBy_alloc w3 (.cells #[.slice (some ⟨g, 0, none⟩) M M, .int .i64 (T : Int)] 91) none) (by simp))
          clear hR4 hB3 hrow hres H1 hR2
          go_wp2_with (go_at_call 114; refine (move_any (fun i => bt l (A + i)) M g M 0 A T l q p c (by have := HM.out; omega) (by have := HM.out; omega) hl (by have := HL.out; omega) (by have := HL.out; have := HAT.out; omega) (fun t _ => by rw [Nat.zero_add]) _ (by rw [← pz_none]; exact M4.out.blk) HR4.out hqg).mono ?_; rintro e w6 ⟨rfl, hw6⟩; have M6 := Lib.hid (M4.out.next hw6.2 hw6.1); have HR6 := Lib.hid (kept_row HRES3.out hw6.2 (by intro e; have := Option.some.inj e; omega)); obtain ⟨f0, f1⟩ := row_cells M6.out.row; obtain ⟨r0, r1⟩ := row_cells HR6.out; have g0 := frozen_of_row _ _ 0 _ _ HR6.out; have g1 := frozen_of_row _ _ 1 _ _ HR6.out; clear hw6)
          refine bodyPost_ret (res_stream_err rfl _ _ (w.heap.size + 1) _ _ rfl (store2 HR6.out)) rfl ?_
          refine SPost.of V.out ?_
          rw [HM.out]
          have M6' := M6.out
          rw [Nat.zero_add] at M6'
          exact ok_end M6'.blk (by rw [pz_len]) (pz_lt _ _ _) M6'.lo M6'.gr (by omega) (by omega)
  · have hv0 : vs l n = false := by simpa using hv
    have V := Lib.hid (slV_inv (a := a) (b := b) hv0)
    rw [hv0]
    go_wp2_with fail
    refine bodyPost_ret (res_stream_err rfl _ _ (w.heap.size + 1) _ _ rfl (store2 HRES.out)) rfl ?_
    exact SPost.of V.out (err_end HG.out (by omega))
end Go.Proofs.YtnfgkakhdgiepaaDoor
