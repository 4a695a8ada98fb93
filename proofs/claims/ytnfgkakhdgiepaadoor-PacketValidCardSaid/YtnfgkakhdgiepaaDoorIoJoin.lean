/- Join and Align of the program. -/
import Derived.Test.YtnfgkakhdgiepaaDoorIoSlice
namespace Go.Proofs.YtnfgkakhdgiepaaDoor
open Go.RowKit Bs
/-- The bits of a, then those of b. -/
def jnf (l : List Nat) (N : Nat) (l' : List Nat) : Nat → Bool := fun i => if i < N then bt l i else bt l' (i - N)
/-- What Join returns. -/
def jnV (l : List Nat) (n : Int) (l' : List Nat) (n' : Int) : List Nat × Int × Int :=
  if vs l n = false then ([], 0, 1) else if vs l' n' = false then ([], 0, 1) else if 8192 < n + n' then ([], 0, 3) else
    (pz (jnf l n.toNat l') (n.toNat + n'.toNat) ((n.toNat + n'.toNat + 7) / 8), ((n.toNat + n'.toNat : Nat) : Int), 0)
set_option maxRecDepth 100000 in
theorem jnV_inv {l l' : List Nat} {n n' : Int} (h : vs l n = false) : jnV l n l' n' = ([], 0, 1) := by unfold jnV; rw [if_pos h]
set_option maxRecDepth 100000 in
theorem jnV_inv2 {l l' : List Nat} {n n' : Int} (h : vs l n = true) (h2 : vs l' n' = false) : jnV l n l' n' = ([], 0, 1) := by unfold jnV; rw [if_neg (by simp [h]), if_pos h2]
set_option maxRecDepth 100000 in
theorem jnV_limit {l l' : List Nat} {N N' : Nat} (h : vs l (N : Int) = true) (h2 : vs l' (N' : Int) = true) (h3 : 8192 < N + N') : jnV l (N : Int) l' (N' : Int) = ([], 0, 3) := by
  unfold jnV; rw [if_neg (by simp [h]), if_neg (by simp [h2]), if_pos (by omega)]
set_option maxRecDepth 100000 in
theorem jnV_ok {l l' : List Nat} {N N' T : Nat} (h : vs l (N : Int) = true) (h2 : vs l' (N' : Int) = true) (hT : N + N' = T) (h3 : ¬ 8192 < T) : jnV l (N : Int) l' (N' : Int) = (pz (jnf l N l') T ((T + 7) / 8), (T : Int), 0) := by
  subst hT
  unfold jnV; rw [if_neg (by simp [h]), if_neg (by simp [h2]), if_neg (by omega), Int.toNat_natCast, Int.toNat_natCast]
set_option maxRecDepth 100000 in
theorem jnf_low {l l' : List Nat} {N : Nat} : ∀ i, i < N → jnf l N l' i = bt l i := fun i hi => by unfold jnf; rw [if_pos hi]
set_option maxRecDepth 100000 in
theorem jnf_high {l l' : List Nat} {N K : Nat} : ∀ t, t < K → jnf l N l' (N + t) = bt l' (0 + t) := fun t _ => by
  unfold jnf; rw [if_neg (by omega), show N + t - N = t by omega, Nat.zero_add]
set_option maxRecDepth 100000 in
/-- Three blocks laid one behind the other. -/
theorem three_boxes (w : World) (A B Z : Array Value) (t : TypeId) :
    (((w.alloc (.cells A t)).alloc (.cells B t)).alloc (.cells Z t)).heap[w.heap.size]? = some (.cells A t (0, 0)) ∧ (((w.alloc (.cells A t)).alloc (.cells B t)).alloc (.cells Z t)).heap[w.heap.size + 1]? = some (.cells B t (0, 0)) ∧
      (((w.alloc (.cells A t)).alloc (.cells B t)).alloc (.cells Z t)).heap[w.heap.size + 2]? = some (.cells Z t (0, 0)) ∧ w.grownBy (((w.alloc (.cells A t)).alloc (.cells B t)).alloc (.cells Z t)) none ∧ (((w.alloc (.cells A t)).alloc (.cells B t)).alloc (.cells Z t)).heap.size = w.heap.size + 3 := by
  obtain ⟨k1, k2, k3, k4⟩ := two_boxes w A B t t
  have g := World.grownBy_alloc ((w.alloc (.cells A t)).alloc (.cells B t)) (.cells Z t) none
  refine ⟨kept_row k1 g (by simp), kept_row k2 g (by simp), ?_, grown_trans k3 g, by simp⟩
  rw [← k4]; exact heap_alloc_new _ _
set_option maxRecDepth 100000 in
set_option maxHeartbeats 3200000 in
theorem joinp_any (l l' : List Nat) (n n' : Int) (q : Nat → Prop) (p p' : Option Addr) (c c' : Nat) (hl : By l) (hl' : By l') (w : World) (hq : ∀ b, q b → b < w.heap.size) (hR : Rd w q (.slice p l.length c) (l.map nv)) (hR' : Rd w q (.slice p' l'.length c') (l'.map nv)) :
    Calls Tryd.prog 70 #[.agg #[.slice p l.length c, .int .i64 n], .agg #[.slice p' l'.length c', .int .i64 n']] w fun e w' => SPost (jnV l n l' n') w e w' := by
  obtain ⟨k1, k2, k2', k3, k4⟩ := three_boxes w #[.slice p l.length c, .int .i64 n] #[.slice p' l'.length c', .int .i64 n'] #[.slice none 0 0, .int .i64 0] 91
  have H0 := Lib.hid (And.intro k1 (And.intro k2 (And.intro k2' (And.intro k3 k4))))
  have hR1 := hR.keep k3
  have hR1' := hR'.keep k3
  clear k1 k2 k2' k3 k4 hR hR'
  go_enter Tryd.func70, Tryd.ntmps70
  go_wp2_with fail
  generalize ((w.alloc (.cells #[.slice p l.length c, .int .i64 n] 91)).alloc (.cells #[.slice p' l'.length c', .int .i64 n'] 91)).alloc (.cells #[.slice none 0 0, .int .i64 0] 91) = w1 at *
  refine (validp_any l n q p c hl _ hR1).mono ?_
  rintro e wa ⟨rfl, hga⟩
  have A0 := Lib.hid (kept_row H0.out.1 hga (by simp))
  have B0 := Lib.hid (kept_row H0.out.2.1 hga (by simp))
  have C0 := Lib.hid (kept_row H0.out.2.2.1 hga (by simp))
  have GA := Lib.hid (grown_trans H0.out.2.2.2.1 hga)
  have ZA : Hid (w.heap.size + 3 ≤ wa.heap.size) := Lib.hid (by rw [← H0.out.2.2.2.2]; exact hga.size)
  have hRa := hR1.keep hga
  have hRa' := hR1'.keep hga
  clear hga hR1 hR1' H0
  by_cases hv : vs l n = true
  · obtain ⟨N, rfl⟩ := vs_nat hv
    obtain ⟨hN, hlen⟩ := vs_bits hv
    rw [hv]
    obtain ⟨c0, c1⟩ := row_cells A0.out
    obtain ⟨d0, d1⟩ := row_cells B0.out
    have HV := Lib.hid hv
    have HL := Lib.hid hlen
    clear hv hlen
    go_wp2_with fail
    refine (validp_any l' n' q p' c' hl' _ hRa').mono ?_
    rintro e w2 ⟨rfl, hg⟩
    have A2 := Lib.hid (kept_row A0.out hg (by simp))
    have B2 := Lib.hid (kept_row B0.out hg (by simp))
    have HRES := Lib.hid (kept_row C0.out hg (by simp))
    have HG := Lib.hid (grown_trans GA.out hg)
    have HSZ : Hid (w.heap.size + 3 ≤ w2.heap.size) := Lib.hid (Nat.le_trans ZA.out hg.size)
    have hR2 := hRa.keep hg
    have hR2' := hRa'.keep hg
    clear c0 c1 d0 d1 A0 B0 C0 GA ZA hRa hRa' hg
    obtain ⟨c0, c1⟩ := row_cells A2.out
    obtain ⟨d0, d1⟩ := row_cells B2.out
    obtain ⟨r0, r1⟩ := row_cells HRES.out
    have g0 := frozen_of_row _ _ 0 _ _ HRES.out
    have g1 := frozen_of_row _ _ 1 _ _ HRES.out
    by_cases hv' : vs l' n' = true
    · obtain ⟨N', rfl⟩ := vs_nat hv'
      obtain ⟨hN', hlen'⟩ := vs_bits hv'
      rw [hv']
      obtain ⟨T, hT⟩ : ∃ T : Nat, N + N' = T := ⟨_, rfl⟩
      have hTi : (N : Int) + (N' : Int) = (T : Int) := by omega
      by_cases h4 : 8192 < T
      · have V := Lib.hid (jnV_limit HV.out hv' (by omega))
        clear hv' hlen'
        go_wp2_with fail
        refine bodyPost_ret (res_stream_err rfl _ _ (w.heap.size + 2) _ _ rfl (store2 HRES.out)) rfl ?_
        exact SPost.of V.out (err_end HG.out (by omega))
      · have V := Lib.hid (jnV_ok HV.out hv' hT h4)
        have hT8 : T ≤ 8192 := by omega
        have C := zeros_any T (by omega) w2
        unfold ZerosPost at C
        generalize hM : (T + 7) / 8 = M at C
        have H1 := Lib.hid C
        have HM := Lib.hid hM
        have HT := Lib.hid hT
        have HL' := Lib.hid hlen'
        clear hv' hlen' C hM hT
        go_wp2_with fail
        refine H1.out.mono ?_
        rintro e w3 ⟨g, rfl, hgg, hB3, hg3⟩
        have hrow := kept_row A2.out hg3 (by simp)
        have hrow' := kept_row B2.out hg3 (by simp)
        have hres := kept_row HRES.out hg3 (by simp)
        clear c0 c1 d0 d1 r0 r1 g0 g1
        obtain ⟨c0, c1⟩ := row_cells hrow
        obtain ⟨d0, d1⟩ := row_cells hrow'
        have hqg : ¬ q g := fun h => by have := hq g h; have := HG.out.size; omega
        have hqg2 : ∀ b, q b → some b ≠ some g := fun b hb e => hqg (by rw [← Option.some.inj e]; exact hb)
        have HQ2 := Lib.hid hqg2
        have M4 := Lib.hid (made_of (W := w) (M := M) (T := (T : Int)) hB3 (by have := HG.out.size; omega) (grown_trans HG.out hg3))
        have HR4 := Lib.hid ((hR2.keep hg3).keep (World.grownBy_alloc w3 (.cells #[.slice (some ⟨g, 0, none⟩) M M, .int .i64 (T : Int)] 91) none))
        have HR4' := Lib.hid ((hR2'.keep hg3).keep (World.grownBy_alloc w3 (.cells #[.slice (some ⟨g, 0, none⟩) M M, .int .i64 (T : Int)] 91) none))
        have n1 : ¬ w.heap.size = w3.heap.size := by have := HSZ.out; have := hg3.size; omega
        have n2 : w.heap.size ≠ w3.heap.size := n1
        have n3 : w.heap.size < w3.heap.size := by have := HSZ.out; have := hg3.size; omega
        have hgw : w.heap.size + 3 ≤ g := by have := HSZ.out; omega
        have HRES3 := Lib.hid (kept_row hres (World.grownBy_alloc w3 (.cells #[.slice (some ⟨g, 0, none⟩) M M, .int .i64 (T : Int)] 91) none) (by simp))
        have HROW3 := Lib.hid (kept_row hrow (World.grownBy_alloc w3 (.cells #[.slice (some ⟨g, 0, none⟩) M M, .int .i64 (T : Int)] 91) none) (by simp))
        have HROW3' := Lib.hid (kept_row hrow' (World.grownBy_alloc w3 (.cells #[.slice (some ⟨g, 0, none⟩) M M, .int .i64 (T : Int)] 91) none) (by simp))
        clear hB3 hrow hrow' hres H1 hR2 hR2' hqg2
        go_wp2_with (first
          | (refine wpList_copy_into rfl _ _ rfl g M M rfl p l.length c rfl (List.replicate M 0) M4.out.blk (by simp) l rfl q HR4.out (by have := HM.out; have := HL.out; have := HT.out; omega) ?_; intro w5 hB5 hg5; rw [pz_copy (f := jnf l N l') hl HV.out (by have := HM.out; have := HL.out; have := HT.out; omega) jnf_low] at hB5; have M5 := Lib.hid (M4.out.next hg5 hB5); have HR5 := Lib.hid (kept_row HRES3.out hg5 (by intro e; have := Option.some.inj e; omega)); have RD5 := Lib.hid (HR4'.out.grown hg5 HQ2.out); obtain ⟨d0, d1⟩ := row_cells (kept_row HROW3.out hg5 (by intro e; have := Option.some.inj e; omega)); obtain ⟨x0, x1⟩ := row_cells (kept_row HROW3'.out hg5 (by intro e; have := Option.some.inj e; omega)); obtain ⟨e0, e1⟩ := row_cells M5.out.row; clear hB5 hg5)
          | (go_at_call 114; refine (move_any (jnf l N l') M g M N 0 N' l' q p' c' (by have := HM.out; omega) (by have := HM.out; have := HT.out; omega) hl' (by have := HL'.out; omega) (by have := HL'.out; omega) jnf_high _ M5.out.blk RD5.out hqg).mono ?_; rintro e w6 ⟨rfl, hw6⟩; have M6 := Lib.hid (M5.out.next hw6.2 hw6.1); have HR6 := Lib.hid (kept_row HR5.out hw6.2 (by intro e; have := Option.some.inj e; omega)); obtain ⟨f0, f1⟩ := row_cells M6.out.row; obtain ⟨r0, r1⟩ := row_cells HR6.out; have g0 := frozen_of_row _ _ 0 _ _ HR6.out; have g1 := frozen_of_row _ _ 1 _ _ HR6.out; clear hw6))
        refine bodyPost_ret (res_stream_err rfl _ _ (w.heap.size + 2) _ _ rfl (store2 HR6.out)) rfl ?_
        refine SPost.of V.out ?_
        rw [HM.out]
        have M6' := M6.out
        rw [HT.out] at M6'
        exact ok_end M6'.blk (by rw [pz_len]) (pz_lt _ _ _) M6'.lo M6'.gr (by omega) (by omega)
    · have hv0 : vs l' n' = false := by simpa using hv'
      have V := Lib.hid (jnV_inv2 HV.out hv0)
      rw [hv0]
      clear hv'
      go_wp2_with fail
      refine bodyPost_ret (res_stream_err rfl _ _ (w.heap.size + 2) _ _ rfl (store2 HRES.out)) rfl ?_
      exact SPost.of V.out (err_end HG.out (by omega))
  · have hv0 : vs l n = false := by simpa using hv
    have V := Lib.hid (jnV_inv (l' := l') (n' := n') hv0)
    rw [hv0]
    obtain ⟨r0, r1⟩ := row_cells C0.out
    have g0 := frozen_of_row _ _ 0 _ _ C0.out
    have g1 := frozen_of_row _ _ 1 _ _ C0.out
    clear hv
    go_wp2_with fail
    refine bodyPost_ret (res_stream_err rfl _ _ (w.heap.size + 2) _ _ rfl (store2 C0.out)) rfl ?_
    exact SPost.of V.out (err_end GA.out (by omega))
end Go.Proofs.YtnfgkakhdgiepaaDoor
