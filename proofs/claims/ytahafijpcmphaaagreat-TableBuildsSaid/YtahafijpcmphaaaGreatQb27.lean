/- Parts of the proof, packed: TaSmR. -/
import Derived.Test.YtahafijpcmphaaaGreatQb26
/- tables, the reference's functions: Same. -/
namespace Go.Proofs.YtahafijpcmphaaaGreat
open Go.RowKit Bs
set_option maxRecDepth 100000 in
set_option maxHeartbeats 6400000 in
theorem rSame_any (r s n : Int) (p : Option Addr) (c : Nat) (L : List Rw) (r2 s2 n2 : Int) (p2 : Option Addr) (c2 : Nat) (M : List Rw) (q1 q2 : Nat → Prop) (w : World) (h1 : RdW w q1 p c L) (h2 : RdW w q2 p2 c2 M) (hm : L.length ≤ 9223372036854775807) (hm2 : M.length ≤ 9223372036854775807) :
    Calls Tryz.prog 16 #[.agg #[.int .i64 r, .int .i64 s, .int .i64 n, .slice p L.length c], .agg #[.int .i64 r2, .int .i64 s2, .int .i64 n2, .slice p2 M.length c2]] w fun e w' => e = .returned (.bool (smT r s n L r2 s2 n2 M)) ∧ w.grownBy w' none := by
  have H := Lib.hid (b2t_start r s n r2 s2 n2 h1 h2)
  clear h1 h2
  obtain ⟨z, hz⟩ : ∃ z, smT r s n L r2 s2 n2 M = z := ⟨_, rfl⟩
  rw [hz]
  have HZ := Lib.hid hz
  clear hz
  go_enter Tryz.func16, Tryz.ntmps16
  go_upto_region 1 with fail
  generalize (w.alloc _).alloc _ = w1 at *
  obtain ⟨a0, a1, a2, a3⟩ := row4T H.out.b1
  obtain ⟨d0, d1, d2, d3⟩ := row4T H.out.b2
  by_cases er : r = r2
  case neg =>
    have er' : (r != r2) = true := by simpa using er
    have HF : Hid (z = false) := Lib.hid (by rw [← HZ.out]; exact decide_eq_false (fun h => er h.1))
    clear er
    go_wp2_with fail
    go_ret
    exact ⟨by rw [HF.out]; rfl, H.out.gr⟩
  subst er
  by_cases es : s = s2
  case neg =>
    have es' : (s != s2) = true := by simpa using es
    have HF : Hid (z = false) := Lib.hid (by rw [← HZ.out]; exact decide_eq_false (fun h => es h.2.1))
    clear es
    go_wp2_with fail
    go_ret
    exact ⟨by rw [HF.out]; rfl, H.out.gr⟩
  subst es
  by_cases en : n = n2
  case neg =>
    have en' : (n != n2) = true := by simpa using en
    have HF : Hid (z = false) := Lib.hid (by rw [← HZ.out]; exact decide_eq_false (fun h => en h.2.2.1))
    clear en
    go_wp2_with fail
    go_ret
    exact ⟨by rw [HF.out]; rfl, H.out.gr⟩
  subst en
  by_cases el : L.length = M.length
  case neg =>
    have el' : ((L.length : Int) != (M.length : Int)) = true := by rw [bne_iff_ne]; omega
    have HF : Hid (z = false) := Lib.hid (by rw [← HZ.out]; exact decide_eq_false (fun h => rw0_ne el h.2.2.2))
    clear el
    go_wp2_with fail
    go_ret
    exact ⟨by rw [HF.out]; rfl, H.out.gr⟩
  have HE : Hid (decide (L.map rw0 = M.map rw0) = z) := Lib.hid (by rw [← HZ.out]; unfold smT; rw [decide_eq_decide]; simp)
  have el' : ((L.length : Int) != (M.length : Int)) = false := by rw [el]; simp
  have HL := Lib.hid el
  clear el hm2 HZ
  go_upto_region 3 with fail
  clear el' a0 a1 a2 a3 d0 d1 d2 d3
  go_wp2_with fail
  go_loopw [5] (fun v wr => ∃ k : Nat, k ≤ L.length ∧ v = .int .i64 (k : Int) ∧ Hid ((L.map rw0).take k = (M.map rw0).take k) ∧ Hid (B2T w r s n p c L r s n p2 c2 M q1 q2 wr)) (fun v _ => L.length - (RowKit.intOf v).toNat)
  case atStart => exact ⟨0, Nat.zero_le _, rfl, Lib.hid rfl, H⟩
  case round =>
  clear H
  obtain ⟨k, hk, rfl, HT, K⟩ := hrel
  obtain ⟨w5, hw5⟩ : ∃ w5, w5 = wr := ⟨_, rfl⟩
  rw [← hw5] at K ⊢
  clear hw5
  obtain ⟨a0, a1, a2, a3⟩ := row4T K.out.b1
  by_cases hlt : k < L.length
  case neg =>
    obtain rfl : k = L.length := by omega
    have HF : Hid (z = true) := Lib.hid (by rw [← HE.out]; exact decide_eq_true (rw0_end HT.out HL.out))
    have hnl : ¬ (L.length : Int) < (L.length : Int) := by omega
    go_wp2_with fail
    go_ret
    exact ⟨by rw [HF.out]; rfl, K.out.gr⟩
  have hlt' : (k : Int) < (L.length : Int) := by omega
  have hltM : (k : Int) < (M.length : Int) := by have := HL.out; omega
  have hk0 : (0 : Int) ≤ (k : Int) := by omega
  obtain ⟨x, hx⟩ : ∃ x, L[k]? = some x := ⟨_, List.getElem?_eq_getElem hlt⟩
  obtain ⟨y, hy⟩ : ∃ y, M[k]? = some y := ⟨_, List.getElem?_eq_getElem (by have := HL.out; omega)⟩
  obtain ⟨-, b1, o1, rfl, -, hc1⟩ := rw_cells K.out.r1.rd (by omega)
  obtain ⟨-, b2, o2, rfl, -, hc2⟩ := rw_cells K.out.r2.rd (by have := HL.out; omega)
  have HA := Lib.hid (And.intro (hc1 k x hx) (hc2 k y hy))
  have HXY := Lib.hid (And.intro hx hy)
  have HOK := Lib.hid (And.intro (K.out.r1.ok x (List.mem_of_getElem? hx)) (K.out.r2.ok y (List.mem_of_getElem? hy)))
  clear hc1 hc2 hx hy
  go_upto_region 6 with fail
  clear a0 a1 a2 a3
  by_cases e : x.id = y.id
  case neg =>
    have e' : (x.id != y.id) = true := by simpa using e
    have HF : Hid (z = false) := Lib.hid (by rw [← HE.out]; exact decide_eq_false (tk_ne (rw0_get HXY.out.1) (rw0_get HXY.out.2) (fun h => e (rw0_iff.1 h).1)))
    clear e
    refine wp_region_held_drew (S := fun w' => Hid (w5.grownBy w' none)) (by kernel_rfl) (Lib.hid (grown_drew (grown_refl _ none))) (fun hHeld => ?_)
    refine wpAnyH_take (i := 0) (oi := { dst := some 41, op := Op.fieldAddr 25 (Operand.tmp 2) 3, type := 0, pos := "ref.go:87", after := #[], guard := none }) (v := ?_) rfl (by kernel_rfl) (by kernel_rfl) (by kernel_rfl) (fun _ _ _ h => h) (Or.inl ⟨by rfl, ?_⟩) hHeld ?_
    rotate_left 1
    · intro u hSu
      obtain ⟨a0u, a1u, a2u, a3u⟩ := row4T (kept_row K.out.b1 hSu.out (by simp))
      obtain ⟨d0u, d1u, d2u, d3u⟩ := row4T (kept_row K.out.b2 hSu.out (by simp))
      have m0u := hSu.out.cell HA.out.1.1 (by simp)
      have m1u := hSu.out.cell HA.out.1.2 (by simp)
      have n0u := hSu.out.cell HA.out.2.1 (by simp)
      have n1u := hSu.out.cell HA.out.2.2 (by simp)
      go_simp
      first | done | with_reducible rfl
    (try simp only [Act.put, List.setIfInBounds_toArray, List.set_cons_zero, List.set_cons_succ])
    refine wpAnyH_take (i := 1) (oi := { dst := some 42, op := Op.load 23 (Operand.tmp 41), type := 23, pos := "ref.go:87", after := #[{ on := 0, ground := Ground.data }], guard := none }) (v := ?_) rfl (by kernel_rfl) (by kernel_rfl) (by kernel_rfl) (fun _ _ _ h => h) (Or.inl ⟨by rfl, ?_⟩) hHeld ?_
    rotate_left 1
    · intro u hSu
      obtain ⟨a0u, a1u, a2u, a3u⟩ := row4T (kept_row K.out.b1 hSu.out (by simp))
      obtain ⟨d0u, d1u, d2u, d3u⟩ := row4T (kept_row K.out.b2 hSu.out (by simp))
      have m0u := hSu.out.cell HA.out.1.1 (by simp)
      have m1u := hSu.out.cell HA.out.1.2 (by simp)
      have n0u := hSu.out.cell HA.out.2.1 (by simp)
      have n1u := hSu.out.cell HA.out.2.2 (by simp)
      go_simp
      first | done | with_reducible rfl
    (try simp only [Act.put, List.setIfInBounds_toArray, List.set_cons_zero, List.set_cons_succ])
    refine wpAnyH_take (i := 2) (oi := { dst := some 43, op := Op.move (Operand.tmp 5), type := 3, pos := "ref.go:87", after := #[], guard := none }) (v := ?_) rfl (by kernel_rfl) (by kernel_rfl) (by kernel_rfl) (fun _ _ _ h => h) (Or.inl ⟨by rfl, ?_⟩) hHeld ?_
    rotate_left 1
    · intro u hSu
      obtain ⟨a0u, a1u, a2u, a3u⟩ := row4T (kept_row K.out.b1 hSu.out (by simp))
      obtain ⟨d0u, d1u, d2u, d3u⟩ := row4T (kept_row K.out.b2 hSu.out (by simp))
      have m0u := hSu.out.cell HA.out.1.1 (by simp)
      have m1u := hSu.out.cell HA.out.1.2 (by simp)
      have n0u := hSu.out.cell HA.out.2.1 (by simp)
      have n1u := hSu.out.cell HA.out.2.2 (by simp)
      go_simp
      first | done | with_reducible rfl
    (try simp only [Act.put, List.setIfInBounds_toArray, List.set_cons_zero, List.set_cons_succ])
    refine wpAnyH_take (i := 3) (oi := { dst := some 44, op := Op.indexAddr 23 (Operand.tmp 42) (Operand.tmp 43), type := 0, pos := "ref.go:87", after := #[{ on := 1, ground := Ground.data }, { on := 2, ground := Ground.data }], guard := none }) (v := ?_) rfl (by kernel_rfl) (by kernel_rfl) (by kernel_rfl) (fun _ _ _ h => h) (Or.inl ⟨by rfl, ?_⟩) hHeld ?_
    rotate_left 1
    · intro u hSu
      obtain ⟨a0u, a1u, a2u, a3u⟩ := row4T (kept_row K.out.b1 hSu.out (by simp))
      obtain ⟨d0u, d1u, d2u, d3u⟩ := row4T (kept_row K.out.b2 hSu.out (by simp))
      have m0u := hSu.out.cell HA.out.1.1 (by simp)
      have m1u := hSu.out.cell HA.out.1.2 (by simp)
      have n0u := hSu.out.cell HA.out.2.1 (by simp)
      have n1u := hSu.out.cell HA.out.2.2 (by simp)
      go_simp
      first | done | with_reducible rfl
    (try simp only [Act.put, List.setIfInBounds_toArray, List.set_cons_zero, List.set_cons_succ])
    refine wpAnyH_take (i := 4) (oi := { dst := some 45, op := Op.fieldAddr 36 (Operand.tmp 44) 0, type := 0, pos := "ref.go:87", after := #[{ on := 3, ground := Ground.data }], guard := none }) (v := ?_) rfl (by kernel_rfl) (by kernel_rfl) (by kernel_rfl) (fun _ _ _ h => h) (Or.inl ⟨by rfl, ?_⟩) hHeld ?_
    rotate_left 1
    · intro u hSu
      obtain ⟨a0u, a1u, a2u, a3u⟩ := row4T (kept_row K.out.b1 hSu.out (by simp))
      obtain ⟨d0u, d1u, d2u, d3u⟩ := row4T (kept_row K.out.b2 hSu.out (by simp))
      have m0u := hSu.out.cell HA.out.1.1 (by simp)
      have m1u := hSu.out.cell HA.out.1.2 (by simp)
      have n0u := hSu.out.cell HA.out.2.1 (by simp)
      have n1u := hSu.out.cell HA.out.2.2 (by simp)
      go_simp
      first | done | with_reducible rfl
    (try simp only [Act.put, List.setIfInBounds_toArray, List.set_cons_zero, List.set_cons_succ])
    refine wpAnyH_take (i := 5) (oi := { dst := some 46, op := Op.load 3 (Operand.tmp 45), type := 3, pos := "ref.go:87", after := #[{ on := 4, ground := Ground.data }], guard := none }) (v := ?_) rfl (by kernel_rfl) (by kernel_rfl) (by kernel_rfl) (fun _ _ _ h => h) (Or.inl ⟨by rfl, ?_⟩) hHeld ?_
    rotate_left 1
    · intro u hSu
      obtain ⟨a0u, a1u, a2u, a3u⟩ := row4T (kept_row K.out.b1 hSu.out (by simp))
      obtain ⟨d0u, d1u, d2u, d3u⟩ := row4T (kept_row K.out.b2 hSu.out (by simp))
      have m0u := hSu.out.cell HA.out.1.1 (by simp)
      have m1u := hSu.out.cell HA.out.1.2 (by simp)
      have n0u := hSu.out.cell HA.out.2.1 (by simp)
      have n1u := hSu.out.cell HA.out.2.2 (by simp)
      go_simp
      first | done | with_reducible rfl
    (try simp only [Act.put, List.setIfInBounds_toArray, List.set_cons_zero, List.set_cons_succ])
    refine wpAnyH_take (i := 6) (oi := { dst := some 47, op := Op.fieldAddr 25 (Operand.tmp 3) 3, type := 0, pos := "ref.go:87", after := #[], guard := none }) (v := ?_) rfl (by kernel_rfl) (by kernel_rfl) (by kernel_rfl) (fun _ _ _ h => h) (Or.inl ⟨by rfl, ?_⟩) hHeld ?_
    rotate_left 1
    · intro u hSu
      obtain ⟨a0u, a1u, a2u, a3u⟩ := row4T (kept_row K.out.b1 hSu.out (by simp))
      obtain ⟨d0u, d1u, d2u, d3u⟩ := row4T (kept_row K.out.b2 hSu.out (by simp))
      have m0u := hSu.out.cell HA.out.1.1 (by simp)
      have m1u := hSu.out.cell HA.out.1.2 (by simp)
      have n0u := hSu.out.cell HA.out.2.1 (by simp)
      have n1u := hSu.out.cell HA.out.2.2 (by simp)
      go_simp
      first | done | with_reducible rfl
    (try simp only [Act.put, List.setIfInBounds_toArray, List.set_cons_zero, List.set_cons_succ])
    refine wpAnyH_take (i := 7) (oi := { dst := some 48, op := Op.load 23 (Operand.tmp 47), type := 23, pos := "ref.go:87", after := #[{ on := 6, ground := Ground.data }], guard := none }) (v := ?_) rfl (by kernel_rfl) (by kernel_rfl) (by kernel_rfl) (fun _ _ _ h => h) (Or.inl ⟨by rfl, ?_⟩) hHeld ?_
    rotate_left 1
    · intro u hSu
      obtain ⟨a0u, a1u, a2u, a3u⟩ := row4T (kept_row K.out.b1 hSu.out (by simp))
      obtain ⟨d0u, d1u, d2u, d3u⟩ := row4T (kept_row K.out.b2 hSu.out (by simp))
      have m0u := hSu.out.cell HA.out.1.1 (by simp)
      have m1u := hSu.out.cell HA.out.1.2 (by simp)
      have n0u := hSu.out.cell HA.out.2.1 (by simp)
      have n1u := hSu.out.cell HA.out.2.2 (by simp)
      go_simp
      first | done | with_reducible rfl
    (try simp only [Act.put, List.setIfInBounds_toArray, List.set_cons_zero, List.set_cons_succ])
    refine wpAnyH_take (i := 8) (oi := { dst := some 49, op := Op.move (Operand.tmp 5), type := 3, pos := "ref.go:87", after := #[], guard := none }) (v := ?_) rfl (by kernel_rfl) (by kernel_rfl) (by kernel_rfl) (fun _ _ _ h => h) (Or.inl ⟨by rfl, ?_⟩) hHeld ?_
    rotate_left 1
    · intro u hSu
      obtain ⟨a0u, a1u, a2u, a3u⟩ := row4T (kept_row K.out.b1 hSu.out (by simp))
      obtain ⟨d0u, d1u, d2u, d3u⟩ := row4T (kept_row K.out.b2 hSu.out (by simp))
      have m0u := hSu.out.cell HA.out.1.1 (by simp)
      have m1u := hSu.out.cell HA.out.1.2 (by simp)
      have n0u := hSu.out.cell HA.out.2.1 (by simp)
      have n1u := hSu.out.cell HA.out.2.2 (by simp)
      go_simp
      first | done | with_reducible rfl
    (try simp only [Act.put, List.setIfInBounds_toArray, List.set_cons_zero, List.set_cons_succ])
    refine wpAnyH_take (i := 9) (oi := { dst := some 50, op := Op.indexAddr 23 (Operand.tmp 48) (Operand.tmp 49), type := 0, pos := "ref.go:87", after := #[{ on := 7, ground := Ground.data }, { on := 8, ground := Ground.data }], guard := none }) (v := ?_) rfl (by kernel_rfl) (by kernel_rfl) (by kernel_rfl) (fun _ _ _ h => h) (Or.inl ⟨by rfl, ?_⟩) hHeld ?_
    rotate_left 1
    · intro u hSu
      obtain ⟨a0u, a1u, a2u, a3u⟩ := row4T (kept_row K.out.b1 hSu.out (by simp))
      obtain ⟨d0u, d1u, d2u, d3u⟩ := row4T (kept_row K.out.b2 hSu.out (by simp))
      have m0u := hSu.out.cell HA.out.1.1 (by simp)
      have m1u := hSu.out.cell HA.out.1.2 (by simp)
      have n0u := hSu.out.cell HA.out.2.1 (by simp)
      have n1u := hSu.out.cell HA.out.2.2 (by simp)
      go_simp
      first | done | with_reducible rfl
    (try simp only [Act.put, List.setIfInBounds_toArray, List.set_cons_zero, List.set_cons_succ])
    refine wpAnyH_take (i := 10) (oi := { dst := some 51, op := Op.fieldAddr 36 (Operand.tmp 50) 0, type := 0, pos := "ref.go:87", after := #[{ on := 9, ground := Ground.data }], guard := none }) (v := ?_) rfl (by kernel_rfl) (by kernel_rfl) (by kernel_rfl) (fun _ _ _ h => h) (Or.inl ⟨by rfl, ?_⟩) hHeld ?_
    rotate_left 1
    · intro u hSu
      obtain ⟨a0u, a1u, a2u, a3u⟩ := row4T (kept_row K.out.b1 hSu.out (by simp))
      obtain ⟨d0u, d1u, d2u, d3u⟩ := row4T (kept_row K.out.b2 hSu.out (by simp))
      have m0u := hSu.out.cell HA.out.1.1 (by simp)
      have m1u := hSu.out.cell HA.out.1.2 (by simp)
      have n0u := hSu.out.cell HA.out.2.1 (by simp)
      have n1u := hSu.out.cell HA.out.2.2 (by simp)
      go_simp
      first | done | with_reducible rfl
    (try simp only [Act.put, List.setIfInBounds_toArray, List.set_cons_zero, List.set_cons_succ])
    refine wpAnyH_take (i := 11) (oi := { dst := some 52, op := Op.load 3 (Operand.tmp 51), type := 3, pos := "ref.go:87", after := #[{ on := 10, ground := Ground.data }], guard := none }) (v := ?_) rfl (by kernel_rfl) (by kernel_rfl) (by kernel_rfl) (fun _ _ _ h => h) (Or.inl ⟨by rfl, ?_⟩) hHeld ?_
    rotate_left 1
    · intro u hSu
      obtain ⟨a0u, a1u, a2u, a3u⟩ := row4T (kept_row K.out.b1 hSu.out (by simp))
      obtain ⟨d0u, d1u, d2u, d3u⟩ := row4T (kept_row K.out.b2 hSu.out (by simp))
      have m0u := hSu.out.cell HA.out.1.1 (by simp)
      have m1u := hSu.out.cell HA.out.1.2 (by simp)
      have n0u := hSu.out.cell HA.out.2.1 (by simp)
      have n1u := hSu.out.cell HA.out.2.2 (by simp)
      go_simp
      first | done | with_reducible rfl
    (try simp only [Act.put, List.setIfInBounds_toArray, List.set_cons_zero, List.set_cons_succ])
    refine wpAnyH_take (i := 12) (oi := { dst := some 53, op := Op.binOp BinOp.neq 3 (Operand.tmp 46) (Operand.tmp 52) 3, type := 4, pos := "ref.go:87", after := #[{ on := 5, ground := Ground.data }, { on := 11, ground := Ground.data }], guard := none }) (v := .bool true) rfl (by kernel_rfl) (by kernel_rfl) (by kernel_rfl) (fun _ _ _ h => h) (Or.inl ⟨by rfl, ?_⟩) hHeld ?_
    · intro u hSu
      obtain ⟨a0u, a1u, a2u, a3u⟩ := row4T (kept_row K.out.b1 hSu.out (by simp))
      obtain ⟨d0u, d1u, d2u, d3u⟩ := row4T (kept_row K.out.b2 hSu.out (by simp))
      have m0u := hSu.out.cell HA.out.1.1 (by simp)
      have m1u := hSu.out.cell HA.out.1.2 (by simp)
      have n0u := hSu.out.cell HA.out.2.1 (by simp)
      have n1u := hSu.out.cell HA.out.2.2 (by simp)
      go_simp
      first | done | with_reducible rfl
    (try simp only [Act.put, List.setIfInBounds_toArray, List.set_cons_zero, List.set_cons_succ])
    refine wpAnyH_take (i := 13) (oi := { dst := some 54, op := Op.move (Operand.tmp 53), type := 4, pos := "ref.go:87", after := #[{ on := 12, ground := Ground.data }], guard := none }) (v := ?_) rfl (by kernel_rfl) (by kernel_rfl) (by kernel_rfl) (fun _ _ _ h => h) (Or.inl ⟨by rfl, ?_⟩) hHeld ?_
    rotate_left 1
    · intro u hSu
      obtain ⟨a0u, a1u, a2u, a3u⟩ := row4T (kept_row K.out.b1 hSu.out (by simp))
      obtain ⟨d0u, d1u, d2u, d3u⟩ := row4T (kept_row K.out.b2 hSu.out (by simp))
      have m0u := hSu.out.cell HA.out.1.1 (by simp)
      have m1u := hSu.out.cell HA.out.1.2 (by simp)
      have n0u := hSu.out.cell HA.out.2.1 (by simp)
      have n1u := hSu.out.cell HA.out.2.2 (by simp)
      go_simp
      first | done | with_reducible rfl
    (try simp only [Act.put, List.setIfInBounds_toArray, List.set_cons_zero, List.set_cons_succ])
    refine wpAnyH_take (i := 14) (oi := { dst := some 55, op := Op.fieldAddr 25 (Operand.tmp 2) 3, type := 0, pos := "ref.go:87", after := #[{ on := 13, ground := Ground.guard }], guard := some (13, false) }) (v := undef) rfl (by kernel_rfl) (by kernel_rfl) (by kernel_rfl) (fun _ _ _ h => h) (Or.inr ⟨by rfl, rfl⟩) hHeld ?_
    (try simp only [Act.put, List.setIfInBounds_toArray, List.set_cons_zero, List.set_cons_succ])
    refine wpAnyH_take (i := 15) (oi := { dst := some 56, op := Op.load 23 (Operand.tmp 55), type := 23, pos := "ref.go:87", after := #[{ on := 14, ground := Ground.data }, { on := 13, ground := Ground.guard }], guard := some (13, false) }) (v := undef) rfl (by kernel_rfl) (by kernel_rfl) (by kernel_rfl) (fun _ _ _ h => h) (Or.inr ⟨by rfl, rfl⟩) hHeld ?_
    (try simp only [Act.put, List.setIfInBounds_toArray, List.set_cons_zero, List.set_cons_succ])
    refine wpAnyH_take (i := 16) (oi := { dst := some 57, op := Op.move (Operand.tmp 5), type := 3, pos := "ref.go:87", after := #[{ on := 13, ground := Ground.guard }], guard := some (13, false) }) (v := undef) rfl (by kernel_rfl) (by kernel_rfl) (by kernel_rfl) (fun _ _ _ h => h) (Or.inr ⟨by rfl, rfl⟩) hHeld ?_
    (try simp only [Act.put, List.setIfInBounds_toArray, List.set_cons_zero, List.set_cons_succ])
    refine wpAnyH_take (i := 17) (oi := { dst := some 58, op := Op.indexAddr 23 (Operand.tmp 56) (Operand.tmp 57), type := 0, pos := "ref.go:87", after := #[{ on := 15, ground := Ground.data }, { on := 16, ground := Ground.data }, { on := 13, ground := Ground.guard }], guard := some (13, false) }) (v := undef) rfl (by kernel_rfl) (by kernel_rfl) (by kernel_rfl) (fun _ _ _ h => h) (Or.inr ⟨by rfl, rfl⟩) hHeld ?_
    (try simp only [Act.put, List.setIfInBounds_toArray, List.set_cons_zero, List.set_cons_succ])
    refine wpAnyH_take (i := 18) (oi := { dst := some 59, op := Op.fieldAddr 36 (Operand.tmp 58) 1, type := 0, pos := "ref.go:87", after := #[{ on := 17, ground := Ground.data }, { on := 13, ground := Ground.guard }], guard := some (13, false) }) (v := undef) rfl (by kernel_rfl) (by kernel_rfl) (by kernel_rfl) (fun _ _ _ h => h) (Or.inr ⟨by rfl, rfl⟩) hHeld ?_
    (try simp only [Act.put, List.setIfInBounds_toArray, List.set_cons_zero, List.set_cons_succ])
    refine wpAnyH_take (i := 19) (oi := { dst := some 60, op := Op.load 22 (Operand.tmp 59), type := 22, pos := "ref.go:87", after := #[{ on := 18, ground := Ground.data }, { on := 13, ground := Ground.guard }], guard := some (13, false) }) (v := undef) rfl (by kernel_rfl) (by kernel_rfl) (by kernel_rfl) (fun _ _ _ h => h) (Or.inr ⟨by rfl, rfl⟩) hHeld ?_
    (try simp only [Act.put, List.setIfInBounds_toArray, List.set_cons_zero, List.set_cons_succ])
    refine wpAnyH_take (i := 20) (oi := { dst := some 61, op := Op.fieldAddr 25 (Operand.tmp 3) 3, type := 0, pos := "ref.go:87", after := #[{ on := 13, ground := Ground.guard }], guard := some (13, false) }) (v := undef) rfl (by kernel_rfl) (by kernel_rfl) (by kernel_rfl) (fun _ _ _ h => h) (Or.inr ⟨by rfl, rfl⟩) hHeld ?_
    (try simp only [Act.put, List.setIfInBounds_toArray, List.set_cons_zero, List.set_cons_succ])
    refine wpAnyH_take (i := 21) (oi := { dst := some 62, op := Op.load 23 (Operand.tmp 61), type := 23, pos := "ref.go:87", after := #[{ on := 20, ground := Ground.data }, { on := 13, ground := Ground.guard }], guard := some (13, false) }) (v := undef) rfl (by kernel_rfl) (by kernel_rfl) (by kernel_rfl) (fun _ _ _ h => h) (Or.inr ⟨by rfl, rfl⟩) hHeld ?_
    (try simp only [Act.put, List.setIfInBounds_toArray, List.set_cons_zero, List.set_cons_succ])
    refine wpAnyH_take (i := 22) (oi := { dst := some 63, op := Op.move (Operand.tmp 5), type := 3, pos := "ref.go:87", after := #[{ on := 13, ground := Ground.guard }], guard := some (13, false) }) (v := undef) rfl (by kernel_rfl) (by kernel_rfl) (by kernel_rfl) (fun _ _ _ h => h) (Or.inr ⟨by rfl, rfl⟩) hHeld ?_
    (try simp only [Act.put, List.setIfInBounds_toArray, List.set_cons_zero, List.set_cons_succ])
    refine wpAnyH_take (i := 23) (oi := { dst := some 64, op := Op.indexAddr 23 (Operand.tmp 62) (Operand.tmp 63), type := 0, pos := "ref.go:87", after := #[{ on := 21, ground := Ground.data }, { on := 22, ground := Ground.data }, { on := 13, ground := Ground.guard }], guard := some (13, false) }) (v := undef) rfl (by kernel_rfl) (by kernel_rfl) (by kernel_rfl) (fun _ _ _ h => h) (Or.inr ⟨by rfl, rfl⟩) hHeld ?_
    (try simp only [Act.put, List.setIfInBounds_toArray, List.set_cons_zero, List.set_cons_succ])
    refine wpAnyH_take (i := 24) (oi := { dst := some 65, op := Op.fieldAddr 36 (Operand.tmp 64) 1, type := 0, pos := "ref.go:87", after := #[{ on := 23, ground := Ground.data }, { on := 13, ground := Ground.guard }], guard := some (13, false) }) (v := undef) rfl (by kernel_rfl) (by kernel_rfl) (by kernel_rfl) (fun _ _ _ h => h) (Or.inr ⟨by rfl, rfl⟩) hHeld ?_
    (try simp only [Act.put, List.setIfInBounds_toArray, List.set_cons_zero, List.set_cons_succ])
    refine wpAnyH_take (i := 25) (oi := { dst := some 66, op := Op.load 22 (Operand.tmp 65), type := 22, pos := "ref.go:87", after := #[{ on := 24, ground := Ground.data }, { on := 13, ground := Ground.guard }], guard := some (13, false) }) (v := undef) rfl (by kernel_rfl) (by kernel_rfl) (by kernel_rfl) (fun _ _ _ h => h) (Or.inr ⟨by rfl, rfl⟩) hHeld ?_
    (try simp only [Act.put, List.setIfInBounds_toArray, List.set_cons_zero, List.set_cons_succ])
    refine wpAnyH_take (i := 26) (oi := { dst := some 67, op := Op.call { callee := Callee.value (Operand.func 20), args := #[Operand.tmp 60, Operand.tmp 66], argTypes := #[22, 22] }, type := 4, pos := "ref.go:87", after := #[{ on := 19, ground := Ground.data }, { on := 25, ground := Ground.data }, { on := 13, ground := Ground.chain }, { on := 13, ground := Ground.guard }], guard := some (13, false) }) (v := undef) rfl (by kernel_rfl) (by kernel_rfl) (by kernel_rfl) (fun _ _ _ h => h) (Or.inr ⟨by rfl, rfl⟩) hHeld ?_
    (try simp only [Act.put, List.setIfInBounds_toArray, List.set_cons_zero, List.set_cons_succ])
    refine wpAnyH_take (i := 27) (oi := { dst := some 68, op := Op.unOp UnOp.not 4 (Operand.tmp 67), type := 4, pos := "ref.go:87", after := #[{ on := 26, ground := Ground.data }, { on := 13, ground := Ground.guard }], guard := some (13, false) }) (v := undef) rfl (by kernel_rfl) (by kernel_rfl) (by kernel_rfl) (fun _ _ _ h => h) (Or.inr ⟨by rfl, rfl⟩) hHeld ?_
    (try simp only [Act.put, List.setIfInBounds_toArray, List.set_cons_zero, List.set_cons_succ])
    refine wpAnyH_take (i := 28) (oi := { dst := some 69, op := Op.pick (Operand.tmp 54) (Operand.const (Value.bool true)) (Operand.tmp 68), type := 4, pos := "ref.go:87", after := #[{ on := 13, ground := Ground.data }, { on := 27, ground := Ground.data }], guard := none }) (v := ?_) rfl (by kernel_rfl) (by kernel_rfl) (by kernel_rfl) (fun _ _ _ h => h) (Or.inl ⟨by rfl, ?_⟩) hHeld ?_
    rotate_left 1
    · intro u hSu
      obtain ⟨a0u, a1u, a2u, a3u⟩ := row4T (kept_row K.out.b1 hSu.out (by simp))
      obtain ⟨d0u, d1u, d2u, d3u⟩ := row4T (kept_row K.out.b2 hSu.out (by simp))
      have m0u := hSu.out.cell HA.out.1.1 (by simp)
      have m1u := hSu.out.cell HA.out.1.2 (by simp)
      have n0u := hSu.out.cell HA.out.2.1 (by simp)
      have n1u := hSu.out.cell HA.out.2.2 (by simp)
      go_simp
      first | done | with_reducible rfl
    (try simp only [Act.put, List.setIfInBounds_toArray, List.set_cons_zero, List.set_cons_succ])
    refine wpAnyH_done (by kernel_rfl) ?_ _
    have G := Lib.hid (grown_trans K.out.gr hHeld.out)
    clear hHeld
    go_wp2_with fail
    go_ret
    exact ⟨by rw [HF.out]; rfl, G.out⟩
  have e' : (x.id != y.id) = false := by simpa using e
  have HV : Hid (decide (x.nx = y.nx) = decide (rw0 x = rw0 y)) := Lib.hid (by rw [decide_eq_decide, rw0_iff]; simp [e])
  clear e
  refine wp_region_held_drew (S := fun w' => Hid (w5.grownBy w' none)) (by kernel_rfl) (Lib.hid (grown_drew (grown_refl _ none))) (fun hHeld => ?_)
  refine wpAnyH_take (i := 0) (oi := { dst := some 41, op := Op.fieldAddr 25 (Operand.tmp 2) 3, type := 0, pos := "ref.go:87", after := #[], guard := none }) (v := ?_) rfl (by kernel_rfl) (by kernel_rfl) (by kernel_rfl) (fun _ _ _ h => h) (Or.inl ⟨by rfl, ?_⟩) hHeld ?_
  rotate_left 1
  · intro u hSu
    obtain ⟨a0u, a1u, a2u, a3u⟩ := row4T (kept_row K.out.b1 hSu.out (by simp))
    obtain ⟨d0u, d1u, d2u, d3u⟩ := row4T (kept_row K.out.b2 hSu.out (by simp))
    have m0u := hSu.out.cell HA.out.1.1 (by simp)
    have m1u := hSu.out.cell HA.out.1.2 (by simp)
    have n0u := hSu.out.cell HA.out.2.1 (by simp)
    have n1u := hSu.out.cell HA.out.2.2 (by simp)
    go_simp
    first | done | with_reducible rfl
  (try simp only [Act.put, List.setIfInBounds_toArray, List.set_cons_zero, List.set_cons_succ])
  refine wpAnyH_take (i := 1) (oi := { dst := some 42, op := Op.load 23 (Operand.tmp 41), type := 23, pos := "ref.go:87", after := #[{ on := 0, ground := Ground.data }], guard := none }) (v := ?_) rfl (by kernel_rfl) (by kernel_rfl) (by kernel_rfl) (fun _ _ _ h => h) (Or.inl ⟨by rfl, ?_⟩) hHeld ?_
  rotate_left 1
  · intro u hSu
    obtain ⟨a0u, a1u, a2u, a3u⟩ := row4T (kept_row K.out.b1 hSu.out (by simp))
    obtain ⟨d0u, d1u, d2u, d3u⟩ := row4T (kept_row K.out.b2 hSu.out (by simp))
    have m0u := hSu.out.cell HA.out.1.1 (by simp)
    have m1u := hSu.out.cell HA.out.1.2 (by simp)
    have n0u := hSu.out.cell HA.out.2.1 (by simp)
    have n1u := hSu.out.cell HA.out.2.2 (by simp)
    go_simp
    first | done | with_reducible rfl
  (try simp only [Act.put, List.setIfInBounds_toArray, List.set_cons_zero, List.set_cons_succ])
  refine wpAnyH_take (i := 2) (oi := { dst := some 43, op := Op.move (Operand.tmp 5), type := 3, pos := "ref.go:87", after := #[], guard := none }) (v := ?_) rfl (by kernel_rfl) (by kernel_rfl) (by kernel_rfl) (fun _ _ _ h => h) (Or.inl ⟨by rfl, ?_⟩) hHeld ?_
  rotate_left 1
  · intro u hSu
    obtain ⟨a0u, a1u, a2u, a3u⟩ := row4T (kept_row K.out.b1 hSu.out (by simp))
    obtain ⟨d0u, d1u, d2u, d3u⟩ := row4T (kept_row K.out.b2 hSu.out (by simp))
    have m0u := hSu.out.cell HA.out.1.1 (by simp)
    have m1u := hSu.out.cell HA.out.1.2 (by simp)
    have n0u := hSu.out.cell HA.out.2.1 (by simp)
    have n1u := hSu.out.cell HA.out.2.2 (by simp)
    go_simp
    first | done | with_reducible rfl
  (try simp only [Act.put, List.setIfInBounds_toArray, List.set_cons_zero, List.set_cons_succ])
  refine wpAnyH_take (i := 3) (oi := { dst := some 44, op := Op.indexAddr 23 (Operand.tmp 42) (Operand.tmp 43), type := 0, pos := "ref.go:87", after := #[{ on := 1, ground := Ground.data }, { on := 2, ground := Ground.data }], guard := none }) (v := ?_) rfl (by kernel_rfl) (by kernel_rfl) (by kernel_rfl) (fun _ _ _ h => h) (Or.inl ⟨by rfl, ?_⟩) hHeld ?_
  rotate_left 1
  · intro u hSu
    obtain ⟨a0u, a1u, a2u, a3u⟩ := row4T (kept_row K.out.b1 hSu.out (by simp))
    obtain ⟨d0u, d1u, d2u, d3u⟩ := row4T (kept_row K.out.b2 hSu.out (by simp))
    have m0u := hSu.out.cell HA.out.1.1 (by simp)
    have m1u := hSu.out.cell HA.out.1.2 (by simp)
    have n0u := hSu.out.cell HA.out.2.1 (by simp)
    have n1u := hSu.out.cell HA.out.2.2 (by simp)
    go_simp
    first | done | with_reducible rfl
  (try simp only [Act.put, List.setIfInBounds_toArray, List.set_cons_zero, List.set_cons_succ])
  refine wpAnyH_take (i := 4) (oi := { dst := some 45, op := Op.fieldAddr 36 (Operand.tmp 44) 0, type := 0, pos := "ref.go:87", after := #[{ on := 3, ground := Ground.data }], guard := none }) (v := ?_) rfl (by kernel_rfl) (by kernel_rfl) (by kernel_rfl) (fun _ _ _ h => h) (Or.inl ⟨by rfl, ?_⟩) hHeld ?_
  rotate_left 1
  · intro u hSu
    obtain ⟨a0u, a1u, a2u, a3u⟩ := row4T (kept_row K.out.b1 hSu.out (by simp))
    obtain ⟨d0u, d1u, d2u, d3u⟩ := row4T (kept_row K.out.b2 hSu.out (by simp))
    have m0u := hSu.out.cell HA.out.1.1 (by simp)
    have m1u := hSu.out.cell HA.out.1.2 (by simp)
    have n0u := hSu.out.cell HA.out.2.1 (by simp)
    have n1u := hSu.out.cell HA.out.2.2 (by simp)
    go_simp
    first | done | with_reducible rfl
  (try simp only [Act.put, List.setIfInBounds_toArray, List.set_cons_zero, List.set_cons_succ])
  refine wpAnyH_take (i := 5) (oi := { dst := some 46, op := Op.load 3 (Operand.tmp 45), type := 3, pos := "ref.go:87", after := #[{ on := 4, ground := Ground.data }], guard := none }) (v := ?_) rfl (by kernel_rfl) (by kernel_rfl) (by kernel_rfl) (fun _ _ _ h => h) (Or.inl ⟨by rfl, ?_⟩) hHeld ?_
  rotate_left 1
  · intro u hSu
    obtain ⟨a0u, a1u, a2u, a3u⟩ := row4T (kept_row K.out.b1 hSu.out (by simp))
    obtain ⟨d0u, d1u, d2u, d3u⟩ := row4T (kept_row K.out.b2 hSu.out (by simp))
    have m0u := hSu.out.cell HA.out.1.1 (by simp)
    have m1u := hSu.out.cell HA.out.1.2 (by simp)
    have n0u := hSu.out.cell HA.out.2.1 (by simp)
    have n1u := hSu.out.cell HA.out.2.2 (by simp)
    go_simp
    first | done | with_reducible rfl
  (try simp only [Act.put, List.setIfInBounds_toArray, List.set_cons_zero, List.set_cons_succ])
  refine wpAnyH_take (i := 6) (oi := { dst := some 47, op := Op.fieldAddr 25 (Operand.tmp 3) 3, type := 0, pos := "ref.go:87", after := #[], guard := none }) (v := ?_) rfl (by kernel_rfl) (by kernel_rfl) (by kernel_rfl) (fun _ _ _ h => h) (Or.inl ⟨by rfl, ?_⟩) hHeld ?_
  rotate_left 1
  · intro u hSu
    obtain ⟨a0u, a1u, a2u, a3u⟩ := row4T (kept_row K.out.b1 hSu.out (by simp))
    obtain ⟨d0u, d1u, d2u, d3u⟩ := row4T (kept_row K.out.b2 hSu.out (by simp))
    have m0u := hSu.out.cell HA.out.1.1 (by simp)
    have m1u := hSu.out.cell HA.out.1.2 (by simp)
    have n0u := hSu.out.cell HA.out.2.1 (by simp)
    have n1u := hSu.out.cell HA.out.2.2 (by simp)
    go_simp
    first | done | with_reducible rfl
  (try simp only [Act.put, List.setIfInBounds_toArray, List.set_cons_zero, List.set_cons_succ])
  refine wpAnyH_take (i := 7) (oi := { dst := some 48, op := Op.load 23 (Operand.tmp 47), type := 23, pos := "ref.go:87", after := #[{ on := 6, ground := Ground.data }], guard := none }) (v := ?_) rfl (by kernel_rfl) (by kernel_rfl) (by kernel_rfl) (fun _ _ _ h => h) (Or.inl ⟨by rfl, ?_⟩) hHeld ?_
  rotate_left 1
  · intro u hSu
    obtain ⟨a0u, a1u, a2u, a3u⟩ := row4T (kept_row K.out.b1 hSu.out (by simp))
    obtain ⟨d0u, d1u, d2u, d3u⟩ := row4T (kept_row K.out.b2 hSu.out (by simp))
    have m0u := hSu.out.cell HA.out.1.1 (by simp)
    have m1u := hSu.out.cell HA.out.1.2 (by simp)
    have n0u := hSu.out.cell HA.out.2.1 (by simp)
    have n1u := hSu.out.cell HA.out.2.2 (by simp)
    go_simp
    first | done | with_reducible rfl
  (try simp only [Act.put, List.setIfInBounds_toArray, List.set_cons_zero, List.set_cons_succ])
  refine wpAnyH_take (i := 8) (oi := { dst := some 49, op := Op.move (Operand.tmp 5), type := 3, pos := "ref.go:87", after := #[], guard := none }) (v := ?_) rfl (by kernel_rfl) (by kernel_rfl) (by kernel_rfl) (fun _ _ _ h => h) (Or.inl ⟨by rfl, ?_⟩) hHeld ?_
  rotate_left 1
  · intro u hSu
    obtain ⟨a0u, a1u, a2u, a3u⟩ := row4T (kept_row K.out.b1 hSu.out (by simp))
    obtain ⟨d0u, d1u, d2u, d3u⟩ := row4T (kept_row K.out.b2 hSu.out (by simp))
    have m0u := hSu.out.cell HA.out.1.1 (by simp)
    have m1u := hSu.out.cell HA.out.1.2 (by simp)
    have n0u := hSu.out.cell HA.out.2.1 (by simp)
    have n1u := hSu.out.cell HA.out.2.2 (by simp)
    go_simp
    first | done | with_reducible rfl
  (try simp only [Act.put, List.setIfInBounds_toArray, List.set_cons_zero, List.set_cons_succ])
  refine wpAnyH_take (i := 9) (oi := { dst := some 50, op := Op.indexAddr 23 (Operand.tmp 48) (Operand.tmp 49), type := 0, pos := "ref.go:87", after := #[{ on := 7, ground := Ground.data }, { on := 8, ground := Ground.data }], guard := none }) (v := ?_) rfl (by kernel_rfl) (by kernel_rfl) (by kernel_rfl) (fun _ _ _ h => h) (Or.inl ⟨by rfl, ?_⟩) hHeld ?_
  rotate_left 1
  · intro u hSu
    obtain ⟨a0u, a1u, a2u, a3u⟩ := row4T (kept_row K.out.b1 hSu.out (by simp))
    obtain ⟨d0u, d1u, d2u, d3u⟩ := row4T (kept_row K.out.b2 hSu.out (by simp))
    have m0u := hSu.out.cell HA.out.1.1 (by simp)
    have m1u := hSu.out.cell HA.out.1.2 (by simp)
    have n0u := hSu.out.cell HA.out.2.1 (by simp)
    have n1u := hSu.out.cell HA.out.2.2 (by simp)
    go_simp
    first | done | with_reducible rfl
  (try simp only [Act.put, List.setIfInBounds_toArray, List.set_cons_zero, List.set_cons_succ])
  refine wpAnyH_take (i := 10) (oi := { dst := some 51, op := Op.fieldAddr 36 (Operand.tmp 50) 0, type := 0, pos := "ref.go:87", after := #[{ on := 9, ground := Ground.data }], guard := none }) (v := ?_) rfl (by kernel_rfl) (by kernel_rfl) (by kernel_rfl) (fun _ _ _ h => h) (Or.inl ⟨by rfl, ?_⟩) hHeld ?_
  rotate_left 1
  · intro u hSu
    obtain ⟨a0u, a1u, a2u, a3u⟩ := row4T (kept_row K.out.b1 hSu.out (by simp))
    obtain ⟨d0u, d1u, d2u, d3u⟩ := row4T (kept_row K.out.b2 hSu.out (by simp))
    have m0u := hSu.out.cell HA.out.1.1 (by simp)
    have m1u := hSu.out.cell HA.out.1.2 (by simp)
    have n0u := hSu.out.cell HA.out.2.1 (by simp)
    have n1u := hSu.out.cell HA.out.2.2 (by simp)
    go_simp
    first | done | with_reducible rfl
  (try simp only [Act.put, List.setIfInBounds_toArray, List.set_cons_zero, List.set_cons_succ])
  refine wpAnyH_take (i := 11) (oi := { dst := some 52, op := Op.load 3 (Operand.tmp 51), type := 3, pos := "ref.go:87", after := #[{ on := 10, ground := Ground.data }], guard := none }) (v := ?_) rfl (by kernel_rfl) (by kernel_rfl) (by kernel_rfl) (fun _ _ _ h => h) (Or.inl ⟨by rfl, ?_⟩) hHeld ?_
  rotate_left 1
  · intro u hSu
    obtain ⟨a0u, a1u, a2u, a3u⟩ := row4T (kept_row K.out.b1 hSu.out (by simp))
    obtain ⟨d0u, d1u, d2u, d3u⟩ := row4T (kept_row K.out.b2 hSu.out (by simp))
    have m0u := hSu.out.cell HA.out.1.1 (by simp)
    have m1u := hSu.out.cell HA.out.1.2 (by simp)
    have n0u := hSu.out.cell HA.out.2.1 (by simp)
    have n1u := hSu.out.cell HA.out.2.2 (by simp)
    go_simp
    first | done | with_reducible rfl
  (try simp only [Act.put, List.setIfInBounds_toArray, List.set_cons_zero, List.set_cons_succ])
  refine wpAnyH_take (i := 12) (oi := { dst := some 53, op := Op.binOp BinOp.neq 3 (Operand.tmp 46) (Operand.tmp 52) 3, type := 4, pos := "ref.go:87", after := #[{ on := 5, ground := Ground.data }, { on := 11, ground := Ground.data }], guard := none }) (v := .bool false) rfl (by kernel_rfl) (by kernel_rfl) (by kernel_rfl) (fun _ _ _ h => h) (Or.inl ⟨by rfl, ?_⟩) hHeld ?_
  · intro u hSu
    obtain ⟨a0u, a1u, a2u, a3u⟩ := row4T (kept_row K.out.b1 hSu.out (by simp))
    obtain ⟨d0u, d1u, d2u, d3u⟩ := row4T (kept_row K.out.b2 hSu.out (by simp))
    have m0u := hSu.out.cell HA.out.1.1 (by simp)
    have m1u := hSu.out.cell HA.out.1.2 (by simp)
    have n0u := hSu.out.cell HA.out.2.1 (by simp)
    have n1u := hSu.out.cell HA.out.2.2 (by simp)
    go_simp
    first | done | with_reducible rfl
  (try simp only [Act.put, List.setIfInBounds_toArray, List.set_cons_zero, List.set_cons_succ])
  refine wpAnyH_take (i := 13) (oi := { dst := some 54, op := Op.move (Operand.tmp 53), type := 4, pos := "ref.go:87", after := #[{ on := 12, ground := Ground.data }], guard := none }) (v := ?_) rfl (by kernel_rfl) (by kernel_rfl) (by kernel_rfl) (fun _ _ _ h => h) (Or.inl ⟨by rfl, ?_⟩) hHeld ?_
  rotate_left 1
  · intro u hSu
    obtain ⟨a0u, a1u, a2u, a3u⟩ := row4T (kept_row K.out.b1 hSu.out (by simp))
    obtain ⟨d0u, d1u, d2u, d3u⟩ := row4T (kept_row K.out.b2 hSu.out (by simp))
    have m0u := hSu.out.cell HA.out.1.1 (by simp)
    have m1u := hSu.out.cell HA.out.1.2 (by simp)
    have n0u := hSu.out.cell HA.out.2.1 (by simp)
    have n1u := hSu.out.cell HA.out.2.2 (by simp)
    go_simp
    first | done | with_reducible rfl
  (try simp only [Act.put, List.setIfInBounds_toArray, List.set_cons_zero, List.set_cons_succ])
  refine wpAnyH_take (i := 14) (oi := { dst := some 55, op := Op.fieldAddr 25 (Operand.tmp 2) 3, type := 0, pos := "ref.go:87", after := #[{ on := 13, ground := Ground.guard }], guard := some (13, false) }) (v := ?_) rfl (by kernel_rfl) (by kernel_rfl) (by kernel_rfl) (fun _ _ _ h => h) (Or.inl ⟨by rfl, ?_⟩) hHeld ?_
  rotate_left 1
  · intro u hSu
    obtain ⟨a0u, a1u, a2u, a3u⟩ := row4T (kept_row K.out.b1 hSu.out (by simp))
    obtain ⟨d0u, d1u, d2u, d3u⟩ := row4T (kept_row K.out.b2 hSu.out (by simp))
    have m0u := hSu.out.cell HA.out.1.1 (by simp)
    have m1u := hSu.out.cell HA.out.1.2 (by simp)
    have n0u := hSu.out.cell HA.out.2.1 (by simp)
    have n1u := hSu.out.cell HA.out.2.2 (by simp)
    go_simp
    first | done | with_reducible rfl
  (try simp only [Act.put, List.setIfInBounds_toArray, List.set_cons_zero, List.set_cons_succ])
  refine wpAnyH_take (i := 15) (oi := { dst := some 56, op := Op.load 23 (Operand.tmp 55), type := 23, pos := "ref.go:87", after := #[{ on := 14, ground := Ground.data }, { on := 13, ground := Ground.guard }], guard := some (13, false) }) (v := ?_) rfl (by kernel_rfl) (by kernel_rfl) (by kernel_rfl) (fun _ _ _ h => h) (Or.inl ⟨by rfl, ?_⟩) hHeld ?_
  rotate_left 1
  · intro u hSu
    obtain ⟨a0u, a1u, a2u, a3u⟩ := row4T (kept_row K.out.b1 hSu.out (by simp))
    obtain ⟨d0u, d1u, d2u, d3u⟩ := row4T (kept_row K.out.b2 hSu.out (by simp))
    have m0u := hSu.out.cell HA.out.1.1 (by simp)
    have m1u := hSu.out.cell HA.out.1.2 (by simp)
    have n0u := hSu.out.cell HA.out.2.1 (by simp)
    have n1u := hSu.out.cell HA.out.2.2 (by simp)
    go_simp
    first | done | with_reducible rfl
  (try simp only [Act.put, List.setIfInBounds_toArray, List.set_cons_zero, List.set_cons_succ])
  refine wpAnyH_take (i := 16) (oi := { dst := some 57, op := Op.move (Operand.tmp 5), type := 3, pos := "ref.go:87", after := #[{ on := 13, ground := Ground.guard }], guard := some (13, false) }) (v := ?_) rfl (by kernel_rfl) (by kernel_rfl) (by kernel_rfl) (fun _ _ _ h => h) (Or.inl ⟨by rfl, ?_⟩) hHeld ?_
  rotate_left 1
  · intro u hSu
    obtain ⟨a0u, a1u, a2u, a3u⟩ := row4T (kept_row K.out.b1 hSu.out (by simp))
    obtain ⟨d0u, d1u, d2u, d3u⟩ := row4T (kept_row K.out.b2 hSu.out (by simp))
    have m0u := hSu.out.cell HA.out.1.1 (by simp)
    have m1u := hSu.out.cell HA.out.1.2 (by simp)
    have n0u := hSu.out.cell HA.out.2.1 (by simp)
    have n1u := hSu.out.cell HA.out.2.2 (by simp)
    go_simp
    first | done | with_reducible rfl
  (try simp only [Act.put, List.setIfInBounds_toArray, List.set_cons_zero, List.set_cons_succ])
  refine wpAnyH_take (i := 17) (oi := { dst := some 58, op := Op.indexAddr 23 (Operand.tmp 56) (Operand.tmp 57), type := 0, pos := "ref.go:87", after := #[{ on := 15, ground := Ground.data }, { on := 16, ground := Ground.data }, { on := 13, ground := Ground.guard }], guard := some (13, false) }) (v := ?_) rfl (by kernel_rfl) (by kernel_rfl) (by kernel_rfl) (fun _ _ _ h => h) (Or.inl ⟨by rfl, ?_⟩) hHeld ?_
  rotate_left 1
  · intro u hSu
    obtain ⟨a0u, a1u, a2u, a3u⟩ := row4T (kept_row K.out.b1 hSu.out (by simp))
    obtain ⟨d0u, d1u, d2u, d3u⟩ := row4T (kept_row K.out.b2 hSu.out (by simp))
    have m0u := hSu.out.cell HA.out.1.1 (by simp)
    have m1u := hSu.out.cell HA.out.1.2 (by simp)
    have n0u := hSu.out.cell HA.out.2.1 (by simp)
    have n1u := hSu.out.cell HA.out.2.2 (by simp)
    go_simp
    first | done | with_reducible rfl
  (try simp only [Act.put, List.setIfInBounds_toArray, List.set_cons_zero, List.set_cons_succ])
  refine wpAnyH_take (i := 18) (oi := { dst := some 59, op := Op.fieldAddr 36 (Operand.tmp 58) 1, type := 0, pos := "ref.go:87", after := #[{ on := 17, ground := Ground.data }, { on := 13, ground := Ground.guard }], guard := some (13, false) }) (v := ?_) rfl (by kernel_rfl) (by kernel_rfl) (by kernel_rfl) (fun _ _ _ h => h) (Or.inl ⟨by rfl, ?_⟩) hHeld ?_
  rotate_left 1
  · intro u hSu
    obtain ⟨a0u, a1u, a2u, a3u⟩ := row4T (kept_row K.out.b1 hSu.out (by simp))
    obtain ⟨d0u, d1u, d2u, d3u⟩ := row4T (kept_row K.out.b2 hSu.out (by simp))
    have m0u := hSu.out.cell HA.out.1.1 (by simp)
    have m1u := hSu.out.cell HA.out.1.2 (by simp)
    have n0u := hSu.out.cell HA.out.2.1 (by simp)
    have n1u := hSu.out.cell HA.out.2.2 (by simp)
    go_simp
    first | done | with_reducible rfl
  (try simp only [Act.put, List.setIfInBounds_toArray, List.set_cons_zero, List.set_cons_succ])
  refine wpAnyH_take (i := 19) (oi := { dst := some 60, op := Op.load 22 (Operand.tmp 59), type := 22, pos := "ref.go:87", after := #[{ on := 18, ground := Ground.data }, { on := 13, ground := Ground.guard }], guard := some (13, false) }) (v := ?_) rfl (by kernel_rfl) (by kernel_rfl) (by kernel_rfl) (fun _ _ _ h => h) (Or.inl ⟨by rfl, ?_⟩) hHeld ?_
  rotate_left 1
  · intro u hSu
    obtain ⟨a0u, a1u, a2u, a3u⟩ := row4T (kept_row K.out.b1 hSu.out (by simp))
    obtain ⟨d0u, d1u, d2u, d3u⟩ := row4T (kept_row K.out.b2 hSu.out (by simp))
    have m0u := hSu.out.cell HA.out.1.1 (by simp)
    have m1u := hSu.out.cell HA.out.1.2 (by simp)
    have n0u := hSu.out.cell HA.out.2.1 (by simp)
    have n1u := hSu.out.cell HA.out.2.2 (by simp)
    go_simp
    first | done | with_reducible rfl
  (try simp only [Act.put, List.setIfInBounds_toArray, List.set_cons_zero, List.set_cons_succ])
  refine wpAnyH_take (i := 20) (oi := { dst := some 61, op := Op.fieldAddr 25 (Operand.tmp 3) 3, type := 0, pos := "ref.go:87", after := #[{ on := 13, ground := Ground.guard }], guard := some (13, false) }) (v := ?_) rfl (by kernel_rfl) (by kernel_rfl) (by kernel_rfl) (fun _ _ _ h => h) (Or.inl ⟨by rfl, ?_⟩) hHeld ?_
  rotate_left 1
  · intro u hSu
    obtain ⟨a0u, a1u, a2u, a3u⟩ := row4T (kept_row K.out.b1 hSu.out (by simp))
    obtain ⟨d0u, d1u, d2u, d3u⟩ := row4T (kept_row K.out.b2 hSu.out (by simp))
    have m0u := hSu.out.cell HA.out.1.1 (by simp)
    have m1u := hSu.out.cell HA.out.1.2 (by simp)
    have n0u := hSu.out.cell HA.out.2.1 (by simp)
    have n1u := hSu.out.cell HA.out.2.2 (by simp)
    go_simp
    first | done | with_reducible rfl
  (try simp only [Act.put, List.setIfInBounds_toArray, List.set_cons_zero, List.set_cons_succ])
  refine wpAnyH_take (i := 21) (oi := { dst := some 62, op := Op.load 23 (Operand.tmp 61), type := 23, pos := "ref.go:87", after := #[{ on := 20, ground := Ground.data }, { on := 13, ground := Ground.guard }], guard := some (13, false) }) (v := ?_) rfl (by kernel_rfl) (by kernel_rfl) (by kernel_rfl) (fun _ _ _ h => h) (Or.inl ⟨by rfl, ?_⟩) hHeld ?_
  rotate_left 1
  · intro u hSu
    obtain ⟨a0u, a1u, a2u, a3u⟩ := row4T (kept_row K.out.b1 hSu.out (by simp))
    obtain ⟨d0u, d1u, d2u, d3u⟩ := row4T (kept_row K.out.b2 hSu.out (by simp))
    have m0u := hSu.out.cell HA.out.1.1 (by simp)
    have m1u := hSu.out.cell HA.out.1.2 (by simp)
    have n0u := hSu.out.cell HA.out.2.1 (by simp)
    have n1u := hSu.out.cell HA.out.2.2 (by simp)
    go_simp
    first | done | with_reducible rfl
  (try simp only [Act.put, List.setIfInBounds_toArray, List.set_cons_zero, List.set_cons_succ])
  refine wpAnyH_take (i := 22) (oi := { dst := some 63, op := Op.move (Operand.tmp 5), type := 3, pos := "ref.go:87", after := #[{ on := 13, ground := Ground.guard }], guard := some (13, false) }) (v := ?_) rfl (by kernel_rfl) (by kernel_rfl) (by kernel_rfl) (fun _ _ _ h => h) (Or.inl ⟨by rfl, ?_⟩) hHeld ?_
  rotate_left 1
  · intro u hSu
    obtain ⟨a0u, a1u, a2u, a3u⟩ := row4T (kept_row K.out.b1 hSu.out (by simp))
    obtain ⟨d0u, d1u, d2u, d3u⟩ := row4T (kept_row K.out.b2 hSu.out (by simp))
    have m0u := hSu.out.cell HA.out.1.1 (by simp)
    have m1u := hSu.out.cell HA.out.1.2 (by simp)
    have n0u := hSu.out.cell HA.out.2.1 (by simp)
    have n1u := hSu.out.cell HA.out.2.2 (by simp)
    go_simp
    first | done | with_reducible rfl
  (try simp only [Act.put, List.setIfInBounds_toArray, List.set_cons_zero, List.set_cons_succ])
  refine wpAnyH_take (i := 23) (oi := { dst := some 64, op := Op.indexAddr 23 (Operand.tmp 62) (Operand.tmp 63), type := 0, pos := "ref.go:87", after := #[{ on := 21, ground := Ground.data }, { on := 22, ground := Ground.data }, { on := 13, ground := Ground.guard }], guard := some (13, false) }) (v := ?_) rfl (by kernel_rfl) (by kernel_rfl) (by kernel_rfl) (fun _ _ _ h => h) (Or.inl ⟨by rfl, ?_⟩) hHeld ?_
  rotate_left 1
  · intro u hSu
    obtain ⟨a0u, a1u, a2u, a3u⟩ := row4T (kept_row K.out.b1 hSu.out (by simp))
    obtain ⟨d0u, d1u, d2u, d3u⟩ := row4T (kept_row K.out.b2 hSu.out (by simp))
    have m0u := hSu.out.cell HA.out.1.1 (by simp)
    have m1u := hSu.out.cell HA.out.1.2 (by simp)
    have n0u := hSu.out.cell HA.out.2.1 (by simp)
    have n1u := hSu.out.cell HA.out.2.2 (by simp)
    go_simp
    first | done | with_reducible rfl
  (try simp only [Act.put, List.setIfInBounds_toArray, List.set_cons_zero, List.set_cons_succ])
  refine wpAnyH_take (i := 24) (oi := { dst := some 65, op := Op.fieldAddr 36 (Operand.tmp 64) 1, type := 0, pos := "ref.go:87", after := #[{ on := 23, ground := Ground.data }, { on := 13, ground := Ground.guard }], guard := some (13, false) }) (v := ?_) rfl (by kernel_rfl) (by kernel_rfl) (by kernel_rfl) (fun _ _ _ h => h) (Or.inl ⟨by rfl, ?_⟩) hHeld ?_
  rotate_left 1
  · intro u hSu
    obtain ⟨a0u, a1u, a2u, a3u⟩ := row4T (kept_row K.out.b1 hSu.out (by simp))
    obtain ⟨d0u, d1u, d2u, d3u⟩ := row4T (kept_row K.out.b2 hSu.out (by simp))
    have m0u := hSu.out.cell HA.out.1.1 (by simp)
    have m1u := hSu.out.cell HA.out.1.2 (by simp)
    have n0u := hSu.out.cell HA.out.2.1 (by simp)
    have n1u := hSu.out.cell HA.out.2.2 (by simp)
    go_simp
    first | done | with_reducible rfl
  (try simp only [Act.put, List.setIfInBounds_toArray, List.set_cons_zero, List.set_cons_succ])
  refine wpAnyH_take (i := 25) (oi := { dst := some 66, op := Op.load 22 (Operand.tmp 65), type := 22, pos := "ref.go:87", after := #[{ on := 24, ground := Ground.data }, { on := 13, ground := Ground.guard }], guard := some (13, false) }) (v := ?_) rfl (by kernel_rfl) (by kernel_rfl) (by kernel_rfl) (fun _ _ _ h => h) (Or.inl ⟨by rfl, ?_⟩) hHeld ?_
  rotate_left 1
  · intro u hSu
    obtain ⟨a0u, a1u, a2u, a3u⟩ := row4T (kept_row K.out.b1 hSu.out (by simp))
    obtain ⟨d0u, d1u, d2u, d3u⟩ := row4T (kept_row K.out.b2 hSu.out (by simp))
    have m0u := hSu.out.cell HA.out.1.1 (by simp)
    have m1u := hSu.out.cell HA.out.1.2 (by simp)
    have n0u := hSu.out.cell HA.out.2.1 (by simp)
    have n1u := hSu.out.cell HA.out.2.2 (by simp)
    go_simp
    first | done | with_reducible rfl
  (try simp only [Act.put, List.setIfInBounds_toArray, List.set_cons_zero, List.set_cons_succ])
  refine wpAnyH_ready (rs := [26]) (by kernel_rfl) (by simp) ?_
  refine AllReadyH.cons (o := { dst := some 67, op := Op.call { callee := Callee.value (Operand.func 20), args := #[Operand.tmp 60, Operand.tmp 66], argTypes := #[22, 22] }, type := 4, pos := "ref.go:87", after := #[{ on := 19, ground := Ground.data }, { on := 25, ground := Ground.data }, { on := 13, ground := Ground.chain }, { on := 13, ground := Ground.guard }], guard := some (13, false) }) rfl (fun Kz hK => ?_) AllReadyH.nil
  go_simp
  go_at_call 20
  refine (rintsG_any x.nx y.nx x.p y.p x.c y.c _ _ _ (HOK.out.1.keep hHeld.out).rd (HOK.out.2.keep hHeld.out).rd (Nat.le_trans HOK.out.1.hc.1 HOK.out.1.hc.2) (Nat.le_trans HOK.out.2.hc.1 HOK.out.2.hc.2)).mono ?_
  rintro e' w7 ⟨rfl, hg⟩
  rw [HV.out]
  have HN := Lib.hid (grown_trans hHeld.out hg)
  clear hg
  obtain ⟨v, hv⟩ : ∃ v, decide (rw0 x = rw0 y) = v := ⟨_, rfl⟩
  rw [hv]
  have HV2 := Lib.hid hv
  clear hv
  simp only
  refine hK.out _ _ (HN) (fun hH2 => ?_)
  clear hK Kz hHeld
  have hHeld := hH2
  clear hH2
  (try simp only [Act.put, List.setIfInBounds_toArray, List.set_cons_zero, List.set_cons_succ])
  refine wpAnyH_take (i := 27) (oi := { dst := some 68, op := Op.unOp UnOp.not 4 (Operand.tmp 67), type := 4, pos := "ref.go:87", after := #[{ on := 26, ground := Ground.data }, { on := 13, ground := Ground.guard }], guard := some (13, false) }) (v := ?_) rfl (by kernel_rfl) (by kernel_rfl) (by kernel_rfl) (fun _ _ _ h => h) (Or.inl ⟨by rfl, ?_⟩) hHeld ?_
  rotate_left 1
  · intro u hSu
    obtain ⟨a0u, a1u, a2u, a3u⟩ := row4T (kept_row K.out.b1 hSu.out (by simp))
    obtain ⟨d0u, d1u, d2u, d3u⟩ := row4T (kept_row K.out.b2 hSu.out (by simp))
    have m0u := hSu.out.cell HA.out.1.1 (by simp)
    have m1u := hSu.out.cell HA.out.1.2 (by simp)
    have n0u := hSu.out.cell HA.out.2.1 (by simp)
    have n1u := hSu.out.cell HA.out.2.2 (by simp)
    go_simp
    first | done | with_reducible rfl
  (try simp only [Act.put, List.setIfInBounds_toArray, List.set_cons_zero, List.set_cons_succ])
  refine wpAnyH_take (i := 28) (oi := { dst := some 69, op := Op.pick (Operand.tmp 54) (Operand.const (Value.bool true)) (Operand.tmp 68), type := 4, pos := "ref.go:87", after := #[{ on := 13, ground := Ground.data }, { on := 27, ground := Ground.data }], guard := none }) (v := ?_) rfl (by kernel_rfl) (by kernel_rfl) (by kernel_rfl) (fun _ _ _ h => h) (Or.inl ⟨by rfl, ?_⟩) hHeld ?_
  rotate_left 1
  · intro u hSu
    obtain ⟨a0u, a1u, a2u, a3u⟩ := row4T (kept_row K.out.b1 hSu.out (by simp))
    obtain ⟨d0u, d1u, d2u, d3u⟩ := row4T (kept_row K.out.b2 hSu.out (by simp))
    have m0u := hSu.out.cell HA.out.1.1 (by simp)
    have m1u := hSu.out.cell HA.out.1.2 (by simp)
    have n0u := hSu.out.cell HA.out.2.1 (by simp)
    have n1u := hSu.out.cell HA.out.2.2 (by simp)
    go_simp
    first | done | with_reducible rfl
  (try simp only [Act.put, List.setIfInBounds_toArray, List.set_cons_zero, List.set_cons_succ])
  refine wpAnyH_done (by kernel_rfl) ?_ _
  have K7 := Lib.hid (K.out.keep hHeld.out)
  clear hHeld K
  cases v
  case false =>
    have HF : Hid (z = false) := Lib.hid (by rw [← HE.out]; exact decide_eq_false (tk_ne (rw0_get HXY.out.1) (rw0_get HXY.out.2) (of_decide_eq_false HV2.out)))
    go_wp2_with fail
    go_ret
    exact ⟨by rw [HF.out]; rfl, K7.out.gr⟩
  have HT2 := Lib.hid (tk_step HT.out (rw0_get HXY.out.1) (rw0_get HXY.out.2) (of_decide_eq_true HV2.out))
  clear HT
  go_wp2_with fail
  exact ⟨⟨k + 1, by omega, congrArg _ (by omega), HT2, K7⟩, by simp only [RowKit.intOf]; omega⟩
end Go.Proofs.YtahafijpcmphaaaGreat
