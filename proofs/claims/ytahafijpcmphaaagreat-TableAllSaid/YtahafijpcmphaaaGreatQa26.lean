/- Parts of the proof, packed: TaSmR, TaBlM, TaExM. -/
import Derived.Test.YtahafijpcmphaaaGreatQa25
import Derived.Test.YtahafijpcmphaaaGreatQa23
/- tables, the reference's functions: Same. -/
namespace Go.Proofs.YtahafijpcmphaaaGreat
open Go.RowKit Bs
set_option maxRecDepth 100000 in
set_option maxHeartbeats 6400000 in
theorem rSame_any (r s n : Int) (p : Option Addr) (c : Nat) (L : List Rw) (r2 s2 n2 : Int) (p2 : Option Addr) (c2 : Nat) (M : List Rw) (q1 q2 : Nat → Prop) (w : World) (h1 : RdW w q1 p c L) (h2 : RdW w q2 p2 c2 M) (hm : L.length ≤ 9223372036854775807) (hm2 : M.length ≤ 9223372036854775807) :
    Calls Tryz.prog 16 #[.agg #[.int .i64 r, .int .i64 s, .int .i64 n, .slice p L.length c], .agg #[.int .i64 r2, .int .i64 s2, .int .i64 n2, .slice p2 M.length c2]] w fun e w' => e = .returned (.bool (smT r s n L r2 s2 n2 M)) ∧ w.grownBy w' none := by
  have H := Lib.hid (b2t_start r s n r2 s2 n2 h1 h2)
  clear h1 h2
  obtain ⟨z, hz⟩ : ∃ z, smT r s n L r2 s2 n2 M = z := ⟨_, rfl⟩
  rw [hz]
  have HZ := Lib.hid hz
  clear hz
  go_enter Tryz.func16, Tryz.ntmps16
  go_upto_region 1 with fail
  generalize (w.alloc _).alloc _ = w1 at *
  obtain ⟨a0, a1, a2, a3⟩ := row4T H.out.b1
  obtain ⟨d0, d1, d2, d3⟩ := row4T H.out.b2
  by_cases er : r = r2
  case neg =>
    have er' : (r != r2) = true := by simpa using er
    have HF : Hid (z = false) := Lib.hid (by rw [← HZ.out]; exact decide_eq_false (fun h => er h.1))
    clear er
    go_wp2_with fail
    go_ret
    exact ⟨by rw [HF.out]; rfl, H.out.gr⟩
  subst er
  by_cases es : s = s2
  case neg =>
    have es' : (s != s2) = true := by simpa using es
    have HF : Hid (z = false) := Lib.hid (by rw [← HZ.out]; exact decide_eq_false (fun h => es h.2.1))
    clear es
    go_wp2_with fail
    go_ret
    exact ⟨by rw [HF.out]; rfl, H.out.gr⟩
  subst es
  by_cases en : n = n2
  case neg =>
    have en' : (n != n2) = true := by simpa using en
    have HF : Hid (z = false) := Lib.hid (by rw [← HZ.out]; exact decide_eq_false (fun h => en h.2.2.1))
    clear en
    go_wp2_with fail
    go_ret
    exact ⟨by rw [HF.out]; rfl, H.out.gr⟩
  subst en
  by_cases el : L.length = M.length
  case neg =>
    have el' : ((L.length : Int) != (M.length : Int)) = true := by rw [bne_iff_ne]; omega
    have HF : Hid (z = false) := Lib.hid (by rw [← HZ.out]; exact decide_eq_false (fun h => rw0_ne el h.2.2.2))
    clear el
    go_wp2_with fail
    go_ret
    exact ⟨by rw [HF.out]; rfl, H.out.gr⟩
  have HE : Hid (decide (L.map rw0 = M.map rw0) = z) := Lib.hid (by rw [← HZ.out]; unfold smT; rw [decide_eq_decide]; simp)
  have el' : ((L.length : Int) != (M.length : Int)) = false := by rw [el]; simp
  have HL := Lib.hid el
  clear el hm2 HZ
  go_upto_region 3 with fail
  clear el' a0 a1 a2 a3 d0 d1 d2 d3
  go_wp2_with fail
  go_loopw [5] (fun v wr => ∃ k : Nat, k ≤ L.length ∧ v = .int .i64 (k : Int) ∧ Hid ((L.map rw0).take k = (M.map rw0).take k) ∧ Hid (B2T w r s n p c L r s n p2 c2 M q1 q2 wr)) (fun v _ => L.length - (RowKit.intOf v).toNat)
  case atStart => exact ⟨0, Nat.zero_le _, rfl, Lib.hid rfl, H⟩
  case round =>
  clear H
  obtain ⟨k, hk, rfl, HT, K⟩ := hrel
  obtain ⟨w5, hw5⟩ : ∃ w5, w5 = wr := ⟨_, rfl⟩
  rw [← hw5] at K ⊢
  clear hw5
  obtain ⟨a0, a1, a2, a3⟩ := row4T K.out.b1
  by_cases hlt : k < L.length
  case neg =>
    obtain rfl : k = L.length := by omega
    have HF : Hid (z = true) := Lib.hid (by rw [← HE.out]; exact decide_eq_true (rw0_end HT.out HL.out))
    have hnl : ¬ (L.length : Int) < (L.length : Int) := by omega
    go_wp2_with fail
    go_ret
    exact ⟨by rw [HF.out]; rfl, K.out.gr⟩
  have hlt' : (k : Int) < (L.length : Int) := by omega
  have hltM : (k : Int) < (M.length : Int) := by have := HL.out; omega
  have hk0 : (0 : Int) ≤ (k : Int) := by omega
  obtain ⟨x, hx⟩ : ∃ x, L[k]? = some x := ⟨_, List.getElem?_eq_getElem hlt⟩
  obtain ⟨y, hy⟩ : ∃ y, M[k]? = some y := ⟨_, List.getElem?_eq_getElem (by have := HL.out; omega)⟩
  obtain ⟨-, b1, o1, rfl, -, hc1⟩ := rw_cells K.out.r1.rd (by omega)
  obtain ⟨-, b2, o2, rfl, -, hc2⟩ := rw_cells K.out.r2.rd (by have := HL.out; omega)
  have HA := Lib.hid (And.intro (hc1 k x hx) (hc2 k y hy))
  have HXY := Lib.hid (And.intro hx hy)
  have HOK := Lib.hid (And.intro (K.out.r1.ok x (List.mem_of_getElem? hx)) (K.out.r2.ok y (List.mem_of_getElem? hy)))
  clear hc1 hc2 hx hy
  go_upto_region 6 with fail
  clear a0 a1 a2 a3
  by_cases e : x.id = y.id
  case neg =>
    have e' : (x.id != y.id) = true := by simpa using e
    have HF : Hid (z = false) := Lib.hid (by rw [← HE.out]; exact decide_eq_false (tk_ne (rw0_get HXY.out.1) (rw0_get HXY.out.2) (fun h => e (rw0_iff.1 h).1)))
    clear e
    refine wp_region_held_drew (S := fun w' => Hid (w5.grownBy w' none)) (by kernel_rfl) (Lib.hid (grown_drew (grown_refl _ none))) (fun hHeld => ?_)
    refine wpAnyH_take (i := 0) (oi := { dst := some 41, op := Op.fieldAddr 25 (Operand.tmp 2) 3, type := 0, pos := "ref.go:87", after := #[], guard := none }) (v := ?_) rfl (by kernel_rfl) (by kernel_rfl) (by kernel_rfl) (fun _ _ _ h => h) (Or.inl ⟨by rfl, ?_⟩) hHeld ?_
    rotate_left 1
    · intro u hSu
      obtain ⟨a0u, a1u, a2u, a3u⟩ := row4T (kept_row K.out.b1 hSu.out (by simp))
      obtain ⟨d0u, d1u, d2u, d3u⟩ := row4T (kept_row K.out.b2 hSu.out (by simp))
      have m0u := hSu.out.cell HA.out.1.1 (by simp)
      have m1u := hSu.out.cell HA.out.1.2 (by simp)
      have n0u := hSu.out.cell HA.out.2.1 (by simp)
      have n1u := hSu.out.cell HA.out.2.2 (by simp)
      go_simp
      first | done | with_reducible rfl
    (try simp only [Act.put, List.setIfInBounds_toArray, List.set_cons_zero, List.set_cons_succ])
    refine wpAnyH_take (i := 1) (oi := { dst := some 42, op := Op.load 23 (Operand.tmp 41), type := 23, pos := "ref.go:87", after := #[{ on := 0, ground := Ground.data }], guard := none }) (v := ?_) rfl (by kernel_rfl) (by kernel_rfl) (by kernel_rfl) (fun _ _ _ h => h) (Or.inl ⟨by rfl, ?_⟩) hHeld ?_
    rotate_left 1
    · intro u hSu
      obtain ⟨a0u, a1u, a2u, a3u⟩ := row4T (kept_row K.out.b1 hSu.out (by simp))
      obtain ⟨d0u, d1u, d2u, d3u⟩ := row4T (kept_row K.out.b2 hSu.out (by simp))
      have m0u := hSu.out.cell HA.out.1.1 (by simp)
      have m1u := hSu.out.cell HA.out.1.2 (by simp)
      have n0u := hSu.out.cell HA.out.2.1 (by simp)
      have n1u := hSu.out.cell HA.out.2.2 (by simp)
      go_simp
      first | done | with_reducible rfl
    (try simp only [Act.put, List.setIfInBounds_toArray, List.set_cons_zero, List.set_cons_succ])
    refine wpAnyH_take (i := 2) (oi := { dst := some 43, op := Op.move (Operand.tmp 5), type := 3, pos := "ref.go:87", after := #[], guard := none }) (v := ?_) rfl (by kernel_rfl) (by kernel_rfl) (by kernel_rfl) (fun _ _ _ h => h) (Or.inl ⟨by rfl, ?_⟩) hHeld ?_
    rotate_left 1
    · intro u hSu
      obtain ⟨a0u, a1u, a2u, a3u⟩ := row4T (kept_row K.out.b1 hSu.out (by simp))
      obtain ⟨d0u, d1u, d2u, d3u⟩ := row4T (kept_row K.out.b2 hSu.out (by simp))
      have m0u := hSu.out.cell HA.out.1.1 (by simp)
      have m1u := hSu.out.cell HA.out.1.2 (by simp)
      have n0u := hSu.out.cell HA.out.2.1 (by simp)
      have n1u := hSu.out.cell HA.out.2.2 (by simp)
      go_simp
      first | done | with_reducible rfl
    (try simp only [Act.put, List.setIfInBounds_toArray, List.set_cons_zero, List.set_cons_succ])
    refine wpAnyH_take (i := 3) (oi := { dst := some 44, op := Op.indexAddr 23 (Operand.tmp 42) (Operand.tmp 43), type := 0, pos := "ref.go:87", after := #[{ on := 1, ground := Ground.data }, { on := 2, ground := Ground.data }], guard := none }) (v := ?_) rfl (by kernel_rfl) (by kernel_rfl) (by kernel_rfl) (fun _ _ _ h => h) (Or.inl ⟨by rfl, ?_⟩) hHeld ?_
    rotate_left 1
    · intro u hSu
      obtain ⟨a0u, a1u, a2u, a3u⟩ := row4T (kept_row K.out.b1 hSu.out (by simp))
      obtain ⟨d0u, d1u, d2u, d3u⟩ := row4T (kept_row K.out.b2 hSu.out (by simp))
      have m0u := hSu.out.cell HA.out.1.1 (by simp)
      have m1u := hSu.out.cell HA.out.1.2 (by simp)
      have n0u := hSu.out.cell HA.out.2.1 (by simp)
      have n1u := hSu.out.cell HA.out.2.2 (by simp)
      go_simp
      first | done | with_reducible rfl
    (try simp only [Act.put, List.setIfInBounds_toArray, List.set_cons_zero, List.set_cons_succ])
    refine wpAnyH_take (i := 4) (oi := { dst := some 45, op := Op.fieldAddr 36 (Operand.tmp 44) 0, type := 0, pos := "ref.go:87", after := #[{ on := 3, ground := Ground.data }], guard := none }) (v := ?_) rfl (by kernel_rfl) (by kernel_rfl) (by kernel_rfl) (fun _ _ _ h => h) (Or.inl ⟨by rfl, ?_⟩) hHeld ?_
    rotate_left 1
    · intro u hSu
      obtain ⟨a0u, a1u, a2u, a3u⟩ := row4T (kept_row K.out.b1 hSu.out (by simp))
      obtain ⟨d0u, d1u, d2u, d3u⟩ := row4T (kept_row K.out.b2 hSu.out (by simp))
      have m0u := hSu.out.cell HA.out.1.1 (by simp)
      have m1u := hSu.out.cell HA.out.1.2 (by simp)
      have n0u := hSu.out.cell HA.out.2.1 (by simp)
      have n1u := hSu.out.cell HA.out.2.2 (by simp)
      go_simp
      first | done | with_reducible rfl
    (try simp only [Act.put, List.setIfInBounds_toArray, List.set_cons_zero, List.set_cons_succ])
    refine wpAnyH_take (i := 5) (oi := { dst := some 46, op := Op.load 3 (Operand.tmp 45), type := 3, pos := "ref.go:87", after := #[{ on := 4, ground := Ground.data }], guard := none }) (v := ?_) rfl (by kernel_rfl) (by kernel_rfl) (by kernel_rfl) (fun _ _ _ h => h) (Or.inl ⟨by rfl, ?_⟩) hHeld ?_
    rotate_left 1
    · intro u hSu
      obtain ⟨a0u, a1u, a2u, a3u⟩ := row4T (kept_row K.out.b1 hSu.out (by simp))
      obtain ⟨d0u, d1u, d2u, d3u⟩ := row4T (kept_row K.out.b2 hSu.out (by simp))
      have m0u := hSu.out.cell HA.out.1.1 (by simp)
      have m1u := hSu.out.cell HA.out.1.2 (by simp)
      have n0u := hSu.out.cell HA.out.2.1 (by simp)
      have n1u := hSu.out.cell HA.out.2.2 (by simp)
      go_simp
      first | done | with_reducible rfl
    (try simp only [Act.put, List.setIfInBounds_toArray, List.set_cons_zero, List.set_cons_succ])
    refine wpAnyH_take (i := 6) (oi := { dst := some 47, op := Op.fieldAddr 25 (Operand.tmp 3) 3, type := 0, pos := "ref.go:87", after := #[], guard := none }) (v := ?_) rfl (by kernel_rfl) (by kernel_rfl) (by kernel_rfl) (fun _ _ _ h => h) (Or.inl ⟨by rfl, ?_⟩) hHeld ?_
    rotate_left 1
    · intro u hSu
      obtain ⟨a0u, a1u, a2u, a3u⟩ := row4T (kept_row K.out.b1 hSu.out (by simp))
      obtain ⟨d0u, d1u, d2u, d3u⟩ := row4T (kept_row K.out.b2 hSu.out (by simp))
      have m0u := hSu.out.cell HA.out.1.1 (by simp)
      have m1u := hSu.out.cell HA.out.1.2 (by simp)
      have n0u := hSu.out.cell HA.out.2.1 (by simp)
      have n1u := hSu.out.cell HA.out.2.2 (by simp)
      go_simp
      first | done | with_reducible rfl
    (try simp only [Act.put, List.setIfInBounds_toArray, List.set_cons_zero, List.set_cons_succ])
    refine wpAnyH_take (i := 7) (oi := { dst := some 48, op := Op.load 23 (Operand.tmp 47), type := 23, pos := "ref.go:87", after := #[{ on := 6, ground := Ground.data }], guard := none }) (v := ?_) rfl (by kernel_rfl) (by kernel_rfl) (by kernel_rfl) (fun _ _ _ h => h) (Or.inl ⟨by rfl, ?_⟩) hHeld ?_
    rotate_left 1
    · intro u hSu
      obtain ⟨a0u, a1u, a2u, a3u⟩ := row4T (kept_row K.out.b1 hSu.out (by simp))
      obtain ⟨d0u, d1u, d2u, d3u⟩ := row4T (kept_row K.out.b2 hSu.out (by simp))
      have m0u := hSu.out.cell HA.out.1.1 (by simp)
      have m1u := hSu.out.cell HA.out.1.2 (by simp)
      have n0u := hSu.out.cell HA.out.2.1 (by simp)
      have n1u := hSu.out.cell HA.out.2.2 (by simp)
      go_simp
      first | done | with_reducible rfl
    (try simp only [Act.put, List.setIfInBounds_toArray, List.set_cons_zero, List.set_cons_succ])
    refine wpAnyH_take (i := 8) (oi := { dst := some 49, op := Op.move (Operand.tmp 5), type := 3, pos := "ref.go:87", after := #[], guard := none }) (v := ?_) rfl (by kernel_rfl) (by kernel_rfl) (by kernel_rfl) (fun _ _ _ h => h) (Or.inl ⟨by rfl, ?_⟩) hHeld ?_
    rotate_left 1
    · intro u hSu
      obtain ⟨a0u, a1u, a2u, a3u⟩ := row4T (kept_row K.out.b1 hSu.out (by simp))
      obtain ⟨d0u, d1u, d2u, d3u⟩ := row4T (kept_row K.out.b2 hSu.out (by simp))
      have m0u := hSu.out.cell HA.out.1.1 (by simp)
      have m1u := hSu.out.cell HA.out.1.2 (by simp)
      have n0u := hSu.out.cell HA.out.2.1 (by simp)
      have n1u := hSu.out.cell HA.out.2.2 (by simp)
      go_simp
      first | done | with_reducible rfl
    (try simp only [Act.put, List.setIfInBounds_toArray, List.set_cons_zero, List.set_cons_succ])
    refine wpAnyH_take (i := 9) (oi := { dst := some 50, op := Op.indexAddr 23 (Operand.tmp 48) (Operand.tmp 49), type := 0, pos := "ref.go:87", after := #[{ on := 7, ground := Ground.data }, { on := 8, ground := Ground.data }], guard := none }) (v := ?_) rfl (by kernel_rfl) (by kernel_rfl) (by kernel_rfl) (fun _ _ _ h => h) (Or.inl ⟨by rfl, ?_⟩) hHeld ?_
    rotate_left 1
    · intro u hSu
      obtain ⟨a0u, a1u, a2u, a3u⟩ := row4T (kept_row K.out.b1 hSu.out (by simp))
      obtain ⟨d0u, d1u, d2u, d3u⟩ := row4T (kept_row K.out.b2 hSu.out (by simp))
      have m0u := hSu.out.cell HA.out.1.1 (by simp)
      have m1u := hSu.out.cell HA.out.1.2 (by simp)
      have n0u := hSu.out.cell HA.out.2.1 (by simp)
      have n1u := hSu.out.cell HA.out.2.2 (by simp)
      go_simp
      first | done | with_reducible rfl
    (try simp only [Act.put, List.setIfInBounds_toArray, List.set_cons_zero, List.set_cons_succ])
    refine wpAnyH_take (i := 10) (oi := { dst := some 51, op := Op.fieldAddr 36 (Operand.tmp 50) 0, type := 0, pos := "ref.go:87", after := #[{ on := 9, ground := Ground.data }], guard := none }) (v := ?_) rfl (by kernel_rfl) (by kernel_rfl) (by kernel_rfl) (fun _ _ _ h => h) (Or.inl ⟨by rfl, ?_⟩) hHeld ?_
    rotate_left 1
    · intro u hSu
      obtain ⟨a0u, a1u, a2u, a3u⟩ := row4T (kept_row K.out.b1 hSu.out (by simp))
      obtain ⟨d0u, d1u, d2u, d3u⟩ := row4T (kept_row K.out.b2 hSu.out (by simp))
      have m0u := hSu.out.cell HA.out.1.1 (by simp)
      have m1u := hSu.out.cell HA.out.1.2 (by simp)
      have n0u := hSu.out.cell HA.out.2.1 (by simp)
      have n1u := hSu.out.cell HA.out.2.2 (by simp)
      go_simp
      first | done | with_reducible rfl
    (try simp only [Act.put, List.setIfInBounds_toArray, List.set_cons_zero, List.set_cons_succ])
    refine wpAnyH_take (i := 11) (oi := { dst := some 52, op := Op.load 3 (Operand.tmp 51), type := 3, pos := "ref.go:87", after := #[{ on := 10, ground := Ground.data }], guard := none }) (v := ?_) rfl (by kernel_rfl) (by kernel_rfl) (by kernel_rfl) (fun _ _ _ h => h) (Or.inl ⟨by rfl, ?_⟩) hHeld ?_
    rotate_left 1
    · intro u hSu
      obtain ⟨a0u, a1u, a2u, a3u⟩ := row4T (kept_row K.out.b1 hSu.out (by simp))
      obtain ⟨d0u, d1u, d2u, d3u⟩ := row4T (kept_row K.out.b2 hSu.out (by simp))
      have m0u := hSu.out.cell HA.out.1.1 (by simp)
      have m1u := hSu.out.cell HA.out.1.2 (by simp)
      have n0u := hSu.out.cell HA.out.2.1 (by simp)
      have n1u := hSu.out.cell HA.out.2.2 (by simp)
      go_simp
      first | done | with_reducible rfl
    (try simp only [Act.put, List.setIfInBounds_toArray, List.set_cons_zero, List.set_cons_succ])
    refine wpAnyH_take (i := 12) (oi := { dst := some 53, op := Op.binOp BinOp.neq 3 (Operand.tmp 46) (Operand.tmp 52) 3, type := 4, pos := "ref.go:87", after := #[{ on := 5, ground := Ground.data }, { on := 11, ground := Ground.data }], guard := none }) (v := .bool true) rfl (by kernel_rfl) (by kernel_rfl) (by kernel_rfl) (fun _ _ _ h => h) (Or.inl ⟨by rfl, ?_⟩) hHeld ?_
    · intro u hSu
      obtain ⟨a0u, a1u, a2u, a3u⟩ := row4T (kept_row K.out.b1 hSu.out (by simp))
      obtain ⟨d0u, d1u, d2u, d3u⟩ := row4T (kept_row K.out.b2 hSu.out (by simp))
      have m0u := hSu.out.cell HA.out.1.1 (by simp)
      have m1u := hSu.out.cell HA.out.1.2 (by simp)
      have n0u := hSu.out.cell HA.out.2.1 (by simp)
      have n1u := hSu.out.cell HA.out.2.2 (by simp)
      go_simp
      first | done | with_reducible rfl
    (try simp only [Act.put, List.setIfInBounds_toArray, List.set_cons_zero, List.set_cons_succ])
    refine wpAnyH_take (i := 13) (oi := { dst := some 54, op := Op.move (Operand.tmp 53), type := 4, pos := "ref.go:87", after := #[{ on := 12, ground := Ground.data }], guard := none }) (v := ?_) rfl (by kernel_rfl) (by kernel_rfl) (by kernel_rfl) (fun _ _ _ h => h) (Or.inl ⟨by rfl, ?_⟩) hHeld ?_
    rotate_left 1
    · intro u hSu
      obtain ⟨a0u, a1u, a2u, a3u⟩ := row4T (kept_row K.out.b1 hSu.out (by simp))
      obtain ⟨d0u, d1u, d2u, d3u⟩ := row4T (kept_row K.out.b2 hSu.out (by simp))
      have m0u := hSu.out.cell HA.out.1.1 (by simp)
      have m1u := hSu.out.cell HA.out.1.2 (by simp)
      have n0u := hSu.out.cell HA.out.2.1 (by simp)
      have n1u := hSu.out.cell HA.out.2.2 (by simp)
      go_simp
      first | done | with_reducible rfl
    (try simp only [Act.put, List.setIfInBounds_toArray, List.set_cons_zero, List.set_cons_succ])
    refine wpAnyH_take (i := 14) (oi := { dst := some 55, op := Op.fieldAddr 25 (Operand.tmp 2) 3, type := 0, pos := "ref.go:87", after := #[{ on := 13, ground := Ground.guard }], guard := some (13, false) }) (v := undef) rfl (by kernel_rfl) (by kernel_rfl) (by kernel_rfl) (fun _ _ _ h => h) (Or.inr ⟨by rfl, rfl⟩) hHeld ?_
    (try simp only [Act.put, List.setIfInBounds_toArray, List.set_cons_zero, List.set_cons_succ])
    refine wpAnyH_take (i := 15) (oi := { dst := some 56, op := Op.load 23 (Operand.tmp 55), type := 23, pos := "ref.go:87", after := #[{ on := 14, ground := Ground.data }, { on := 13, ground := Ground.guard }], guard := some (13, false) }) (v := undef) rfl (by kernel_rfl) (by kernel_rfl) (by kernel_rfl) (fun _ _ _ h => h) (Or.inr ⟨by rfl, rfl⟩) hHeld ?_
    (try simp only [Act.put, List.setIfInBounds_toArray, List.set_cons_zero, List.set_cons_succ])
    refine wpAnyH_take (i := 16) (oi := { dst := some 57, op := Op.move (Operand.tmp 5), type := 3, pos := "ref.go:87", after := #[{ on := 13, ground := Ground.guard }], guard := some (13, false) }) (v := undef) rfl (by kernel_rfl) (by kernel_rfl) (by kernel_rfl) (fun _ _ _ h => h) (Or.inr ⟨by rfl, rfl⟩) hHeld ?_
    (try simp only [Act.put, List.setIfInBounds_toArray, List.set_cons_zero, List.set_cons_succ])
    refine wpAnyH_take (i := 17) (oi := { dst := some 58, op := Op.indexAddr 23 (Operand.tmp 56) (Operand.tmp 57), type := 0, pos := "ref.go:87", after := #[{ on := 15, ground := Ground.data }, { on := 16, ground := Ground.data }, { on := 13, ground := Ground.guard }], guard := some (13, false) }) (v := undef) rfl (by kernel_rfl) (by kernel_rfl) (by kernel_rfl) (fun _ _ _ h => h) (Or.inr ⟨by rfl, rfl⟩) hHeld ?_
    (try simp only [Act.put, List.setIfInBounds_toArray, List.set_cons_zero, List.set_cons_succ])
    refine wpAnyH_take (i := 18) (oi := { dst := some 59, op := Op.fieldAddr 36 (Operand.tmp 58) 1, type := 0, pos := "ref.go:87", after := #[{ on := 17, ground := Ground.data }, { on := 13, ground := Ground.guard }], guard := some (13, false) }) (v := undef) rfl (by kernel_rfl) (by kernel_rfl) (by kernel_rfl) (fun _ _ _ h => h) (Or.inr ⟨by rfl, rfl⟩) hHeld ?_
    (try simp only [Act.put, List.setIfInBounds_toArray, List.set_cons_zero, List.set_cons_succ])
    refine wpAnyH_take (i := 19) (oi := { dst := some 60, op := Op.load 22 (Operand.tmp 59), type := 22, pos := "ref.go:87", after := #[{ on := 18, ground := Ground.data }, { on := 13, ground := Ground.guard }], guard := some (13, false) }) (v := undef) rfl (by kernel_rfl) (by kernel_rfl) (by kernel_rfl) (fun _ _ _ h => h) (Or.inr ⟨by rfl, rfl⟩) hHeld ?_
    (try simp only [Act.put, List.setIfInBounds_toArray, List.set_cons_zero, List.set_cons_succ])
    refine wpAnyH_take (i := 20) (oi := { dst := some 61, op := Op.fieldAddr 25 (Operand.tmp 3) 3, type := 0, pos := "ref.go:87", after := #[{ on := 13, ground := Ground.guard }], guard := some (13, false) }) (v := undef) rfl (by kernel_rfl) (by kernel_rfl) (by kernel_rfl) (fun _ _ _ h => h) (Or.inr ⟨by rfl, rfl⟩) hHeld ?_
    (try simp only [Act.put, List.setIfInBounds_toArray, List.set_cons_zero, List.set_cons_succ])
    refine wpAnyH_take (i := 21) (oi := { dst := some 62, op := Op.load 23 (Operand.tmp 61), type := 23, pos := "ref.go:87", after := #[{ on := 20, ground := Ground.data }, { on := 13, ground := Ground.guard }], guard := some (13, false) }) (v := undef) rfl (by kernel_rfl) (by kernel_rfl) (by kernel_rfl) (fun _ _ _ h => h) (Or.inr ⟨by rfl, rfl⟩) hHeld ?_
    (try simp only [Act.put, List.setIfInBounds_toArray, List.set_cons_zero, List.set_cons_succ])
    refine wpAnyH_take (i := 22) (oi := { dst := some 63, op := Op.move (Operand.tmp 5), type := 3, pos := "ref.go:87", after := #[{ on := 13, ground := Ground.guard }], guard := some (13, false) }) (v := undef) rfl (by kernel_rfl) (by kernel_rfl) (by kernel_rfl) (fun _ _ _ h => h) (Or.inr ⟨by rfl, rfl⟩) hHeld ?_
    (try simp only [Act.put, List.setIfInBounds_toArray, List.set_cons_zero, List.set_cons_succ])
    refine wpAnyH_take (i := 23) (oi := { dst := some 64, op := Op.indexAddr 23 (Operand.tmp 62) (Operand.tmp 63), type := 0, pos := "ref.go:87", after := #[{ on := 21, ground := Ground.data }, { on := 22, ground := Ground.data }, { on := 13, ground := Ground.guard }], guard := some (13, false) }) (v := undef) rfl (by kernel_rfl) (by kernel_rfl) (by kernel_rfl) (fun _ _ _ h => h) (Or.inr ⟨by rfl, rfl⟩) hHeld ?_
    (try simp only [Act.put, List.setIfInBounds_toArray, List.set_cons_zero, List.set_cons_succ])
    refine wpAnyH_take (i := 24) (oi := { dst := some 65, op := Op.fieldAddr 36 (Operand.tmp 64) 1, type := 0, pos := "ref.go:87", after := #[{ on := 23, ground := Ground.data }, { on := 13, ground := Ground.guard }], guard := some (13, false) }) (v := undef) rfl (by kernel_rfl) (by kernel_rfl) (by kernel_rfl) (fun _ _ _ h => h) (Or.inr ⟨by rfl, rfl⟩) hHeld ?_
    (try simp only [Act.put, List.setIfInBounds_toArray, List.set_cons_zero, List.set_cons_succ])
    refine wpAnyH_take (i := 25) (oi := { dst := some 66, op := Op.load 22 (Operand.tmp 65), type := 22, pos := "ref.go:87", after := #[{ on := 24, ground := Ground.data }, { on := 13, ground := Ground.guard }], guard := some (13, false) }) (v := undef) rfl (by kernel_rfl) (by kernel_rfl) (by kernel_rfl) (fun _ _ _ h => h) (Or.inr ⟨by rfl, rfl⟩) hHeld ?_
    (try simp only [Act.put, List.setIfInBounds_toArray, List.set_cons_zero, List.set_cons_succ])
    refine wpAnyH_take (i := 26) (oi := { dst := some 67, op := Op.call { callee := Callee.value (Operand.func 20), args := #[Operand.tmp 60, Operand.tmp 66], argTypes := #[22, 22] }, type := 4, pos := "ref.go:87", after := #[{ on := 19, ground := Ground.data }, { on := 25, ground := Ground.data }, { on := 13, ground := Ground.chain }, { on := 13, ground := Ground.guard }], guard := some (13, false) }) (v := undef) rfl (by kernel_rfl) (by kernel_rfl) (by kernel_rfl) (fun _ _ _ h => h) (Or.inr ⟨by rfl, rfl⟩) hHeld ?_
    (try simp only [Act.put, List.setIfInBounds_toArray, List.set_cons_zero, List.set_cons_succ])
    refine wpAnyH_take (i := 27) (oi := { dst := some 68, op := Op.unOp UnOp.not 4 (Operand.tmp 67), type := 4, pos := "ref.go:87", after := #[{ on := 26, ground := Ground.data }, { on := 13, ground := Ground.guard }], guard := some (13, false) }) (v := undef) rfl (by kernel_rfl) (by kernel_rfl) (by kernel_rfl) (fun _ _ _ h => h) (Or.inr ⟨by rfl, rfl⟩) hHeld ?_
    (try simp only [Act.put, List.setIfInBounds_toArray, List.set_cons_zero, List.set_cons_succ])
    refine wpAnyH_take (i := 28) (oi := { dst := some 69, op := Op.pick (Operand.tmp 54) (Operand.const (Value.bool true)) (Operand.tmp 68), type := 4, pos := "ref.go:87", after := #[{ on := 13, ground := Ground.data }, { on := 27, ground := Ground.data }], guard := none }) (v := ?_) rfl (by kernel_rfl) (by kernel_rfl) (by kernel_rfl) (fun _ _ _ h => h) (Or.inl ⟨by rfl, ?_⟩) hHeld ?_
    rotate_left 1
    · intro u hSu
      obtain ⟨a0u, a1u, a2u, a3u⟩ := row4T (kept_row K.out.b1 hSu.out (by simp))
      obtain ⟨d0u, d1u, d2u, d3u⟩ := row4T (kept_row K.out.b2 hSu.out (by simp))
      have m0u := hSu.out.cell HA.out.1.1 (by simp)
      have m1u := hSu.out.cell HA.out.1.2 (by simp)
      have n0u := hSu.out.cell HA.out.2.1 (by simp)
      have n1u := hSu.out.cell HA.out.2.2 (by simp)
      go_simp
      first | done | with_reducible rfl
    (try simp only [Act.put, List.setIfInBounds_toArray, List.set_cons_zero, List.set_cons_succ])
    refine wpAnyH_done (by kernel_rfl) ?_ _
    have G := Lib.hid (grown_trans K.out.gr hHeld.out)
    clear hHeld
    go_wp2_with fail
    go_ret
    exact ⟨by rw [HF.out]; rfl, G.out⟩
  have e' : (x.id != y.id) = false := by simpa using e
  have HV : Hid (decide (x.nx = y.nx) = decide (rw0 x = rw0 y)) := Lib.hid (by rw [decide_eq_decide, rw0_iff]; simp [e])
  clear e
  refine wp_region_held_drew (S := fun w' => Hid (w5.grownBy w' none)) (by kernel_rfl) (Lib.hid (grown_drew (grown_refl _ none))) (fun hHeld => ?_)
  refine wpAnyH_take (i := 0) (oi := { dst := some 41, op := Op.fieldAddr 25 (Operand.tmp 2) 3, type := 0, pos := "ref.go:87", after := #[], guard := none }) (v := ?_) rfl (by kernel_rfl) (by kernel_rfl) (by kernel_rfl) (fun _ _ _ h => h) (Or.inl ⟨by rfl, ?_⟩) hHeld ?_
  rotate_left 1
  · intro u hSu
    obtain ⟨a0u, a1u, a2u, a3u⟩ := row4T (kept_row K.out.b1 hSu.out (by simp))
    obtain ⟨d0u, d1u, d2u, d3u⟩ := row4T (kept_row K.out.b2 hSu.out (by simp))
    have m0u := hSu.out.cell HA.out.1.1 (by simp)
    have m1u := hSu.out.cell HA.out.1.2 (by simp)
    have n0u := hSu.out.cell HA.out.2.1 (by simp)
    have n1u := hSu.out.cell HA.out.2.2 (by simp)
    go_simp
    first | done | with_reducible rfl
  (try simp only [Act.put, List.setIfInBounds_toArray, List.set_cons_zero, List.set_cons_succ])
  refine wpAnyH_take (i := 1) (oi := { dst := some 42, op := Op.load 23 (Operand.tmp 41), type := 23, pos := "ref.go:87", after := #[{ on := 0, ground := Ground.data }], guard := none }) (v := ?_) rfl (by kernel_rfl) (by kernel_rfl) (by kernel_rfl) (fun _ _ _ h => h) (Or.inl ⟨by rfl, ?_⟩) hHeld ?_
  rotate_left 1
  · intro u hSu
    obtain ⟨a0u, a1u, a2u, a3u⟩ := row4T (kept_row K.out.b1 hSu.out (by simp))
    obtain ⟨d0u, d1u, d2u, d3u⟩ := row4T (kept_row K.out.b2 hSu.out (by simp))
    have m0u := hSu.out.cell HA.out.1.1 (by simp)
    have m1u := hSu.out.cell HA.out.1.2 (by simp)
    have n0u := hSu.out.cell HA.out.2.1 (by simp)
    have n1u := hSu.out.cell HA.out.2.2 (by simp)
    go_simp
    first | done | with_reducible rfl
  (try simp only [Act.put, List.setIfInBounds_toArray, List.set_cons_zero, List.set_cons_succ])
  refine wpAnyH_take (i := 2) (oi := { dst := some 43, op := Op.move (Operand.tmp 5), type := 3, pos := "ref.go:87", after := #[], guard := none }) (v := ?_) rfl (by kernel_rfl) (by kernel_rfl) (by kernel_rfl) (fun _ _ _ h => h) (Or.inl ⟨by rfl, ?_⟩) hHeld ?_
  rotate_left 1
  · intro u hSu
    obtain ⟨a0u, a1u, a2u, a3u⟩ := row4T (kept_row K.out.b1 hSu.out (by simp))
    obtain ⟨d0u, d1u, d2u, d3u⟩ := row4T (kept_row K.out.b2 hSu.out (by simp))
    have m0u := hSu.out.cell HA.out.1.1 (by simp)
    have m1u := hSu.out.cell HA.out.1.2 (by simp)
    have n0u := hSu.out.cell HA.out.2.1 (by simp)
    have n1u := hSu.out.cell HA.out.2.2 (by simp)
    go_simp
    first | done | with_reducible rfl
  (try simp only [Act.put, List.setIfInBounds_toArray, List.set_cons_zero, List.set_cons_succ])
  refine wpAnyH_take (i := 3) (oi := { dst := some 44, op := Op.indexAddr 23 (Operand.tmp 42) (Operand.tmp 43), type := 0, pos := "ref.go:87", after := #[{ on := 1, ground := Ground.data }, { on := 2, ground := Ground.data }], guard := none }) (v := ?_) rfl (by kernel_rfl) (by kernel_rfl) (by kernel_rfl) (fun _ _ _ h => h) (Or.inl ⟨by rfl, ?_⟩) hHeld ?_
  rotate_left 1
  · intro u hSu
    obtain ⟨a0u, a1u, a2u, a3u⟩ := row4T (kept_row K.out.b1 hSu.out (by simp))
    obtain ⟨d0u, d1u, d2u, d3u⟩ := row4T (kept_row K.out.b2 hSu.out (by simp))
    have m0u := hSu.out.cell HA.out.1.1 (by simp)
    have m1u := hSu.out.cell HA.out.1.2 (by simp)
    have n0u := hSu.out.cell HA.out.2.1 (by simp)
    have n1u := hSu.out.cell HA.out.2.2 (by simp)
    go_simp
    first | done | with_reducible rfl
  (try simp only [Act.put, List.setIfInBounds_toArray, List.set_cons_zero, List.set_cons_succ])
  refine wpAnyH_take (i := 4) (oi := { dst := some 45, op := Op.fieldAddr 36 (Operand.tmp 44) 0, type := 0, pos := "ref.go:87", after := #[{ on := 3, ground := Ground.data }], guard := none }) (v := ?_) rfl (by kernel_rfl) (by kernel_rfl) (by kernel_rfl) (fun _ _ _ h => h) (Or.inl ⟨by rfl, ?_⟩) hHeld ?_
  rotate_left 1
  · intro u hSu
    obtain ⟨a0u, a1u, a2u, a3u⟩ := row4T (kept_row K.out.b1 hSu.out (by simp))
    obtain ⟨d0u, d1u, d2u, d3u⟩ := row4T (kept_row K.out.b2 hSu.out (by simp))
    have m0u := hSu.out.cell HA.out.1.1 (by simp)
    have m1u := hSu.out.cell HA.out.1.2 (by simp)
    have n0u := hSu.out.cell HA.out.2.1 (by simp)
    have n1u := hSu.out.cell HA.out.2.2 (by simp)
    go_simp
    first | done | with_reducible rfl
  (try simp only [Act.put, List.setIfInBounds_toArray, List.set_cons_zero, List.set_cons_succ])
  refine wpAnyH_take (i := 5) (oi := { dst := some 46, op := Op.load 3 (Operand.tmp 45), type := 3, pos := "ref.go:87", after := #[{ on := 4, ground := Ground.data }], guard := none }) (v := ?_) rfl (by kernel_rfl) (by kernel_rfl) (by kernel_rfl) (fun _ _ _ h => h) (Or.inl ⟨by rfl, ?_⟩) hHeld ?_
  rotate_left 1
  · intro u hSu
    obtain ⟨a0u, a1u, a2u, a3u⟩ := row4T (kept_row K.out.b1 hSu.out (by simp))
    obtain ⟨d0u, d1u, d2u, d3u⟩ := row4T (kept_row K.out.b2 hSu.out (by simp))
    have m0u := hSu.out.cell HA.out.1.1 (by simp)
    have m1u := hSu.out.cell HA.out.1.2 (by simp)
    have n0u := hSu.out.cell HA.out.2.1 (by simp)
    have n1u := hSu.out.cell HA.out.2.2 (by simp)
    go_simp
    first | done | with_reducible rfl
  (try simp only [Act.put, List.setIfInBounds_toArray, List.set_cons_zero, List.set_cons_succ])
  refine wpAnyH_take (i := 6) (oi := { dst := some 47, op := Op.fieldAddr 25 (Operand.tmp 3) 3, type := 0, pos := "ref.go:87", after := #[], guard := none }) (v := ?_) rfl (by kernel_rfl) (by kernel_rfl) (by kernel_rfl) (fun _ _ _ h => h) (Or.inl ⟨by rfl, ?_⟩) hHeld ?_
  rotate_left 1
  · intro u hSu
    obtain ⟨a0u, a1u, a2u, a3u⟩ := row4T (kept_row K.out.b1 hSu.out (by simp))
    obtain ⟨d0u, d1u, d2u, d3u⟩ := row4T (kept_row K.out.b2 hSu.out (by simp))
    have m0u := hSu.out.cell HA.out.1.1 (by simp)
    have m1u := hSu.out.cell HA.out.1.2 (by simp)
    have n0u := hSu.out.cell HA.out.2.1 (by simp)
    have n1u := hSu.out.cell HA.out.2.2 (by simp)
    go_simp
    first | done | with_reducible rfl
  (try simp only [Act.put, List.setIfInBounds_toArray, List.set_cons_zero, List.set_cons_succ])
  refine wpAnyH_take (i := 7) (oi := { dst := some 48, op := Op.load 23 (Operand.tmp 47), type := 23, pos := "ref.go:87", after := #[{ on := 6, ground := Ground.data }], guard := none }) (v := ?_) rfl (by kernel_rfl) (by kernel_rfl) (by kernel_rfl) (fun _ _ _ h => h) (Or.inl ⟨by rfl, ?_⟩) hHeld ?_
  rotate_left 1
  · intro u hSu
    obtain ⟨a0u, a1u, a2u, a3u⟩ := row4T (kept_row K.out.b1 hSu.out (by simp))
    obtain ⟨d0u, d1u, d2u, d3u⟩ := row4T (kept_row K.out.b2 hSu.out (by simp))
    have m0u := hSu.out.cell HA.out.1.1 (by simp)
    have m1u := hSu.out.cell HA.out.1.2 (by simp)
    have n0u := hSu.out.cell HA.out.2.1 (by simp)
    have n1u := hSu.out.cell HA.out.2.2 (by simp)
    go_simp
    first | done | with_reducible rfl
  (try simp only [Act.put, List.setIfInBounds_toArray, List.set_cons_zero, List.set_cons_succ])
  refine wpAnyH_take (i := 8) (oi := { dst := some 49, op := Op.move (Operand.tmp 5), type := 3, pos := "ref.go:87", after := #[], guard := none }) (v := ?_) rfl (by kernel_rfl) (by kernel_rfl) (by kernel_rfl) (fun _ _ _ h => h) (Or.inl ⟨by rfl, ?_⟩) hHeld ?_
  rotate_left 1
  · intro u hSu
    obtain ⟨a0u, a1u, a2u, a3u⟩ := row4T (kept_row K.out.b1 hSu.out (by simp))
    obtain ⟨d0u, d1u, d2u, d3u⟩ := row4T (kept_row K.out.b2 hSu.out (by simp))
    have m0u := hSu.out.cell HA.out.1.1 (by simp)
    have m1u := hSu.out.cell HA.out.1.2 (by simp)
    have n0u := hSu.out.cell HA.out.2.1 (by simp)
    have n1u := hSu.out.cell HA.out.2.2 (by simp)
    go_simp
    first | done | with_reducible rfl
  (try simp only [Act.put, List.setIfInBounds_toArray, List.set_cons_zero, List.set_cons_succ])
  refine wpAnyH_take (i := 9) (oi := { dst := some 50, op := Op.indexAddr 23 (Operand.tmp 48) (Operand.tmp 49), type := 0, pos := "ref.go:87", after := #[{ on := 7, ground := Ground.data }, { on := 8, ground := Ground.data }], guard := none }) (v := ?_) rfl (by kernel_rfl) (by kernel_rfl) (by kernel_rfl) (fun _ _ _ h => h) (Or.inl ⟨by rfl, ?_⟩) hHeld ?_
  rotate_left 1
  · intro u hSu
    obtain ⟨a0u, a1u, a2u, a3u⟩ := row4T (kept_row K.out.b1 hSu.out (by simp))
    obtain ⟨d0u, d1u, d2u, d3u⟩ := row4T (kept_row K.out.b2 hSu.out (by simp))
    have m0u := hSu.out.cell HA.out.1.1 (by simp)
    have m1u := hSu.out.cell HA.out.1.2 (by simp)
    have n0u := hSu.out.cell HA.out.2.1 (by simp)
    have n1u := hSu.out.cell HA.out.2.2 (by simp)
    go_simp
    first | done | with_reducible rfl
  (try simp only [Act.put, List.setIfInBounds_toArray, List.set_cons_zero, List.set_cons_succ])
  refine wpAnyH_take (i := 10) (oi := { dst := some 51, op := Op.fieldAddr 36 (Operand.tmp 50) 0, type := 0, pos := "ref.go:87", after := #[{ on := 9, ground := Ground.data }], guard := none }) (v := ?_) rfl (by kernel_rfl) (by kernel_rfl) (by kernel_rfl) (fun _ _ _ h => h) (Or.inl ⟨by rfl, ?_⟩) hHeld ?_
  rotate_left 1
  · intro u hSu
    obtain ⟨a0u, a1u, a2u, a3u⟩ := row4T (kept_row K.out.b1 hSu.out (by simp))
    obtain ⟨d0u, d1u, d2u, d3u⟩ := row4T (kept_row K.out.b2 hSu.out (by simp))
    have m0u := hSu.out.cell HA.out.1.1 (by simp)
    have m1u := hSu.out.cell HA.out.1.2 (by simp)
    have n0u := hSu.out.cell HA.out.2.1 (by simp)
    have n1u := hSu.out.cell HA.out.2.2 (by simp)
    go_simp
    first | done | with_reducible rfl
  (try simp only [Act.put, List.setIfInBounds_toArray, List.set_cons_zero, List.set_cons_succ])
  refine wpAnyH_take (i := 11) (oi := { dst := some 52, op := Op.load 3 (Operand.tmp 51), type := 3, pos := "ref.go:87", after := #[{ on := 10, ground := Ground.data }], guard := none }) (v := ?_) rfl (by kernel_rfl) (by kernel_rfl) (by kernel_rfl) (fun _ _ _ h => h) (Or.inl ⟨by rfl, ?_⟩) hHeld ?_
  rotate_left 1
  · intro u hSu
    obtain ⟨a0u, a1u, a2u, a3u⟩ := row4T (kept_row K.out.b1 hSu.out (by simp))
    obtain ⟨d0u, d1u, d2u, d3u⟩ := row4T (kept_row K.out.b2 hSu.out (by simp))
    have m0u := hSu.out.cell HA.out.1.1 (by simp)
    have m1u := hSu.out.cell HA.out.1.2 (by simp)
    have n0u := hSu.out.cell HA.out.2.1 (by simp)
    have n1u := hSu.out.cell HA.out.2.2 (by simp)
    go_simp
    first | done | with_reducible rfl
  (try simp only [Act.put, List.setIfInBounds_toArray, List.set_cons_zero, List.set_cons_succ])
  refine wpAnyH_take (i := 12) (oi := { dst := some 53, op := Op.binOp BinOp.neq 3 (Operand.tmp 46) (Operand.tmp 52) 3, type := 4, pos := "ref.go:87", after := #[{ on := 5, ground := Ground.data }, { on := 11, ground := Ground.data }], guard := none }) (v := .bool false) rfl (by kernel_rfl) (by kernel_rfl) (by kernel_rfl) (fun _ _ _ h => h) (Or.inl ⟨by rfl, ?_⟩) hHeld ?_
  · intro u hSu
    obtain ⟨a0u, a1u, a2u, a3u⟩ := row4T (kept_row K.out.b1 hSu.out (by simp))
    obtain ⟨d0u, d1u, d2u, d3u⟩ := row4T (kept_row K.out.b2 hSu.out (by simp))
    have m0u := hSu.out.cell HA.out.1.1 (by simp)
    have m1u := hSu.out.cell HA.out.1.2 (by simp)
    have n0u := hSu.out.cell HA.out.2.1 (by simp)
    have n1u := hSu.out.cell HA.out.2.2 (by simp)
    go_simp
    first | done | with_reducible rfl
  (try simp only [Act.put, List.setIfInBounds_toArray, List.set_cons_zero, List.set_cons_succ])
  refine wpAnyH_take (i := 13) (oi := { dst := some 54, op := Op.move (Operand.tmp 53), type := 4, pos := "ref.go:87", after := #[{ on := 12, ground := Ground.data }], guard := none }) (v := ?_) rfl (by kernel_rfl) (by kernel_rfl) (by kernel_rfl) (fun _ _ _ h => h) (Or.inl ⟨by rfl, ?_⟩) hHeld ?_
  rotate_left 1
  · intro u hSu
    obtain ⟨a0u, a1u, a2u, a3u⟩ := row4T (kept_row K.out.b1 hSu.out (by simp))
    obtain ⟨d0u, d1u, d2u, d3u⟩ := row4T (kept_row K.out.b2 hSu.out (by simp))
    have m0u := hSu.out.cell HA.out.1.1 (by simp)
    have m1u := hSu.out.cell HA.out.1.2 (by simp)
    have n0u := hSu.out.cell HA.out.2.1 (by simp)
    have n1u := hSu.out.cell HA.out.2.2 (by simp)
    go_simp
    first | done | with_reducible rfl
  (try simp only [Act.put, List.setIfInBounds_toArray, List.set_cons_zero, List.set_cons_succ])
  refine wpAnyH_take (i := 14) (oi := { dst := some 55, op := Op.fieldAddr 25 (Operand.tmp 2) 3, type := 0, pos := "ref.go:87", after := #[{ on := 13, ground := Ground.guard }], guard := some (13, false) }) (v := ?_) rfl (by kernel_rfl) (by kernel_rfl) (by kernel_rfl) (fun _ _ _ h => h) (Or.inl ⟨by rfl, ?_⟩) hHeld ?_
  rotate_left 1
  · intro u hSu
    obtain ⟨a0u, a1u, a2u, a3u⟩ := row4T (kept_row K.out.b1 hSu.out (by simp))
    obtain ⟨d0u, d1u, d2u, d3u⟩ := row4T (kept_row K.out.b2 hSu.out (by simp))
    have m0u := hSu.out.cell HA.out.1.1 (by simp)
    have m1u := hSu.out.cell HA.out.1.2 (by simp)
    have n0u := hSu.out.cell HA.out.2.1 (by simp)
    have n1u := hSu.out.cell HA.out.2.2 (by simp)
    go_simp
    first | done | with_reducible rfl
  (try simp only [Act.put, List.setIfInBounds_toArray, List.set_cons_zero, List.set_cons_succ])
  refine wpAnyH_take (i := 15) (oi := { dst := some 56, op := Op.load 23 (Operand.tmp 55), type := 23, pos := "ref.go:87", after := #[{ on := 14, ground := Ground.data }, { on := 13, ground := Ground.guard }], guard := some (13, false) }) (v := ?_) rfl (by kernel_rfl) (by kernel_rfl) (by kernel_rfl) (fun _ _ _ h => h) (Or.inl ⟨by rfl, ?_⟩) hHeld ?_
  rotate_left 1
  · intro u hSu
    obtain ⟨a0u, a1u, a2u, a3u⟩ := row4T (kept_row K.out.b1 hSu.out (by simp))
    obtain ⟨d0u, d1u, d2u, d3u⟩ := row4T (kept_row K.out.b2 hSu.out (by simp))
    have m0u := hSu.out.cell HA.out.1.1 (by simp)
    have m1u := hSu.out.cell HA.out.1.2 (by simp)
    have n0u := hSu.out.cell HA.out.2.1 (by simp)
    have n1u := hSu.out.cell HA.out.2.2 (by simp)
    go_simp
    first | done | with_reducible rfl
  (try simp only [Act.put, List.setIfInBounds_toArray, List.set_cons_zero, List.set_cons_succ])
  refine wpAnyH_take (i := 16) (oi := { dst := some 57, op := Op.move (Operand.tmp 5), type := 3, pos := "ref.go:87", after := #[{ on := 13, ground := Ground.guard }], guard := some (13, false) }) (v := ?_) rfl (by kernel_rfl) (by kernel_rfl) (by kernel_rfl) (fun _ _ _ h => h) (Or.inl ⟨by rfl, ?_⟩) hHeld ?_
  rotate_left 1
  · intro u hSu
    obtain ⟨a0u, a1u, a2u, a3u⟩ := row4T (kept_row K.out.b1 hSu.out (by simp))
    obtain ⟨d0u, d1u, d2u, d3u⟩ := row4T (kept_row K.out.b2 hSu.out (by simp))
    have m0u := hSu.out.cell HA.out.1.1 (by simp)
    have m1u := hSu.out.cell HA.out.1.2 (by simp)
    have n0u := hSu.out.cell HA.out.2.1 (by simp)
    have n1u := hSu.out.cell HA.out.2.2 (by simp)
    go_simp
    first | done | with_reducible rfl
  (try simp only [Act.put, List.setIfInBounds_toArray, List.set_cons_zero, List.set_cons_succ])
  refine wpAnyH_take (i := 17) (oi := { dst := some 58, op := Op.indexAddr 23 (Operand.tmp 56) (Operand.tmp 57), type := 0, pos := "ref.go:87", after := #[{ on := 15, ground := Ground.data }, { on := 16, ground := Ground.data }, { on := 13, ground := Ground.guard }], guard := some (13, false) }) (v := ?_) rfl (by kernel_rfl) (by kernel_rfl) (by kernel_rfl) (fun _ _ _ h => h) (Or.inl ⟨by rfl, ?_⟩) hHeld ?_
  rotate_left 1
  · intro u hSu
    obtain ⟨a0u, a1u, a2u, a3u⟩ := row4T (kept_row K.out.b1 hSu.out (by simp))
    obtain ⟨d0u, d1u, d2u, d3u⟩ := row4T (kept_row K.out.b2 hSu.out (by simp))
    have m0u := hSu.out.cell HA.out.1.1 (by simp)
    have m1u := hSu.out.cell HA.out.1.2 (by simp)
    have n0u := hSu.out.cell HA.out.2.1 (by simp)
    have n1u := hSu.out.cell HA.out.2.2 (by simp)
    go_simp
    first | done | with_reducible rfl
  (try simp only [Act.put, List.setIfInBounds_toArray, List.set_cons_zero, List.set_cons_succ])
  refine wpAnyH_take (i := 18) (oi := { dst := some 59, op := Op.fieldAddr 36 (Operand.tmp 58) 1, type := 0, pos := "ref.go:87", after := #[{ on := 17, ground := Ground.data }, { on := 13, ground := Ground.guard }], guard := some (13, false) }) (v := ?_) rfl (by kernel_rfl) (by kernel_rfl) (by kernel_rfl) (fun _ _ _ h => h) (Or.inl ⟨by rfl, ?_⟩) hHeld ?_
  rotate_left 1
  · intro u hSu
    obtain ⟨a0u, a1u, a2u, a3u⟩ := row4T (kept_row K.out.b1 hSu.out (by simp))
    obtain ⟨d0u, d1u, d2u, d3u⟩ := row4T (kept_row K.out.b2 hSu.out (by simp))
    have m0u := hSu.out.cell HA.out.1.1 (by simp)
    have m1u := hSu.out.cell HA.out.1.2 (by simp)
    have n0u := hSu.out.cell HA.out.2.1 (by simp)
    have n1u := hSu.out.cell HA.out.2.2 (by simp)
    go_simp
    first | done | with_reducible rfl
  (try simp only [Act.put, List.setIfInBounds_toArray, List.set_cons_zero, List.set_cons_succ])
  refine wpAnyH_take (i := 19) (oi := { dst := some 60, op := Op.load 22 (Operand.tmp 59), type := 22, pos := "ref.go:87", after := #[{ on := 18, ground := Ground.data }, { on := 13, ground := Ground.guard }], guard := some (13, false) }) (v := ?_) rfl (by kernel_rfl) (by kernel_rfl) (by kernel_rfl) (fun _ _ _ h => h) (Or.inl ⟨by rfl, ?_⟩) hHeld ?_
  rotate_left 1
  · intro u hSu
    obtain ⟨a0u, a1u, a2u, a3u⟩ := row4T (kept_row K.out.b1 hSu.out (by simp))
    obtain ⟨d0u, d1u, d2u, d3u⟩ := row4T (kept_row K.out.b2 hSu.out (by simp))
    have m0u := hSu.out.cell HA.out.1.1 (by simp)
    have m1u := hSu.out.cell HA.out.1.2 (by simp)
    have n0u := hSu.out.cell HA.out.2.1 (by simp)
    have n1u := hSu.out.cell HA.out.2.2 (by simp)
    go_simp
    first | done | with_reducible rfl
  (try simp only [Act.put, List.setIfInBounds_toArray, List.set_cons_zero, List.set_cons_succ])
  refine wpAnyH_take (i := 20) (oi := { dst := some 61, op := Op.fieldAddr 25 (Operand.tmp 3) 3, type := 0, pos := "ref.go:87", after := #[{ on := 13, ground := Ground.guard }], guard := some (13, false) }) (v := ?_) rfl (by kernel_rfl) (by kernel_rfl) (by kernel_rfl) (fun _ _ _ h => h) (Or.inl ⟨by rfl, ?_⟩) hHeld ?_
  rotate_left 1
  · intro u hSu
    obtain ⟨a0u, a1u, a2u, a3u⟩ := row4T (kept_row K.out.b1 hSu.out (by simp))
    obtain ⟨d0u, d1u, d2u, d3u⟩ := row4T (kept_row K.out.b2 hSu.out (by simp))
    have m0u := hSu.out.cell HA.out.1.1 (by simp)
    have m1u := hSu.out.cell HA.out.1.2 (by simp)
    have n0u := hSu.out.cell HA.out.2.1 (by simp)
    have n1u := hSu.out.cell HA.out.2.2 (by simp)
    go_simp
    first | done | with_reducible rfl
  (try simp only [Act.put, List.setIfInBounds_toArray, List.set_cons_zero, List.set_cons_succ])
  refine wpAnyH_take (i := 21) (oi := { dst := some 62, op := Op.load 23 (Operand.tmp 61), type := 23, pos := "ref.go:87", after := #[{ on := 20, ground := Ground.data }, { on := 13, ground := Ground.guard }], guard := some (13, false) }) (v := ?_) rfl (by kernel_rfl) (by kernel_rfl) (by kernel_rfl) (fun _ _ _ h => h) (Or.inl ⟨by rfl, ?_⟩) hHeld ?_
  rotate_left 1
  · intro u hSu
    obtain ⟨a0u, a1u, a2u, a3u⟩ := row4T (kept_row K.out.b1 hSu.out (by simp))
    obtain ⟨d0u, d1u, d2u, d3u⟩ := row4T (kept_row K.out.b2 hSu.out (by simp))
    have m0u := hSu.out.cell HA.out.1.1 (by simp)
    have m1u := hSu.out.cell HA.out.1.2 (by simp)
    have n0u := hSu.out.cell HA.out.2.1 (by simp)
    have n1u := hSu.out.cell HA.out.2.2 (by simp)
    go_simp
    first | done | with_reducible rfl
  (try simp only [Act.put, List.setIfInBounds_toArray, List.set_cons_zero, List.set_cons_succ])
  refine wpAnyH_take (i := 22) (oi := { dst := some 63, op := Op.move (Operand.tmp 5), type := 3, pos := "ref.go:87", after := #[{ on := 13, ground := Ground.guard }], guard := some (13, false) }) (v := ?_) rfl (by kernel_rfl) (by kernel_rfl) (by kernel_rfl) (fun _ _ _ h => h) (Or.inl ⟨by rfl, ?_⟩) hHeld ?_
  rotate_left 1
  · intro u hSu
    obtain ⟨a0u, a1u, a2u, a3u⟩ := row4T (kept_row K.out.b1 hSu.out (by simp))
    obtain ⟨d0u, d1u, d2u, d3u⟩ := row4T (kept_row K.out.b2 hSu.out (by simp))
    have m0u := hSu.out.cell HA.out.1.1 (by simp)
    have m1u := hSu.out.cell HA.out.1.2 (by simp)
    have n0u := hSu.out.cell HA.out.2.1 (by simp)
    have n1u := hSu.out.cell HA.out.2.2 (by simp)
    go_simp
    first | done | with_reducible rfl
  (try simp only [Act.put, List.setIfInBounds_toArray, List.set_cons_zero, List.set_cons_succ])
  refine wpAnyH_take (i := 23) (oi := { dst := some 64, op := Op.indexAddr 23 (Operand.tmp 62) (Operand.tmp 63), type := 0, pos := "ref.go:87", after := #[{ on := 21, ground := Ground.data }, { on := 22, ground := Ground.data }, { on := 13, ground := Ground.guard }], guard := some (13, false) }) (v := ?_) rfl (by kernel_rfl) (by kernel_rfl) (by kernel_rfl) (fun _ _ _ h => h) (Or.inl ⟨by rfl, ?_⟩) hHeld ?_
  rotate_left 1
  · intro u hSu
    obtain ⟨a0u, a1u, a2u, a3u⟩ := row4T (kept_row K.out.b1 hSu.out (by simp))
    obtain ⟨d0u, d1u, d2u, d3u⟩ := row4T (kept_row K.out.b2 hSu.out (by simp))
    have m0u := hSu.out.cell HA.out.1.1 (by simp)
    have m1u := hSu.out.cell HA.out.1.2 (by simp)
    have n0u := hSu.out.cell HA.out.2.1 (by simp)
    have n1u := hSu.out.cell HA.out.2.2 (by simp)
    go_simp
    first | done | with_reducible rfl
  (try simp only [Act.put, List.setIfInBounds_toArray, List.set_cons_zero, List.set_cons_succ])
  refine wpAnyH_take (i := 24) (oi := { dst := some 65, op := Op.fieldAddr 36 (Operand.tmp 64) 1, type := 0, pos := "ref.go:87", after := #[{ on := 23, ground := Ground.data }, { on := 13, ground := Ground.guard }], guard := some (13, false) }) (v := ?_) rfl (by kernel_rfl) (by kernel_rfl) (by kernel_rfl) (fun _ _ _ h => h) (Or.inl ⟨by rfl, ?_⟩) hHeld ?_
  rotate_left 1
  · intro u hSu
    obtain ⟨a0u, a1u, a2u, a3u⟩ := row4T (kept_row K.out.b1 hSu.out (by simp))
    obtain ⟨d0u, d1u, d2u, d3u⟩ := row4T (kept_row K.out.b2 hSu.out (by simp))
    have m0u := hSu.out.cell HA.out.1.1 (by simp)
    have m1u := hSu.out.cell HA.out.1.2 (by simp)
    have n0u := hSu.out.cell HA.out.2.1 (by simp)
    have n1u := hSu.out.cell HA.out.2.2 (by simp)
    go_simp
    first | done | with_reducible rfl
  (try simp only [Act.put, List.setIfInBounds_toArray, List.set_cons_zero, List.set_cons_succ])
  refine wpAnyH_take (i := 25) (oi := { dst := some 66, op := Op.load 22 (Operand.tmp 65), type := 22, pos := "ref.go:87", after := #[{ on := 24, ground := Ground.data }, { on := 13, ground := Ground.guard }], guard := some (13, false) }) (v := ?_) rfl (by kernel_rfl) (by kernel_rfl) (by kernel_rfl) (fun _ _ _ h => h) (Or.inl ⟨by rfl, ?_⟩) hHeld ?_
  rotate_left 1
  · intro u hSu
    obtain ⟨a0u, a1u, a2u, a3u⟩ := row4T (kept_row K.out.b1 hSu.out (by simp))
    obtain ⟨d0u, d1u, d2u, d3u⟩ := row4T (kept_row K.out.b2 hSu.out (by simp))
    have m0u := hSu.out.cell HA.out.1.1 (by simp)
    have m1u := hSu.out.cell HA.out.1.2 (by simp)
    have n0u := hSu.out.cell HA.out.2.1 (by simp)
    have n1u := hSu.out.cell HA.out.2.2 (by simp)
    go_simp
    first | done | with_reducible rfl
  (try simp only [Act.put, List.setIfInBounds_toArray, List.set_cons_zero, List.set_cons_succ])
  refine wpAnyH_ready (rs := [26]) (by kernel_rfl) (by simp) ?_
  refine AllReadyH.cons (o := { dst := some 67, op := Op.call { callee := Callee.value (Operand.func 20), args := #[Operand.tmp 60, Operand.tmp 66], argTypes := #[22, 22] }, type := 4, pos := "ref.go:87", after := #[{ on := 19, ground := Ground.data }, { on := 25, ground := Ground.data }, { on := 13, ground := Ground.chain }, { on := 13, ground := Ground.guard }], guard := some (13, false) }) rfl (fun Kz hK => ?_) AllReadyH.nil
  go_simp
  go_at_call 20
  refine (rintsG_any x.nx y.nx x.p y.p x.c y.c _ _ _ (HOK.out.1.keep hHeld.out).rd (HOK.out.2.keep hHeld.out).rd (Nat.le_trans HOK.out.1.hc.1 HOK.out.1.hc.2) (Nat.le_trans HOK.out.2.hc.1 HOK.out.2.hc.2)).mono ?_
  rintro e' w7 ⟨rfl, hg⟩
  rw [HV.out]
  have HN := Lib.hid (grown_trans hHeld.out hg)
  clear hg
  obtain ⟨v, hv⟩ : ∃ v, decide (rw0 x = rw0 y) = v := ⟨_, rfl⟩
  rw [hv]
  have HV2 := Lib.hid hv
  clear hv
  simp only
  refine hK.out _ _ (HN) (fun hH2 => ?_)
  clear hK Kz hHeld
  have hHeld := hH2
  clear hH2
  (try simp only [Act.put, List.setIfInBounds_toArray, List.set_cons_zero, List.set_cons_succ])
  refine wpAnyH_take (i := 27) (oi := { dst := some 68, op := Op.unOp UnOp.not 4 (Operand.tmp 67), type := 4, pos := "ref.go:87", after := #[{ on := 26, ground := Ground.data }, { on := 13, ground := Ground.guard }], guard := some (13, false) }) (v := ?_) rfl (by kernel_rfl) (by kernel_rfl) (by kernel_rfl) (fun _ _ _ h => h) (Or.inl ⟨by rfl, ?_⟩) hHeld ?_
  rotate_left 1
  · intro u hSu
    obtain ⟨a0u, a1u, a2u, a3u⟩ := row4T (kept_row K.out.b1 hSu.out (by simp))
    obtain ⟨d0u, d1u, d2u, d3u⟩ := row4T (kept_row K.out.b2 hSu.out (by simp))
    have m0u := hSu.out.cell HA.out.1.1 (by simp)
    have m1u := hSu.out.cell HA.out.1.2 (by simp)
    have n0u := hSu.out.cell HA.out.2.1 (by simp)
    have n1u := hSu.out.cell HA.out.2.2 (by simp)
    go_simp
    first | done | with_reducible rfl
  (try simp only [Act.put, List.setIfInBounds_toArray, List.set_cons_zero, List.set_cons_succ])
  refine wpAnyH_take (i := 28) (oi := { dst := some 69, op := Op.pick (Operand.tmp 54) (Operand.const (Value.bool true)) (Operand.tmp 68), type := 4, pos := "ref.go:87", after := #[{ on := 13, ground := Ground.data }, { on := 27, ground := Ground.data }], guard := none }) (v := ?_) rfl (by kernel_rfl) (by kernel_rfl) (by kernel_rfl) (fun _ _ _ h => h) (Or.inl ⟨by rfl, ?_⟩) hHeld ?_
  rotate_left 1
  · intro u hSu
    obtain ⟨a0u, a1u, a2u, a3u⟩ := row4T (kept_row K.out.b1 hSu.out (by simp))
    obtain ⟨d0u, d1u, d2u, d3u⟩ := row4T (kept_row K.out.b2 hSu.out (by simp))
    have m0u := hSu.out.cell HA.out.1.1 (by simp)
    have m1u := hSu.out.cell HA.out.1.2 (by simp)
    have n0u := hSu.out.cell HA.out.2.1 (by simp)
    have n1u := hSu.out.cell HA.out.2.2 (by simp)
    go_simp
    first | done | with_reducible rfl
  (try simp only [Act.put, List.setIfInBounds_toArray, List.set_cons_zero, List.set_cons_succ])
  refine wpAnyH_done (by kernel_rfl) ?_ _
  have K7 := Lib.hid (K.out.keep hHeld.out)
  clear hHeld K
  cases v
  case false =>
    have HF : Hid (z = false) := Lib.hid (by rw [← HE.out]; exact decide_eq_false (tk_ne (rw0_get HXY.out.1) (rw0_get HXY.out.2) (of_decide_eq_false HV2.out)))
    go_wp2_with fail
    go_ret
    exact ⟨by rw [HF.out]; rfl, K7.out.gr⟩
  have HT2 := Lib.hid (tk_step HT.out (rw0_get HXY.out.1) (rw0_get HXY.out.2) (of_decide_eq_true HV2.out))
  clear HT
  go_wp2_with fail
  exact ⟨⟨k + 1, by omega, congrArg _ (by omega), HT2, K7⟩, by simp only [RowKit.intOf]; omega⟩
end Go.Proofs.YtahafijpcmphaaaGreat

/- tables: what the law of Build keeps in memory. -/
namespace Go.Proofs.YtahafijpcmphaaaGreat
open Go.RowKit Bs
/-- A topology and a plan that are drawn. -/
structure GP (W : World) (a B C : Nat) (T : Tg) (s n : Int) (E : List Ed) (pE : Option Addr) (cE : Nat) (w : World) : Prop where
  gx : GX W a B T w
  bP : w.heap[C]? = some (.cells #[.int .i64 s, .int .i64 n, .slice pE E.length cE] 48 (0, 0))
  e : RdF w (fun b => a < b ∧ b < w.heap.size) (.slice pE E.length cE) E.length (E.flatMap edC)
  lo : a < C ∧ C < w.heap.size
set_option maxRecDepth 100000 in
theorem GP.keep {W : World} {a B C : Nat} {T : Tg} {s n : Int} {E : List Ed} {pE : Option Addr} {cE : Nat} {w w1 : World} (h : GP W a B C T s n E pE cE w) (g : w.grownBy w1 none) : GP W a B C T s n E pE cE w1 :=
  ⟨h.gx.keep g, kept_row h.bP g (by simp), (h.e.keep g).mono (fun b hb => ⟨hb.1, Nat.lt_of_lt_of_le hb.2 g.size⟩), h.lo.1, Nat.lt_of_lt_of_le h.lo.2 g.size⟩
set_option maxRecDepth 100000 in
theorem GP.tape {W : World} {a B C : Nat} {T : Tg} {s n : Int} {E : List Ed} {pE : Option Addr} {cE : Nat} {w w1 : World} (h : GP W a B C T s n E pE cE w) (k : St a w w1) : GP W a B C T s n E pE cE w1 := by
  have hlo := h.lo
  exact ⟨h.gx.tape k, kept_row h.bP k.1 (fun e => by have := Option.some.inj e; omega), (h.e.grown k.1 (fun b hb e => by have := Option.some.inj e; omega)).mono (fun b hb => ⟨hb.1, Nat.lt_of_lt_of_le hb.2 k.1.size⟩), hlo.1, Nat.lt_of_lt_of_le hlo.2 k.1.size⟩
set_option maxRecDepth 100000 in
theorem gp_start {W w w5 : World} {a B : Nat} {T : Tg} (s n : Int) {E : List Ed} {pE : Option Addr} {cE : Nat} (h : GX W a B T w) (k : St a w w5) (hE : w5.ownsRow w.heap.size 71 2 (.slice pE E.length cE) E.length (E.flatMap edC)) :
    GP W a B w5.heap.size T s n E pE cE (w5.alloc (.cells #[.int .i64 s, .int .i64 n, .slice pE E.length cE] 48)) := by
  obtain ⟨k1, k2⟩ := tone_box w5 #[.int .i64 s, .int .i64 n, .slice pE E.length cE] 48
  have hlo := h.lo
  have hz := k.1.size
  exact ⟨(h.tape k).keep k2, k1, ((rdf_of_own2 hE).keep k2).mono (fun b hb => ⟨by have := hb.1; omega, Nat.lt_of_lt_of_le hb.2 k2.size⟩), by omega, by simp⟩
/-- All that the rounds of the law read. -/
structure LB (W : World) (T : Tg) (s n : Int) (E : List Ed) (pE : Option Addr) (cE B C D Z : Nat) (x y z : Int) (w : World) : Prop where
  bT : w.heap[B]? = some (.cells #[.slice T.pR T.R.length T.cR, .slice T.pL T.L.length T.cL] 45 (0, 0))
  bP : w.heap[C]? = some (.cells #[.int .i64 s, .int .i64 n, .slice pE E.length cE] 48 (0, 0))
  bD : w.heap[D]? = some (.cells #[.int .i64 x, .int .i64 y, .int .i64 z] 3 (0, 0))
  t : TgOk w (· < Z) T
  e : RdF w (· < Z) (.slice pE E.length cE) E.length (E.flatMap edC)
  gr : W.grownBy w none
  lo : W.heap.size ≤ Z ∧ B < Z ∧ C < Z ∧ D < Z ∧ Z ≤ w.heap.size
set_option maxRecDepth 100000 in
theorem LB.put {W : World} {T : Tg} {s n : Int} {E : List Ed} {pE : Option Addr} {cE B C D Z : Nat} {x y z : Int} {w w1 : World} {r : Option Nat} (h : LB W T s n E pE cE B C D Z x y z w) (g : w.grownBy w1 r) (hr : ∀ b, b < Z → some b ≠ r) : LB W T s n E pE cE B C D Z x y z w1 := by
  have hlo := h.lo
  exact ⟨kept_row h.bT g (hr _ hlo.2.1), kept_row h.bP g (hr _ hlo.2.2.1), kept_row h.bD g (hr _ hlo.2.2.2.1), h.t.grown g hr, h.e.grown g hr, grown_any h.gr g (fun b hb => hr b (by omega)), hlo.1, hlo.2.1, hlo.2.2.1, hlo.2.2.2.1, Nat.le_trans hlo.2.2.2.2 g.size⟩
set_option maxRecDepth 100000 in
theorem LB.keep {W : World} {T : Tg} {s n : Int} {E : List Ed} {pE : Option Addr} {cE B C D Z : Nat} {x y z : Int} {w w1 : World} (h : LB W T s n E pE cE B C D Z x y z w) (g : w.grownBy w1 none) : LB W T s n E pE cE B C D Z x y z w1 := h.put g (fun _ _ => by simp)
set_option maxRecDepth 100000 in
theorem LB.box {W : World} {T : Tg} {s n : Int} {E : List Ed} {pE : Option Addr} {cE B C D Z : Nat} {x y z : Int} {w : World} (_ : LB W T s n E pE cE B C D Z x y z w) (A : Array Value) (t : TypeId) : (w.alloc (.cells A t)).heap[w.heap.size]? = some (.cells A t (0, 0)) ∧ w.grownBy (w.alloc (.cells A t)) none := ⟨(alloc_row A t rfl).1, (alloc_row A t rfl).2.1⟩
set_option maxRecDepth 100000 in
theorem LB.cell {W : World} {T : Tg} {s n : Int} {E : List Ed} {pE : Option Addr} {cE B C D Z : Nat} {x y z : Int} {w : World} (h : LB W T s n E pE cE B C D Z x y z w) (k : Nat) (hk : k < 3) : w.cell? ⟨D, k, none⟩ = some (.int .i64 (if k = 0 then x else if k = 1 then y else z)) := by
  obtain ⟨d0, d1, d2⟩ := row3B h.bD
  rcases k with _ | _ | _ | k
  · exact d0
  · exact d1
  · exact d2
  · omega
set_option maxRecDepth 100000 in
theorem GP.lb {W : World} {a B C : Nat} {T : Tg} {s n : Int} {E : List Ed} {pE : Option Addr} {cE : Nat} {w : World} (h : GP W a B C T s n E pE cE w) (x y z : Int) : LB W T s n E pE cE B C w.heap.size (w.heap.size + 1) x y z (w.alloc (.cells #[.int .i64 x, .int .i64 y, .int .i64 z] 3)) := by
  obtain ⟨k1, k2⟩ := tone_box w #[.int .i64 x, .int .i64 y, .int .i64 z] 3
  have h1 := h.gx.lo
  have h2 := h.lo
  exact ⟨kept_row h.gx.bT k2 (by simp), kept_row h.bP k2 (by simp), k1, (h.gx.t.keep k2).mono (fun b hb => by have := hb.2.2; omega), (h.e.keep k2).mono (fun b hb => by have := hb.2; omega), grown_trans h.gx.gr k2, by omega, by omega, by omega, by omega, by simp⟩
end Go.Proofs.YtahafijpcmphaaaGreat

/- tables: the laws' example. -/
namespace Go.Proofs.YtahafijpcmphaaaGreat
open Go.RowKit Bs
def tbxR : List Rt := [⟨1, true⟩, ⟨2, false⟩, ⟨3, true⟩]
def tbxL : List Lk := [⟨1, 2, 1, 1, 0⟩, ⟨2, 3, 1, 1, 0⟩]
def tbxE : List Ed := [⟨3, 1⟩]
set_option maxRecDepth 100000 in
theorem tbx_ok : okT tbxR tbxL = true ∧ vPl 0 8 tbxE = true ∧ hasV tbxR tbxL 1 = true ∧ hasV tbxR tbxL 3 = true ∧ capV tbxR tbxL 1 = true ∧ capV tbxR tbxL 3 = true ∧ capV tbxR tbxL 2 = false := ⟨by kernel_rfl, by kernel_rfl, by kernel_rfl, by kernel_rfl, by kernel_rfl, by kernel_rfl, by kernel_rfl⟩
set_option maxRecDepth 100000 in
theorem tbx_st : stV tbxR tbxL (toK tbxL 3 3) 1 = [2] ∧ stV tbxR tbxL (toK tbxL 3 3) 2 = [3] := ⟨by kernel_rfl, by kernel_rfl⟩
set_option maxRecDepth 100000 in
theorem tbx_bu : buE tbxR tbxL 0 8 tbxE 1 = 0 := bu_ok ⟨tbx_ok.1, tbx_ok.2.1⟩ tbx_ok.2.2.1 tbx_ok.2.2.2.2.1
set_option maxRecDepth 100000 in
theorem tbx_hop {X : List Int} (hp : X.Pairwise (· < ·)) (h : HopsIs tbxR tbxL 1 3 X) : X = [3] := by
  unfold HopsIs at h
  rw [if_pos ⟨tbx_ok.2.2.1, tbx_ok.2.2.2.1, by decide⟩] at h
  refine asc_same hp (by decide) fun y => (h y).trans ⟨?_, ?_⟩
  · rintro ⟨s, hs, hy, hc⟩
    have hs2 := hs (fun a => a = 1 ∨ a = 2) (Or.inl rfl) (fun a b ha hb _ => by
      rcases ha with rfl | rfl
      · have := tbx_st.1 ▸ hb; exact Or.inr (by simpa using this)
      · rename_i hcb
        have h3 := tbx_st.2 ▸ hb
        have h4 : b = 3 := by simpa using h3
        subst h4
        rw [tbx_ok.2.2.2.2.2.1] at hcb; cases hcb)
    rcases hs2 with rfl | rfl
    · have h3 := tbx_st.1 ▸ hy
      have h4 : y = 2 := by simpa using h3
      subst h4
      rw [tbx_ok.2.2.2.2.2.2] at hc; cases hc
    · have h3 := tbx_st.2 ▸ hy
      simpa using h3
  · intro hy
    have e : y = 3 := by simpa using hy
    subst e
    refine ⟨2, fun P h1 h2 => h2 1 2 h1 (by have := tbx_st.1; show 2 ∈ stV tbxR tbxL (toK tbxL 3 3) 1; rw [this]; simp) tbx_ok.2.2.2.2.2.2, ?_, tbx_ok.2.2.2.2.2.1⟩
    show 3 ∈ stV tbxR tbxL (toK tbxL 3 3) 2
    rw [tbx_st.2]; simp
set_option maxRecDepth 100000 in
theorem tbx_bld {L : List Rw} (h : BldM tbxR tbxL 1 tbxE L) : ∃ x, L = [x] ∧ x.id = 1 ∧ x.nx = [3] := by
  have hl : L.length = 1 := h.1
  obtain ⟨x, rfl⟩ : ∃ x, L = [x] := by
    cases L with
    | nil => cases hl
    | cons x t => cases t with
      | nil => exact ⟨x, rfl⟩
      | cons y t => simp at hl
  obtain ⟨h1, h2⟩ := h.2 0 ⟨3, 1⟩ x rfl rfl
  refine ⟨x, rfl, h1, ?_⟩
  unfold NxB at h2
  rw [if_neg (by decide), if_pos tbx_ok.2.2.2.2.2.1] at h2
  exact tbx_hop h2.1 h2.2.2
end Go.Proofs.YtahafijpcmphaaaGreat
