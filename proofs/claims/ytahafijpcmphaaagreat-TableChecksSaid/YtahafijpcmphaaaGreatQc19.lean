/- Parts of the proof, packed: TaSmR, IdRsM, IdCnt, IdSeek, IdChk, IdFre, IdCon, IdLen, IdLay, IdSrt, IdEdg, IdRes, IdRsW, IdRtw, IdPln, IdVpl, IdRck, IdRcn, IdAwk, IdInt. -/
import Derived.Test.YtahafijpcmphaaaGreatQc18
import Derived.Test.YtahafijpcmphaaaGreatQc14
import Derived.Test.YtahafijpcmphaaaGreatQc2
import Derived.Lib.SliceRun
import Derived.Deep.CutRange
import Derived.Laws.StructEq
/- tables, the reference's functions: Same. -/
namespace Go.Proofs.YtahafijpcmphaaaGreat
set_option maxRecDepth 100000
open Go.RowKit Bs
set_option maxHeartbeats 6400000 in
theorem rSame_any (r s n : Int) (p : Option Addr) (c : Nat) (L : List Rw) (r2 s2 n2 : Int) (p2 : Option Addr) (c2 : Nat) (M : List Rw) (q1 q2 : Nat → Prop) (w : World) (h1 : RdW w q1 p c L) (h2 : RdW w q2 p2 c2 M) (hm : L.length ≤ 9223372036854775807) (hm2 : M.length ≤ 9223372036854775807) :
  Calls Tryz.prog 16 #[.agg #[.int .i64 r, .int .i64 s, .int .i64 n, .slice p L.length c], .agg #[.int .i64 r2, .int .i64 s2, .int .i64 n2, .slice p2 M.length c2]] w fun e w' => e = .returned (.bool (smT r s n L r2 s2 n2 M)) ∧ w.grownBy w' none := by
 have H := Lib.hid (b2t_start r s n r2 s2 n2 h1 h2)
 clear h1 h2
 obtain ⟨z, hz⟩ : ∃ z, smT r s n L r2 s2 n2 M = z := ⟨_, rfl⟩
 rw [hz]
 have HZ := Lib.hid hz
 clear hz
 go_enter Tryz.func16, Tryz.ntmps16
 go_upto_region 1 with fail
 generalize (w.alloc _).alloc _ = w1 at *
 obtain ⟨a0, a1, a2, a3⟩ := row4T H.out.b1
 obtain ⟨d0, d1, d2, d3⟩ := row4T H.out.b2
 by_cases er : r = r2
 case neg =>
  have er' : (r != r2) = true := by simpa using er
  have HF : Hid (z = false) := Lib.hid (by rw [← HZ.out]; exact decide_eq_false (fun h => er h.1))
  clear er
  go_wp2_with fail
  go_ret
  exact ⟨by rw [HF.out]; rfl, H.out.gr⟩
 subst er
 by_cases es : s = s2
 case neg =>
  have es' : (s != s2) = true := by simpa using es
  have HF : Hid (z = false) := Lib.hid (by rw [← HZ.out]; exact decide_eq_false (fun h => es h.2.1))
  clear es
  go_wp2_with fail
  go_ret
  exact ⟨by rw [HF.out]; rfl, H.out.gr⟩
 subst es
 by_cases en : n = n2
 case neg =>
  have en' : (n != n2) = true := by simpa using en
  have HF : Hid (z = false) := Lib.hid (by rw [← HZ.out]; exact decide_eq_false (fun h => en h.2.2.1))
  clear en
  go_wp2_with fail
  go_ret
  exact ⟨by rw [HF.out]; rfl, H.out.gr⟩
 subst en
 by_cases el : L.length = M.length
 case neg =>
  have el' : ((L.length : Int) != (M.length : Int)) = true := by rw [bne_iff_ne]; omega
  have HF : Hid (z = false) := Lib.hid (by rw [← HZ.out]; exact decide_eq_false (fun h => rw0_ne el h.2.2.2))
  clear el
  go_wp2_with fail
  go_ret
  exact ⟨by rw [HF.out]; rfl, H.out.gr⟩
 have HE : Hid (decide (L.map rw0 = M.map rw0) = z) := Lib.hid (by rw [← HZ.out]; unfold smT; rw [decide_eq_decide]; simp)
 have el' : ((L.length : Int) != (M.length : Int)) = false := by rw [el]; simp
 have HL := Lib.hid el
 clear el hm2 HZ
 go_upto_region 3 with fail
 clear el' a0 a1 a2 a3 d0 d1 d2 d3
 go_wp2_with fail
 go_loopw [5] (fun v wr => ∃ k : Nat, k ≤ L.length ∧ v = .int .i64 (k : Int) ∧ Hid ((L.map rw0).take k = (M.map rw0).take k) ∧ Hid (B2T w r s n p c L r s n p2 c2 M q1 q2 wr)) (fun v _ => L.length - (RowKit.intOf v).toNat)
 case atStart => exact ⟨0, Nat.zero_le _, rfl, Lib.hid rfl, H⟩
 case round =>
 clear H
 obtain ⟨k, hk, rfl, HT, K⟩ := hrel
 obtain ⟨w5, hw5⟩ : ∃ w5, w5 = wr := ⟨_, rfl⟩
 rw [← hw5] at K ⊢
 clear hw5
 obtain ⟨a0, a1, a2, a3⟩ := row4T K.out.b1
 by_cases hlt : k < L.length
 case neg =>
  obtain rfl : k = L.length := by omega
  have HF : Hid (z = true) := Lib.hid (by rw [← HE.out]; exact decide_eq_true (rw0_end HT.out HL.out))
  have hnl : ¬ (L.length : Int) < (L.length : Int) := by omega
  go_wp2_with fail
  go_ret
  exact ⟨by rw [HF.out]; rfl, K.out.gr⟩
 have hlt' : (k : Int) < (L.length : Int) := by omega
 have hltM : (k : Int) < (M.length : Int) := by have := HL.out; omega
 have hk0 : (0 : Int) ≤ (k : Int) := by omega
 obtain ⟨x, hx⟩ : ∃ x, L[k]? = some x := ⟨_, List.getElem?_eq_getElem hlt⟩
 obtain ⟨y, hy⟩ : ∃ y, M[k]? = some y := ⟨_, List.getElem?_eq_getElem (by have := HL.out; omega)⟩
 obtain ⟨-, b1, o1, rfl, -, hc1⟩ := rw_cells K.out.r1.rd (by omega)
 obtain ⟨-, b2, o2, rfl, -, hc2⟩ := rw_cells K.out.r2.rd (by have := HL.out; omega)
 have HA := Lib.hid (And.intro (hc1 k x hx) (hc2 k y hy))
 have HXY := Lib.hid (And.intro hx hy)
 have HOK := Lib.hid (And.intro (K.out.r1.ok x (List.mem_of_getElem? hx)) (K.out.r2.ok y (List.mem_of_getElem? hy)))
 clear hc1 hc2 hx hy
 go_upto_region 6 with fail
 clear a0 a1 a2 a3
 by_cases e : x.id = y.id
 case neg =>
  have e' : (x.id != y.id) = true := by simpa using e
  have HF : Hid (z = false) := Lib.hid (by rw [← HE.out]; exact decide_eq_false (tk_ne (rw0_get HXY.out.1) (rw0_get HXY.out.2) (fun h => e (rw0_iff.1 h).1)))
  clear e
  refine wp_region_held_drew (S := fun w' => Hid (w5.grownBy w' none)) (by kernel_rfl) (Lib.hid (grown_drew (grown_refl _ none))) (fun hHeld => ?_)
  refine wpAnyH_take (i := 0) (oi := { dst := some 41, op := Op.fieldAddr 25 (Operand.tmp 2) 3, type := 0, pos := _, after := _, guard := none }) (v := ?_) rfl (by kernel_rfl) (by kernel_rfl) (by kernel_rfl) (fun _ _ _ h => h) (Or.inl ⟨by rfl, ?_⟩) hHeld ?_
  rotate_left 1
  ·intro u hSu
   go_simp
   first | done | with_reducible rfl
  (try simp only [Act.put, zA, zB, zC])
  refine wpAnyH_take (i := 1) (oi := { dst := some 42, op := Op.load 23 (Operand.tmp 41), type := 23, pos := _, after := _, guard := none }) (v := ?_) rfl (by kernel_rfl) (by kernel_rfl) (by kernel_rfl) (fun _ _ _ h => h) (Or.inl ⟨by rfl, ?_⟩) hHeld ?_
  rotate_left 1
  ·intro u hSu
   obtain ⟨a0u, a1u, a2u, a3u⟩ := row4T (kept_row K.out.b1 hSu.out (by simp))
   obtain ⟨d0u, d1u, d2u, d3u⟩ := row4T (kept_row K.out.b2 hSu.out (by simp))
   have m0u := hSu.out.cell HA.out.1.1 (by simp)
   have m1u := hSu.out.cell HA.out.1.2 (by simp)
   have n0u := hSu.out.cell HA.out.2.1 (by simp)
   have n1u := hSu.out.cell HA.out.2.2 (by simp)
   go_simp
   first | done | with_reducible rfl
  (try simp only [Act.put, zA, zB, zC])
  refine wpAnyH_take (i := 2) (oi := { dst := some 43, op := Op.move (Operand.tmp 5), type := 3, pos := _, after := _, guard := none }) (v := ?_) rfl (by kernel_rfl) (by kernel_rfl) (by kernel_rfl) (fun _ _ _ h => h) (Or.inl ⟨by rfl, ?_⟩) hHeld ?_
  rotate_left 1
  ·intro u hSu
   go_simp
   first | done | with_reducible rfl
  (try simp only [Act.put, zA, zB, zC])
  refine wpAnyH_take (i := 3) (oi := { dst := some 44, op := Op.indexAddr 23 (Operand.tmp 42) (Operand.tmp 43), type := 0, pos := _, after := _, guard := none }) (v := ?_) rfl (by kernel_rfl) (by kernel_rfl) (by kernel_rfl) (fun _ _ _ h => h) (Or.inl ⟨by rfl, ?_⟩) hHeld ?_
  rotate_left 1
  ·intro u hSu
   go_simp
   first | done | with_reducible rfl
  (try simp only [Act.put, zA, zB, zC])
  refine wpAnyH_take (i := 4) (oi := { dst := some 45, op := Op.fieldAddr 36 (Operand.tmp 44) 0, type := 0, pos := _, after := _, guard := none }) (v := ?_) rfl (by kernel_rfl) (by kernel_rfl) (by kernel_rfl) (fun _ _ _ h => h) (Or.inl ⟨by rfl, ?_⟩) hHeld ?_
  rotate_left 1
  ·intro u hSu
   go_simp
   first | done | with_reducible rfl
  (try simp only [Act.put, zA, zB, zC])
  refine wpAnyH_take (i := 5) (oi := { dst := some 46, op := Op.load 3 (Operand.tmp 45), type := 3, pos := _, after := _, guard := none }) (v := ?_) rfl (by kernel_rfl) (by kernel_rfl) (by kernel_rfl) (fun _ _ _ h => h) (Or.inl ⟨by rfl, ?_⟩) hHeld ?_
  rotate_left 1
  ·intro u hSu
   obtain ⟨a0u, a1u, a2u, a3u⟩ := row4T (kept_row K.out.b1 hSu.out (by simp))
   obtain ⟨d0u, d1u, d2u, d3u⟩ := row4T (kept_row K.out.b2 hSu.out (by simp))
   have m0u := hSu.out.cell HA.out.1.1 (by simp)
   have m1u := hSu.out.cell HA.out.1.2 (by simp)
   have n0u := hSu.out.cell HA.out.2.1 (by simp)
   have n1u := hSu.out.cell HA.out.2.2 (by simp)
   go_simp
   first | done | with_reducible rfl
  (try simp only [Act.put, zA, zB, zC])
  refine wpAnyH_take (i := 6) (oi := { dst := some 47, op := Op.fieldAddr 25 (Operand.tmp 3) 3, type := 0, pos := _, after := _, guard := none }) (v := ?_) rfl (by kernel_rfl) (by kernel_rfl) (by kernel_rfl) (fun _ _ _ h => h) (Or.inl ⟨by rfl, ?_⟩) hHeld ?_
  rotate_left 1
  ·intro u hSu
   go_simp
   first | done | with_reducible rfl
  (try simp only [Act.put, zA, zB, zC])
  refine wpAnyH_take (i := 7) (oi := { dst := some 48, op := Op.load 23 (Operand.tmp 47), type := 23, pos := _, after := _, guard := none }) (v := ?_) rfl (by kernel_rfl) (by kernel_rfl) (by kernel_rfl) (fun _ _ _ h => h) (Or.inl ⟨by rfl, ?_⟩) hHeld ?_
  rotate_left 1
  ·intro u hSu
   obtain ⟨a0u, a1u, a2u, a3u⟩ := row4T (kept_row K.out.b1 hSu.out (by simp))
   obtain ⟨d0u, d1u, d2u, d3u⟩ := row4T (kept_row K.out.b2 hSu.out (by simp))
   have m0u := hSu.out.cell HA.out.1.1 (by simp)
   have m1u := hSu.out.cell HA.out.1.2 (by simp)
   have n0u := hSu.out.cell HA.out.2.1 (by simp)
   have n1u := hSu.out.cell HA.out.2.2 (by simp)
   go_simp
   first | done | with_reducible rfl
  (try simp only [Act.put, zA, zB, zC])
  refine wpAnyH_take (i := 8) (oi := { dst := some 49, op := Op.move (Operand.tmp 5), type := 3, pos := _, after := _, guard := none }) (v := ?_) rfl (by kernel_rfl) (by kernel_rfl) (by kernel_rfl) (fun _ _ _ h => h) (Or.inl ⟨by rfl, ?_⟩) hHeld ?_
  rotate_left 1
  ·intro u hSu
   go_simp
   first | done | with_reducible rfl
  (try simp only [Act.put, zA, zB, zC])
  refine wpAnyH_take (i := 9) (oi := { dst := some 50, op := Op.indexAddr 23 (Operand.tmp 48) (Operand.tmp 49), type := 0, pos := _, after := _, guard := none }) (v := ?_) rfl (by kernel_rfl) (by kernel_rfl) (by kernel_rfl) (fun _ _ _ h => h) (Or.inl ⟨by rfl, ?_⟩) hHeld ?_
  rotate_left 1
  ·intro u hSu
   go_simp
   first | done | with_reducible rfl
  (try simp only [Act.put, zA, zB, zC])
  refine wpAnyH_take (i := 10) (oi := { dst := some 51, op := Op.fieldAddr 36 (Operand.tmp 50) 0, type := 0, pos := _, after := _, guard := none }) (v := ?_) rfl (by kernel_rfl) (by kernel_rfl) (by kernel_rfl) (fun _ _ _ h => h) (Or.inl ⟨by rfl, ?_⟩) hHeld ?_
  rotate_left 1
  ·intro u hSu
   go_simp
   first | done | with_reducible rfl
  (try simp only [Act.put, zA, zB, zC])
  refine wpAnyH_take (i := 11) (oi := { dst := some 52, op := Op.load 3 (Operand.tmp 51), type := 3, pos := _, after := _, guard := none }) (v := ?_) rfl (by kernel_rfl) (by kernel_rfl) (by kernel_rfl) (fun _ _ _ h => h) (Or.inl ⟨by rfl, ?_⟩) hHeld ?_
  rotate_left 1
  ·intro u hSu
   obtain ⟨a0u, a1u, a2u, a3u⟩ := row4T (kept_row K.out.b1 hSu.out (by simp))
   obtain ⟨d0u, d1u, d2u, d3u⟩ := row4T (kept_row K.out.b2 hSu.out (by simp))
   have m0u := hSu.out.cell HA.out.1.1 (by simp)
   have m1u := hSu.out.cell HA.out.1.2 (by simp)
   have n0u := hSu.out.cell HA.out.2.1 (by simp)
   have n1u := hSu.out.cell HA.out.2.2 (by simp)
   go_simp
   first | done | with_reducible rfl
  (try simp only [Act.put, zA, zB, zC])
  refine wpAnyH_take (i := 12) (oi := { dst := some 53, op := Op.binOp BinOp.neq 3 (Operand.tmp 46) (Operand.tmp 52) 3, type := 4, pos := _, after := _, guard := none }) (v := .bool true) rfl (by kernel_rfl) (by kernel_rfl) (by kernel_rfl) (fun _ _ _ h => h) (Or.inl ⟨by rfl, ?_⟩) hHeld ?_
  ·intro u hSu
   go_simp
   first | done | with_reducible rfl
  (try simp only [Act.put, zA, zB, zC])
  refine wpAnyH_take (i := 13) (oi := { dst := some 54, op := Op.move (Operand.tmp 53), type := 4, pos := _, after := _, guard := none }) (v := ?_) rfl (by kernel_rfl) (by kernel_rfl) (by kernel_rfl) (fun _ _ _ h => h) (Or.inl ⟨by rfl, ?_⟩) hHeld ?_
  rotate_left 1
  ·intro u hSu
   go_simp
   first | done | with_reducible rfl
  (try simp only [Act.put, zA, zB, zC])
  refine wpAnyH_take (i := 14) (oi := { dst := some 55, op := Op.fieldAddr 25 (Operand.tmp 2) 3, type := 0, pos := _, after := _, guard := some (13, false) }) (v := undef) rfl (by kernel_rfl) (by kernel_rfl) (by kernel_rfl) (fun _ _ _ h => h) (Or.inr ⟨by rfl, rfl⟩) hHeld ?_
  (try simp only [Act.put, zA, zB, zC])
  refine wpAnyH_take (i := 15) (oi := { dst := some 56, op := Op.load 23 (Operand.tmp 55), type := 23, pos := _, after := _, guard := some (13, false) }) (v := undef) rfl (by kernel_rfl) (by kernel_rfl) (by kernel_rfl) (fun _ _ _ h => h) (Or.inr ⟨by rfl, rfl⟩) hHeld ?_
  (try simp only [Act.put, zA, zB, zC])
  refine wpAnyH_take (i := 16) (oi := { dst := some 57, op := Op.move (Operand.tmp 5), type := 3, pos := _, after := _, guard := some (13, false) }) (v := undef) rfl (by kernel_rfl) (by kernel_rfl) (by kernel_rfl) (fun _ _ _ h => h) (Or.inr ⟨by rfl, rfl⟩) hHeld ?_
  (try simp only [Act.put, zA, zB, zC])
  refine wpAnyH_take (i := 17) (oi := { dst := some 58, op := Op.indexAddr 23 (Operand.tmp 56) (Operand.tmp 57), type := 0, pos := _, after := _, guard := some (13, false) }) (v := undef) rfl (by kernel_rfl) (by kernel_rfl) (by kernel_rfl) (fun _ _ _ h => h) (Or.inr ⟨by rfl, rfl⟩) hHeld ?_
  (try simp only [Act.put, zA, zB, zC])
  refine wpAnyH_take (i := 18) (oi := { dst := some 59, op := Op.fieldAddr 36 (Operand.tmp 58) 1, type := 0, pos := _, after := _, guard := some (13, false) }) (v := undef) rfl (by kernel_rfl) (by kernel_rfl) (by kernel_rfl) (fun _ _ _ h => h) (Or.inr ⟨by rfl, rfl⟩) hHeld ?_
  (try simp only [Act.put, zA, zB, zC])
  refine wpAnyH_take (i := 19) (oi := { dst := some 60, op := Op.load 22 (Operand.tmp 59), type := 22, pos := _, after := _, guard := some (13, false) }) (v := undef) rfl (by kernel_rfl) (by kernel_rfl) (by kernel_rfl) (fun _ _ _ h => h) (Or.inr ⟨by rfl, rfl⟩) hHeld ?_
  (try simp only [Act.put, zA, zB, zC])
  refine wpAnyH_take (i := 20) (oi := { dst := some 61, op := Op.fieldAddr 25 (Operand.tmp 3) 3, type := 0, pos := _, after := _, guard := some (13, false) }) (v := undef) rfl (by kernel_rfl) (by kernel_rfl) (by kernel_rfl) (fun _ _ _ h => h) (Or.inr ⟨by rfl, rfl⟩) hHeld ?_
  (try simp only [Act.put, zA, zB, zC])
  refine wpAnyH_take (i := 21) (oi := { dst := some 62, op := Op.load 23 (Operand.tmp 61), type := 23, pos := _, after := _, guard := some (13, false) }) (v := undef) rfl (by kernel_rfl) (by kernel_rfl) (by kernel_rfl) (fun _ _ _ h => h) (Or.inr ⟨by rfl, rfl⟩) hHeld ?_
  (try simp only [Act.put, zA, zB, zC])
  refine wpAnyH_take (i := 22) (oi := { dst := some 63, op := Op.move (Operand.tmp 5), type := 3, pos := _, after := _, guard := some (13, false) }) (v := undef) rfl (by kernel_rfl) (by kernel_rfl) (by kernel_rfl) (fun _ _ _ h => h) (Or.inr ⟨by rfl, rfl⟩) hHeld ?_
  (try simp only [Act.put, zA, zB, zC])
  refine wpAnyH_take (i := 23) (oi := { dst := some 64, op := Op.indexAddr 23 (Operand.tmp 62) (Operand.tmp 63), type := 0, pos := _, after := _, guard := some (13, false) }) (v := undef) rfl (by kernel_rfl) (by kernel_rfl) (by kernel_rfl) (fun _ _ _ h => h) (Or.inr ⟨by rfl, rfl⟩) hHeld ?_
  (try simp only [Act.put, zA, zB, zC])
  refine wpAnyH_take (i := 24) (oi := { dst := some 65, op := Op.fieldAddr 36 (Operand.tmp 64) 1, type := 0, pos := _, after := _, guard := some (13, false) }) (v := undef) rfl (by kernel_rfl) (by kernel_rfl) (by kernel_rfl) (fun _ _ _ h => h) (Or.inr ⟨by rfl, rfl⟩) hHeld ?_
  (try simp only [Act.put, zA, zB, zC])
  refine wpAnyH_take (i := 25) (oi := { dst := some 66, op := Op.load 22 (Operand.tmp 65), type := 22, pos := _, after := _, guard := some (13, false) }) (v := undef) rfl (by kernel_rfl) (by kernel_rfl) (by kernel_rfl) (fun _ _ _ h => h) (Or.inr ⟨by rfl, rfl⟩) hHeld ?_
  (try simp only [Act.put, zA, zB, zC])
  refine wpAnyH_take (i := 26) (oi := { dst := some 67, op := Op.call { callee := Callee.value (Operand.func 20), args := #[Operand.tmp 60, Operand.tmp 66], argTypes := #[22, 22] }, type := 4, pos := _, after := _, guard := some (13, false) }) (v := undef) rfl (by kernel_rfl) (by kernel_rfl) (by kernel_rfl) (fun _ _ _ h => h) (Or.inr ⟨by rfl, rfl⟩) hHeld ?_
  (try simp only [Act.put, zA, zB, zC])
  refine wpAnyH_take (i := 27) (oi := { dst := some 68, op := Op.unOp UnOp.not 4 (Operand.tmp 67), type := 4, pos := _, after := _, guard := some (13, false) }) (v := undef) rfl (by kernel_rfl) (by kernel_rfl) (by kernel_rfl) (fun _ _ _ h => h) (Or.inr ⟨by rfl, rfl⟩) hHeld ?_
  (try simp only [Act.put, zA, zB, zC])
  refine wpAnyH_take (i := 28) (oi := { dst := some 69, op := Op.pick (Operand.tmp 54) (Operand.const (Value.bool true)) (Operand.tmp 68), type := 4, pos := _, after := _, guard := none }) (v := ?_) rfl (by kernel_rfl) (by kernel_rfl) (by kernel_rfl) (fun _ _ _ h => h) (Or.inl ⟨by rfl, ?_⟩) hHeld ?_
  rotate_left 1
  ·intro u hSu
   go_simp
   first | done | with_reducible rfl
  (try simp only [Act.put, zA, zB, zC])
  refine wpAnyH_done (by kernel_rfl) ?_ _
  have G := Lib.hid (grown_trans K.out.gr hHeld.out)
  clear hHeld
  go_wp2_with fail
  go_ret
  exact ⟨by rw [HF.out]; rfl, G.out⟩
 have e' : (x.id != y.id) = false := by simpa using e
 have HV : Hid (decide (x.nx = y.nx) = decide (rw0 x = rw0 y)) := Lib.hid (by rw [decide_eq_decide, rw0_iff]; simp [e])
 clear e
 refine wp_region_held_drew (S := fun w' => Hid (w5.grownBy w' none)) (by kernel_rfl) (Lib.hid (grown_drew (grown_refl _ none))) (fun hHeld => ?_)
 refine wpAnyH_take (i := 0) (oi := { dst := some 41, op := Op.fieldAddr 25 (Operand.tmp 2) 3, type := 0, pos := _, after := _, guard := none }) (v := ?_) rfl (by kernel_rfl) (by kernel_rfl) (by kernel_rfl) (fun _ _ _ h => h) (Or.inl ⟨by rfl, ?_⟩) hHeld ?_
 rotate_left 1
 ·intro u hSu
  go_simp
  first | done | with_reducible rfl
 (try simp only [Act.put, zA, zB, zC])
 refine wpAnyH_take (i := 1) (oi := { dst := some 42, op := Op.load 23 (Operand.tmp 41), type := 23, pos := _, after := _, guard := none }) (v := ?_) rfl (by kernel_rfl) (by kernel_rfl) (by kernel_rfl) (fun _ _ _ h => h) (Or.inl ⟨by rfl, ?_⟩) hHeld ?_
 rotate_left 1
 ·intro u hSu
  obtain ⟨a0u, a1u, a2u, a3u⟩ := row4T (kept_row K.out.b1 hSu.out (by simp))
  obtain ⟨d0u, d1u, d2u, d3u⟩ := row4T (kept_row K.out.b2 hSu.out (by simp))
  have m0u := hSu.out.cell HA.out.1.1 (by simp)
  have m1u := hSu.out.cell HA.out.1.2 (by simp)
  have n0u := hSu.out.cell HA.out.2.1 (by simp)
  have n1u := hSu.out.cell HA.out.2.2 (by simp)
  go_simp
  first | done | with_reducible rfl
 (try simp only [Act.put, zA, zB, zC])
 refine wpAnyH_take (i := 2) (oi := { dst := some 43, op := Op.move (Operand.tmp 5), type := 3, pos := _, after := _, guard := none }) (v := ?_) rfl (by kernel_rfl) (by kernel_rfl) (by kernel_rfl) (fun _ _ _ h => h) (Or.inl ⟨by rfl, ?_⟩) hHeld ?_
 rotate_left 1
 ·intro u hSu
  go_simp
  first | done | with_reducible rfl
 (try simp only [Act.put, zA, zB, zC])
 refine wpAnyH_take (i := 3) (oi := { dst := some 44, op := Op.indexAddr 23 (Operand.tmp 42) (Operand.tmp 43), type := 0, pos := _, after := _, guard := none }) (v := ?_) rfl (by kernel_rfl) (by kernel_rfl) (by kernel_rfl) (fun _ _ _ h => h) (Or.inl ⟨by rfl, ?_⟩) hHeld ?_
 rotate_left 1
 ·intro u hSu
  go_simp
  first | done | with_reducible rfl
 (try simp only [Act.put, zA, zB, zC])
 refine wpAnyH_take (i := 4) (oi := { dst := some 45, op := Op.fieldAddr 36 (Operand.tmp 44) 0, type := 0, pos := _, after := _, guard := none }) (v := ?_) rfl (by kernel_rfl) (by kernel_rfl) (by kernel_rfl) (fun _ _ _ h => h) (Or.inl ⟨by rfl, ?_⟩) hHeld ?_
 rotate_left 1
 ·intro u hSu
  go_simp
  first | done | with_reducible rfl
 (try simp only [Act.put, zA, zB, zC])
 refine wpAnyH_take (i := 5) (oi := { dst := some 46, op := Op.load 3 (Operand.tmp 45), type := 3, pos := _, after := _, guard := none }) (v := ?_) rfl (by kernel_rfl) (by kernel_rfl) (by kernel_rfl) (fun _ _ _ h => h) (Or.inl ⟨by rfl, ?_⟩) hHeld ?_
 rotate_left 1
 ·intro u hSu
  obtain ⟨a0u, a1u, a2u, a3u⟩ := row4T (kept_row K.out.b1 hSu.out (by simp))
  obtain ⟨d0u, d1u, d2u, d3u⟩ := row4T (kept_row K.out.b2 hSu.out (by simp))
  have m0u := hSu.out.cell HA.out.1.1 (by simp)
  have m1u := hSu.out.cell HA.out.1.2 (by simp)
  have n0u := hSu.out.cell HA.out.2.1 (by simp)
  have n1u := hSu.out.cell HA.out.2.2 (by simp)
  go_simp
  first | done | with_reducible rfl
 (try simp only [Act.put, zA, zB, zC])
 refine wpAnyH_take (i := 6) (oi := { dst := some 47, op := Op.fieldAddr 25 (Operand.tmp 3) 3, type := 0, pos := _, after := _, guard := none }) (v := ?_) rfl (by kernel_rfl) (by kernel_rfl) (by kernel_rfl) (fun _ _ _ h => h) (Or.inl ⟨by rfl, ?_⟩) hHeld ?_
 rotate_left 1
 ·intro u hSu
  go_simp
  first | done | with_reducible rfl
 (try simp only [Act.put, zA, zB, zC])
 refine wpAnyH_take (i := 7) (oi := { dst := some 48, op := Op.load 23 (Operand.tmp 47), type := 23, pos := _, after := _, guard := none }) (v := ?_) rfl (by kernel_rfl) (by kernel_rfl) (by kernel_rfl) (fun _ _ _ h => h) (Or.inl ⟨by rfl, ?_⟩) hHeld ?_
 rotate_left 1
 ·intro u hSu
  obtain ⟨a0u, a1u, a2u, a3u⟩ := row4T (kept_row K.out.b1 hSu.out (by simp))
  obtain ⟨d0u, d1u, d2u, d3u⟩ := row4T (kept_row K.out.b2 hSu.out (by simp))
  have m0u := hSu.out.cell HA.out.1.1 (by simp)
  have m1u := hSu.out.cell HA.out.1.2 (by simp)
  have n0u := hSu.out.cell HA.out.2.1 (by simp)
  have n1u := hSu.out.cell HA.out.2.2 (by simp)
  go_simp
  first | done | with_reducible rfl
 (try simp only [Act.put, zA, zB, zC])
 refine wpAnyH_take (i := 8) (oi := { dst := some 49, op := Op.move (Operand.tmp 5), type := 3, pos := _, after := _, guard := none }) (v := ?_) rfl (by kernel_rfl) (by kernel_rfl) (by kernel_rfl) (fun _ _ _ h => h) (Or.inl ⟨by rfl, ?_⟩) hHeld ?_
 rotate_left 1
 ·intro u hSu
  go_simp
  first | done | with_reducible rfl
 (try simp only [Act.put, zA, zB, zC])
 refine wpAnyH_take (i := 9) (oi := { dst := some 50, op := Op.indexAddr 23 (Operand.tmp 48) (Operand.tmp 49), type := 0, pos := _, after := _, guard := none }) (v := ?_) rfl (by kernel_rfl) (by kernel_rfl) (by kernel_rfl) (fun _ _ _ h => h) (Or.inl ⟨by rfl, ?_⟩) hHeld ?_
 rotate_left 1
 ·intro u hSu
  go_simp
  first | done | with_reducible rfl
 (try simp only [Act.put, zA, zB, zC])
 refine wpAnyH_take (i := 10) (oi := { dst := some 51, op := Op.fieldAddr 36 (Operand.tmp 50) 0, type := 0, pos := _, after := _, guard := none }) (v := ?_) rfl (by kernel_rfl) (by kernel_rfl) (by kernel_rfl) (fun _ _ _ h => h) (Or.inl ⟨by rfl, ?_⟩) hHeld ?_
 rotate_left 1
 ·intro u hSu
  go_simp
  first | done | with_reducible rfl
 (try simp only [Act.put, zA, zB, zC])
 refine wpAnyH_take (i := 11) (oi := { dst := some 52, op := Op.load 3 (Operand.tmp 51), type := 3, pos := _, after := _, guard := none }) (v := ?_) rfl (by kernel_rfl) (by kernel_rfl) (by kernel_rfl) (fun _ _ _ h => h) (Or.inl ⟨by rfl, ?_⟩) hHeld ?_
 rotate_left 1
 ·intro u hSu
  obtain ⟨a0u, a1u, a2u, a3u⟩ := row4T (kept_row K.out.b1 hSu.out (by simp))
  obtain ⟨d0u, d1u, d2u, d3u⟩ := row4T (kept_row K.out.b2 hSu.out (by simp))
  have m0u := hSu.out.cell HA.out.1.1 (by simp)
  have m1u := hSu.out.cell HA.out.1.2 (by simp)
  have n0u := hSu.out.cell HA.out.2.1 (by simp)
  have n1u := hSu.out.cell HA.out.2.2 (by simp)
  go_simp
  first | done | with_reducible rfl
 (try simp only [Act.put, zA, zB, zC])
 refine wpAnyH_take (i := 12) (oi := { dst := some 53, op := Op.binOp BinOp.neq 3 (Operand.tmp 46) (Operand.tmp 52) 3, type := 4, pos := _, after := _, guard := none }) (v := .bool false) rfl (by kernel_rfl) (by kernel_rfl) (by kernel_rfl) (fun _ _ _ h => h) (Or.inl ⟨by rfl, ?_⟩) hHeld ?_
 ·intro u hSu
  go_simp
  first | done | with_reducible rfl
 (try simp only [Act.put, zA, zB, zC])
 refine wpAnyH_take (i := 13) (oi := { dst := some 54, op := Op.move (Operand.tmp 53), type := 4, pos := _, after := _, guard := none }) (v := ?_) rfl (by kernel_rfl) (by kernel_rfl) (by kernel_rfl) (fun _ _ _ h => h) (Or.inl ⟨by rfl, ?_⟩) hHeld ?_
 rotate_left 1
 ·intro u hSu
  go_simp
  first | done | with_reducible rfl
 (try simp only [Act.put, zA, zB, zC])
 refine wpAnyH_take (i := 14) (oi := { dst := some 55, op := Op.fieldAddr 25 (Operand.tmp 2) 3, type := 0, pos := _, after := _, guard := some (13, false) }) (v := ?_) rfl (by kernel_rfl) (by kernel_rfl) (by kernel_rfl) (fun _ _ _ h => h) (Or.inl ⟨by rfl, ?_⟩) hHeld ?_
 rotate_left 1
 ·intro u hSu
  go_simp
  first | done | with_reducible rfl
 (try simp only [Act.put, zA, zB, zC])
 refine wpAnyH_take (i := 15) (oi := { dst := some 56, op := Op.load 23 (Operand.tmp 55), type := 23, pos := _, after := _, guard := some (13, false) }) (v := ?_) rfl (by kernel_rfl) (by kernel_rfl) (by kernel_rfl) (fun _ _ _ h => h) (Or.inl ⟨by rfl, ?_⟩) hHeld ?_
 rotate_left 1
 ·intro u hSu
  obtain ⟨a0u, a1u, a2u, a3u⟩ := row4T (kept_row K.out.b1 hSu.out (by simp))
  obtain ⟨d0u, d1u, d2u, d3u⟩ := row4T (kept_row K.out.b2 hSu.out (by simp))
  have m0u := hSu.out.cell HA.out.1.1 (by simp)
  have m1u := hSu.out.cell HA.out.1.2 (by simp)
  have n0u := hSu.out.cell HA.out.2.1 (by simp)
  have n1u := hSu.out.cell HA.out.2.2 (by simp)
  go_simp
  first | done | with_reducible rfl
 (try simp only [Act.put, zA, zB, zC])
 refine wpAnyH_take (i := 16) (oi := { dst := some 57, op := Op.move (Operand.tmp 5), type := 3, pos := _, after := _, guard := some (13, false) }) (v := ?_) rfl (by kernel_rfl) (by kernel_rfl) (by kernel_rfl) (fun _ _ _ h => h) (Or.inl ⟨by rfl, ?_⟩) hHeld ?_
 rotate_left 1
 ·intro u hSu
  go_simp
  first | done | with_reducible rfl
 (try simp only [Act.put, zA, zB, zC])
 refine wpAnyH_take (i := 17) (oi := { dst := some 58, op := Op.indexAddr 23 (Operand.tmp 56) (Operand.tmp 57), type := 0, pos := _, after := _, guard := some (13, false) }) (v := ?_) rfl (by kernel_rfl) (by kernel_rfl) (by kernel_rfl) (fun _ _ _ h => h) (Or.inl ⟨by rfl, ?_⟩) hHeld ?_
 rotate_left 1
 ·intro u hSu
  go_simp
  first | done | with_reducible rfl
 (try simp only [Act.put, zA, zB, zC])
 refine wpAnyH_take (i := 18) (oi := { dst := some 59, op := Op.fieldAddr 36 (Operand.tmp 58) 1, type := 0, pos := _, after := _, guard := some (13, false) }) (v := ?_) rfl (by kernel_rfl) (by kernel_rfl) (by kernel_rfl) (fun _ _ _ h => h) (Or.inl ⟨by rfl, ?_⟩) hHeld ?_
 rotate_left 1
 ·intro u hSu
  go_simp
  first | done | with_reducible rfl
 (try simp only [Act.put, zA, zB, zC])
 refine wpAnyH_take (i := 19) (oi := { dst := some 60, op := Op.load 22 (Operand.tmp 59), type := 22, pos := _, after := _, guard := some (13, false) }) (v := ?_) rfl (by kernel_rfl) (by kernel_rfl) (by kernel_rfl) (fun _ _ _ h => h) (Or.inl ⟨by rfl, ?_⟩) hHeld ?_
 rotate_left 1
 ·intro u hSu
  obtain ⟨a0u, a1u, a2u, a3u⟩ := row4T (kept_row K.out.b1 hSu.out (by simp))
  obtain ⟨d0u, d1u, d2u, d3u⟩ := row4T (kept_row K.out.b2 hSu.out (by simp))
  have m0u := hSu.out.cell HA.out.1.1 (by simp)
  have m1u := hSu.out.cell HA.out.1.2 (by simp)
  have n0u := hSu.out.cell HA.out.2.1 (by simp)
  have n1u := hSu.out.cell HA.out.2.2 (by simp)
  go_simp
  first | done | with_reducible rfl
 (try simp only [Act.put, zA, zB, zC])
 refine wpAnyH_take (i := 20) (oi := { dst := some 61, op := Op.fieldAddr 25 (Operand.tmp 3) 3, type := 0, pos := _, after := _, guard := some (13, false) }) (v := ?_) rfl (by kernel_rfl) (by kernel_rfl) (by kernel_rfl) (fun _ _ _ h => h) (Or.inl ⟨by rfl, ?_⟩) hHeld ?_
 rotate_left 1
 ·intro u hSu
  go_simp
  first | done | with_reducible rfl
 (try simp only [Act.put, zA, zB, zC])
 refine wpAnyH_take (i := 21) (oi := { dst := some 62, op := Op.load 23 (Operand.tmp 61), type := 23, pos := _, after := _, guard := some (13, false) }) (v := ?_) rfl (by kernel_rfl) (by kernel_rfl) (by kernel_rfl) (fun _ _ _ h => h) (Or.inl ⟨by rfl, ?_⟩) hHeld ?_
 rotate_left 1
 ·intro u hSu
  obtain ⟨a0u, a1u, a2u, a3u⟩ := row4T (kept_row K.out.b1 hSu.out (by simp))
  obtain ⟨d0u, d1u, d2u, d3u⟩ := row4T (kept_row K.out.b2 hSu.out (by simp))
  have m0u := hSu.out.cell HA.out.1.1 (by simp)
  have m1u := hSu.out.cell HA.out.1.2 (by simp)
  have n0u := hSu.out.cell HA.out.2.1 (by simp)
  have n1u := hSu.out.cell HA.out.2.2 (by simp)
  go_simp
  first | done | with_reducible rfl
 (try simp only [Act.put, zA, zB, zC])
 refine wpAnyH_take (i := 22) (oi := { dst := some 63, op := Op.move (Operand.tmp 5), type := 3, pos := _, after := _, guard := some (13, false) }) (v := ?_) rfl (by kernel_rfl) (by kernel_rfl) (by kernel_rfl) (fun _ _ _ h => h) (Or.inl ⟨by rfl, ?_⟩) hHeld ?_
 rotate_left 1
 ·intro u hSu
  go_simp
  first | done | with_reducible rfl
 (try simp only [Act.put, zA, zB, zC])
 refine wpAnyH_take (i := 23) (oi := { dst := some 64, op := Op.indexAddr 23 (Operand.tmp 62) (Operand.tmp 63), type := 0, pos := _, after := _, guard := some (13, false) }) (v := ?_) rfl (by kernel_rfl) (by kernel_rfl) (by kernel_rfl) (fun _ _ _ h => h) (Or.inl ⟨by rfl, ?_⟩) hHeld ?_
 rotate_left 1
 ·intro u hSu
  go_simp
  first | done | with_reducible rfl
 (try simp only [Act.put, zA, zB, zC])
 refine wpAnyH_take (i := 24) (oi := { dst := some 65, op := Op.fieldAddr 36 (Operand.tmp 64) 1, type := 0, pos := _, after := _, guard := some (13, false) }) (v := ?_) rfl (by kernel_rfl) (by kernel_rfl) (by kernel_rfl) (fun _ _ _ h => h) (Or.inl ⟨by rfl, ?_⟩) hHeld ?_
 rotate_left 1
 ·intro u hSu
  go_simp
  first | done | with_reducible rfl
 (try simp only [Act.put, zA, zB, zC])
 refine wpAnyH_take (i := 25) (oi := { dst := some 66, op := Op.load 22 (Operand.tmp 65), type := 22, pos := _, after := _, guard := some (13, false) }) (v := ?_) rfl (by kernel_rfl) (by kernel_rfl) (by kernel_rfl) (fun _ _ _ h => h) (Or.inl ⟨by rfl, ?_⟩) hHeld ?_
 rotate_left 1
 ·intro u hSu
  obtain ⟨a0u, a1u, a2u, a3u⟩ := row4T (kept_row K.out.b1 hSu.out (by simp))
  obtain ⟨d0u, d1u, d2u, d3u⟩ := row4T (kept_row K.out.b2 hSu.out (by simp))
  have m0u := hSu.out.cell HA.out.1.1 (by simp)
  have m1u := hSu.out.cell HA.out.1.2 (by simp)
  have n0u := hSu.out.cell HA.out.2.1 (by simp)
  have n1u := hSu.out.cell HA.out.2.2 (by simp)
  go_simp
  first | done | with_reducible rfl
 (try simp only [Act.put, zA, zB, zC])
 refine wpAnyH_ready (rs := [26]) (by kernel_rfl) (by simp) ?_
 refine AllReadyH.cons (o := { dst := some 67, op := Op.call { callee := Callee.value (Operand.func 20), args := #[Operand.tmp 60, Operand.tmp 66], argTypes := #[22, 22] }, type := 4, pos := _, after := _, guard := some (13, false) }) rfl (fun Kz hK => ?_) AllReadyH.nil
 go_simp
 go_at_call 20
 refine (rintsG_any x.nx y.nx x.p y.p x.c y.c _ _ _ (HOK.out.1.keep hHeld.out).rd (HOK.out.2.keep hHeld.out).rd (Nat.le_trans HOK.out.1.hc.1 HOK.out.1.hc.2) (Nat.le_trans HOK.out.2.hc.1 HOK.out.2.hc.2)).mono ?_
 rintro e' w7 ⟨rfl, hg⟩
 rw [HV.out]
 have HN := Lib.hid (grown_trans hHeld.out hg)
 clear hg
 obtain ⟨v, hv⟩ : ∃ v, decide (rw0 x = rw0 y) = v := ⟨_, rfl⟩
 rw [hv]
 have HV2 := Lib.hid hv
 clear hv
 simp only
 refine hK.out _ _ (HN) (fun hH2 => ?_)
 clear hK Kz hHeld
 have hHeld := hH2
 clear hH2
 (try simp only [Act.put, zA, zB, zC])
 refine wpAnyH_take (i := 27) (oi := { dst := some 68, op := Op.unOp UnOp.not 4 (Operand.tmp 67), type := 4, pos := _, after := _, guard := some (13, false) }) (v := ?_) rfl (by kernel_rfl) (by kernel_rfl) (by kernel_rfl) (fun _ _ _ h => h) (Or.inl ⟨by rfl, ?_⟩) hHeld ?_
 rotate_left 1
 ·intro u hSu
  go_simp
  first | done | with_reducible rfl
 (try simp only [Act.put, zA, zB, zC])
 refine wpAnyH_take (i := 28) (oi := { dst := some 69, op := Op.pick (Operand.tmp 54) (Operand.const (Value.bool true)) (Operand.tmp 68), type := 4, pos := _, after := _, guard := none }) (v := ?_) rfl (by kernel_rfl) (by kernel_rfl) (by kernel_rfl) (fun _ _ _ h => h) (Or.inl ⟨by rfl, ?_⟩) hHeld ?_
 rotate_left 1
 ·intro u hSu
  go_simp
  first | done | with_reducible rfl
 (try simp only [Act.put, zA, zB, zC])
 refine wpAnyH_done (by kernel_rfl) ?_ _
 have K7 := Lib.hid (K.out.keep hHeld.out)
 clear hHeld K
 cases v
 case false =>
  have HF : Hid (z = false) := Lib.hid (by rw [← HE.out]; exact decide_eq_false (tk_ne (rw0_get HXY.out.1) (rw0_get HXY.out.2) (of_decide_eq_false HV2.out)))
  go_wp2_with fail
  go_ret
  exact ⟨by rw [HF.out]; rfl, K7.out.gr⟩
 have HT2 := Lib.hid (tk_step HT.out (rw0_get HXY.out.1) (rw0_get HXY.out.2) (of_decide_eq_true HV2.out))
 clear HT
 go_wp2_with fail
 exact ⟨⟨k + 1, by omega, congrArg _ (by omega), HT2, K7⟩, by simp only [RowKit.intOf]; omega⟩
end Go.Proofs.YtahafijpcmphaaaGreat

/- empty -/
namespace Go.Proofs.YtahafijpcmphaaaGreat
set_option maxRecDepth 100000
end Go.Proofs.YtahafijpcmphaaaGreat

/- empty -/
namespace Go.Proofs.YtahafijpcmphaaaGreat
set_option maxRecDepth 100000
end Go.Proofs.YtahafijpcmphaaaGreat

/- identify: IndexFunc, ContainsFunc and ascending at claims and at edges. -/
namespace Go.Proofs.YtahafijpcmphaaaGreat
set_option maxRecDepth 100000
open Go.RowKit Bs
theorem icmpe2_any (r s : Ed) (w : World) :
  Calls Tryz.prog 150 #[.agg #[.int .i64 r.r, .int .i64 r.i], .agg #[.int .i64 s.r, .int .i64 s.i]] w fun e w' => e = .returned (.int .i64 (cmpV r.i s.i)) ∧ w.grownBy w' none := by
 refine (icmpe_any r s w).mono ?_
 rintro e w' ⟨rfl, rfl⟩
 exact ⟨rfl, grown_trans (World.grownBy_alloc w _ _) (World.grownBy_alloc _ _ _)⟩
set_option maxHeartbeats 1600000 in
theorem iidxE_any (g : Nat) (lb : Array Value) (P : Ed → Bool) (eg : EnterF g) (R : List Ed) (p : Option Addr) (c : Nat) (q : Nat → Prop) (w : World) (hR : RdF w q (.slice p R.length c) R.length (R.flatMap edC)) (hm : R.length ≤ 9223372036854775807)
  (hP : ∀ (r : Ed) (w' : World), w.grownBy w' none → Calls Tryz.prog g (#[.agg #[.int .i64 r.r, .int .i64 r.i]] ++ lb) w' fun e w2 => e = .returned (.bool (P r)) ∧ w'.grownBy w2 none) :
  Calls Tryz.prog 166 #[.slice p R.length c, .func (.func g) #[] lb] w fun e w' => ∃ i : Int, e = .returned (.int .i64 i) ∧ decide (0 ≤ i) = R.any P ∧ w.grownBy w' none := by
 have HR := Lib.hid hR
 have HP := Lib.hid hP
 clear hR hP
 go_enter Tryz.func166, Tryz.ntmps166
 go_wp2_with fail
 go_loopw [8] (fun a wr => ∃ k : Nat, k ≤ R.length ∧ a = .int .i64 (k : Int) ∧ Hid (w.grownBy wr none) ∧ Hid ((R.take k).any P = false)) (fun a _ => R.length - (RowKit.intOf a).toNat)
 case atStart => exact ⟨0, Nat.zero_le _, rfl, Lib.hid (grown_refl _ _), Lib.hid rfl⟩
 case round =>
  obtain ⟨k, hk, rfl, G, HN⟩ := hrel
  by_cases hlt : k < R.length
  ·obtain ⟨-, b, off, rfl, hq, hc⟩ := ed_cells (HR.out.keep G.out) (by omega)
   obtain ⟨x, hx⟩ : ∃ x, R[k]? = some x := ⟨_, List.getElem?_eq_getElem hlt⟩
   obtain ⟨a0, a1⟩ := hc k x hx
   have HX := Lib.hid hx
   clear hc hx
   have hcall := HP.out x wr G.out
   cases hp : P x
   ·rw [hp] at hcall
    have HY := Lib.hid hp
    clear hp
    go_wp2_with (go_at_fn g; refine hcall.mono ?_; rintro e w' ⟨rfl, hg⟩; have HG := Lib.hid (grown_trans G.out hg); clear hg)
    exact ⟨⟨k + 1, by omega, congrArg _ (by omega), HG, Lib.hid (any_take HN.out HX.out HY.out)⟩, by simp only [RowKit.intOf]; omega⟩
   ·rw [hp] at hcall
    have HY := Lib.hid hp
    clear hp
    go_wp2_with (go_at_fn g; refine hcall.mono ?_; rintro e w' ⟨rfl, hg⟩; have HG := Lib.hid (grown_trans G.out hg); clear hg)
    go_ret
    refine ⟨_, rfl, ?_, HG.out⟩
    rw [any_at HX.out HY.out, decide_eq_true_eq]; omega
  ·obtain rfl : k = R.length := by omega
   go_wp2_with fail
   go_ret
   refine ⟨_, rfl, ?_, G.out⟩
   rw [any_end HN.out (Nat.le_refl _)]; decide
set_option maxHeartbeats 1600000 in
theorem icontE_any (g : Nat) (lb : Array Value) (P : Ed → Bool) (eg : EnterF g) (R : List Ed) (p : Option Addr) (c : Nat) (q : Nat → Prop) (w : World) (hR : RdF w q (.slice p R.length c) R.length (R.flatMap edC)) (hm : R.length ≤ 9223372036854775807)
  (hP : ∀ (r : Ed) (w' : World), w.grownBy w' none → Calls Tryz.prog g (#[.agg #[.int .i64 r.r, .int .i64 r.i]] ++ lb) w' fun e w2 => e = .returned (.bool (P r)) ∧ w'.grownBy w2 none) :
  Calls Tryz.prog 147 #[.slice p R.length c, .func (.func g) #[] lb] w fun e w' => e = .returned (.bool (R.any P)) ∧ w.grownBy w' none := by
 have HR := Lib.hid hR
 have HP := Lib.hid hP
 clear hR hP
 go_enter Tryz.func147, Tryz.ntmps147
 go_wp2_with (go_at_call 166; refine (iidxE_any g lb P eg R p c q w HR.out hm HP.out).mono ?_; rintro e w' ⟨i, rfl, hi, hg⟩; have HI := Lib.hid (And.intro hi hg); clear hi hg)
 go_ret
 rw [← HI.out.1]
 exact ⟨rfl, HI.out.2⟩
theorem ascE_end {R : List Ed} (h : ∀ i x y, i + 1 < R.length → R[i]? = some x → R[i + 1]? = some y → ltE x y = true) : ascB ltE R = true :=
 (ascB_iff _ _).2 fun i x y hx hy => h i x y ((List.getElem?_eq_some_iff.1 hy).1) hx hy
theorem ascE_hit {R : List Ed} {i : Nat} {x y : Ed} (hx : R[i]? = some x) (hy : R[i + 1]? = some y) (h : ltE x y = false) : ascB ltE R = false := by
 rw [Bool.eq_false_iff]
 intro h2
 have := (ascB_iff _ _).1 h2 i x y hx hy
 rw [h] at this; cases this
theorem ltE_of_ge {x y : Ed} (h : 0 ≤ cmpV x.i y.i) : ltE x y = false := by
 exact (by have := cmpV_ge.1 h; unfold ltE; rw [decide_eq_false_iff_not]; omega)
theorem ltE_of_lt {x y : Ed} (h : ¬ 0 ≤ cmpV x.i y.i) : ltE x y = true := by
 exact (by have : ¬ y.i ≤ x.i := fun e => h (cmpV_ge.2 e); unfold ltE; rw [decide_eq_true_eq]; omega)
theorem keepAE {wr w' : World} {b i j : Nat} {x y : Ed} (h : wr.cell? ⟨b, i, none⟩ = some (.int .i64 x.r) ∧ wr.cell? ⟨b, i + 1, none⟩ = some (.int .i64 x.i) ∧ wr.cell? ⟨b, j, none⟩ = some (.int .i64 y.r) ∧ wr.cell? ⟨b, j + 1, none⟩ = some (.int .i64 y.i)) (hg : Hid (wr.grownBy w' none)) : w'.cell? ⟨b, i, none⟩ = some (.int .i64 x.r) ∧ w'.cell? ⟨b, i + 1, none⟩ = some (.int .i64 x.i) ∧ w'.cell? ⟨b, j, none⟩ = some (.int .i64 y.r) ∧ w'.cell? ⟨b, j + 1, none⟩ = some (.int .i64 y.i) ∧ Hid (wr.grownBy w' none) := by
 obtain ⟨h0, h1, h2, h3⟩ := h
 exact ⟨hg.out.cell h0 (by simp), hg.out.cell h1 (by simp), hg.out.cell h2 (by simp), hg.out.cell h3 (by simp), hg⟩
set_option maxHeartbeats 3200000 in
theorem iascE_any (R : List Ed) (p : Option Addr) (c : Nat) (q : Nat → Prop) (w : World) (hR : RdF w q (.slice p R.length c) R.length (R.flatMap edC)) (hm : R.length ≤ 9223372036854775807) :
  Calls Tryz.prog 149 #[.slice p R.length c, .func (.func 150) #[] #[]] w fun e w' => e = .returned (.bool (ascB ltE R)) ∧ w.grownBy w' none := by
 have eg : EnterF 150 := enters_of Tryz.func150 (by kernel_rfl) rfl
 have HR := Lib.hid hR
 clear hR
 go_enter Tryz.func149, Tryz.ntmps149
 go_wp2_with fail
 go_loopw [5] (fun a wr => ∃ k : Nat, 1 ≤ k ∧ (k ≤ R.length ∨ k = 1) ∧ a = .int .i64 (k : Int) ∧ Hid (w.grownBy wr none) ∧ Hid (∀ i x y, i + 1 < k → R[i]? = some x → R[i + 1]? = some y → ltE x y = true)) (fun a _ => R.length - (RowKit.intOf a).toNat)
 case atStart => exact ⟨1, by omega, Or.inr rfl, rfl, Lib.hid (grown_refl _ _), Lib.hid (fun i x y h => by omega)⟩
 case round =>
  obtain ⟨k, hk1, hk, rfl, G, HN⟩ := hrel
  by_cases hlt : k < R.length
  ·obtain ⟨j, rfl⟩ : ∃ j, k = j + 1 := ⟨k - 1, by omega⟩
   obtain ⟨-, b, off, rfl, hq, hc⟩ := ed_cells (HR.out.keep G.out) (by omega)
   obtain ⟨x, hx⟩ : ∃ x, R[j]? = some x := ⟨_, List.getElem?_eq_getElem (by omega)⟩
   obtain ⟨y, hy⟩ : ∃ y, R[j + 1]? = some y := ⟨_, List.getElem?_eq_getElem hlt⟩
   obtain ⟨a0, a1⟩ := hc j x hx
   obtain ⟨b0, b1⟩ := hc (j + 1) y hy
   have HXY := Lib.hid (And.intro hx hy)
   have ew1 : ((j : Int) + 1 - 1) = (j : Int) := by omega
   have ew2 : IntKind.i64.wrap ((j : Int) + 1 - 1) = (j : Int) := by rw [ew1, IntWalk.i64_in _ (by omega)]
   have ew3 : IntKind.i64.wrap (j : Int) = (j : Int) := IntWalk.i64_in _ (by omega)
   have j0 : (0 : Int) ≤ (j : Int) := by omega
   have j1 : (0 : Int) ≤ (j : Int) + 1 := by omega
   have j2 : (j : Int) < (R.length : Int) := by omega
   have j3 : (j : Int) + 1 < (R.length : Int) := by omega
   have j4 : ((j : Int) + 1).toNat = j + 1 := by omega
   clear hc hx hy
   have hcast : ((j + 1 : Nat) : Int) = (j : Int) + 1 := by omega
   rw [hcast]
   have HF := Lib.hid (show wr.cell? ⟨b, off + j * 2, none⟩ = some (.int .i64 x.r) ∧ wr.cell? ⟨b, off + j * 2 + 1, none⟩ = some (.int .i64 x.i) ∧ wr.cell? ⟨b, off + (j + 1) * 2, none⟩ = some (.int .i64 y.r) ∧ wr.cell? ⟨b, off + (j + 1) * 2 + 1, none⟩ = some (.int .i64 y.i) from ⟨a0, a1, b0, b1⟩)
   have GZ : Hid (wr.grownBy wr none) := Lib.hid (grown_refl _ _)
   go_upto_region 4 with fail
   cases hlt2 : ltE x y
   ·have hge : 0 ≤ cmpV x.i y.i := by
     by_cases h : 0 ≤ cmpV x.i y.i
     ·exact h
     ·rw [ltE_of_lt h] at hlt2; cases hlt2
    have HL := Lib.hid hlt2
    clear hlt2
    go_region_held3 (fun w' => w'.cell? ⟨b, off + j * 2, none⟩ = some (.int .i64 x.r) ∧ w'.cell? ⟨b, off + j * 2 + 1, none⟩ = some (.int .i64 x.i) ∧ w'.cell? ⟨b, off + (j + 1) * 2, none⟩ = some (.int .i64 y.r) ∧ w'.cell? ⟨b, off + (j + 1) * 2 + 1, none⟩ = some (.int .i64 y.i) ∧ Hid (wr.grownBy w' none))
     (first | with_reducible exact keepAE HF.out (hid_drew GZ) | (with_reducible exact keepAE HF.out (hid_drew (hid_more GZ hg))) | (go_split_ands; with_reducible refine keepAE HF.out ?_; with_reducible assumption) | (go_split_ands; with_reducible refine keepAE HF.out (hid_more ?_ hg); with_reducible assumption))
     ((go_at_call 150; refine (icmpe2_any x y _).mono ?_; rintro e w' ⟨rfl, hg⟩))
    all_goals
     go_split_ands
     go_wp2_with fail
     go_ret
     rw [ascE_hit HXY.out.1 HXY.out.2 HL.out]
     exact ⟨rfl, grown_trans G.out (Hid.out (by assumption))⟩
   ·have hge : ¬ 0 ≤ cmpV x.i y.i := by
     intro h
     rw [ltE_of_ge h] at hlt2; cases hlt2
    have HL := Lib.hid hlt2
    clear hlt2
    go_region_held3 (fun w' => w'.cell? ⟨b, off + j * 2, none⟩ = some (.int .i64 x.r) ∧ w'.cell? ⟨b, off + j * 2 + 1, none⟩ = some (.int .i64 x.i) ∧ w'.cell? ⟨b, off + (j + 1) * 2, none⟩ = some (.int .i64 y.r) ∧ w'.cell? ⟨b, off + (j + 1) * 2 + 1, none⟩ = some (.int .i64 y.i) ∧ Hid (wr.grownBy w' none))
     (first | with_reducible exact keepAE HF.out (hid_drew GZ) | (with_reducible exact keepAE HF.out (hid_drew (hid_more GZ hg))) | (go_split_ands; with_reducible refine keepAE HF.out ?_; with_reducible assumption) | (go_split_ands; with_reducible refine keepAE HF.out (hid_more ?_ hg); with_reducible assumption))
     ((go_at_call 150; refine (icmpe2_any x y _).mono ?_; rintro e w' ⟨rfl, hg⟩))
    all_goals
     go_split_ands
     have HGW := Lib.hid (grown_trans G.out (Hid.out (by assumption)))
     go_wp2_with fail
     refine ⟨⟨j + 1 + 1, by omega, Or.inl (by omega), congrArg _ (by omega), HGW, Lib.hid fun i x2 y2 hi hx2 hy2 => ?_⟩, by simp only [RowKit.intOf]; omega⟩
     by_cases hij : i = j
     ·subst hij
      have e1 := HXY.out.1.symm.trans hx2
      have e2 := HXY.out.2.symm.trans hy2
      injection e1 with e1
      injection e2 with e2
      subst e1
      subst e2
      exact HL.out
     ·exact HN.out i x2 y2 (by omega) hx2 hy2
  ·have h1 : ¬ (k : Int) < (R.length : Int) := by omega
   go_wp2_with fail
   go_ret
   rw [ascE_end fun i x y hi hx hy => HN.out i x y (by omega) hx hy]
   exact ⟨rfl, G.out⟩
end Go.Proofs.YtahafijpcmphaaaGreat

/- empty -/
namespace Go.Proofs.YtahafijpcmphaaaGreat
set_option maxRecDepth 100000
end Go.Proofs.YtahafijpcmphaaaGreat

/- empty -/
namespace Go.Proofs.YtahafijpcmphaaaGreat
set_option maxRecDepth 100000
end Go.Proofs.YtahafijpcmphaaaGreat

/- identify: Conflicts, Length, Free. -/
namespace Go.Proofs.YtahafijpcmphaaaGreat
set_option maxRecDepth 100000
open Go.RowKit Bs
def ivC (z : Int) : List Value := [.int .i64 z]
theorem ivC_one (z : Int) : ∀ u ∈ ivC z, u.oneCell' = true := by
 intro u hu
 simp [ivC] at hu
 subst hu
 rfl
theorem flat_iv : ∀ X : List Int, X.flatMap ivC = X.map (fun z => Value.int .i64 z)
 | [] => rfl
 | a :: t => by rw [List.flatMap_cons, flat_iv t]; rfl
theorem iv_row (w : World) (z : Int) (t : TypeId) (j : Nat) (u : Value) (hu : ([z].flatMap ivC)[j]? = some u) : (w.alloc (.cells #[.int .i64 z] t)).cell? ((⟨w.heap.size, 0, none⟩ : Addr).add j) = some u :=
 cell_one w (.int .i64 z) t j u (by simpa [ivC] using hu)
end Go.Proofs.YtahafijpcmphaaaGreat

/- empty -/
namespace Go.Proofs.YtahafijpcmphaaaGreat
set_option maxRecDepth 100000
end Go.Proofs.YtahafijpcmphaaaGreat

/- empty -/
namespace Go.Proofs.YtahafijpcmphaaaGreat
set_option maxRecDepth 100000
end Go.Proofs.YtahafijpcmphaaaGreat

/- empty -/
namespace Go.Proofs.YtahafijpcmphaaaGreat
set_option maxRecDepth 100000
end Go.Proofs.YtahafijpcmphaaaGreat

/- empty -/
namespace Go.Proofs.YtahafijpcmphaaaGreat
set_option maxRecDepth 100000
end Go.Proofs.YtahafijpcmphaaaGreat

/- empty -/
namespace Go.Proofs.YtahafijpcmphaaaGreat
set_option maxRecDepth 100000
end Go.Proofs.YtahafijpcmphaaaGreat

/- empty -/
namespace Go.Proofs.YtahafijpcmphaaaGreat
set_option maxRecDepth 100000
end Go.Proofs.YtahafijpcmphaaaGreat

/- identify: routerTwice. -/
namespace Go.Proofs.YtahafijpcmphaaaGreat
set_option maxRecDepth 100000
open Go.RowKit Bs
theorem info_bs1 : (Tryz.prog.info? 102).map (fun i => (i.zero, i.size)) = some (some (.agg (arrV 100 (bvN fun _ => false))), 100) := by kernel_rfl
theorem rep_yes {L : List Int} {k : Nat} {x : Int} (hx : L[k]? = some x) (h : x ∈ L.take k) : repI L = true := by
 have hk : k < L.length := (List.getElem?_eq_some_iff.1 hx).1
 unfold repI
 refine List.any_eq_true.2 ⟨k, List.mem_range.2 hk, ?_⟩
 rw [List.getD_eq_getElem?_getD, hx]
 simpa using h
theorem rep_no {L : List Int} (h : ∀ k x, L[k]? = some x → x ∉ L.take k) : repI L = false := by
 unfold repI
 rw [List.any_eq_false]
 intro k hk
 have hk := List.mem_range.1 hk
 rw [List.getD_eq_getElem?_getD, List.getElem?_eq_getElem hk]
 simpa using h k _ (List.getElem?_eq_getElem hk)
theorem wre_r {x : Ed} (h : wrE x = false) : 1 ≤ x.r ∧ x.r ≤ 99 := by
 unfold wrE inV at h
 simp only [Bool.not_eq_false', Bool.and_eq_true, decide_eq_true_eq] at h
 exact h.1
structure RT (W : World) (E : List Ed) (p : Option Addr) (c B : Nat) (kf : Nat → Bool) (w : World) : Prop where
 kb : w.heap[B]? = some (.cells (arrV 100 (bvN kf)) 102 (0, 0))
 rd : RdF w (· < W.heap.size) (.slice p E.length c) E.length (E.flatMap edC)
 gr : W.grownBy w none
 lo : W.heap.size ≤ B
section
variable {W w w1 : World} {E : List Ed} {p : Option Addr} {c B : Nat} {kf : Nat → Bool}
theorem RT.keep (h : RT W E p c B kf w) (g : w.grownBy w1 none) : RT W E p c B kf w1 := ⟨kept_row h.kb g (by simp), h.rd.keep g, grown_trans h.gr g, h.lo⟩
theorem RT.put (h : RT W E p c B kf w) {m : Nat} (hm : m < 100) : RT W E p c B (fun j => if j = m then true else kf j) (w.setCell ⟨B, m, none⟩ (.bool true)) := by
 obtain ⟨h1, h2⟩ := arr_put (.bool true) h.kb hm
 have hlo := h.lo
 refine ⟨?_, h.rd.grown h2 (fun b hb e => by have := Option.some.inj e; omega), grown_new h.gr h2 (by omega), hlo⟩
 rw [h1]
 congr 2
 refine arr_congr fun j _ => ?_
 unfold bvN
 show (if j = m then _ else _) = Value.bool (if j = m then true else kf j)
 split <;> rfl
end
def rsE (E : List Ed) : List Int := E.map Ed.r
theorem rsE_at {E : List Ed} {k : Nat} {x : Ed} (h : E[k]? = some x) : (rsE E)[k]? = some x.r := by unfold rsE; rw [List.getElem?_map, h]; rfl
set_option maxHeartbeats 6400000 in
theorem irtw_any (E : List Ed) (p : Option Addr) (c : Nat) (q : Nat → Prop) (w : World) (hR : RdF w q (.slice p E.length c) E.length (E.flatMap edC)) (hv : E.any wrE = false) (hm : E.length ≤ 9223372036854775807) :
  Calls Tryz.prog 151 #[.slice p E.length c] w fun e w' => e = .returned (.bool (repI (rsE E))) ∧ w.grownBy w' none := by
 have HZ2 := (zero_of_info info_bs1).1
 obtain ⟨n1, n2⟩ := tone_box w (arrV 100 (bvN fun _ => false)) 102
 have E0 : Hid (RT w E p c w.heap.size (fun j => decide ((j : Int) ∈ (rsE E).take 0)) _) := Lib.hid ⟨by rw [n1]; congr 2, hR.old.keep n2, n2, Nat.le_refl _⟩
 have HV := Lib.hid (fun x hx => wre_r (any_mem hv (x := x) hx))
 clear n1 n2 hR hv
 go_enter Tryz.func151, Tryz.ntmps151
 go_upto_region 2 with fail
 generalize w.alloc _ = w1 at *
 obtain ⟨B, hB⟩ : ∃ B, w.heap.size = B := ⟨_, rfl⟩
 rw [hB] at E0 ⊢
 clear hB HZ2
 have HN0 : Hid (∀ j x, j < 0 → (rsE E)[j]? = some x → x ∉ (rsE E).take j) := Lib.hid (fun j x h => by omega)
 go_wp2_with fail
 go_loopw [8] (fun a wr => ∃ k : Nat, k ≤ E.length ∧ a = .int .i64 (k : Int) ∧ Hid (∀ j x, j < k → (rsE E)[j]? = some x → x ∉ (rsE E).take j) ∧ Hid (RT w E p c B (fun j => decide ((j : Int) ∈ (rsE E).take k)) wr)) (fun a _ => E.length - (RowKit.intOf a).toNat)
 case atStart => exact ⟨0, by omega, rfl, HN0, E0⟩
 case round =>
  obtain ⟨w5, rfl⟩ : ∃ w5, w5 = wr := ⟨_, rfl⟩
  obtain ⟨k, hk, rfl, HN, N⟩ := hrel
  clear E0 HN0
  by_cases hlt : k < E.length
  ·have hlt' : (k : Int) < (E.length : Int) := by omega
   obtain ⟨-, b, off, rfl, -, hcc⟩ := ed_cells N.out.rd (by omega)
   obtain ⟨x, hx⟩ : ∃ x, E[k]? = some x := ⟨_, List.getElem?_eq_getElem hlt⟩
   obtain ⟨a0, a1⟩ := hcc k x hx
   have hxr := HV.out x (List.mem_of_getElem? hx)
   obtain ⟨m, hm1⟩ : ∃ m : Nat, x.r = (m : Int) := ⟨x.r.toNat, by omega⟩
   have hm2 : m < 100 := by omega
   have HX := Lib.hid (rsE_at hx)
   have HB := Lib.hid (heap_alloc_new w5 (.cells #[.int .i64 x.r, .int .i64 x.i] 71))
   have HG := Lib.hid (World.grownBy_alloc w5 (.cells #[.int .i64 x.r, .int .i64 x.i] 71) none)
   have HM1 := Lib.hid hm1
   clear hcc hx hm1 hxr
   go_upto_region 5 with fail
   clear a0 a1
   generalize w5.alloc _ = w6 at *
   have N1 := Lib.hid (N.out.keep HG.out)
   rw [HM1.out] at HB HX
   obtain ⟨d0, d1⟩ := row_cells HB.out
   obtain ⟨kb, hkb⟩ : ∃ b : Bool, decide ((m : Int) ∈ (rsE E).take k) = b := ⟨_, rfl⟩
   have e1 : w6.cell? ⟨B, m, none⟩ = some (.bool kb) := by rw [← hkb]; exact arr_row N1.out.kb hm2
   have f1 := frozen_of_row _ _ m _ _ N1.out.kb
   have HKB := Lib.hid hkb
   clear hkb N HG
   cases kb with
   | true =>
    have HT := Lib.hid (rep_yes HX.out (of_decide_eq_true HKB.out))
    go_wp2_with fail
    go_ret
    rw [HT.out]
    exact ⟨rfl, N1.out.gr⟩
   | false =>
    have N2 := N1.out.put hm2
    have HKF : (fun j : Nat => if j = m then true else decide ((j : Int) ∈ (rsE E).take k)) = fun j : Nat => decide ((j : Int) ∈ (rsE E).take (k + 1)) := by
     funext j
     rw [List.take_add_one, HX.out]
     by_cases hj : j = m
     ·subst hj
      rw [if_pos rfl]
      exact (decide_eq_true (by simp)).symm
     ·rw [if_neg hj]
      congr 1
      simp only [Option.toList, List.mem_append, List.mem_singleton, eq_iff_iff]
      constructor
      ·exact fun h => Or.inl h
      ·rintro (h | h)
       ·exact h
       ·exact absurd (by omega) hj
    rw [HKF] at N2
    have N3 := Lib.hid N2
    have HN2 : Hid (∀ j x, j < k + 1 → (rsE E)[j]? = some x → x ∉ (rsE E).take j) := Lib.hid (fun j y hj hy => by
     by_cases hjk : j < k
     ·exact HN.out j y hjk hy
     ·obtain rfl : j = k := by omega
      rw [HX.out] at hy
      obtain rfl := Option.some.inj hy
      exact of_decide_eq_false HKB.out)
    clear N2 HKF N1
    go_wp2_with fail
    exact ⟨⟨k + 1, by omega, congrArg _ (by omega), HN2, N3⟩, by simp only [RowKit.intOf]; omega⟩
  ·obtain rfl : k = E.length := by omega
   have hnl : ¬ (E.length : Int) < (E.length : Int) := by omega
   have HT := Lib.hid (rep_no (L := rsE E) (fun j x hx => HN.out j x (by
    have := (List.getElem?_eq_some_iff.1 hx).1
    unfold rsE at this
    rw [List.length_map] at this
    exact this) hx))
   go_wp2_with fail
   go_ret
   rw [HT.out]
   exact ⟨rfl, N.out.gr⟩
end Go.Proofs.YtahafijpcmphaaaGreat

/- identify: Plan. -/
namespace Go.Proofs.YtahafijpcmphaaaGreat
set_option maxRecDepth 100000
open Go.RowKit Bs
theorem row3i {w : World} {b : Nat} {t : TypeId} {x y z : Value} (h : w.heap[b]? = some (.cells #[x, y, z] t (0, 0))) : (w.cell? ⟨b, 0, none⟩ = some x ∧ w.cell? ⟨b, 1, none⟩ = some y ∧ w.cell? ⟨b, 2, none⟩ = some z) ∧ ∀ o, w.frozen? ⟨b, o, none⟩ = false :=
 ⟨⟨cell_of_row _ _ _ _ _ _ h, cell_of_row _ _ _ _ _ _ h, cell_of_row _ _ _ _ _ _ h⟩, fun o => frozen_of_row _ _ o _ _ h⟩
end Go.Proofs.YtahafijpcmphaaaGreat

/- identify: ValidPlan. -/
namespace Go.Proofs.YtahafijpcmphaaaGreat
set_option maxRecDepth 100000
open Go.RowKit Bs
set_option maxHeartbeats 6400000 in
theorem ivplan_any (sub n : Int) (E : List Ed) (p : Option Addr) (c : Nat) (q : Nat → Prop) (w : World) (hR : RdF w q (.slice p E.length c) E.length (E.flatMap edC)) (hm : E.length ≤ 9223372036854775807) :
  Calls Tryz.prog 113 #[.agg #[.int .i64 sub, .int .i64 n, .slice p E.length c]] w fun e w' => e = .returned (.bool (vPl sub n E)) ∧ w.grownBy w' none := by
 obtain ⟨k1, k2⟩ := tone_box w #[.int .i64 sub, .int .i64 n, .slice p E.length c] 48
 have H0 := Lib.hid (And.intro k1 (And.intro k2 (hR.keep k2)))
 have e1 : EnterF 148 := enters_of Tryz.func148 (by kernel_rfl) rfl
 have E1 := Lib.hid e1
 clear k1 k2 hR e1
 go_enter Tryz.func113, Tryz.ntmps113
 go_upto_region 1 with fail
 generalize w.alloc _ = w1 at *
 obtain ⟨⟨d0, d1, d2⟩, -⟩ := row3i H0.out.1
 obtain ⟨b1, hb1⟩ : ∃ b, inV sub 0 7 = b := ⟨_, rfl⟩
 have B1 := Lib.hid hb1
 clear hb1
 go_wp2_with fail
 refine (ivs_lit sub _ B1.out w1).mono ?_
 rintro e w' ⟨rfl, rfl⟩
 cases b1
 case false =>
  go_wp2_with fail
  go_ret
  exact ⟨by unfold vPl; rw [B1.out]; rfl, H0.out.2.1⟩
 by_cases h24 : 24 < E.length
 ·have h24' : (24 : Int) < (E.length : Int) := by omega
  go_wp2_with fail
  go_ret
  exact ⟨by unfold vPl; rw [decide_eq_false (show ¬ E.length ≤ 24 by omega)]; simp, H0.out.2.1⟩
 have h24' : ¬ (24 : Int) < (E.length : Int) := by omega
 obtain ⟨b2, hb2⟩ : ∃ b, vl n = b := ⟨_, rfl⟩
 have B2 := Lib.hid hb2
 clear hb2
 go_wp2_with fail
 refine (vlp_lit n _ B2.out w1).mono ?_
 rintro e w' ⟨rfl, rfl⟩
 cases b2
 case true =>
  have HP : Hid (vPl sub n E = (!E.any wrE && ascB ltE E && !repI (rsE E))) := Lib.hid (by
   unfold vPl rsE
   rw [B1.out, B2.out, decide_eq_true (show E.length ≤ 24 by omega)]
   simp)
  go_wp2_with fail
  refine (icontE_any 148 #[] wrE E1.out E p c _ w1 H0.out.2.2 hm (fun r w' _ => iwre_any r w')).mono ?_
  rintro e w2 ⟨rfl, hg⟩
  have H2 := Lib.hid (And.intro (kept_row H0.out.1 hg (by simp)) (And.intro (grown_trans H0.out.2.1 hg) (H0.out.2.2.keep hg)))
  clear hg
  clear d0 d1 d2
  obtain ⟨⟨d0, d1, d2⟩, -⟩ := row3i H2.out.1
  cases f1 : E.any wrE
  case true =>
   have F1 := Lib.hid f1
   clear f1
   go_wp2_with fail
   go_ret
   exact ⟨by rw [HP.out, F1.out]; rfl, H2.out.2.1⟩
  have F1 := Lib.hid f1
  clear f1
  go_wp2_with fail
  refine (iascE_any E p c _ w2 H2.out.2.2 hm).mono ?_
  rintro e w3 ⟨rfl, hg⟩
  have H3 := Lib.hid (And.intro (kept_row H2.out.1 hg (by simp)) (And.intro (grown_trans H2.out.2.1 hg) (H2.out.2.2.keep hg)))
  clear hg
  clear d0 d1 d2 H2
  obtain ⟨⟨d0, d1, d2⟩, -⟩ := row3i H3.out.1
  cases f2 : ascB ltE E
  case false =>
   have F2 := Lib.hid f2
   clear f2
   go_wp2_with fail
   go_ret
   exact ⟨by rw [HP.out, F1.out, F2.out]; rfl, H3.out.2.1⟩
  have F2 := Lib.hid f2
  clear f2
  go_wp2_with fail
  refine (irtw_any E p c _ w3 H3.out.2.2 F1.out hm).mono ?_
  rintro e w4 ⟨rfl, hg⟩
  have G4 := Lib.hid (grown_trans H3.out.2.1 hg)
  clear hg
  clear d0 d1 d2 H3
  have HRP : Hid (vPl sub n E = !repI (rsE E)) := Lib.hid (by rw [HP.out, F1.out, F2.out]; rfl)
  go_wp2_with fail
  go_ret
  rw [HRP.out]
  exact ⟨rfl, G4.out⟩
 by_cases hn0 : n = 0
 case neg =>
  have hn0' : (n != 0) = true := by simpa using hn0
  have HF : Hid (vPl sub n E = false) := Lib.hid (by unfold vPl; rw [B2.out, decide_eq_false hn0]; simp)
  clear hn0
  go_wp2_with fail
  go_ret
  rw [HF.out]
  exact ⟨rfl, H0.out.2.1⟩
 have hn0' : (n != 0) = false := by simpa using hn0
 by_cases hE : 0 < E.length
 case pos =>
  have hE' : (0 : Int) < (E.length : Int) := by omega
  have HF : Hid (vPl sub n E = false) := Lib.hid (by unfold vPl; rw [B2.out, decide_eq_false (show ¬ E.length = 0 by omega)]; simp)
  clear hE
  go_wp2_with fail
  go_ret
  rw [HF.out]
  exact ⟨rfl, H0.out.2.1⟩
 have hE' : ¬ (0 : Int) < (E.length : Int) := by omega
 have HP : Hid (vPl sub n E = (!E.any wrE && ascB ltE E && !repI (rsE E))) := Lib.hid (by
  unfold vPl rsE
  rw [B1.out, decide_eq_true (show E.length ≤ 24 by omega), decide_eq_true hn0, decide_eq_true (show E.length = 0 by omega)]
  simp)
 clear hn0 hE
 go_wp2_with fail
 refine (icontE_any 148 #[] wrE E1.out E p c _ w1 H0.out.2.2 hm (fun r w' _ => iwre_any r w')).mono ?_
 rintro e w2 ⟨rfl, hg⟩
 have H2 := Lib.hid (And.intro (kept_row H0.out.1 hg (by simp)) (And.intro (grown_trans H0.out.2.1 hg) (H0.out.2.2.keep hg)))
 clear hg
 clear d0 d1 d2
 obtain ⟨⟨d0, d1, d2⟩, -⟩ := row3i H2.out.1
 cases f1 : E.any wrE
 case true =>
  have F1 := Lib.hid f1
  clear f1
  go_wp2_with fail
  go_ret
  exact ⟨by rw [HP.out, F1.out]; rfl, H2.out.2.1⟩
 have F1 := Lib.hid f1
 clear f1
 go_wp2_with fail
 refine (iascE_any E p c _ w2 H2.out.2.2 hm).mono ?_
 rintro e w3 ⟨rfl, hg⟩
 have H3 := Lib.hid (And.intro (kept_row H2.out.1 hg (by simp)) (And.intro (grown_trans H2.out.2.1 hg) (H2.out.2.2.keep hg)))
 clear hg
 clear d0 d1 d2 H2
 obtain ⟨⟨d0, d1, d2⟩, -⟩ := row3i H3.out.1
 cases f2 : ascB ltE E
 case false =>
  have F2 := Lib.hid f2
  clear f2
  go_wp2_with fail
  go_ret
  exact ⟨by rw [HP.out, F1.out, F2.out]; rfl, H3.out.2.1⟩
 have F2 := Lib.hid f2
 clear f2
 go_wp2_with fail
 refine (irtw_any E p c _ w3 H3.out.2.2 F1.out hm).mono ?_
 rintro e w4 ⟨rfl, hg⟩
 have G4 := Lib.hid (grown_trans H3.out.2.1 hg)
 clear hg
 clear d0 d1 d2 H3
 have HRP : Hid (vPl sub n E = !repI (rsE E)) := Lib.hid (by rw [HP.out, F1.out, F2.out]; rfl)
 go_wp2_with fail
 go_ret
 rw [HRP.out]
 exact ⟨rfl, G4.out⟩
end Go.Proofs.YtahafijpcmphaaaGreat

/- empty -/
namespace Go.Proofs.YtahafijpcmphaaaGreat
set_option maxRecDepth 100000
end Go.Proofs.YtahafijpcmphaaaGreat

/- empty -/
namespace Go.Proofs.YtahafijpcmphaaaGreat
set_option maxRecDepth 100000
end Go.Proofs.YtahafijpcmphaaaGreat

/- empty -/
namespace Go.Proofs.YtahafijpcmphaaaGreat
set_option maxRecDepth 100000
end Go.Proofs.YtahafijpcmphaaaGreat

/- empty -/
namespace Go.Proofs.YtahafijpcmphaaaGreat
set_option maxRecDepth 100000
end Go.Proofs.YtahafijpcmphaaaGreat
