/- Parts of the proof, packed: TaSmR, TaBlM, TaTap, MaMsk, MaUsM, TaBnM. -/
import Derived.Test.YtahafijpcmphaaaGreatQt23
import Derived.Test.YtahafijpcmphaaaGreatQt21
import Derived.Test.YtahafijpcmphaaaGreatQt14
import Derived.Test.YtahafijpcmphaaaGreatQt19
import Derived.Test.YtahafijpcmphaaaGreatQt17
import Derived.Test.YtahafijpcmphaaaGreatQt1
/- tables, the reference's functions: Same. -/
namespace Go.Proofs.YtahafijpcmphaaaGreat
set_option maxRecDepth 100000
open Go.RowKit Bs
set_option maxHeartbeats 6400000 in
theorem rSame_any (r s n : Int) (p : Option Addr) (c : Nat) (L : List Rw) (r2 s2 n2 : Int) (p2 : Option Addr) (c2 : Nat) (M : List Rw) (q1 q2 : Nat → Prop) (w : World) (h1 : RdW w q1 p c L) (h2 : RdW w q2 p2 c2 M) (hm : L.length ≤ 9223372036854775807) (hm2 : M.length ≤ 9223372036854775807) :
  Calls Tryz.prog 16 #[.agg #[.int .i64 r, .int .i64 s, .int .i64 n, .slice p L.length c], .agg #[.int .i64 r2, .int .i64 s2, .int .i64 n2, .slice p2 M.length c2]] w fun e w' => e = .returned (.bool (smT r s n L r2 s2 n2 M)) ∧ w.grownBy w' none := by
 have H := Lib.hid (b2t_start r s n r2 s2 n2 h1 h2)
 clear h1 h2
 obtain ⟨z, hz⟩ : ∃ z, smT r s n L r2 s2 n2 M = z := ⟨_, rfl⟩
 rw [hz]
 have HZ := Lib.hid hz
 clear hz
 go_enter Tryz.func16, Tryz.ntmps16
 go_upto_region 1 with fail
 generalize (w.alloc _).alloc _ = w1 at *
 obtain ⟨a0, a1, a2, a3⟩ := row4T H.out.b1
 obtain ⟨d0, d1, d2, d3⟩ := row4T H.out.b2
 by_cases er : r = r2
 case neg =>
  have er' : (r != r2) = true := by simpa using er
  have HF : Hid (z = false) := Lib.hid (by rw [← HZ.out]; exact decide_eq_false (fun h => er h.1))
  clear er
  go_wp2_with fail
  go_ret
  exact ⟨by rw [HF.out]; rfl, H.out.gr⟩
 subst er
 by_cases es : s = s2
 case neg =>
  have es' : (s != s2) = true := by simpa using es
  have HF : Hid (z = false) := Lib.hid (by rw [← HZ.out]; exact decide_eq_false (fun h => es h.2.1))
  clear es
  go_wp2_with fail
  go_ret
  exact ⟨by rw [HF.out]; rfl, H.out.gr⟩
 subst es
 by_cases en : n = n2
 case neg =>
  have en' : (n != n2) = true := by simpa using en
  have HF : Hid (z = false) := Lib.hid (by rw [← HZ.out]; exact decide_eq_false (fun h => en h.2.2.1))
  clear en
  go_wp2_with fail
  go_ret
  exact ⟨by rw [HF.out]; rfl, H.out.gr⟩
 subst en
 by_cases el : L.length = M.length
 case neg =>
  have el' : ((L.length : Int) != (M.length : Int)) = true := by rw [bne_iff_ne]; omega
  have HF : Hid (z = false) := Lib.hid (by rw [← HZ.out]; exact decide_eq_false (fun h => rw0_ne el h.2.2.2))
  clear el
  go_wp2_with fail
  go_ret
  exact ⟨by rw [HF.out]; rfl, H.out.gr⟩
 have HE : Hid (decide (L.map rw0 = M.map rw0) = z) := Lib.hid (by rw [← HZ.out]; unfold smT; rw [decide_eq_decide]; simp)
 have el' : ((L.length : Int) != (M.length : Int)) = false := by rw [el]; simp
 have HL := Lib.hid el
 clear el hm2 HZ
 go_upto_region 3 with fail
 clear el' a0 a1 a2 a3 d0 d1 d2 d3
 go_wp2_with fail
 go_loopw [5] (fun v wr => ∃ k : Nat, k ≤ L.length ∧ v = .int .i64 (k : Int) ∧ Hid ((L.map rw0).take k = (M.map rw0).take k) ∧ Hid (B2T w r s n p c L r s n p2 c2 M q1 q2 wr)) (fun v _ => L.length - (RowKit.intOf v).toNat)
 case atStart => exact ⟨0, Nat.zero_le _, rfl, Lib.hid rfl, H⟩
 case round =>
 clear H
 obtain ⟨k, hk, rfl, HT, K⟩ := hrel
 obtain ⟨w5, hw5⟩ : ∃ w5, w5 = wr := ⟨_, rfl⟩
 rw [← hw5] at K ⊢
 clear hw5
 obtain ⟨a0, a1, a2, a3⟩ := row4T K.out.b1
 by_cases hlt : k < L.length
 case neg =>
  obtain rfl : k = L.length := by omega
  have HF : Hid (z = true) := Lib.hid (by rw [← HE.out]; exact decide_eq_true (rw0_end HT.out HL.out))
  have hnl : ¬ (L.length : Int) < (L.length : Int) := by omega
  go_wp2_with fail
  go_ret
  exact ⟨by rw [HF.out]; rfl, K.out.gr⟩
 have hlt' : (k : Int) < (L.length : Int) := by omega
 have hltM : (k : Int) < (M.length : Int) := by have := HL.out; omega
 have hk0 : (0 : Int) ≤ (k : Int) := by omega
 obtain ⟨x, hx⟩ : ∃ x, L[k]? = some x := ⟨_, List.getElem?_eq_getElem hlt⟩
 obtain ⟨y, hy⟩ : ∃ y, M[k]? = some y := ⟨_, List.getElem?_eq_getElem (by have := HL.out; omega)⟩
 obtain ⟨-, b1, o1, rfl, -, hc1⟩ := rw_cells K.out.r1.rd (by omega)
 obtain ⟨-, b2, o2, rfl, -, hc2⟩ := rw_cells K.out.r2.rd (by have := HL.out; omega)
 have HA := Lib.hid (And.intro (hc1 k x hx) (hc2 k y hy))
 have HXY := Lib.hid (And.intro hx hy)
 have HOK := Lib.hid (And.intro (K.out.r1.ok x (List.mem_of_getElem? hx)) (K.out.r2.ok y (List.mem_of_getElem? hy)))
 clear hc1 hc2 hx hy
 go_upto_region 6 with fail
 clear a0 a1 a2 a3
 by_cases e : x.id = y.id
 case neg =>
  have e' : (x.id != y.id) = true := by simpa using e
  have HF : Hid (z = false) := Lib.hid (by rw [← HE.out]; exact decide_eq_false (tk_ne (rw0_get HXY.out.1) (rw0_get HXY.out.2) (fun h => e (rw0_iff.1 h).1)))
  clear e
  refine wp_region_held_drew (S := fun w' => Hid (w5.grownBy w' none)) (by kernel_rfl) (Lib.hid (grown_drew (grown_refl _ none))) (fun hHeld => ?_)
  refine zT (i := 0) (v := ?_) rfl ?_ hHeld ?_
  rotate_left 1
  ·intro u hSu
   go_simp
   first | done | with_reducible rfl
  try simp only [Act.put, zA, zB, zC]
  refine zT (i := 1) (v := ?_) rfl ?_ hHeld ?_
  rotate_left 1
  ·intro u hSu
   obtain ⟨a0u, a1u, a2u, a3u⟩ := row4T (kept_row K.out.b1 hSu.out (by simp))
   obtain ⟨d0u, d1u, d2u, d3u⟩ := row4T (kept_row K.out.b2 hSu.out (by simp))
   have m0u := hSu.out.cell HA.out.1.1 (by simp)
   have m1u := hSu.out.cell HA.out.1.2 (by simp)
   have n0u := hSu.out.cell HA.out.2.1 (by simp)
   have n1u := hSu.out.cell HA.out.2.2 (by simp)
   go_simp
   first | done | with_reducible rfl
  try simp only [Act.put, zA, zB, zC]
  refine zT (i := 2) (v := ?_) rfl ?_ hHeld ?_
  rotate_left 1
  ·intro u hSu
   go_simp
   first | done | with_reducible rfl
  try simp only [Act.put, zA, zB, zC]
  refine zT (i := 3) (v := ?_) rfl ?_ hHeld ?_
  rotate_left 1
  ·intro u hSu
   go_simp
   first | done | with_reducible rfl
  try simp only [Act.put, zA, zB, zC]
  refine zT (i := 4) (v := ?_) rfl ?_ hHeld ?_
  rotate_left 1
  ·intro u hSu
   go_simp
   first | done | with_reducible rfl
  try simp only [Act.put, zA, zB, zC]
  refine zT (i := 5) (v := ?_) rfl ?_ hHeld ?_
  rotate_left 1
  ·intro u hSu
   obtain ⟨a0u, a1u, a2u, a3u⟩ := row4T (kept_row K.out.b1 hSu.out (by simp))
   obtain ⟨d0u, d1u, d2u, d3u⟩ := row4T (kept_row K.out.b2 hSu.out (by simp))
   have m0u := hSu.out.cell HA.out.1.1 (by simp)
   have m1u := hSu.out.cell HA.out.1.2 (by simp)
   have n0u := hSu.out.cell HA.out.2.1 (by simp)
   have n1u := hSu.out.cell HA.out.2.2 (by simp)
   go_simp
   first | done | with_reducible rfl
  try simp only [Act.put, zA, zB, zC]
  refine zT (i := 6) (v := ?_) rfl ?_ hHeld ?_
  rotate_left 1
  ·intro u hSu
   go_simp
   first | done | with_reducible rfl
  try simp only [Act.put, zA, zB, zC]
  refine zT (i := 7) (v := ?_) rfl ?_ hHeld ?_
  rotate_left 1
  ·intro u hSu
   obtain ⟨a0u, a1u, a2u, a3u⟩ := row4T (kept_row K.out.b1 hSu.out (by simp))
   obtain ⟨d0u, d1u, d2u, d3u⟩ := row4T (kept_row K.out.b2 hSu.out (by simp))
   have m0u := hSu.out.cell HA.out.1.1 (by simp)
   have m1u := hSu.out.cell HA.out.1.2 (by simp)
   have n0u := hSu.out.cell HA.out.2.1 (by simp)
   have n1u := hSu.out.cell HA.out.2.2 (by simp)
   go_simp
   first | done | with_reducible rfl
  try simp only [Act.put, zA, zB, zC]
  refine zT (i := 8) (v := ?_) rfl ?_ hHeld ?_
  rotate_left 1
  ·intro u hSu
   go_simp
   first | done | with_reducible rfl
  try simp only [Act.put, zA, zB, zC]
  refine zT (i := 9) (v := ?_) rfl ?_ hHeld ?_
  rotate_left 1
  ·intro u hSu
   go_simp
   first | done | with_reducible rfl
  try simp only [Act.put, zA, zB, zC]
  refine zT (i := 10) (v := ?_) rfl ?_ hHeld ?_
  rotate_left 1
  ·intro u hSu
   go_simp
   first | done | with_reducible rfl
  try simp only [Act.put, zA, zB, zC]
  refine zT (i := 11) (v := ?_) rfl ?_ hHeld ?_
  rotate_left 1
  ·intro u hSu
   obtain ⟨a0u, a1u, a2u, a3u⟩ := row4T (kept_row K.out.b1 hSu.out (by simp))
   obtain ⟨d0u, d1u, d2u, d3u⟩ := row4T (kept_row K.out.b2 hSu.out (by simp))
   have m0u := hSu.out.cell HA.out.1.1 (by simp)
   have m1u := hSu.out.cell HA.out.1.2 (by simp)
   have n0u := hSu.out.cell HA.out.2.1 (by simp)
   have n1u := hSu.out.cell HA.out.2.2 (by simp)
   go_simp
   first | done | with_reducible rfl
  try simp only [Act.put, zA, zB, zC]
  refine zT (i := 12) (v := .bool true) rfl ?_ hHeld ?_
  ·intro u hSu
   go_simp
   first | done | with_reducible rfl
  try simp only [Act.put, zA, zB, zC]
  refine zT (i := 13) (v := ?_) rfl ?_ hHeld ?_
  rotate_left 1
  ·intro u hSu
   go_simp
   first | done | with_reducible rfl
  try simp only [Act.put, zA, zB, zC]
  refine zS (i := 14) rfl hHeld ?_
  try simp only [Act.put, zA, zB, zC]
  refine zS (i := 15) rfl hHeld ?_
  try simp only [Act.put, zA, zB, zC]
  refine zS (i := 16) rfl hHeld ?_
  try simp only [Act.put, zA, zB, zC]
  refine zS (i := 17) rfl hHeld ?_
  try simp only [Act.put, zA, zB, zC]
  refine zS (i := 18) rfl hHeld ?_
  try simp only [Act.put, zA, zB, zC]
  refine zS (i := 19) rfl hHeld ?_
  try simp only [Act.put, zA, zB, zC]
  refine zS (i := 20) rfl hHeld ?_
  try simp only [Act.put, zA, zB, zC]
  refine zS (i := 21) rfl hHeld ?_
  try simp only [Act.put, zA, zB, zC]
  refine zS (i := 22) rfl hHeld ?_
  try simp only [Act.put, zA, zB, zC]
  refine zS (i := 23) rfl hHeld ?_
  try simp only [Act.put, zA, zB, zC]
  refine zS (i := 24) rfl hHeld ?_
  try simp only [Act.put, zA, zB, zC]
  refine zS (i := 25) rfl hHeld ?_
  try simp only [Act.put, zA, zB, zC]
  refine zS (i := 26) rfl hHeld ?_
  try simp only [Act.put, zA, zB, zC]
  refine zS (i := 27) rfl hHeld ?_
  try simp only [Act.put, zA, zB, zC]
  refine zT (i := 28) (v := ?_) rfl ?_ hHeld ?_
  rotate_left 1
  ·intro u hSu
   go_simp
   first | done | with_reducible rfl
  try simp only [Act.put, zA, zB, zC]
  refine wpAnyH_done (by kernel_rfl) ?_ _
  have G := Lib.hid (grown_trans K.out.gr hHeld.out)
  clear hHeld
  go_wp2_with fail
  go_ret
  exact ⟨by rw [HF.out]; rfl, G.out⟩
 have e' : (x.id != y.id) = false := by simpa using e
 have HV : Hid (decide (x.nx = y.nx) = decide (rw0 x = rw0 y)) := Lib.hid (by rw [decide_eq_decide, rw0_iff]; simp [e])
 clear e
 refine wp_region_held_drew (S := fun w' => Hid (w5.grownBy w' none)) (by kernel_rfl) (Lib.hid (grown_drew (grown_refl _ none))) (fun hHeld => ?_)
 refine zT (i := 0) (v := ?_) rfl ?_ hHeld ?_
 rotate_left 1
 ·intro u hSu
  go_simp
  first | done | with_reducible rfl
 try simp only [Act.put, zA, zB, zC]
 refine zT (i := 1) (v := ?_) rfl ?_ hHeld ?_
 rotate_left 1
 ·intro u hSu
  obtain ⟨a0u, a1u, a2u, a3u⟩ := row4T (kept_row K.out.b1 hSu.out (by simp))
  obtain ⟨d0u, d1u, d2u, d3u⟩ := row4T (kept_row K.out.b2 hSu.out (by simp))
  have m0u := hSu.out.cell HA.out.1.1 (by simp)
  have m1u := hSu.out.cell HA.out.1.2 (by simp)
  have n0u := hSu.out.cell HA.out.2.1 (by simp)
  have n1u := hSu.out.cell HA.out.2.2 (by simp)
  go_simp
  first | done | with_reducible rfl
 try simp only [Act.put, zA, zB, zC]
 refine zT (i := 2) (v := ?_) rfl ?_ hHeld ?_
 rotate_left 1
 ·intro u hSu
  go_simp
  first | done | with_reducible rfl
 try simp only [Act.put, zA, zB, zC]
 refine zT (i := 3) (v := ?_) rfl ?_ hHeld ?_
 rotate_left 1
 ·intro u hSu
  go_simp
  first | done | with_reducible rfl
 try simp only [Act.put, zA, zB, zC]
 refine zT (i := 4) (v := ?_) rfl ?_ hHeld ?_
 rotate_left 1
 ·intro u hSu
  go_simp
  first | done | with_reducible rfl
 try simp only [Act.put, zA, zB, zC]
 refine zT (i := 5) (v := ?_) rfl ?_ hHeld ?_
 rotate_left 1
 ·intro u hSu
  obtain ⟨a0u, a1u, a2u, a3u⟩ := row4T (kept_row K.out.b1 hSu.out (by simp))
  obtain ⟨d0u, d1u, d2u, d3u⟩ := row4T (kept_row K.out.b2 hSu.out (by simp))
  have m0u := hSu.out.cell HA.out.1.1 (by simp)
  have m1u := hSu.out.cell HA.out.1.2 (by simp)
  have n0u := hSu.out.cell HA.out.2.1 (by simp)
  have n1u := hSu.out.cell HA.out.2.2 (by simp)
  go_simp
  first | done | with_reducible rfl
 try simp only [Act.put, zA, zB, zC]
 refine zT (i := 6) (v := ?_) rfl ?_ hHeld ?_
 rotate_left 1
 ·intro u hSu
  go_simp
  first | done | with_reducible rfl
 try simp only [Act.put, zA, zB, zC]
 refine zT (i := 7) (v := ?_) rfl ?_ hHeld ?_
 rotate_left 1
 ·intro u hSu
  obtain ⟨a0u, a1u, a2u, a3u⟩ := row4T (kept_row K.out.b1 hSu.out (by simp))
  obtain ⟨d0u, d1u, d2u, d3u⟩ := row4T (kept_row K.out.b2 hSu.out (by simp))
  have m0u := hSu.out.cell HA.out.1.1 (by simp)
  have m1u := hSu.out.cell HA.out.1.2 (by simp)
  have n0u := hSu.out.cell HA.out.2.1 (by simp)
  have n1u := hSu.out.cell HA.out.2.2 (by simp)
  go_simp
  first | done | with_reducible rfl
 try simp only [Act.put, zA, zB, zC]
 refine zT (i := 8) (v := ?_) rfl ?_ hHeld ?_
 rotate_left 1
 ·intro u hSu
  go_simp
  first | done | with_reducible rfl
 try simp only [Act.put, zA, zB, zC]
 refine zT (i := 9) (v := ?_) rfl ?_ hHeld ?_
 rotate_left 1
 ·intro u hSu
  go_simp
  first | done | with_reducible rfl
 try simp only [Act.put, zA, zB, zC]
 refine zT (i := 10) (v := ?_) rfl ?_ hHeld ?_
 rotate_left 1
 ·intro u hSu
  go_simp
  first | done | with_reducible rfl
 try simp only [Act.put, zA, zB, zC]
 refine zT (i := 11) (v := ?_) rfl ?_ hHeld ?_
 rotate_left 1
 ·intro u hSu
  obtain ⟨a0u, a1u, a2u, a3u⟩ := row4T (kept_row K.out.b1 hSu.out (by simp))
  obtain ⟨d0u, d1u, d2u, d3u⟩ := row4T (kept_row K.out.b2 hSu.out (by simp))
  have m0u := hSu.out.cell HA.out.1.1 (by simp)
  have m1u := hSu.out.cell HA.out.1.2 (by simp)
  have n0u := hSu.out.cell HA.out.2.1 (by simp)
  have n1u := hSu.out.cell HA.out.2.2 (by simp)
  go_simp
  first | done | with_reducible rfl
 try simp only [Act.put, zA, zB, zC]
 refine zT (i := 12) (v := .bool false) rfl ?_ hHeld ?_
 ·intro u hSu
  go_simp
  first | done | with_reducible rfl
 try simp only [Act.put, zA, zB, zC]
 refine zT (i := 13) (v := ?_) rfl ?_ hHeld ?_
 rotate_left 1
 ·intro u hSu
  go_simp
  first | done | with_reducible rfl
 try simp only [Act.put, zA, zB, zC]
 refine zT (i := 14) (v := ?_) rfl ?_ hHeld ?_
 rotate_left 1
 ·intro u hSu
  go_simp
  first | done | with_reducible rfl
 try simp only [Act.put, zA, zB, zC]
 refine zT (i := 15) (v := ?_) rfl ?_ hHeld ?_
 rotate_left 1
 ·intro u hSu
  obtain ⟨a0u, a1u, a2u, a3u⟩ := row4T (kept_row K.out.b1 hSu.out (by simp))
  obtain ⟨d0u, d1u, d2u, d3u⟩ := row4T (kept_row K.out.b2 hSu.out (by simp))
  have m0u := hSu.out.cell HA.out.1.1 (by simp)
  have m1u := hSu.out.cell HA.out.1.2 (by simp)
  have n0u := hSu.out.cell HA.out.2.1 (by simp)
  have n1u := hSu.out.cell HA.out.2.2 (by simp)
  go_simp
  first | done | with_reducible rfl
 try simp only [Act.put, zA, zB, zC]
 refine zT (i := 16) (v := ?_) rfl ?_ hHeld ?_
 rotate_left 1
 ·intro u hSu
  go_simp
  first | done | with_reducible rfl
 try simp only [Act.put, zA, zB, zC]
 refine zT (i := 17) (v := ?_) rfl ?_ hHeld ?_
 rotate_left 1
 ·intro u hSu
  go_simp
  first | done | with_reducible rfl
 try simp only [Act.put, zA, zB, zC]
 refine zT (i := 18) (v := ?_) rfl ?_ hHeld ?_
 rotate_left 1
 ·intro u hSu
  go_simp
  first | done | with_reducible rfl
 try simp only [Act.put, zA, zB, zC]
 refine zT (i := 19) (v := ?_) rfl ?_ hHeld ?_
 rotate_left 1
 ·intro u hSu
  obtain ⟨a0u, a1u, a2u, a3u⟩ := row4T (kept_row K.out.b1 hSu.out (by simp))
  obtain ⟨d0u, d1u, d2u, d3u⟩ := row4T (kept_row K.out.b2 hSu.out (by simp))
  have m0u := hSu.out.cell HA.out.1.1 (by simp)
  have m1u := hSu.out.cell HA.out.1.2 (by simp)
  have n0u := hSu.out.cell HA.out.2.1 (by simp)
  have n1u := hSu.out.cell HA.out.2.2 (by simp)
  go_simp
  first | done | with_reducible rfl
 try simp only [Act.put, zA, zB, zC]
 refine zT (i := 20) (v := ?_) rfl ?_ hHeld ?_
 rotate_left 1
 ·intro u hSu
  go_simp
  first | done | with_reducible rfl
 try simp only [Act.put, zA, zB, zC]
 refine zT (i := 21) (v := ?_) rfl ?_ hHeld ?_
 rotate_left 1
 ·intro u hSu
  obtain ⟨a0u, a1u, a2u, a3u⟩ := row4T (kept_row K.out.b1 hSu.out (by simp))
  obtain ⟨d0u, d1u, d2u, d3u⟩ := row4T (kept_row K.out.b2 hSu.out (by simp))
  have m0u := hSu.out.cell HA.out.1.1 (by simp)
  have m1u := hSu.out.cell HA.out.1.2 (by simp)
  have n0u := hSu.out.cell HA.out.2.1 (by simp)
  have n1u := hSu.out.cell HA.out.2.2 (by simp)
  go_simp
  first | done | with_reducible rfl
 try simp only [Act.put, zA, zB, zC]
 refine zT (i := 22) (v := ?_) rfl ?_ hHeld ?_
 rotate_left 1
 ·intro u hSu
  go_simp
  first | done | with_reducible rfl
 try simp only [Act.put, zA, zB, zC]
 refine zT (i := 23) (v := ?_) rfl ?_ hHeld ?_
 rotate_left 1
 ·intro u hSu
  go_simp
  first | done | with_reducible rfl
 try simp only [Act.put, zA, zB, zC]
 refine zT (i := 24) (v := ?_) rfl ?_ hHeld ?_
 rotate_left 1
 ·intro u hSu
  go_simp
  first | done | with_reducible rfl
 try simp only [Act.put, zA, zB, zC]
 refine zT (i := 25) (v := ?_) rfl ?_ hHeld ?_
 rotate_left 1
 ·intro u hSu
  obtain ⟨a0u, a1u, a2u, a3u⟩ := row4T (kept_row K.out.b1 hSu.out (by simp))
  obtain ⟨d0u, d1u, d2u, d3u⟩ := row4T (kept_row K.out.b2 hSu.out (by simp))
  have m0u := hSu.out.cell HA.out.1.1 (by simp)
  have m1u := hSu.out.cell HA.out.1.2 (by simp)
  have n0u := hSu.out.cell HA.out.2.1 (by simp)
  have n1u := hSu.out.cell HA.out.2.2 (by simp)
  go_simp
  first | done | with_reducible rfl
 try simp only [Act.put, zA, zB, zC]
 refine wpAnyH_ready (rs := [26]) (by kernel_rfl) (by simp) ?_
 refine AllReadyH.cons (o := ⟨_, _, _, _, _, _⟩) rfl (fun Kz hK => ?_) AllReadyH.nil
 go_simp
 go_at_call 20
 refine (rintsG_any x.nx y.nx x.p y.p x.c y.c _ _ _ (HOK.out.1.keep hHeld.out).rd (HOK.out.2.keep hHeld.out).rd (Nat.le_trans HOK.out.1.hc.1 HOK.out.1.hc.2) (Nat.le_trans HOK.out.2.hc.1 HOK.out.2.hc.2)).mono ?_
 rintro e' w7 ⟨rfl, hg⟩
 rw [HV.out]
 have HN := Lib.hid (grown_trans hHeld.out hg)
 clear hg
 obtain ⟨v, hv⟩ : ∃ v, decide (rw0 x = rw0 y) = v := ⟨_, rfl⟩
 rw [hv]
 have HV2 := Lib.hid hv
 clear hv
 simp only
 refine hK.out _ _ (HN) (fun hH2 => ?_)
 clear hK Kz hHeld
 have hHeld := hH2
 clear hH2
 try simp only [Act.put, zA, zB, zC]
 refine zT (i := 27) (v := ?_) rfl ?_ hHeld ?_
 rotate_left 1
 ·intro u hSu
  go_simp
  first | done | with_reducible rfl
 try simp only [Act.put, zA, zB, zC]
 refine zT (i := 28) (v := ?_) rfl ?_ hHeld ?_
 rotate_left 1
 ·intro u hSu
  go_simp
  first | done | with_reducible rfl
 try simp only [Act.put, zA, zB, zC]
 refine wpAnyH_done (by kernel_rfl) ?_ _
 have K7 := Lib.hid (K.out.keep hHeld.out)
 clear hHeld K
 cases v
 case false =>
  have HF : Hid (z = false) := Lib.hid (by rw [← HE.out]; exact decide_eq_false (tk_ne (rw0_get HXY.out.1) (rw0_get HXY.out.2) (of_decide_eq_false HV2.out)))
  go_wp2_with fail
  go_ret
  exact ⟨by rw [HF.out]; rfl, K7.out.gr⟩
 have HT2 := Lib.hid (tk_step HT.out (rw0_get HXY.out.1) (rw0_get HXY.out.2) (of_decide_eq_true HV2.out))
 clear HT
 go_wp2_with fail
 exact ⟨⟨k + 1, by omega, congrArg _ (by omega), HT2, K7⟩, by simp only [RowKit.intOf]; omega⟩
end Go.Proofs.YtahafijpcmphaaaGreat

/- tables: what the law of Build keeps in memory. -/
namespace Go.Proofs.YtahafijpcmphaaaGreat
set_option maxRecDepth 100000
open Go.RowKit Bs
structure BG (g Z : Nat) (r s n : Int) (p : Option Addr) (c : Nat) (L : List Rw) (w : World) : Prop where
 bx : w.heap[g]? = some (.cells #[.int .i64 r, .int .i64 s, .int .i64 n, .slice p L.length c] 25 (0, 0))
 rd : RdW w (· < Z) p c L
 hl : L.length ≤ 9223372036854775807
 lo : g < Z ∧ Z ≤ w.heap.size
theorem BG.put {g Z : Nat} {r s n : Int} {p : Option Addr} {c : Nat} {L : List Rw} {w w1 : World} {o : Option Nat} (h : BG g Z r s n p c L w) (k : w.grownBy w1 o) (ho : ∀ b, b < Z → some b ≠ o) : BG g Z r s n p c L w1 :=
 ⟨kept_row h.bx k (ho _ h.lo.1), h.rd.grown k ho, h.hl, h.lo.1, Nat.le_trans h.lo.2 k.size⟩
theorem BG.keep {g Z : Nat} {r s n : Int} {p : Option Addr} {c : Nat} {L : List Rw} {w w1 : World} (h : BG g Z r s n p c L w) (k : w.grownBy w1 none) : BG g Z r s n p c L w1 := h.put k (fun _ _ => by simp)
structure NB (lo1 lo2 g : Nat) (p : Option Addr) (c : Nat) (L : List Rw) (w : World) : Prop where
 bx : w.heap[g]? = some (.cells #[.int .i64 0, .int .i64 0, .int .i64 0, .slice none 0 0] 25 (0, 0))
 rd : RdW w (fun b => b ≠ g ∧ b < w.heap.size) p c L
 hl : L.length ≤ 9223372036854775807
 lo : lo1 ≤ g ∧ lo2 ≤ g
theorem nb_a {lo1 lo2 base : Nat} {w : World} {p : Option Addr} {c : Nat} {L : List Rw} (hR : RdW w (fun b => base ≤ b ∧ b < w.heap.size) p c L) (hl : L.length ≤ 9223372036854775807) (hlo : lo1 ≤ w.heap.size ∧ lo2 ≤ w.heap.size) : NB lo1 lo2 w.heap.size p c L (w.alloc (.cells #[.int .i64 0, .int .i64 0, .int .i64 0, .slice none 0 0] 25)) := by
 obtain ⟨k1, k2, k3⟩ := alloc_row (w := w) #[.int .i64 0, .int .i64 0, .int .i64 0, .slice none 0 0] 25 rfl
 exact ⟨k1, (hR.keep k2).mono (fun b hb => by have := hb.2; omega), hl, hlo⟩
theorem nb_b {lo1 lo2 : Nat} {w w6 : World} {p : Option Addr} {c : Nat} {L : List Rw} (hg : (w.alloc (.cells #[.int .i64 0, .int .i64 0, .int .i64 0, .slice none 0 0] 25)).drew.grownBy w6 none) (hR : RdW w6 (fun b => (w.alloc (.cells #[.int .i64 0, .int .i64 0, .int .i64 0, .slice none 0 0] 25)).drew.heap.size ≤ b ∧ b < w6.heap.size) p c L) (hl : L.length ≤ 9223372036854775807) (hlo : lo1 ≤ w.heap.size ∧ lo2 ≤ w.heap.size) : NB lo1 lo2 w.heap.size p c L w6 := by
 obtain ⟨k1, k2, k3⟩ := alloc_row (w := w) #[.int .i64 0, .int .i64 0, .int .i64 0, .slice none 0 0] 25 rfl
 have k4 : (w.alloc (.cells #[.int .i64 0, .int .i64 0, .int .i64 0, .slice none 0 0] 25)).drew.heap.size = w.heap.size + 1 := k3
 exact ⟨kept_row (w := (w.alloc (.cells #[.int .i64 0, .int .i64 0, .int .i64 0, .slice none 0 0] 25)).drew) k1 hg (by simp), hR.mono (fun b hb => by have := hb.1; have := hb.2; omega), hl, hlo⟩
theorem nbg_a {base : Nat} (r s n : Int) {p : Option Addr} {c : Nat} {L : List Rw} {w : World} (hR : RdW w (fun b => base ≤ b ∧ b < w.heap.size) p c L) (hl : L.length ≤ 9223372036854775807) : BG w.heap.size (w.alloc (.cells #[.int .i64 r, .int .i64 s, .int .i64 n, .slice p L.length c] 25)).heap.size r s n p c L (w.alloc (.cells #[.int .i64 r, .int .i64 s, .int .i64 n, .slice p L.length c] 25)) := by
 obtain ⟨k1, k2, k3⟩ := alloc_row (w := w) #[.int .i64 r, .int .i64 s, .int .i64 n, .slice p L.length c] 25 rfl
 exact ⟨k1, (hR.keep k2).mono (fun b hb => by have := hb.2; omega), hl, by omega, Nat.le_refl _⟩
theorem NB.bg {lo1 lo2 g : Nat} {r s n : Int} {p : Option Addr} {c : Nat} {L : List Rw} {w w1 : World} (h : NB lo1 lo2 g p c L w) (h1 : w1.heap[g]? = some (.cells #[.int .i64 r, .int .i64 s, .int .i64 n, .slice p L.length c] 25 (0, 0))) (h2 : w.grownBy w1 (some g)) : BG g w1.heap.size r s n p c L w1 :=
 ⟨h1, (h.rd.grown h2 (fun b hb e => hb.1 (Option.some.inj e))).mono (fun b hb => Nat.lt_of_lt_of_le hb.2 h2.size), h.hl, Nat.lt_of_lt_of_le (lt_rowB h.bx) h2.size, Nat.le_refl _⟩
end Go.Proofs.YtahafijpcmphaaaGreat

/- tables: the tape's Table without mistakes. -/
namespace Go.Proofs.YtahafijpcmphaaaGreat
set_option maxRecDepth 100000
open Go.RowKit Bs
end Go.Proofs.YtahafijpcmphaaaGreat

/- empty -/
namespace Go.Proofs.YtahafijpcmphaaaGreat
set_option maxRecDepth 100000
end Go.Proofs.YtahafijpcmphaaaGreat

/- masks: what the laws over the tape's tables share. -/
namespace Go.Proofs.YtahafijpcmphaaaGreat
set_option maxRecDepth 100000
open Go.RowKit Bs
theorem own_rdw {lo : Nat} {w : World} {L : List Rw} {p : Option Addr} {c : Nat} (h : OwnT lo w (.slice p L.length c) L) : RdW w (· < w.heap.size) p c L ∧ (p = none → c = 0) ∧ (L.length ≤ c ∧ c ≤ 9223372036854775807) ∧ ∀ y ∈ L, y.p = none → y.c = 0 := by
 refine ⟨⟨(rdf_of_own2 h.own).mono (fun b hb => hb.2), fun x hx => ⟨(rd_of_own (h.nx x hx)).old, ?_⟩⟩, ?_, ?_, fun y hy hp => ?_⟩
 ·rcases own_formF (h.nx x hx) with ⟨e, h0⟩ | ⟨g, cap, e, h1, h2⟩
  ·unfold Rw.v at e; injection e with e1 e2 e3; exact ⟨by omega, by omega⟩
  ·unfold Rw.v at e; injection e with e1 e2 e3; exact ⟨by omega, by omega⟩
 ·intro hp
  rcases own_formF h.own with ⟨e, h0⟩ | ⟨g, cap, e, -⟩
  ·injection e
  ·injection e with e1; subst hp; cases e1
 ·rcases own_formF h.own with ⟨e, h0⟩ | ⟨g, cap, e, h1, h2⟩
  ·injection e with e1 e2 e3; subst e3; exact ⟨by omega, by omega⟩
  ·injection e with e1 e2 e3; subst e3; exact ⟨h1, h2⟩
 ·rcases own_formF (h.nx y hy) with ⟨e, h0⟩ | ⟨g, cap, e, -⟩
  ·unfold Rw.v at e; injection e
  ·unfold Rw.v at e; injection e with e1; rw [hp] at e1; cases e1
theorem own_rdw2 {lo : Nat} {w : World} {L : List Rw} {p : Option Addr} {c : Nat} (h : OwnT lo w (.slice p L.length c) L) : RdW w (fun b => lo ≤ b ∧ b < w.heap.size) p c L :=
 ⟨rdf_of_own2 h.own, fun x hx => ⟨(rd_and (rd_of_own (h.nx x hx))), ((own_rdw h).1.ok x hx).hc⟩⟩
theorem asc_ltI : ∀ E : List Int, ascB ltI E = true → E.Pairwise (· < ·)
 | [], _ => List.Pairwise.nil
 | [a], _ => List.pairwise_singleton _ _
 | a :: b :: t, h => by
  rw [ascB, Bool.and_eq_true] at h
  have ih := asc_ltI (b :: t) h.2
  have hab : a < b := of_decide_eq_true h.1
  refine List.pairwise_cons.2 ⟨fun y hy => ?_, ih⟩
  rcases List.mem_cons.1 hy with rfl | hy
  ·exact hab
  ·have := (List.pairwise_cons.1 ih).1 y hy; omega
theorem row_asc {r s n : Int} {L : List Rw} (h : ckT r s n L = 0) {x : Rw} (hx : x ∈ L) : x.nx.Pairwise (· < ·) ∧ x.nx.length ≤ 24 ∧ (∀ y ∈ x.nx, 1 ≤ y ∧ y ≤ 99) ∧ (1 ≤ x.id ∧ x.id ≤ 256) ∧ (1 < x.nx.length → r ∉ x.nx) := by
 obtain ⟨-, h2, -, h4, -, h6, h7⟩ := ck_ok h
 have a2 := List.any_eq_false.1 h2 x hx
 have a4 := List.any_eq_false.1 h4 x hx
 have a6 := List.any_eq_false.1 h6 x hx
 have a7 := List.any_eq_false.1 h7 x hx
 unfold wrW at a2
 simp only [Bool.not_eq_true, Bool.or_eq_false_iff, Bool.not_eq_false'] at a2
 unfold lgW at a4
 unfold dsW at a6
 simp only [Bool.not_eq_true, Bool.not_eq_false'] at a6
 unfold cfW at a7
 simp only [Bool.and_eq_true, decide_eq_true_eq, List.any_eq_true, not_and, not_exists] at a7
 simp only [decide_eq_true_eq] at a4
 refine ⟨asc_ltI x.nx a6, by omega, fun y hy => ?_, by have := a2.1; unfold inV at this; simpa using this, fun h1 hm => a7 h1 r hm rfl⟩
 have := List.any_eq_false.1 a2.2 y hy
 unfold inV at this
 simpa using this
end Go.Proofs.YtahafijpcmphaaaGreat

/- tables: a row that gets other next hops. -/
namespace Go.Proofs.YtahafijpcmphaaaGreat
set_option maxRecDepth 100000
open Go.RowKit Bs
theorem flat_setW : ∀ (M : List Rw) (k : Nat) (y x : Rw), M[k]? = some y → x.id = y.id → (M.flatMap rwC).set (k * 2 + 1) x.v = (M.set k x).flatMap rwC
 | [], k, _, _, h, _ => by simp at h
 | a :: t, 0, y, x, h, hi => by
  obtain rfl : a = y := by simpa using h
  simp [rwC, Rw.v, hi]
 | a :: t, k + 1, y, x, h, hi => by
  have ih := flat_setW t k y x (by simpa using h) hi
  rw [List.flatMap_cons, List.set_cons_succ, List.flatMap_cons, ← ih]
  rw [show rwC a = [Value.int .i64 a.id, .slice a.p a.nx.length a.c] from rfl]
  rw [show (k + 1) * 2 + 1 = k * 2 + 1 + 1 + 1 by omega]
  rfl
def InB (v : Value) (M : List Rw) (b : Nat) : Prop := v.ownBlock = some b ∨ ∃ y ∈ M, y.v.ownBlock = some b
theorem OwnT.ne {lo r : Nat} {w w1 : World} {v : Value} {M : List Rw} (h : OwnT lo w v M) (g : w.grownBy w1 (some r)) (hr : ¬ InB v M r) : OwnT lo w1 v M := by
 refine ⟨h.own.kept g ?_, fun x hx => (h.nx x hx).kept g ?_, h.ap, h.pw⟩
 ·cases hv : v.ownBlock with
  | none => exact .inl rfl
  | some b => exact .inr (fun e => hr (Or.inl (hv.trans e)))
 ·cases hv : x.v.ownBlock with
  | none => exact .inl rfl
  | some b => exact .inr (fun e => hr (Or.inr ⟨x, hx, hv.trans e⟩))
theorem OwnT.lt {lo : Nat} {w : World} {v : Value} {M : List Rw} (h : OwnT lo w v M) {b : Nat} (hb : InB v M b) : lo ≤ b ∧ b < w.heap.size := by
 rcases hb with hb | ⟨y, hy, hb⟩
 ·exact h.own.lt b hb
 ·exact (h.nx y hy).lt b hb
theorem OwnT.setR {lo k : Nat} {w w1 : World} {g c : Nat} {M : List Rw} {y x : Rw} (h : OwnT lo w (.slice (some ⟨g, 0, none⟩) M.length c) M) (hy : M[k]? = some y) (hi : x.id = y.id) (g1 : w.grownBy w1 y.v.ownBlock) (hx : w1.ownsRow lo 3 1 x.v x.nx.length (x.nx.map tv)) (hn : ∀ b, x.v.ownBlock = some b → y.v.ownBlock = some b ∨ w.heap.size ≤ b) :
  OwnT lo (w1.setCell ⟨g, k * 2 + 1, none⟩ x.v) (.slice (some ⟨g, 0, none⟩) M.length c) (M.set k x) := by
 have hk : k < M.length := (List.getElem?_eq_some_iff.1 hy).1
 have hym : y ∈ M := List.mem_of_getElem? hy
 have g2 : w1.grownBy (w1.setCell ⟨g, k * 2 + 1, none⟩ x.v) (some g) := grown_setCell _ _ _
 have hgo : (Value.slice (some ⟨g, 0, none⟩) M.length c).ownBlock = some g := rfl
 have hgl := (h.own.lt g hgo).2
 have hyl : ∀ z ∈ M, ∀ b, z.v.ownBlock = some b → b < w.heap.size := fun z hz b e => ((h.nx z hz).lt b e).2
 have hother : ∀ (j : Nat) (z : Rw), M[j]? = some z → j ≠ k → ∀ b, z.v.ownBlock = some b → y.v.ownBlock ≠ some b := fun j z hz hne b hb e => by
  obtain ⟨hj, hz2⟩ := List.getElem?_eq_some_iff.1 hz
  obtain ⟨hk2, hy2⟩ := List.getElem?_eq_some_iff.1 hy
  rcases Nat.lt_or_gt_of_ne hne with hlt | hlt
  ·have := List.pairwise_iff_getElem.1 h.pw j k hj hk hlt b (by rw [hz2]; exact hb)
   rw [hy2] at this; exact this e
  ·have := List.pairwise_iff_getElem.1 h.pw k j hk hj hlt b (by rw [hy2]; exact e)
   rw [hz2] at this; exact this hb
 have hxg : ∀ b, x.v.ownBlock = some b → b ≠ g := fun b hb e => by
  subst e
  rcases hn b hb with h1 | h1
  ·exact h.ap y hym b h1 hgo
  ·omega
 have hget : ∀ (j : Nat) (z : Rw), (M.set k x)[j]? = some z → (j = k ∧ z = x) ∨ (j ≠ k ∧ M[j]? = some z) := fun j z hz => by
  rw [List.getElem?_set] at hz
  by_cases e : k = j
  ·subst e
   rw [if_pos rfl, if_pos hk] at hz
   exact Or.inl ⟨rfl, (Option.some.inj hz).symm⟩
  ·rw [if_neg e] at hz
   exact Or.inr ⟨fun h => e h.symm, hz⟩
 have hown1 : w1.ownsRow lo 36 2 (.slice (some ⟨g, 0, none⟩) M.length c) M.length (M.flatMap rwC) := own_keptV h.own g1 (fun b hb e => h.ap y hym b e hb)
 refine ⟨?_, fun z hz => ?_, fun z hz b hb e => ?_, List.pairwise_iff_getElem.2 fun i j hi2 hj2 hij b hb e => ?_⟩
 ·have := (hown1.stored (k * 2 + 1) x.v).1
  rw [flat_setW M k y x hy hi] at this
  rw [List.length_set]
  exact this
 ·obtain ⟨j, hj, hz2⟩ := List.getElem_of_mem hz
  rcases hget j z (by rw [List.getElem?_eq_getElem hj, hz2]) with ⟨-, rfl⟩ | ⟨hne, hz3⟩
  ·exact hx.kept g2 (by
    cases hv : z.v.ownBlock with
    | none => exact .inl rfl
    | some b => exact .inr (fun e => hxg b hv (Option.some.inj e)))
  ·have hzm := List.mem_of_getElem? hz3
   exact (own_keptV (h.nx z hzm) g1 (hother j z hz3 hne)).kept g2 (by
    cases hv : z.v.ownBlock with
    | none => exact .inl rfl
    | some b => exact .inr (fun e => h.ap z hzm b hv (by rw [hgo, Option.some.inj e])))
 ·obtain ⟨j, hj, hz2⟩ := List.getElem_of_mem hz
  have hbg : g = b := Option.some.inj e
  rcases hget j z (by rw [List.getElem?_eq_getElem hj, hz2]) with ⟨-, rfl⟩ | ⟨hne, hz3⟩
  ·exact hxg b hb hbg.symm
  ·exact h.ap z (List.mem_of_getElem? hz3) b hb (by rw [hgo, hbg])
 ·have h1 := hget i _ (List.getElem?_eq_getElem hi2)
  have h2 := hget j _ (List.getElem?_eq_getElem hj2)
  rcases h1 with ⟨e1, e2⟩ | ⟨n1, m1⟩
  ·rcases h2 with ⟨e3, -⟩ | ⟨n2, m2⟩
   ·omega
   ·rw [e2] at hb
    rcases hn b hb with h3 | h3
    ·exact hother j _ m2 n2 b e h3
    ·have := hyl _ (List.mem_of_getElem? m2) b e; omega
  ·rcases h2 with ⟨e3, e4⟩ | ⟨n2, m2⟩
   ·rw [e4] at e
    rcases hn b e with h3 | h3
    ·exact hother i _ m1 n1 b hb h3
    ·have := hyl _ (List.mem_of_getElem? m1) b hb; omega
   ·obtain ⟨q1, z1⟩ := List.getElem?_eq_some_iff.1 m1
    obtain ⟨q2, z2⟩ := List.getElem?_eq_some_iff.1 m2
    exact List.pairwise_iff_getElem.1 h.pw i j q1 q2 hij b (by rw [z1]; exact hb) (by rw [z2]; exact e)
theorem inB_set {v : Value} {M : List Rw} {k b : Nat} {x : Rw} (h : InB v (M.set k x) b) : InB v M b ∨ x.v.ownBlock = some b := by
 rcases h with h | ⟨z, hz, h⟩
 ·exact Or.inl (Or.inl h)
 ·rcases List.mem_or_eq_of_mem_set hz with hz | rfl
  ·exact Or.inl (Or.inr ⟨z, hz, h⟩)
  ·exact Or.inr h
structure BN (a : Nat) (W : World) (lo C D : Nat) (od : Obj) (r s n : Int) (v : Value) (M : List Rw) (w : World) : Prop where
 bx : w.heap[C]? = some (.cells #[.int .i64 r, .int .i64 s, .int .i64 n, v] 25 (0, 0))
 rs : w.heap[C + 1]? = some (.cells #[.int .i64 0, .int .i64 0, .int .i64 0, .slice none 0 0] 25 (0, 0))
 own : OwnT lo w v M
 nb : ∀ b, InB v M b → b ≠ C ∧ b ≠ C + 1 ∧ b ≠ D
 ft : w.heap[D]? = some od
 dl : W.heap.size ≤ D ∧ D < C
 st : St a W w
 lo : a < W.heap.size ∧ W.heap.size ≤ lo ∧ lo ≤ C ∧ C + 1 < w.heap.size
theorem BN.keep {a lo C D : Nat} {od : Obj} {W : World} {r s n : Int} {v : Value} {M : List Rw} {w w1 : World} (h : BN a W lo C D od r s n v M w) (g : w.grownBy w1 none) : BN a W lo C D od r s n v M w1 :=
 ⟨kept_row h.bx g (by simp), kept_row h.rs g (by simp), h.own.keep g, h.nb, kept_row h.ft g (by simp), h.dl, h.st.none_ g, h.lo.1, h.lo.2.1, h.lo.2.2.1, Nat.lt_of_lt_of_le h.lo.2.2.2 g.size⟩
theorem BN.tape {a lo C D : Nat} {od : Obj} {W : World} {r s n : Int} {v : Value} {M : List Rw} {w w1 : World} (h : BN a W lo C D od r s n v M w) (k : St a w w1) : BN a W lo C D od r s n v M w1 := by
 have hl := h.lo
 have hd := h.dl
 exact ⟨kept_row h.bx k.1 (fun e => by have := Option.some.inj e; omega), kept_row h.rs k.1 (fun e => by have := Option.some.inj e; omega), h.own.over k.1 (by omega), h.nb, kept_row h.ft k.1 (fun e => by have := Option.some.inj e; omega), h.dl, h.st.trans k, hl.1, hl.2.1, hl.2.2.1, Nat.lt_of_lt_of_le hl.2.2.2 k.1.size⟩
theorem BN.box {a lo C D : Nat} {od : Obj} {W : World} {r s n r2 s2 n2 : Int} {v : Value} {M : List Rw} {w w1 : World} (h : BN a W lo C D od r s n v M w) (g : w.grownBy w1 (some C)) (hb : w1.heap[C]? = some (.cells #[.int .i64 r2, .int .i64 s2, .int .i64 n2, v] 25 (0, 0))) : BN a W lo C D od r2 s2 n2 v M w1 := by
 have hl := h.lo
 have hd := h.dl
 exact ⟨hb, kept_row h.rs g (fun e => by have := Option.some.inj e; omega), h.own.ne g (fun hi => (h.nb C hi).1 rfl), h.nb, kept_row h.ft g (fun e => by have := Option.some.inj e; omega), h.dl, h.st.storeT g (by omega) hl.1, hl.1, hl.2.1, hl.2.2.1, Nat.lt_of_lt_of_le hl.2.2.2 g.size⟩
end Go.Proofs.YtahafijpcmphaaaGreat
