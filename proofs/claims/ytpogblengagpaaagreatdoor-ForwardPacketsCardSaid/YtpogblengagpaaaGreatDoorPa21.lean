/- Parts of the proof, packed: FwFor, FwFitM. -/
import Derived.Test.YtpogblengagpaaaGreatDoorPa20
import Derived.Test.YtpogblengagpaaaGreatDoorPa8
import Derived.Test.YtpogblengagpaaaGreatDoorPa18
import Derived.Test.YtpogblengagpaaaGreatDoorPa16
import Derived.Test.YtpogblengagpaaaGreatDoorPa5
import Derived.Deep.CutRange
import Derived.Test.YtpogblengagpaaaGreatDoorPa19
import Derived.Test.YtpogblengagpaaaGreatDoorPa12
/- The tape's For. -/
namespace Go.Proofs.YtpogblengagpaaaGreatDoor
set_option maxRecDepth 100000
open Go.RowKit Bs
structure FP (W : World) (a : Nat) (s n : Int) (pE : Option Addr) (cE : Nat) (E : List Ed) (Bq : Nat) (w : World) : Prop where
 pl : w.heap[W.heap.size]? = some (.cells #[.int .i64 s, .int .i64 n, .slice pE E.length cE] 72 (0, 0))
 rs : w.heap[W.heap.size + 1]? = some (.cells zpk 28 (0, 0))
 ed : RdF w (fun b => b ≠ a ∧ b < W.heap.size) (.slice pE E.length cE) E.length (E.flatMap edC)
 tp : Tp w a
 gr : W.grownBy w (some a)
 lo : a < W.heap.size ∧ W.heap.size + 1 < Bq
variable {W w w1 : World} {a : Nat} {s n : Int} {pE : Option Addr} {cE : Nat} {E : List Ed} {Bq : Nat} {Q : Pk}
theorem FP.keep (h : FP W a s n pE cE E Bq w) (g : w.grownBy w1 none) : FP W a s n pE cE E Bq w1 :=
 ⟨kept_row h.pl g (by simp), kept_row h.rs g (by simp), h.ed.grown g (fun _ _ => by simp), h.tp.keep g, grown_trans h.gr (grown_none g _), h.lo⟩
theorem FP.tape (h : FP W a s n pE cE E Bq w) (hs : St a w w1) : FP W a s n pE cE E Bq w1 := by
 have hl := h.lo
 exact ⟨kept_row h.pl hs.gr (fun e => by have := Option.some.inj e; omega), kept_row h.rs hs.gr (fun e => by have := Option.some.inj e; omega), h.ed.grown hs.gr (fun b hb e => hb.1 (Option.some.inj e)), hs.tp, grown_trans h.gr hs.gr, hl⟩
theorem FP.put (h : FP W a s n pE cE E Bq w) (k : Nat) (v : Value) : FP W a s n pE cE E Bq (w.setCell ⟨Bq, k, none⟩ v) := by
 have hl := h.lo
 have j := grown_setCell w ⟨Bq, k, none⟩ v
 exact ⟨kept_row h.pl j (fun e => by have : W.heap.size = Bq := Option.some.inj e; omega), kept_row h.rs j (fun e => by have : W.heap.size + 1 = Bq := Option.some.inj e; omega), h.ed.grown j (fun b hb e => by have : b = Bq := Option.some.inj e; have := hb.2; omega), tp_store h.tp j (show a < Bq by omega), ⟨j.os.trans h.gr.os, j.tape.trans h.gr.tape, j.output.trans h.gr.output, Nat.le_trans h.gr.size j.size, fun i hi hr => (j.block i (Nat.lt_of_lt_of_le hi h.gr.size) (fun e => by have : i = Bq := Option.some.inj e; omega)).trans (h.gr.block i hi hr)⟩, hl⟩
theorem FP.at_ (h : FP W a s n pE cE E Bq w) {i : Nat} {x : Ed} (hi : E[i]? = some x) : ∃ g off, pE = some ⟨g, off, none⟩ ∧ ∀ w1, FP W a s n pE cE E Bq w1 → w1.cell? ⟨g, off + i * 2 + 1, none⟩ = some (.int .i64 x.i) := by
 have hl : 0 < E.length := by have := (List.getElem?_eq_some_iff.1 hi).1; omega
 obtain ⟨-, g, off, hp, -, -⟩ := RdF.cells (f := edC) (k := 2) (fun _ => rfl) (by decide) h.ed hl
 refine ⟨g, off, hp, fun w1 h1 => ?_⟩
 obtain ⟨-, g2, off2, hp2, -, hc⟩ := RdF.cells (f := edC) (k := 2) (fun _ => rfl) (by decide) h1.ed hl
 rw [hp] at hp2
 injection hp2 with e
 injection e with e1 e2
 subst e1 e2
 exact hc i x hi 1 _ rfl
theorem qput {k : Nat} {v : Value} {Q2 : Pk} (h : w.heap[Bq]? = some (.cells (pcells Q) 28 (0, 0))) (e : (pcells Q).setIfInBounds k v = pcells Q2) : (w.setCell ⟨Bq, k, none⟩ v).heap[Bq]? = some (.cells (pcells Q2) 28 (0, 0)) := by
 rw [← e]
 exact heap_setCell_same w _ k _ _ _ h
theorem q_frozen (h : w.heap[Bq]? = some (.cells (pcells Q) 28 (0, 0))) (k : Nat) : w.frozen? ⟨Bq, k, none⟩ = false := frozen_of_row _ _ k _ _ h
theorem packet0_aggV (a : Nat) (w : World) (hT : Tp w a) :
  Calls Tryz.prog 9 #[.pointer (some ⟨a, 0, none⟩), .int .i64 0] w fun e w' => ∃ Q : Pk, e = .returned (.agg #[.int .i64 Q.mode, .int .i64 Q.sub, .int .i64 Q.set, .int .i64 Q.len, .int .i64 Q.ttl, .int .i64 Q.ent, .int .i64 Q.ing, .int .i64 Q.pro, .int .u64 (Q.bits : Int), .string Q.pay]) ∧ Q.Wf ∧ vpk Q = true ∧ St a w w' := by
 refine (packet0_any a w hT).mono ?_
 rintro e w' ⟨P, rfl, h1, h2, h3⟩
 exact ⟨P, rfl, h1, h2, h3⟩
set_option maxHeartbeats 6400000 in
theorem for_any (a : Nat) (s n : Int) (pE : Option Addr) (cE : Nat) (E : List Ed) (hvl : vl n = true) (hs : 0 ≤ s ∧ s ≤ 7) (hE : ∀ e ∈ E, 1 ≤ e.i ∧ e.i ≤ 256) (hlE : E.length ≤ 24) (w : World) (hT : Tp w a) (hR : RdF w (fun b => b ≠ a ∧ b < w.heap.size) (.slice pE E.length cE) E.length (E.flatMap edC)) :
  Calls Tryz.prog 26 #[.pointer (some ⟨a, 0, none⟩), .agg #[.int .i64 s, .int .i64 n, .slice pE E.length cE]] w fun e w' => ∃ Q : Pk, e = .returned (.agg #[.int .i64 Q.mode, .int .i64 Q.sub, .int .i64 Q.set, .int .i64 Q.len, .int .i64 Q.ttl, .int .i64 Q.ent, .int .i64 Q.ing, .int .i64 Q.pro, .int .u64 (Q.bits : Int), .string Q.pay]) ∧ ForOk s n Q ∧ St a w w' := by
 have HVL := Lib.hid hvl
 have HS := Lib.hid hs
 have HE := Lib.hid hE
 have hne : (n == 0) = false := by rcases vl_cases hvl with rfl | rfl | rfl | rfl <;> rfl
 have HNE := Lib.hid hne
 obtain ⟨k1, k2, k3, k4⟩ := two_boxes w #[.int .i64 s, .int .i64 n, .slice pE E.length cE] zpk 72 28
 have H0 := Lib.hid (And.intro k1 (And.intro k2 (And.intro k3 (And.intro (hT.keep k3) (And.intro (RdF.grown hR k3 (fun _ _ => by simp)) (And.intro hT.lt k4))))))
 unfold zpk at H0
 clear k1 k2 k3 k4 hT hR hvl hs hE hne
 go_enter Tryz.func26, Tryz.ntmps26
 go_upto_region 1 with fail
 generalize (w.alloc _).alloc _ = wa at *
 go_wp2_with fail
 refine (packet0_aggV a wa H0.out.2.2.2.1).mono ?_
 rintro e w2 ⟨Q, rfl, hQ, hv, hs⟩
 obtain ⟨k1, k2⟩ := one_box w2 (pcells Q) 28
 have K2 : Hid (FP w a s n pE cE E w2.heap.size (w2.alloc (.cells (pcells Q) 28))) := Lib.hid (by
  have h := H0.out
  have ne : ∀ k, k ≠ a → some k ≠ some a := fun k hk e => hk (Option.some.inj e)
  have hsz := hs.gr.size
  exact FP.keep ⟨kept_row h.1 hs.gr (ne _ (by omega)), kept_row h.2.1 hs.gr (ne _ (by omega)), h.2.2.2.2.1.grown hs.gr (fun b hb e => hb.1 (Option.some.inj e)), hs.tp, grown_trans (grown_none h.2.2.1 _) hs.gr, ⟨h.2.2.2.2.2.1, by omega⟩⟩ k2)
 have HB := Lib.hid k1
 have HQ := Lib.hid (And.intro hQ hv)
 unfold pcells at K2 HB
 clear k1 k2 hs hQ hv H0
 go_upto_region 2 with fail
 generalize w2.alloc _ = w4 at *
 generalize w2.heap.size = Bq at *
 change Hid (FP w a s n pE cE E Bq w4) at K2
 change Hid (w4.heap[Bq]? = some (.cells (pcells Q) 28 (0, 0))) at HB
 refine wp_region_held_drew (S := fun w' => Hid (FP w a s n pE cE E Bq w')) (by kernel_rfl) (Lib.hid (K2.out.keep (grown_drew (grown_refl _ _)))) (fun hHeld => ?_)
 refine zT (i := 0) (v := ?_) rfl ?_ hHeld ?_
 rotate_left 1
 ·intro u hSu
  go_simp
  first | done | with_reducible rfl
 try simp only [Act.put, zA, zB, zC]
 refine zT (i := 1) (v := ?_) rfl ?_ hHeld ?_
 rotate_left 1
 ·intro u hSu
  obtain ⟨q0u, q1u, q2u⟩ := row3B hSu.out.pl
  go_simp
  first | done | with_reducible rfl
 try simp only [Act.put, zA, zB, zC]
 refine zT (i := 2) (v := ?_) rfl ?_ hHeld ?_
 rotate_left 1
 ·intro u hSu
  go_simp
  first | done | with_reducible rfl
 try simp only [Act.put, zA, zB, zC]
 refine zT (i := 3) (v := ?_) rfl ?_ hHeld ?_
 rotate_left 1
 ·intro u hSu
  obtain ⟨q0u, q1u, q2u⟩ := row3B hSu.out.pl
  go_simp
  first | done | with_reducible rfl
 try simp only [Act.put, zA, zB, zC]
 refine zT (i := 4) (v := ?_) rfl ?_ hHeld ?_
 rotate_left 1
 ·intro u hSu
  go_simp
  first | done | with_reducible rfl
 try simp only [Act.put, zA, zB, zC]
 refine wpAnyH_ready (rs := [5]) (by kernel_rfl) (by simp) ?_
 refine AllReadyH.cons (o := ⟨_, _, _, _, _, _⟩) rfl (fun Kz hK => ?_) AllReadyH.nil
 obtain ⟨a0, a1, a2, a3, a4, a5, a6, a7, a8, a9⟩ := p_facts HB.out
 have f0 := q_frozen HB.out 0
 have K20 := Lib.hid (K2.out.put 0 (.int .i64 1))
 have HB0 := Lib.hid (qput (Q2 := { Q with mode := 1 }) (k := 0) (v := .int .i64 1) HB.out rfl)
 go_simp
 clear a0 a1 a2 a3 a4 a5 a6 a7 a8 a9 f0
 refine hK.out _ _ (Lib.hid (K20.out.keep (grown_drew (grown_refl _ _)))) (fun hH2 => ?_)
 clear hK Kz hHeld
 have hHeld := hH2
 clear hH2
 try simp only [Act.put, zA, zB, zC]
 refine zT (i := 6) (v := ?_) rfl ?_ hHeld ?_
 rotate_left 1
 ·intro u hSu
  go_simp
  first | done | with_reducible rfl
 try simp only [Act.put, zA, zB, zC]
 refine wpAnyH_ready (rs := [7]) (by kernel_rfl) (by simp) ?_
 refine AllReadyH.cons (o := ⟨_, _, _, _, _, _⟩) rfl (fun Kz hK => ?_) AllReadyH.nil
 obtain ⟨a0, a1, a2, a3, a4, a5, a6, a7, a8, a9⟩ := p_facts HB0.out
 have f1 := q_frozen HB0.out 1
 have K21 := Lib.hid (K20.out.put 1 (.int .i64 s))
 have HB1 := Lib.hid (qput (Q2 := { Q with mode := 1, sub := s }) (k := 1) (v := .int .i64 s) HB0.out rfl)
 go_simp
 clear a0 a1 a2 a3 a4 a5 a6 a7 a8 a9 f1
 refine hK.out _ _ (Lib.hid (K21.out.keep (grown_drew (grown_refl _ _)))) (fun hH2 => ?_)
 clear hK Kz hHeld
 have hHeld := hH2
 clear hH2
 try simp only [Act.put, zA, zB, zC]
 refine zT (i := 8) (v := ?_) rfl ?_ hHeld ?_
 rotate_left 1
 ·intro u hSu
  go_simp
  first | done | with_reducible rfl
 try simp only [Act.put, zA, zB, zC]
 refine wpAnyH_ready (rs := [9]) (by kernel_rfl) (by simp) ?_
 refine AllReadyH.cons (o := ⟨_, _, _, _, _, _⟩) rfl (fun Kz hK => ?_) AllReadyH.nil
 obtain ⟨a0, a1, a2, a3, a4, a5, a6, a7, a8, a9⟩ := p_facts HB1.out
 have f3 := q_frozen HB1.out 3
 have K22 := Lib.hid (K21.out.put 3 (.int .i64 n))
 have HB2 := Lib.hid (qput (Q2 := { Q with mode := 1, sub := s, len := n }) (k := 3) (v := .int .i64 n) HB1.out rfl)
 go_simp
 clear a0 a1 a2 a3 a4 a5 a6 a7 a8 a9 f3
 refine hK.out _ _ (Lib.hid (K22.out.keep (grown_drew (grown_refl _ _)))) (fun hH2 => ?_)
 clear hK Kz hHeld
 have hHeld := hH2
 clear hH2
 try simp only [Act.put, zA, zB, zC]
 refine zT (i := 10) (v := ?_) rfl ?_ hHeld ?_
 rotate_left 1
 ·intro u hSu
  go_simp
  first | done | with_reducible rfl
 try simp only [Act.put, zA, zB, zC]
 refine wpAnyH_ready (rs := [11]) (by kernel_rfl) (by simp) ?_
 refine AllReadyH.cons (o := ⟨_, _, _, _, _, _⟩) rfl (fun Kz hK => ?_) AllReadyH.nil
 obtain ⟨a0, a1, a2, a3, a4, a5, a6, a7, a8, a9⟩ := p_facts HB2.out
 have f2 := q_frozen HB2.out 2
 have K23 := Lib.hid (K22.out.put 2 (.int .i64 0))
 have HB3 := Lib.hid (qput (Q2 := { Q with mode := 1, sub := s, len := n, set := 0 }) (k := 2) (v := .int .i64 0) HB2.out rfl)
 go_simp
 clear a0 a1 a2 a3 a4 a5 a6 a7 a8 a9 f2
 refine hK.out _ _ (Lib.hid (K23.out.keep (grown_drew (grown_refl _ _)))) (fun hH2 => ?_)
 clear hK Kz hHeld
 have hHeld := hH2
 clear hH2
 try simp only [Act.put, zA, zB, zC]
 refine zT (i := 12) (v := ?_) rfl ?_ hHeld ?_
 rotate_left 1
 ·intro u hSu
  go_simp
  first | done | with_reducible rfl
 try simp only [Act.put, zA, zB, zC]
 refine wpAnyH_ready (rs := [13]) (by kernel_rfl) (by simp) ?_
 refine AllReadyH.cons (o := ⟨_, _, _, _, _, _⟩) rfl (fun Kz hK => ?_) AllReadyH.nil
 obtain ⟨a0, a1, a2, a3, a4, a5, a6, a7, a8, a9⟩ := p_facts HB3.out
 have f8 := q_frozen HB3.out 8
 have K24 := Lib.hid (K23.out.put 8 (.int .u64 0))
 have HB4 := Lib.hid (qput (Q2 := { Q with mode := 1, sub := s, len := n, set := 0, bits := 0 }) (k := 8) (v := .int .u64 0) HB3.out rfl)
 go_simp
 clear a0 a1 a2 a3 a4 a5 a6 a7 a8 a9 f8
 refine hK.out _ _ (Lib.hid (K24.out.keep (grown_drew (grown_refl _ _)))) (fun hH2 => ?_)
 clear hK Kz hHeld
 have hHeld := hH2
 clear hH2
 try simp only [Act.put, zA, zB, zC]
 refine wpAnyH_done (by kernel_rfl) ?_ _
 obtain ⟨Q1, hQ1⟩ : ∃ Q1 : Pk, { Q with mode := 1, sub := s, len := n, set := 0, bits := 0 } = Q1 := ⟨_, rfl⟩
 have FO : Hid (ForOk s n Q1) := Lib.hid (by rw [← hQ1]; exact forOk_start HQ.out.2 HQ.out.1 HS.out HVL.out)
 have K5 := Lib.hid (K24.out.keep (grown_drew (grown_refl _ none)))
 have HB5 := Lib.hid (kept_row HB4.out (grown_drew (grown_refl _ none)) (by simp))
 rw [hQ1] at HB5
 clear hHeld K2 K20 K21 K22 K23 K24 HB HB0 HB1 HB2 HB3 HB4 HQ hQ1
 generalize ((((w4.setCell _ _).setCell _ _).setCell _ _).setCell _ _).setCell _ _ = w5 at *
 obtain ⟨w6, hw6⟩ : ∃ w6, w5.drew = w6 := ⟨_, rfl⟩
 rw [hw6] at K5 HB5 ⊢
 clear hw6
 obtain ⟨q0, q1, q2⟩ := row3B K5.out.pl
 have hne := HNE.out
 go_upto_if 28 with fail
 clear hne
 go_cut [] from 25 to 46 (fun wx => ∃ Q2, Hid (FP w a s n pE cE E Bq wx) ∧ Hid (wx.heap[Bq]? = some (.cells (pcells Q2) 28 (0, 0))) ∧ Hid (ForOk s n Q2))
 case first =>
  by_cases h0 : 0 < E.length
  case neg =>
   have h0' : ¬ (0 : Int) < (E.length : Int) := by omega
   go_wp2_with fail
   go_meet
   exact ⟨Q1, K5, HB5, FO⟩
  have h0' : (0 : Int) < (E.length : Int) := by omega
  go_upto_region 6 with fail
  refine wp_region_held_drew (S := fun w' => Hid (FP w a s n pE cE E Bq w')) (by kernel_rfl) (Lib.hid (K5.out.keep (grown_drew (grown_refl _ _)))) (fun hHeld => ?_)
  refine zT (i := 0) (v := ?_) rfl ?_ hHeld ?_
  rotate_left 1
  ·intro u hSu
   obtain ⟨q0u, q1u, q2u⟩ := row3B hSu.out.pl
   try have d0u := HCC.out u hSu.out
   go_simp
   first | done | with_reducible rfl
  try simp only [Act.put, zA, zB, zC]
  refine zT (i := 1) (v := ?_) rfl ?_ hHeld ?_
  rotate_left 1
  ·intro u hSu
   obtain ⟨q0u, q1u, q2u⟩ := row3B hSu.out.pl
   try have d0u := HCC.out u hSu.out
   go_simp
   first | done | with_reducible rfl
  try simp only [Act.put, zA, zB, zC]
  refine zT (i := 2) (v := ?_) rfl ?_ hHeld ?_
  rotate_left 1
  ·intro u hSu
   obtain ⟨q0u, q1u, q2u⟩ := row3B hSu.out.pl
   try have d0u := HCC.out u hSu.out
   go_simp
   first | done | with_reducible rfl
  try simp only [Act.put, zA, zB, zC]
  refine zT (i := 3) (v := ?_) rfl ?_ hHeld ?_
  rotate_left 1
  ·intro u hSu
   obtain ⟨q0u, q1u, q2u⟩ := row3B hSu.out.pl
   try have d0u := HCC.out u hSu.out
   go_simp
   first | done | with_reducible rfl
  try simp only [Act.put, zA, zB, zC]
  refine zT (i := 4) (v := ?_) rfl ?_ hHeld ?_
  rotate_left 1
  ·intro u hSu
   obtain ⟨q0u, q1u, q2u⟩ := row3B hSu.out.pl
   try have d0u := HCC.out u hSu.out
   go_simp
   first | done | with_reducible rfl
  try simp only [Act.put, zA, zB, zC]
  refine zT (i := 5) (v := ?_) rfl ?_ hHeld ?_
  rotate_left 1
  ·intro u hSu
   obtain ⟨q0u, q1u, q2u⟩ := row3B hSu.out.pl
   try have d0u := HCC.out u hSu.out
   go_simp
   first | done | with_reducible rfl
  try simp only [Act.put, zA, zB, zC]
  refine zT (i := 10) (v := ?_) rfl ?_ hHeld ?_
  rotate_left 1
  ·intro u hSu
   obtain ⟨q0u, q1u, q2u⟩ := row3B hSu.out.pl
   try have d0u := HCC.out u hSu.out
   go_simp
   first | done | with_reducible rfl
  try simp only [Act.put, zA, zB, zC]
  refine zT (i := 11) (v := ?_) rfl ?_ hHeld ?_
  rotate_left 1
  ·intro u hSu
   obtain ⟨q0u, q1u, q2u⟩ := row3B hSu.out.pl
   try have d0u := HCC.out u hSu.out
   go_simp
   first | done | with_reducible rfl
  try simp only [Act.put, zA, zB, zC]
  refine wpAnyH_ready (rs := [6]) (by kernel_rfl) (by simp) ?_
  refine AllReadyH.cons (o := ⟨_, _, _, _, _, _⟩) rfl (fun Kz hK => ?_) AllReadyH.nil
  go_simp
  go_at_call 29
  refine (next_any a (E.length : Int) (by unfold I64; omega) _ hHeld.out.tp).mono ?_
  rintro e' w7 ⟨r, rfl, hr, hs⟩
  obtain ⟨x, hr0, hx⟩ : ∃ x : Nat, r = (x : Int) ∧ x < E.length := by have h1 := hr.2.1 (by omega); exact ⟨r.toNat, by have := hr.1; omega, by have := hr.1; omega⟩
  subst hr0
  have HN := Lib.hid (hHeld.out.tape hs)
  replace HB5 := Lib.hid (kept_row HB5.out (by first | exact hs.gr | exact grown_undrew_some hs.gr) (fun e => by have := Option.some.inj e; have := hHeld.out.lo; omega))
  obtain ⟨y, hy⟩ : ∃ y, E[x]? = some y := ⟨_, List.getElem?_eq_getElem hx⟩
  obtain ⟨gE, oE, hpE, hc⟩ := HN.out.at_ hy
  subst hpE
  have HCC := Lib.hid hc
  have hx2 : (x : Int) < (E.length : Int) := by omega
  have hx0 : (0 : Int) ≤ (x : Int) := by omega
  clear hr hs hc hy hx
  simp only
  refine hK.out _ _ (HN) (fun hH2 => ?_)
  clear hK Kz hHeld
  have hHeld := hH2
  clear hH2
  try simp only [Act.put, zA, zB, zC]
  refine zT (i := 7) (v := ?_) rfl ?_ hHeld ?_
  rotate_left 1
  ·intro u hSu
   obtain ⟨q0u, q1u, q2u⟩ := row3B hSu.out.pl
   try have d0u := HCC.out u hSu.out
   go_simp
   first | done | with_reducible rfl
  try simp only [Act.put, zA, zB, zC]
  refine zT (i := 8) (v := ?_) rfl ?_ hHeld ?_
  rotate_left 1
  ·intro u hSu
   obtain ⟨q0u, q1u, q2u⟩ := row3B hSu.out.pl
   try have d0u := HCC.out u hSu.out
   go_simp
   first | done | with_reducible rfl
  try simp only [Act.put, zA, zB, zC]
  refine zT (i := 9) (v := ?_) rfl ?_ hHeld ?_
  rotate_left 1
  ·intro u hSu
   obtain ⟨q0u, q1u, q2u⟩ := row3B hSu.out.pl
   try have d0u := HCC.out u hSu.out
   go_simp
   first | done | with_reducible rfl
  try simp only [Act.put, zA, zB, zC]
  refine wpAnyH_ready (rs := [12]) (by kernel_rfl) (by simp) ?_
  refine AllReadyH.cons (o := ⟨_, _, _, _, _, _⟩) rfl (fun Kz hK => ?_) AllReadyH.nil
  go_simp
  go_at_call 59
  refine (irplc_any y.i n _).mono ?_
  rintro e' w8 ⟨rfl, hg⟩
  have HN := Lib.hid (hHeld.out.keep hg)
  replace HB5 := Lib.hid (kept_row HB5.out hg (by simp))
  clear hg
  simp only
  refine hK.out _ _ (HN) (fun hH2 => ?_)
  clear hK Kz hHeld
  have hHeld := hH2
  clear hH2
  try simp only [Act.put, zA, zB, zC]
  refine zT (i := 13) (v := ?_) rfl ?_ hHeld ?_
  rotate_left 1
  ·intro u hSu
   obtain ⟨q0u, q1u, q2u⟩ := row3B hSu.out.pl
   try have d0u := HCC.out u hSu.out
   go_simp
   first | done | with_reducible rfl
  try simp only [Act.put, zA, zB, zC]
  refine zT (i := 14) (v := ?_) rfl ?_ hHeld ?_
  rotate_left 1
  ·intro u hSu
   obtain ⟨q0u, q1u, q2u⟩ := row3B hSu.out.pl
   try have d0u := HCC.out u hSu.out
   go_simp
   first | done | with_reducible rfl
  try simp only [Act.put, zA, zB, zC]
  refine zT (i := 15) (v := ?_) rfl ?_ hHeld ?_
  rotate_left 1
  ·intro u hSu
   obtain ⟨q0u, q1u, q2u⟩ := row3B hSu.out.pl
   try have d0u := HCC.out u hSu.out
   go_simp
   first | done | with_reducible rfl
  try simp only [Act.put, zA, zB, zC]
  refine zT (i := 16) (v := ?_) rfl ?_ hHeld ?_
  rotate_left 1
  ·intro u hSu
   obtain ⟨q0u, q1u, q2u⟩ := row3B hSu.out.pl
   try have d0u := HCC.out u hSu.out
   go_simp
   first | done | with_reducible rfl
  try simp only [Act.put, zA, zB, zC]
  refine zT (i := 17) (v := ?_) rfl ?_ hHeld ?_
  rotate_left 1
  ·intro u hSu
   obtain ⟨q0u, q1u, q2u⟩ := row3B hSu.out.pl
   try have d0u := HCC.out u hSu.out
   go_simp
   first | done | with_reducible rfl
  try simp only [Act.put, zA, zB, zC]
  refine wpAnyH_ready (rs := [18]) (by kernel_rfl) (by simp) ?_
  refine AllReadyH.cons (o := ⟨_, _, _, _, _, _⟩) rfl (fun Kz hK => ?_) AllReadyH.nil
  obtain ⟨a0, a1, a2, a3, a4, a5, a6, a7, a8, a9⟩ := p_facts HB5.out
  have f2 := q_frozen HB5.out 2
  have KS := Lib.hid (hHeld.out.put 2 (.int .i64 (plS y.i n)))
  have HBS := Lib.hid (qput (Q2 := { Q1 with set := plS y.i n }) (k := 2) (v := .int .i64 (plS y.i n)) HB5.out rfl)
  go_simp
  clear a0 a1 a2 a3 a4 a5 a6 a7 a8 a9 f2
  refine hK.out _ _ (KS) (fun hH2 => ?_)
  clear hK Kz hHeld
  have hHeld := hH2
  clear hH2
  try simp only [Act.put, zA, zB, zC]
  refine wpAnyH_done (by kernel_rfl) ?_ _
  go_wp2_with fail
  go_meet
  exact ⟨_, KS, HBS, Lib.hid (FO.out.set_ plS_inF)⟩
 case rest =>
 obtain ⟨Q2, K7, HB7, FO7⟩ := hcut
 clear K5 HB5 FO q0 q1 q2
 go_wp2_with fail
 go_loopw [6] (fun u wr => ∃ (i : Nat) (Q3 : Pk), i ≤ E.length ∧ u = .int .i64 (i : Int) ∧ Hid (FP w a s n pE cE E Bq wr) ∧ Hid (wr.heap[Bq]? = some (.cells (pcells Q3) 28 (0, 0))) ∧ Hid (ForOk s n Q3)) (fun u _ => E.length - (RowKit.intOf u).toNat)
 case atStart => exact ⟨0, Q2, Nat.zero_le _, rfl, K7, HB7, FO7⟩
 case round =>
 clear K7 HB7 FO7
 obtain ⟨i, Q3, hi, rfl, K, HB, FO⟩ := hrel
 obtain ⟨w8, hw8⟩ : ∃ w8, w8 = wr := ⟨_, rfl⟩
 rw [← hw8] at K HB ⊢
 clear hw8
 obtain ⟨q0, q1, q2⟩ := row3B K.out.pl
 by_cases hlt : i < E.length
 case neg =>
  obtain rfl : i = E.length := by omega
  have hnl : ¬ (E.length : Int) < (E.length : Int) := by omega
  go_wp2_with fail
  refine (one_any a 6 (by unfold I64; omega) _ K.out.tp).mono ?_
  rintro e w9 ⟨z, rfl, hs⟩
  replace HB := Lib.hid (kept_row HB.out hs.gr (fun e => by have := Option.some.inj e; have := K.out.lo; omega))
  replace K := Lib.hid (K.out.tape hs)
  clear hs q0 q1 q2 hnl
  cases z
  case false =>
   obtain ⟨a0, a1, a2, a3, a4, a5, a6, a7, a8, a9⟩ := p_facts HB.out
   obtain ⟨⟨z0, z1, z2, z3, z4, z5, z6, z7, z8, z9⟩, f0, f1, f2, f3, f4, f5, f6, f7, f8, f9⟩ := zp_cells K.out.rs
   go_wp2_with fail
   refine bodyPost_ret (res_packet rfl _ _ (w.heap.size + 1) _ rfl rfl (pput_row _ _ _ _ _ _ _ _ _ _ K.out.rs)) rfl ?_
   exact ⟨Q3, rfl, FO.out, ⟨grown_over K.out.gr (pput_grown _ (w.heap.size + 1) _ _ _ _ _ _ _ _ _ _) (Nat.le_succ _), tp_store K.out.tp (pput_grown _ (w.heap.size + 1) _ _ _ _ _ _ _ _ _ _) (by have := K.out.lo; omega)⟩⟩
  obtain ⟨a0, a1, a2, a3, a4, a5, a6, a7, a8, a9⟩ := p_facts HB.out
  go_upto_region 14 with fail
  refine region_until (S := fun w' => Hid (FP w a s n pE cE E Bq w') ∧ Hid (w'.heap[Bq]? = some (.cells (pcells Q3) 28 (0, 0)))) (fun j => j == 8) (by kernel_rfl) (⟨Lib.hid (K.out.keep (grown_drew (grown_refl _ _))), Lib.hid (kept_row HB.out (grown_drew (grown_refl _ none)) (by simp))⟩) (fun hHeld => ?_)
  refine zU (i := 0) (v := ?_) rfl ?_ hHeld ?_
  rotate_left 1
  ·intro u hSu
   go_simp
   first | done | with_reducible rfl
  try simp only [Act.put, zA, zB, zC]
  refine zU (i := 1) (v := ?_) rfl ?_ hHeld ?_
  rotate_left 1
  ·intro u hSu
   obtain ⟨a0u, a1u, a2u, a3u, a4u, a5u, a6u, a7u, a8u, a9u⟩ := p_facts hSu.2.out
   go_simp
   first | done | with_reducible rfl
  try simp only [Act.put, zA, zB, zC]
  refine zU (i := 2) (v := ?_) rfl ?_ hHeld ?_
  rotate_left 1
  ·intro u hSu
   go_simp
   first | done | with_reducible rfl
  try simp only [Act.put, zA, zB, zC]
  refine zU (i := 3) (v := ?_) rfl ?_ hHeld ?_
  rotate_left 1
  ·intro u hSu
   go_simp
   first | done | with_reducible rfl
  try simp only [Act.put, zA, zB, zC]
  refine zU (i := 4) (v := ?_) rfl ?_ hHeld ?_
  rotate_left 1
  ·intro u hSu
   obtain ⟨a0u, a1u, a2u, a3u, a4u, a5u, a6u, a7u, a8u, a9u⟩ := p_facts hSu.2.out
   go_simp
   first | done | with_reducible rfl
  try simp only [Act.put, zA, zB, zC]
  refine anyU_ready (rs := [5]) (by kernel_rfl) (by simp) ?_
  refine EachU.cons (o := ⟨_, _, _, _, _, _⟩) rfl (fun Kz hK => ?_) EachU.nil
  go_simp
  go_at_call 17
  simp only [FO.out.len]
  refine (bits_any a n HVL.out _ hHeld.1.out.tp).mono ?_
  rintro e' w7 ⟨x, rfl, hx, hvb, hs⟩
  have HN := And.intro (Lib.hid (hHeld.1.out.tape hs)) (Lib.hid (kept_row hHeld.2.out hs.gr (fun e => by have := Option.some.inj e; have := hHeld.1.out.lo; omega)))
  have hor := orU Q3.bits x FO.out.wf.bits hx
  have FO2 := Lib.hid (FO.out.bits (b := Q3.bits ||| x) (u64_orl _ _ FO.out.wf.bits hx) (vb_or (by have h := FO.out.v; have hl := FO.out.len; have := (vpk_parts h); unfold vpk at h; simp only [decide_eq_true_eq] at h; rw [← hl]; exact h.2.2.2.2.2.2.2.2) hvb))
  clear hs hx hvb
  simp only
  refine hK.out _ _ (fun _ => HN) (fun hH2 => ?_)
  clear hK Kz hHeld
  have hHeld := hH2 rfl
  clear hH2
  try simp only [Act.put, zA, zB, zC]
  refine zU (i := 6) (v := .int .u64 ((Q3.bits ||| x : Nat) : Int)) rfl ?_ hHeld ?_
  ·intro u hSu
   go_simp
   first | done | exact hor | simp_all
  try simp only [Act.put, zA, zB, zC]
  refine zU (i := 7) (v := ?_) rfl ?_ hHeld ?_
  rotate_left 1
  ·intro u hSu
   go_simp
   first | done | with_reducible rfl
  try simp only [Act.put, zA, zB, zC]
  refine anyU_ready (rs := [8]) (by kernel_rfl) (by simp) ?_
  refine EachU.cons (o := ⟨_, _, _, _, _, _⟩) rfl (fun Kz hK => ?_) EachU.nil
  obtain ⟨a0, a1, a2, a3, a4, a5, a6, a7, a8, a9⟩ := p_facts hHeld.2.out
  have f8 := q_frozen hHeld.2.out 8
  have KS := Lib.hid (hHeld.1.out.put 8 (.int .u64 ((Q3.bits ||| x : Nat) : Int)))
  have HBS := Lib.hid (qput (Q2 := { Q3 with bits := Q3.bits ||| x }) (k := 8) (v := .int .u64 ((Q3.bits ||| x : Nat) : Int)) hHeld.2.out rfl)
  go_simp
  refine hK.out _ _ (fun h => by cases h) (fun _ => ?_)
  clear hK Kz
  try simp only [Act.put, zA, zB, zC]
  refine anyU_done (by kernel_rfl) ?_ _
  clear hHeld
  obtain ⟨Q4, hQ4⟩ : ∃ Q4 : Pk, { Q3 with bits := Q3.bits ||| x } = Q4 := ⟨_, rfl⟩
  rw [hQ4] at HBS FO2
  clear hQ4 a0 a1 a2 a3 a4 a5 a6 a7 a8 a9
  generalize World.setCell _ _ _ = wz at *
  obtain ⟨a0, a1, a2, a3, a4, a5, a6, a7, a8, a9⟩ := p_facts HBS.out
  obtain ⟨⟨z0, z1, z2, z3, z4, z5, z6, z7, z8, z9⟩, f0, f1, f2, f3, f4, f5, f6, f7, f8, f9⟩ := zp_cells KS.out.rs
  go_wp2_with fail
  refine bodyPost_ret (res_packet rfl _ _ (w.heap.size + 1) _ rfl rfl (pput_row _ _ _ _ _ _ _ _ _ _ KS.out.rs)) rfl ?_
  exact ⟨Q4, rfl, FO2.out, ⟨grown_over KS.out.gr (pput_grown _ (w.heap.size + 1) _ _ _ _ _ _ _ _ _ _) (Nat.le_succ _), tp_store KS.out.tp (pput_grown _ (w.heap.size + 1) _ _ _ _ _ _ _ _ _ _) (by have := KS.out.lo; omega)⟩⟩
 have hlt' : (i : Int) < (E.length : Int) := by omega
 have hi0 : (0 : Int) ≤ (i : Int) := by omega
 obtain ⟨y, hy⟩ : ∃ y, E[i]? = some y := ⟨_, List.getElem?_eq_getElem hlt⟩
 obtain ⟨gE, oE, hpE, hc⟩ := K.out.at_ hy
 subst hpE
 have HCC := Lib.hid hc
 have HID := Lib.hid (HE.out y (List.mem_of_getElem? hy))
 have d0 := hc w8 K.out
 clear hc hy
 go_upto_region 10 with fail
 refine wp_region_held_drew (S := fun w' => Hid (FP w a s n (some ⟨gE, oE, none⟩) cE E Bq w') ∧ Hid (w'.heap[Bq]? = some (.cells (pcells Q3) 28 (0, 0)))) (by kernel_rfl) (⟨Lib.hid (K.out.keep (grown_drew (grown_refl _ _))), Lib.hid (kept_row HB.out (grown_drew (grown_refl _ none)) (by simp))⟩) (fun hHeld => ?_)
 refine zT (i := 0) (v := ?_) rfl ?_ hHeld ?_
 rotate_left 1
 ·intro u hSu
  go_simp
  first | done | with_reducible rfl
 try simp only [Act.put, zA, zB, zC]
 refine zT (i := 1) (v := ?_) rfl ?_ hHeld ?_
 rotate_left 1
 ·intro u hSu
  obtain ⟨q0u, q1u, q2u⟩ := row3B hSu.1.out.pl
  have d0u := HCC.out u hSu.1.out
  go_simp
  first | done | with_reducible rfl
 try simp only [Act.put, zA, zB, zC]
 refine zT (i := 2) (v := ?_) rfl ?_ hHeld ?_
 rotate_left 1
 ·intro u hSu
  go_simp
  first | done | with_reducible rfl
 try simp only [Act.put, zA, zB, zC]
 refine zT (i := 3) (v := ?_) rfl ?_ hHeld ?_
 rotate_left 1
 ·intro u hSu
  go_simp
  first | done | with_reducible rfl
 try simp only [Act.put, zA, zB, zC]
 refine zT (i := 4) (v := ?_) rfl ?_ hHeld ?_
 rotate_left 1
 ·intro u hSu
  go_simp
  first | done | with_reducible rfl
 try simp only [Act.put, zA, zB, zC]
 refine zT (i := 5) (v := ?_) rfl ?_ hHeld ?_
 rotate_left 1
 ·intro u hSu
  obtain ⟨q0u, q1u, q2u⟩ := row3B hSu.1.out.pl
  have d0u := HCC.out u hSu.1.out
  go_simp
  first | done | with_reducible rfl
 try simp only [Act.put, zA, zB, zC]
 refine zT (i := 6) (v := ?_) rfl ?_ hHeld ?_
 rotate_left 1
 ·intro u hSu
  go_simp
  first | done | with_reducible rfl
 try simp only [Act.put, zA, zB, zC]
 refine zT (i := 7) (v := ?_) rfl ?_ hHeld ?_
 rotate_left 1
 ·intro u hSu
  obtain ⟨q0u, q1u, q2u⟩ := row3B hSu.1.out.pl
  have d0u := HCC.out u hSu.1.out
  go_simp
  first | done | with_reducible rfl
 try simp only [Act.put, zA, zB, zC]
 refine wpAnyH_ready (rs := [8]) (by kernel_rfl) (by simp) ?_
 refine AllReadyH.cons (o := ⟨_, _, _, _, _, _⟩) rfl (fun Kz hK => ?_) AllReadyH.nil
 go_simp
 go_at_call 59
 refine (irplc_any y.i n _).mono ?_
 rintro e' w9 ⟨rfl, hg⟩
 have HN := And.intro (Lib.hid (hHeld.1.out.keep hg)) (Lib.hid (kept_row hHeld.2.out hg (by simp)))
 clear hg
 simp only
 refine hK.out _ _ (HN) (fun hH2 => ?_)
 clear hK Kz hHeld
 have hHeld := hH2
 clear hH2
 try simp only [Act.put, zA, zB, zC]
 refine zT (i := 9) (v := ?_) rfl ?_ hHeld ?_
 rotate_left 1
 ·intro u hSu
  go_simp
  first | done | with_reducible rfl
 try simp only [Act.put, zA, zB, zC]
 refine zT (i := 10) (v := ?_) rfl ?_ hHeld ?_
 rotate_left 1
 ·intro u hSu
  go_simp
  first | done | with_reducible rfl
 try simp only [Act.put, zA, zB, zC]
 refine zT (i := 11) (v := ?_) rfl ?_ hHeld ?_
 rotate_left 1
 ·intro u hSu
  go_simp
  first | done | with_reducible rfl
 try simp only [Act.put, zA, zB, zC]
 refine zT (i := 12) (v := ?_) rfl ?_ hHeld ?_
 rotate_left 1
 ·intro u hSu
  go_simp
  first | done | with_reducible rfl
 try simp only [Act.put, zA, zB, zC]
 refine zT (i := 13) (v := ?_) rfl ?_ hHeld ?_
 rotate_left 1
 ·intro u hSu
  go_simp
  first | done | with_reducible rfl
 try simp only [Act.put, zA, zB, zC]
 refine zT (i := 14) (v := ?_) rfl ?_ hHeld ?_
 rotate_left 1
 ·intro u hSu
  go_simp
  first | done | with_reducible rfl
 try simp only [Act.put, zA, zB, zC]
 refine zT (i := 15) (v := ?_) rfl ?_ hHeld ?_
 rotate_left 1
 ·intro u hSu
  go_simp
  first | done | with_reducible rfl
 try simp only [Act.put, zA, zB, zC]
 refine wpAnyH_done (by kernel_rfl) ?_ _
 replace K := hHeld.1
 replace HB := hHeld.2
 have hpo : plOk y.i n = true := by
  unfold plOk inV
  rw [HVL.out, Bool.true_and]
  exact decide_eq_true HID.out
 obtain ⟨hp1, hp2, hp3⟩ := vb_pl hpo
 obtain ⟨k, hk⟩ := Int.eq_ofNat_of_zero_le hp1
 rw [hk] at hp2 hp3 ⊢
 rw [Int.toNat_natCast] at hp3
 have hk64 : k < 64 := by omega
 have HK := Lib.hid (And.intro hk64 hp3)
 clear hHeld hp1 hp2 hp3 hk hpo d0 q0 q1 q2 hk64
 generalize plS y.i n = st at *
 generalize plOk y.i n = okb at *
 obtain ⟨a0, a1, a2, a3, a4, a5, a6, a7, a8, a9⟩ := p_facts HB.out
 by_cases hss : st = Q3.set
 case neg =>
  have hss' : (st == Q3.set) = false := by simpa using hss
  clear hss
  go_wp2_with fail
  exact ⟨⟨i + 1, Q3, by omega, congrArg _ (by omega), K, HB, FO⟩, by simp only [RowKit.intOf]; omega⟩
 have hss' : (st == Q3.set) = true := by simpa using hss
 clear hss
 go_wp2_with fail
 refine (next_any a 4 (by unfold I64; omega) _ K.out.tp).mono ?_
 rintro e w10 ⟨r, rfl, -, hs⟩
 replace HB := Lib.hid (kept_row HB.out hs.gr (fun e => by have := Option.some.inj e; have := K.out.lo; omega))
 replace K := Lib.hid (K.out.tape hs)
 clear hs a0 a1 a2 a3 a4 a5 a6 a7 a8 a9 hss'
 by_cases hr : 0 < r
 case neg =>
  go_wp2_with fail
  exact ⟨⟨i + 1, Q3, by omega, congrArg _ (by omega), K, HB, FO⟩, by simp only [RowKit.intOf]; omega⟩
 have hor := orU Q3.bits (b2 k) FO.out.wf.bits (b2_u64 HK.out.1)
 have FO2 : Hid (ForOk s n { Q3 with bits := Q3.bits ||| b2 k }) := Lib.hid (FO.out.bits (b := Q3.bits ||| b2 k) (u64_orl _ _ FO.out.wf.bits (b2_u64 HK.out.1)) (vb_or (by have h := FO.out.v; have hl := FO.out.len; unfold vpk at h; simp only [decide_eq_true_eq] at h; rw [← hl]; exact h.2.2.2.2.2.2.2.2) HK.out.2))
 obtain ⟨a0, a1, a2, a3, a4, a5, a6, a7, a8, a9⟩ := p_facts HB.out
 go_upto_region 12 with fail
 refine region_until (S := fun w' => Hid (FP w a s n (some ⟨gE, oE, none⟩) cE E Bq w') ∧ Hid (w'.heap[Bq]? = some (.cells (pcells Q3) 28 (0, 0)))) (fun j => j == 6) (by kernel_rfl) (⟨Lib.hid (K.out.keep (grown_drew (grown_refl _ none))), Lib.hid (kept_row HB.out (grown_drew (grown_refl _ none)) (by simp))⟩) (fun hHeld => ?_)
 refine zU (i := 0) (v := ?_) rfl ?_ hHeld ?_
 rotate_left 1
 ·intro u hSu
  go_simp
  first | done | with_reducible rfl
 try simp only [Act.put, zA, zB, zC]
 refine zU (i := 1) (v := ?_) rfl ?_ hHeld ?_
 rotate_left 1
 ·intro u hSu
  obtain ⟨a0u, a1u, a2u, a3u, a4u, a5u, a6u, a7u, a8u, a9u⟩ := p_facts hSu.2.out
  go_simp
  first | done | with_reducible rfl
 try simp only [Act.put, zA, zB, zC]
 refine zU (i := 2) (v := ?_) rfl ?_ hHeld ?_
 rotate_left 1
 ·intro u hSu
  go_simp
  first | done | with_reducible rfl
 try simp only [Act.put, zA, zB, zC]
 refine anyU_ready (rs := [3]) (by kernel_rfl) (by simp) ?_
 refine EachU.cons (o := ⟨_, _, _, _, _, _⟩) rfl (fun Kz hK => ?_) EachU.nil
 go_simp
 go_at_call 48
 refine (bit_any k HK.out.1 _).mono ?_
 rintro e' w11 ⟨rfl, rfl⟩
 simp only
 refine hK.out _ _ (fun _ => hHeld) (fun hH2 => ?_)
 clear hK Kz hHeld
 have hHeld := hH2 rfl
 clear hH2
 try simp only [Act.put, zA, zB, zC]
 refine zU (i := 4) (v := .int .u64 ((Q3.bits ||| b2 k : Nat) : Int)) rfl ?_ hHeld ?_
 ·intro u hSu
  go_simp
  first | done | exact hor | simp_all
 try simp only [Act.put, zA, zB, zC]
 refine zU (i := 5) (v := ?_) rfl ?_ hHeld ?_
 rotate_left 1
 ·intro u hSu
  go_simp
  first | done | with_reducible rfl
 try simp only [Act.put, zA, zB, zC]
 refine anyU_ready (rs := [6]) (by kernel_rfl) (by simp) ?_
 refine EachU.cons (o := ⟨_, _, _, _, _, _⟩) rfl (fun Kz hK => ?_) EachU.nil
 obtain ⟨a0, a1, a2, a3, a4, a5, a6, a7, a8, a9⟩ := p_facts HB.out
 have f8 := q_frozen HB.out 8
 have KS := Lib.hid (K.out.put 8 (.int .u64 ((Q3.bits ||| b2 k : Nat) : Int)))
 have HBS := Lib.hid (qput (Q2 := { Q3 with bits := Q3.bits ||| b2 k }) (k := 8) (v := .int .u64 ((Q3.bits ||| b2 k : Nat) : Int)) HB.out rfl)
 go_simp
 refine hK.out _ _ (fun h => by cases h) (fun _ => ?_)
 clear hK Kz
 try simp only [Act.put, zA, zB, zC]
 refine anyU_done (by kernel_rfl) ?_ _
 clear hHeld
 obtain ⟨Q4, hQ4⟩ : ∃ Q4 : Pk, { Q3 with bits := Q3.bits ||| b2 k } = Q4 := ⟨_, rfl⟩
 rw [hQ4] at HBS FO2
 clear hQ4 a0 a1 a2 a3 a4 a5 a6 a7 a8 a9
 have KS2 := Lib.hid (KS.out.keep (grown_drew (grown_refl _ none)))
 have HBS2 := Lib.hid (kept_row HBS.out (grown_drew (grown_refl _ none)) (by simp))
 go_wp2_with fail
 exact ⟨⟨i + 1, Q4, by omega, congrArg _ (by omega), KS2, HBS2, FO2⟩, by simp only [RowKit.intOf]; omega⟩
end Go.Proofs.YtpogblengagpaaaGreatDoor

/- forward: the tables of fit are valid. -/
namespace Go.Proofs.YtpogblengagpaaaGreatDoor
set_option maxRecDepth 100000
open Go.RowKit Bs
def FxN (r : Int) (X : List Int) : Prop := X.Pairwise (· < ·) ∧ X.length ≤ 7 ∧ (∀ z ∈ X, 1 ≤ z ∧ z ≤ 99) ∧ (1 < X.length → r ∉ X)
def FxM (r : Int) (E : List Ed) (M : List Rw) : Prop := M.length = E.length ∧ ∀ (i : Nat) (e : Ed) (x : Rw), E[i]? = some e → M[i]? = some x → x.id = e.i ∧ FxN r x.nx
theorem FxM.nil (r : Int) : FxM r [] [] := ⟨rfl, fun i e x h => by simp at h⟩
theorem FxM.push {r : Int} {E : List Ed} {M : List Rw} {i : Nat} {e : Ed} {x : Rw} (h : FxM r (E.take i) M) (he : E[i]? = some e) (hid : x.id = e.i) (hx : FxN r x.nx) : FxM r (E.take (i + 1)) (M ++ [x]) := by
 have hi := (List.getElem?_eq_some_iff.1 he).1
 have hl : M.length = i := by have := h.1; rw [List.length_take] at this; omega
 refine ⟨by rw [List.length_append, List.length_take, hl]; simp; omega, fun j f y hj hy => ?_⟩
 have hjl : j < i + 1 := by have := (List.getElem?_eq_some_iff.1 hj).1; rw [List.length_take] at this; omega
 rcases Nat.lt_or_ge j i with h1 | h1
 ·rw [List.getElem?_append_left (by omega)] at hy
  refine h.2 j f y ?_ hy
  rw [List.getElem?_take, if_pos h1]
  rw [List.getElem?_take, if_pos hjl] at hj
  exact hj
 ·obtain rfl : j = i := by omega
  rw [List.getElem?_take, if_pos hjl, he] at hj
  obtain rfl := Option.some.inj hj
  rw [List.getElem?_append_right (by omega), hl, Nat.sub_self] at hy
  obtain rfl : x = y := by simpa using hy
  exact ⟨hid, hx⟩
theorem fit_valid {r s n : Int} {E : List Ed} {M : List Rw} (hB : FxM r E M) (hp : vPl s n E = true) (hro2 : 1 ≤ r ∧ r ≤ 99) : ckT r s n M = 0 := by
 have hv := hp
 unfold vPl at hv
 simp only [Bool.and_eq_true, Bool.not_eq_true', decide_eq_true_eq, Bool.or_eq_true] at hv
 obtain ⟨⟨⟨⟨⟨v1, v2⟩, v3⟩, v4⟩, v5⟩, -⟩ := hv
 have hat : ∀ x ∈ M, ∃ e ∈ E, x.id = e.i ∧ FxN r x.nx := fun x hx => by
  obtain ⟨i, hi, rfl⟩ := List.getElem_of_mem hx
  have hi2 : i < E.length := by have := hB.1; omega
  exact ⟨E[i], List.getElem_mem hi2, hB.2 i E[i] M[i] (List.getElem?_eq_getElem hi2) (List.getElem?_eq_getElem hi)⟩
 have hE : ∀ e ∈ E, 1 ≤ e.i ∧ e.i ≤ 256 := fun e he => by
  have := List.any_eq_false.1 v4 e he
  unfold wrE inV at this
  simp only [Bool.not_eq_true, Bool.not_eq_false', Bool.and_eq_true, decide_eq_true_eq] at this
  exact this.2
 have c1 : hdT r s n M = false := by
  unfold hdT
  rw [Bool.not_eq_false']
  simp only [Bool.and_eq_true, Bool.or_eq_true, decide_eq_true_eq]
  refine ⟨⟨by unfold inV; simpa using hro2, v1⟩, ?_⟩
  rcases v2 with v2 | v2
  ·exact Or.inl v2
  ·exact Or.inr ⟨v2.1, by rw [hB.1]; exact v2.2⟩
 have c2 : M.any wrW = false := List.any_eq_false.2 fun x hx => by
  obtain ⟨e, he, h1, h2⟩ := hat x hx
  unfold wrW
  simp only [Bool.not_eq_true, Bool.or_eq_false_iff, Bool.not_eq_false']
  refine ⟨by unfold inV; have := hE e he; rw [h1]; simpa using this, List.any_eq_false.2 fun z hz => ?_⟩
  have := h2.2.2.1 z hz
  unfold inV
  simpa using this
 have c4 : M.any lgW = false := List.any_eq_false.2 fun x hx => by
  obtain ⟨e, he, h1, h2⟩ := hat x hx
  unfold lgW
  have := h2.2.1
  simp only [decide_eq_true_eq]
  omega
 have c5 : ascB ltW M = true := by
  refine asc_ofW M (List.pairwise_iff_getElem.2 fun i j hi hj hij => ?_)
  have hi2 : i < E.length := by have := hB.1; omega
  have hj2 : j < E.length := by have := hB.1; omega
  have h1 := (hB.2 i E[i] M[i] (List.getElem?_eq_getElem hi2) (List.getElem?_eq_getElem hi)).1
  have h2 := (hB.2 j E[j] M[j] (List.getElem?_eq_getElem hj2) (List.getElem?_eq_getElem hj)).1
  have h3 := List.pairwise_iff_getElem.1 (asc_pairT E v5) i j hi2 hj2 hij
  unfold ltW
  simp only [decide_eq_true_eq]
  omega
 have c6 : M.any dsW = false := List.any_eq_false.2 fun x hx => by
  obtain ⟨e, he, -, h2⟩ := hat x hx
  unfold dsW
  have : ascB ltI x.nx = true := asc_ofW x.nx (h2.1.imp (fun h => by unfold ltI; simpa using h))
  rw [this]; decide
 have c7 : M.any (cfW r) = false := List.any_eq_false.2 fun x hx => by
  obtain ⟨e, he, -, h2⟩ := hat x hx
  unfold cfW
  simp only [Bool.and_eq_true, decide_eq_true_eq, List.any_eq_true, not_and, not_exists]
  exact fun h1 z hz h3 => h2.2.2.2 h1 (h3 ▸ hz)
 have c3 : M.length ≤ 256 := by have := hB.1; omega
 unfold ckT
 rw [c1, c2, c4, c5, c6, c7]
 simp; omega
def XK (r : Int) (k : Nat) (X : List Int) : Prop := X.Pairwise (· < ·) ∧ X.length < k ∧ ∀ z ∈ X, 1 ≤ z ∧ z < (k : Int) ∧ z ≠ r
theorem XK.nil (r : Int) : XK r 1 [] := ⟨List.Pairwise.nil, Nat.zero_lt_one, fun z h => by cases h⟩
theorem XK.skip {r : Int} {k : Nat} {X : List Int} (h : XK r k X) : XK r (k + 1) X := ⟨h.1, by have := h.2.1; omega, fun z hz => by have := h.2.2 z hz; omega⟩
theorem XK.push {r : Int} {k : Nat} {X : List Int} (h : XK r k X) (hk : 1 ≤ k) (hr : (k : Int) ≠ r) : XK r (k + 1) (X ++ [(k : Int)]) := by
 refine ⟨List.pairwise_append.2 ⟨h.1, List.pairwise_singleton _ _, fun x hx y hy => ?_⟩, by rw [List.length_append]; have := h.2.1; simp; omega, fun z hz => ?_⟩
 ·rw [List.mem_singleton.1 hy]
  exact (h.2.2 x hx).2.1
 ·rcases List.mem_append.1 hz with hz | hz
  ·have := h.2.2 z hz; omega
  ·rw [List.mem_singleton.1 hz]
   omega
theorem XK.fin {r : Int} {X : List Int} (h : XK r 8 X) : FxN r X := ⟨h.1, by have := h.2.1; omega, fun z hz => by have := h.2.2 z hz; omega, fun _ hm => (h.2.2 r hm).2.2 rfl⟩
theorem fxN_own {r : Int} (h : 1 ≤ r ∧ r ≤ 99) : FxN r [r] := ⟨List.pairwise_singleton _ _, by simp, fun z hz => by rw [List.mem_singleton.1 hz]; exact h, fun h1 => by simp at h1⟩
theorem OwnT.pushT {lo a : Nat} {w0 w w1 : World} {v v' : Value} {M : List Rw} {x : Rw} (h : OwnT lo w0 v M) (hlo : lo ≤ w0.heap.size) (ha : a < lo) (g0 : w0.grownBy w (some a)) (hx : w.ownsRow w0.heap.size 3 1 x.v x.nx.length (x.nx.map tv)) (hown : w1.ownsRow lo 80 2 v' (M ++ [x]).length ((M ++ [x]).flatMap rwC)) (g : w.grownBy w1 v.ownBlock) (hv : v'.ownBlock = v.ownBlock ∨ ∀ b, some b = v'.ownBlock → w.heap.size ≤ b) : OwnT lo w1 v' (M ++ [x]) := by
 have hvl : ∀ b, v.ownBlock = some b → b < w0.heap.size := fun b e => (h.own.lt b e).2
 have hyl : ∀ y ∈ M, ∀ b, y.v.ownBlock = some b → b < w0.heap.size := fun y hy b e => ((h.nx y hy).lt b e).2
 have hxl : ∀ b, x.v.ownBlock = some b → w0.heap.size ≤ b ∧ b < w.heap.size := fun b e => hx.lt b e
 have hv' : ∀ b, v'.ownBlock = some b → (v.ownBlock = some b ∨ w.heap.size ≤ b) := fun b e => by
  rcases hv with hv | hv
  ·exact Or.inl (hv ▸ e)
  ·exact Or.inr (hv b e.symm)
 refine ⟨hown, fun y hy => ?_, fun y hy b hb e => ?_, ?_⟩
 ·rcases List.mem_append.1 hy with hy | hy
  ·exact own_keptV (own_otherL (h.nx y hy) g0 ha) g (h.ap y hy)
  ·rw [List.mem_singleton.1 hy]
   exact (own_keptV hx g (fun b hb e => by have := hxl b hb; have := hvl b e; omega)).mono hlo
 ·have h0 := g0.size
  rcases List.mem_append.1 hy with hy | hy
  ·rcases hv' b e with e | e
   ·exact h.ap y hy b hb e
   ·have := hyl y hy b hb; omega
  ·rw [List.mem_singleton.1 hy] at hb
   have := hxl b hb
   rcases hv' b e with e | e
   ·have := hvl b e; omega
   ·omega
 ·refine List.pairwise_append.2 ⟨h.pw, List.pairwise_singleton _ _, fun y hy z hz b hb e => ?_⟩
  rw [List.mem_singleton.1 hz] at e
  have := hyl y hy b hb
  have := hxl b e
  omega
end Go.Proofs.YtpogblengagpaaaGreatDoor
