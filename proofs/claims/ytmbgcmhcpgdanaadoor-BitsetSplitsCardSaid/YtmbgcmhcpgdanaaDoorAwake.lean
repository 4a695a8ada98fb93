/- The chapter's examples, as the statements ask them. -/
import Derived.Test.YtmbgcmhcpgdanaaDoorSplit
namespace Go.Proofs.YtmbgcmhcpgdanaaDoor
open Go.RowKit Bs

theorem rd_new (w : World) (cs : Array Value) (t : TypeId) (c : Nat) : Rd (w.alloc (.cells cs t)) (· = w.heap.size) (.slice (some ⟨w.heap.size, 0, none⟩) cs.toList.length c) cs.toList := by
  have hb : (w.alloc (.cells cs t)).heap[w.heap.size]? = some (.cells cs t (0, 0)) := heap_alloc_new w _
  refine ⟨_, c, rfl, fun _ => ⟨w.heap.size, 0, rfl, rfl, fun i x hi => ?_⟩⟩
  rw [Nat.zero_add, cell_of_row _ _ _ _ _ _ hb]
  simpa using hi
theorem ex_split : prts 15 [6, 3] 2 = [6, 1] ∧ rst 15 [6, 3] 2 = 8 := by decide +kernel
theorem ex_list : bl 10 = [1, 3] := by decide +kernel
theorem ex_nth : nth 10 1 = 3 := by decide +kernel
theorem ex_rank : rk 10 3 = 1 := by decide +kernel
theorem ex_fmt : fmt 10 8 = [48, 48, 48, 48, 49, 48, 49, 48] := by decide +kernel
theorem ex_spread : spread 2 10 = 8 := by decide +kernel
theorem ex_u64 : U64 15 ∧ U64 10 ∧ U64 2 := by unfold U64; decide
theorem ex_masks : ∀ m ∈ ([6, 3] : List Nat), U64 m := by unfold U64; decide
set_option maxHeartbeats 800000 in
theorem awake_any (w : World) (hT : Tb w) :
    Calls Tryd.prog 21 #[] w fun e w' => Nw (.bool true) w e w' := by
  have u15 := ex_u64.1
  have u10 := ex_u64.2.1
  have u2 := ex_u64.2.2
  go_enter Tryd.func21, Tryd.ntmps21
  go_wp2_with fail
  refine (splitp_any 15 [6, 3] _ _ _ u15 ex_masks (by decide) _ (rd_new w #[uval 6, uval 3] 23 2)).mono ?_
  rintro e w1 ⟨v, rfl, hV, hg1⟩
  obtain ⟨e1, e2⟩ := ex_split
  have g1 : w.grownBy w1 none := grown_trans (World.grownBy_alloc w _ _) hg1
  rw [show ([6, 3] : List Nat).length = 2 from rfl, e1] at hV
  rw [show ([6, 3] : List Nat).length = 2 from rfl, e2]
  obtain ⟨p, c, rfl⟩ := hV.form (n := 2) rfl
  clear e1 e2
  go_wp2_with fail
  refine (listp_any 10 u10 _ (hT.keep g1)).mono ?_
  rintro e w2 ⟨v2, rfl, hV2, hg2⟩
  have g2 : w.grownBy w2 none := grown_trans g1 hg2
  rw [ex_list] at hV2
  obtain ⟨p2, c2, rfl⟩ := hV2.form (n := 2) rfl
  go_wp2_with fail
  refine (ints_eq [1, 3] (by decide) _ _ _ _ _ _ _ (hV2.keep (World.grownBy_alloc w2 _ _)) (rd_new w2 #[ival 1, ival 3] 3 2)).mono ?_
  rintro e w3 ⟨rfl, nq, rfl⟩
  have g3 : w.grownBy ((w2.alloc (.cells #[ival 1, ival 3] 3)).drewN nq) none := grown_trans (grown_trans g2 (World.grownBy_alloc w2 _ _)) (grown_drewN _ _ _)
  have G3 := Lib.hid g3
  have T3 := hT.keep g3
  have k3 : w1.grownBy ((w2.alloc (.cells #[ival 1, ival 3] 3)).drewN nq) none := grown_trans (grown_trans hg2 (World.grownBy_alloc w2 _ _)) (grown_drewN _ _ _)
  have V3 := hV.keep k3
  clear hV hV2 hg1 hg2 g1 g2 g3 k3
  generalize ((w2.alloc (.cells #[ival 1, ival 3] 3)).drewN nq) = w4 at *
  have n31 : I64 1 := by unfold I64; omega
  have N1 := nthp_any 10 1 u10 n31 w4 T3
  rw [ex_nth] at N1
  have HN1 := Lib.hid N1
  have R1 := rankp_any 10 3 u10 w4
  rw [ex_rank] at R1
  have HR1 := Lib.hid R1
  have F1 := formatp_any 10 8 u10 w4
  rw [ex_fmt] at F1
  have HF1 := Lib.hid F1
  clear N1 R1 F1
  go_wp2_with fail
  refine HN1.out.mono ?_
  rintro e w' ⟨rfl, rfl⟩
  go_wp2_with fail
  refine HR1.out.mono ?_
  rintro e w' ⟨rfl, rfl⟩
  go_wp2_with fail
  refine HF1.out.mono ?_
  rintro e w5 ⟨rfl, hg5⟩
  have G5 := Lib.hid (grown_trans G3.out hg5)
  have T5 := T3.keep hg5
  have S1 := spreadp_any 2 10 u2 u10 w5 T5
  rw [ex_spread] at S1
  have HS1 := Lib.hid S1
  have V5 := V3.keep hg5
  obtain ⟨g, off, rfl, c0⟩ := V5.at_ (i := 0) rfl
  obtain ⟨_, _, e2, c1⟩ := V5.at_ (i := 1) rfl
  injection e2 with e2
  injection e2 with e3 e4
  subst e3; subst e4
  have d0 : w5.cell? ⟨g, off, none⟩ = some (.int .u64 6) := c0
  have d1 : w5.cell? ⟨g, off + 1, none⟩ = some (.int .u64 1) := c1
  clear S1 V5 V3 T3 hg5 c0 c1
  go_wp2_with fail
  refine HS1.out.mono ?_
  rintro e w' ⟨rfl, rfl⟩
  go_wp2_with fail
  go_ret
  exact ⟨rfl, G5.out⟩
end Go.Proofs.YtmbgcmhcpgdanaaDoor
