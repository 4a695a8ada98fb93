/- PacketValid: the walk. -/
import Derived.Test.YtnfgkakhdgiepaaDoorPkList
import Derived.Test.YtnfgkakhdgiepaaDoorPkAwake
import Derived.Test.YtnfgkakhdgiepaaDoorPkRefs2
import Derived.Test.YtnfgkakhdgiepaaDoorPkSize
import Derived.Test.YtnfgkakhdgiepaaDoorFuns
namespace Go.Proofs.YtnfgkakhdgiepaaDoor
open Go.RowKit Bs
set_option maxRecDepth 100000 in
theorem pvalid_agg (P : Pk) (hP : P.Wf) (w : World) :
    Calls Tryd.prog 16 #[.agg #[.int .i64 P.mode, .int .i64 P.sub, .int .i64 P.set, .int .i64 P.len, .int .i64 P.ttl, .int .i64 P.ent, .int .i64 P.ing, .int .i64 P.pro, .int .u64 (P.bits : Int), .string P.pay]] w fun e w' => e = .returned (.bool (vpk P)) ∧ w.grownBy w' none := pvalid_any P hP w
set_option maxRecDepth 100000 in
theorem rvalid_agg (P : Pk) (hP : P.Wf) (w : World) :
    Calls Tryd.prog 17 #[.agg #[.int .i64 P.mode, .int .i64 P.sub, .int .i64 P.set, .int .i64 P.len, .int .i64 P.ttl, .int .i64 P.ent, .int .i64 P.ing, .int .i64 P.pro, .int .u64 (P.bits : Int), .string P.pay]] w fun e w' => e = .returned (.bool (vpk P)) ∧ w.grownBy w' none := rvalid_any P hP w
set_option maxRecDepth 100000 in
theorem psize_agg (P : Pk) (hP : P.Wf) (w : World) :
    Calls Tryd.prog 18 #[.agg #[.int .i64 P.mode, .int .i64 P.sub, .int .i64 P.set, .int .i64 P.len, .int .i64 P.ttl, .int .i64 P.ent, .int .i64 P.ing, .int .i64 P.pro, .int .u64 (P.bits : Int), .string P.pay]] w fun e w' => e = .returned (.int .i64 ((sizeV P : Nat) : Int)) ∧ w.grownBy w' none := psize_any P hP w
set_option maxRecDepth 100000 in
theorem rsize_agg (P : Pk) (hP : P.Wf) (w : World) :
    Calls Tryd.prog 19 #[.agg #[.int .i64 P.mode, .int .i64 P.sub, .int .i64 P.set, .int .i64 P.len, .int .i64 P.ttl, .int .i64 P.ent, .int .i64 P.ing, .int .i64 P.pro, .int .u64 (P.bits : Int), .string P.pay]] w fun e w' => e = .returned (.int .i64 ((sizeV P : Nat) : Int)) ∧ w.grownBy w' none := rsize_any P hP w
set_option maxRecDepth 100000 in
theorem pplane_agg (P : Pk) (hP : P.Wf) (w : World) :
    Calls Tryd.prog 20 #[.agg #[.int .i64 P.mode, .int .i64 P.sub, .int .i64 P.set, .int .i64 P.len, .int .i64 P.ttl, .int .i64 P.ent, .int .i64 P.ing, .int .i64 P.pro, .int .u64 (P.bits : Int), .string P.pay]] w fun e w' => e = .returned (.int .i64 (planeV P)) ∧ w.grownBy w' none := pplane_any P hP w
set_option maxRecDepth 100000 in
theorem rplane_agg (P : Pk) (hP : P.Wf) (w : World) :
    Calls Tryd.prog 21 #[.agg #[.int .i64 P.mode, .int .i64 P.sub, .int .i64 P.set, .int .i64 P.len, .int .i64 P.ttl, .int .i64 P.ent, .int .i64 P.ing, .int .i64 P.pro, .int .u64 (P.bits : Int), .string P.pay]] w fun e w' => e = .returned (.int .i64 (planeV P)) ∧ w.grownBy w' none := rplane_any P hP w
set_option maxRecDepth 100000 in
theorem keep11 {w0 w' : World} {b j : Nat} {P : Pk} (h : At10 w0 b j P) (hg : Hid (w0.grownBy w' none)) :
    w'.cell? ⟨b, j * 10, none⟩ = some (.int .i64 P.mode) ∧ w'.cell? ⟨b, j * 10 + 1, none⟩ = some (.int .i64 P.sub) ∧ w'.cell? ⟨b, j * 10 + 2, none⟩ = some (.int .i64 P.set) ∧ w'.cell? ⟨b, j * 10 + 3, none⟩ = some (.int .i64 P.len) ∧ w'.cell? ⟨b, j * 10 + 4, none⟩ = some (.int .i64 P.ttl) ∧ w'.cell? ⟨b, j * 10 + 5, none⟩ = some (.int .i64 P.ent) ∧ w'.cell? ⟨b, j * 10 + 6, none⟩ = some (.int .i64 P.ing) ∧ w'.cell? ⟨b, j * 10 + 7, none⟩ = some (.int .i64 P.pro) ∧ w'.cell? ⟨b, j * 10 + 8, none⟩ = some (.int .u64 (P.bits : Int)) ∧ w'.cell? ⟨b, j * 10 + 9, none⟩ = some (.string P.pay) ∧ Hid (w0.grownBy w' none) := by
  obtain ⟨h0, h1, h2, h3, h4, h5, h6, h7, h8, h9⟩ := h.keep hg.out
  exact ⟨h0, h1, h2, h3, h4, h5, h6, h7, h8, h9, hg⟩
set_option maxRecDepth 100000 in
theorem hid_none (w : World) : Hid (w.grownBy w.drew none) := Lib.hid (grown_drew (grown_refl _ _))
set_option maxRecDepth 100000 in
set_option maxHeartbeats 3200000 in
theorem valid_walk (v : Value) (P3 : Pk) (h3 : P3.Wf) (w : World) (hv : IntsIn w v) (hT : Tb w) :
    Calls Tryd.prog 3 #[v, P3.val] w fun e w' => e = .returned (.bool true) ∧ w.grownBy w' none := by
  have hval : P3.val = .agg #[.int .i64 P3.mode, .int .i64 P3.sub, .int .i64 P3.set, .int .i64 P3.len, .int .i64 P3.ttl, .int .i64 P3.ent, .int .i64 P3.ing, .int .i64 P3.pro, .int .u64 (P3.bits : Int), .string P3.pay] := rfl
  rw [hval]
  go_enter Tryd.func3, Tryd.ntmps3
  go_wp2_with fail
  obtain ⟨k1, k2⟩ := one_box w (pcells P3) 25
  have hv2 := ints_keep hv k2
  have HT0 := Lib.hid hT
  have HP := Lib.hid (And.intro k1 k2)
  clear k1 k2 hT hv
  unfold pcells at HP hv2
  generalize w.alloc _ = wa at *
  change Hid (wa.heap[w.heap.size]? = some (.cells (pcells P3) 25 (0, 0)) ∧ w.grownBy wa none) at HP
  refine (new_any v wa hv2).mono ?_
  rintro e w2 ⟨rfl, hg1, hT1⟩
  have HP2 := Lib.hid (And.intro (kept_row HP.out.1 hg1 (by simp)) (grown_trans HP.out.2 hg1))
  have HAB : Hid (w.heap.size ≠ wa.heap.size) := Lib.hid (Nat.ne_of_lt (World.lt_of_row' HP.out.1))
  have GR : Hid (w2.grownBy w2 (some wa.heap.size)) := Lib.hid (grown_refl _ _)
  obtain ⟨a0, a1, a2, a3, a4, a5, a6, a7, a8, a9⟩ := p_facts HP2.out.1
  have HW := Lib.hid (World.lt_of_row' HP.out.1)
  clear HP hv2
  go_upto_region 2 with fail
  go_cut [6] from 10 to 15 (fun ll wx => ∃ P1 P2 : Pk, ∃ wz, P1.Wf ∧ P2.Wf ∧ ll = .slice (some ⟨wz.heap.size, 0, none⟩) 3 3 ∧ wx = wz.alloc (.cells (c30 P1 P2 P3) 25) ∧ Hid (w2.grownBy wz (some wa.heap.size)))
  case first =>
    go_region_held3 (fun w' => w'.cell? ⟨w.heap.size, 0, none⟩ = some (.int .i64 P3.mode) ∧ w'.cell? ⟨w.heap.size, 1, none⟩ = some (.int .i64 P3.sub) ∧ w'.cell? ⟨w.heap.size, 2, none⟩ = some (.int .i64 P3.set) ∧ w'.cell? ⟨w.heap.size, 3, none⟩ = some (.int .i64 P3.len) ∧ w'.cell? ⟨w.heap.size, 4, none⟩ = some (.int .i64 P3.ttl) ∧ w'.cell? ⟨w.heap.size, 5, none⟩ = some (.int .i64 P3.ent) ∧ w'.cell? ⟨w.heap.size, 6, none⟩ = some (.int .i64 P3.ing) ∧ w'.cell? ⟨w.heap.size, 7, none⟩ = some (.int .i64 P3.pro) ∧ w'.cell? ⟨w.heap.size, 8, none⟩ = some (.int .u64 (P3.bits : Int)) ∧ w'.cell? ⟨w.heap.size, 9, none⟩ = some (.string P3.pay) ∧ Tp w' wa.heap.size ∧ Hid (w2.grownBy w' (some wa.heap.size)))
      (first | with_reducible exact keep12 HP2.out.1 HAB.out hT1.drew (hid_drew GR) | (go_split_ands; with_reducible refine keep12 HP2.out.1 HAB.out hsk.tp (hid_more ?_ hsk.gr); with_reducible assumption) | (go_split_ands; with_reducible refine keep12 HP2.out.1 HAB.out (Tp.alloc ?_ _) (hid_more ?_ (World.grownBy_alloc _ _ _)) <;> with_reducible assumption) | (go_split_ands; with_reducible refine keep12 HP2.out.1 HAB.out ?_ ?_ <;> with_reducible assumption))
      (first
        | ((fail_if_success (have := hs1)); go_at_call 15; refine (packetN_agg _ _ (by decide) (by decide) _ ?_).mono ?_; (go_split_ands; with_reducible assumption); rintro e w' ⟨P1, rfl, hP1, hsk⟩; have hs1 := Lib.hid hsk)
        | (go_at_call 15; refine (packetN_agg _ _ (by decide) (by decide) _ ?_).mono ?_; (go_split_ands; with_reducible assumption); rintro e w' ⟨P2, rfl, hP2, hsk⟩; have hs2 := Lib.hid hsk))
    all_goals
      have GZ := Lib.hid (grown_trans (grown_undrew_some hs1.out.gr) hs2.out.gr)
      go_wp2_with fail
      go_meet
      exact ⟨P1, P2, w', hP1, hP2, rfl, rfl, GZ⟩
  case rest =>
    obtain ⟨P1, P2, wz, hP1, hP2, rfl, rfl, hgz⟩ := hcut
    have hHL := heap_alloc_new wz (.cells (c30 P1 P2 P3) 25)
    have hG5 := grown_trans (grown_new HP2.out.2 hgz.out (Nat.le_of_lt HW.out)) (World.grownBy_alloc wz (.cells (c30 P1 P2 P3) 25) none)
    have HW5 := Lib.hid (And.intro hP1 hP2)
    clear HP2 hgz hT1 GR HAB HW a0 a1 a2 a3 a4 a5 a6 a7 a8 a9 hP1 hP2 hval hg1
    generalize wz.alloc (.cells (c30 P1 P2 P3) 25) = w5 at *
    have HL := Lib.hid hHL
    have G5 := Lib.hid hG5
    clear hHL hG5
    go_wp2_with fail
    go_loopw [7] (fun i wr => ∃ j : Nat, j ≤ 3 ∧ i = .int .i64 (j : Int) ∧ Hid (w5.grownBy wr none)) (fun i _ => (3 - (intOf i).toNat))
    case atStart => exact ⟨0, Nat.zero_le _, rfl, Lib.hid (grown_refl _ _)⟩
    case round =>
      obtain ⟨j, hj, rfl, hR⟩ := hrel
      by_cases hj3 : j < 3
      · have hA := (c30_at HL.out j hj3).keep hR.out
        have hQ := sel3_wf HW5.out.1 HW5.out.2 h3 j
        generalize sel3 P1 P2 P3 j = Q at *
        obtain ⟨a0, a1, a2, a3, a4, a5, a6, a7, a8, a9⟩ := id hA
        have j0 : (0 : Int) ≤ (j : Int) := by omega
        have j3 : (j : Int) < 3 := by omega
        have HA := Lib.hid hA
        have HQ := Lib.hid hQ
        clear hA hQ
        have n1 : (vpk Q == vpk Q) = true := by simp
        have n2 : (((sizeV Q : Nat) : Int) == ((sizeV Q : Nat) : Int)) = true := by simp
        have n3 : (planeV Q == planeV Q) = true := by simp
        go_wp2_with fail
        go_region_held3 (fun w' => w'.cell? ⟨wz.heap.size, j * 10, none⟩ = some (.int .i64 Q.mode) ∧ w'.cell? ⟨wz.heap.size, j * 10 + 1, none⟩ = some (.int .i64 Q.sub) ∧ w'.cell? ⟨wz.heap.size, j * 10 + 2, none⟩ = some (.int .i64 Q.set) ∧ w'.cell? ⟨wz.heap.size, j * 10 + 3, none⟩ = some (.int .i64 Q.len) ∧ w'.cell? ⟨wz.heap.size, j * 10 + 4, none⟩ = some (.int .i64 Q.ttl) ∧ w'.cell? ⟨wz.heap.size, j * 10 + 5, none⟩ = some (.int .i64 Q.ent) ∧ w'.cell? ⟨wz.heap.size, j * 10 + 6, none⟩ = some (.int .i64 Q.ing) ∧ w'.cell? ⟨wz.heap.size, j * 10 + 7, none⟩ = some (.int .i64 Q.pro) ∧ w'.cell? ⟨wz.heap.size, j * 10 + 8, none⟩ = some (.int .u64 (Q.bits : Int)) ∧ w'.cell? ⟨wz.heap.size, j * 10 + 9, none⟩ = some (.string Q.pay) ∧ Hid (wr.grownBy w' none))
          (first | with_reducible exact keep11 HA.out (hid_none _) | (go_split_ands; with_reducible refine keep11 HA.out (hid_more ?_ hap); with_reducible assumption) | (go_split_ands; with_reducible refine keep11 HA.out ?_; with_reducible assumption))
          (first
            | (go_at_call 16; refine (pvalid_agg Q HQ.out _).mono ?_; rintro e w' ⟨rfl, hap⟩)
            | (go_at_call 17; refine (rvalid_agg Q HQ.out _).mono ?_; rintro e w' ⟨rfl, hap⟩)
            | (go_at_call 18; refine (psize_agg Q HQ.out _).mono ?_; rintro e w' ⟨rfl, hap⟩)
            | (go_at_call 19; refine (rsize_agg Q HQ.out _).mono ?_; rintro e w' ⟨rfl, hap⟩)
            | (go_at_call 20; refine (pplane_agg Q HQ.out _).mono ?_; rintro e w' ⟨rfl, hap⟩)
            | (go_at_call 21; refine (rplane_agg Q HQ.out _).mono ?_; rintro e w' ⟨rfl, hap⟩))
        all_goals
          go_split_ands
          have GW : Hid (wr.grownBy w' none) := by assumption
          have HR2 := Lib.hid (grown_trans hR.out GW.out)
          clear GW a0 a1 a2 a3 a4 a5 a6 a7 a8 a9 n1 n2 n3 HA HQ
          go_wp2_with fail
          go_roundw
          case rel => exact ⟨j + 1, by omega, rfl, HR2⟩
          case measure => simp [intOf]; omega
      · obtain rfl : j = 3 := by omega
        have GR := Lib.hid (grown_trans G5.out hR.out)
        have hT9 := HT0.out.keep GR.out
        clear hj3 hR HL G5 HW5 hj
        go_wp2_with fail
        refine (awake_any _ hT9).mono ?_
        rintro e w8 ⟨rfl, hg⟩
        have G8 := Lib.hid (grown_trans GR.out hg)
        clear hg
        go_wp2_with fail
        go_ret
        exact ⟨rfl, G8.out⟩
end Go.Proofs.YtnfgkakhdgiepaaDoor
