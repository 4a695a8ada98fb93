/- PacketBack: the walk. -/
import Derived.Test.YtokolidakcfopaaDoorPkTape
import Derived.Test.YtokolidakcfopaaDoorPkBack
import Derived.Test.YtokolidakcfopaaDoorPkAwake
import Derived.Test.YtokolidakcfopaaDoorFuns
namespace Go.Proofs.YtokolidakcfopaaDoor
open Go.RowKit Bs
set_option maxRecDepth 100000 in
set_option maxHeartbeats 3200000 in
theorem back_walk (v : Value) (w : World) (hv : IntsIn w v) (hT : Tb w) :
    Calls Tryd.prog 5 #[v] w fun e w' => e = .returned (.bool true) ∧ w.grownBy w' none := by
  go_enter Tryd.func5, Tryd.ntmps5
  go_wp2_with fail
  refine (new_any v w hv).mono ?_
  rintro e w2 ⟨rfl, hg1, hT1⟩
  go_wp2_with fail
  refine (packet0_any _ _ hT1).mono ?_
  rintro e w3 ⟨P, rfl, hWf, hvp, hs⟩
  have G3 := Lib.hid (grown_tape hg1 hs.1)
  have HW := Lib.hid (And.intro hWf hvp)
  clear hs hg1 hT1 hv hWf hvp
  have hval : P.val = .agg #[.int .i64 P.mode, .int .i64 P.sub, .int .i64 P.set, .int .i64 P.len, .int .i64 P.ttl, .int .i64 P.ent, .int .i64 P.ing, .int .i64 P.pro, .int .u64 (P.bits : Int), .string P.pay] := rfl
  rw [hval]
  obtain ⟨k1, k2⟩ := one_box w3 (pcells P) 25
  have HP := Lib.hid k1
  have G4 := Lib.hid (grown_trans G3.out k2)
  have HT4 := Lib.hid (hT.keep G4.out)
  clear k1 k2 hT
  unfold pcells at HP G4 HT4
  go_wp2_with fail
  generalize w3.alloc _ = w4 at *
  change Hid (w4.heap[w3.heap.size]? = some (.cells (pcells P) 25 (0, 0))) at HP
  rw [← hval]
  refine (pencode_any P HW.out.1 w4 HT4.out).mono ?_
  rintro e w5 (⟨_, g, rfl, hB, hge, hg⟩ | ⟨h, _⟩)
  · have HB := Lib.hid hB
    have G5 := Lib.hid (grown_trans G4.out hg)
    have HT5 := Lib.hid (HT4.out.keep hg)
    have HP5 := Lib.hid (kept_row HP.out hg (by simp))
    have hlen : Hid ((enc P).length = sizeV P) := Lib.hid (by unfold sizeV; rw [if_pos HW.out.2, enc_len])
    clear hB hge hg HP
    go_wp2_with fail
    refine (pdecode_any (enc P) (pk_by _) (some ⟨g, 0, none⟩) (enc P).length (Nat.le_refl _) (fun _ => True) w5 (HB.out.rd _ trivial _)).mono ?_
    rintro e w6 ⟨rfl, hg⟩
    rw [dec_enc HW.out.1 HW.out.2]
    have hgb := World.grownBy_alloc w6 (.cells #[.int .i64 P.mode, .int .i64 P.sub, .int .i64 P.set, .int .i64 P.len, .int .i64 P.ttl, .int .i64 P.ent, .int .i64 P.ing, .int .i64 P.pro, .int .u64 (P.bits : Int), .string P.pay] 25) none
    have HP6 := Lib.hid (kept_row HP5.out (grown_trans hg hgb) (by simp))
    have G6 := Lib.hid (grown_trans G5.out (grown_trans hg hgb))
    have HT6 := Lib.hid (HT5.out.keep (grown_trans hg hgb))
    have a0 : (w6.alloc (.cells #[.int .i64 P.mode, .int .i64 P.sub, .int .i64 P.set, .int .i64 P.len, .int .i64 P.ttl, .int .i64 P.ent, .int .i64 P.ing, .int .i64 P.pro, .int .u64 (P.bits : Int), .string P.pay] 25)).cell? ⟨w3.heap.size, 0, none⟩ = some (.int .i64 P.mode) := cell_of_row _ _ _ _ _ _ HP6.out
    have a1 : (w6.alloc (.cells #[.int .i64 P.mode, .int .i64 P.sub, .int .i64 P.set, .int .i64 P.len, .int .i64 P.ttl, .int .i64 P.ent, .int .i64 P.ing, .int .i64 P.pro, .int .u64 (P.bits : Int), .string P.pay] 25)).cell? ⟨w3.heap.size, 1, none⟩ = some (.int .i64 P.sub) := cell_of_row _ _ _ _ _ _ HP6.out
    have a2 : (w6.alloc (.cells #[.int .i64 P.mode, .int .i64 P.sub, .int .i64 P.set, .int .i64 P.len, .int .i64 P.ttl, .int .i64 P.ent, .int .i64 P.ing, .int .i64 P.pro, .int .u64 (P.bits : Int), .string P.pay] 25)).cell? ⟨w3.heap.size, 2, none⟩ = some (.int .i64 P.set) := cell_of_row _ _ _ _ _ _ HP6.out
    have a3 : (w6.alloc (.cells #[.int .i64 P.mode, .int .i64 P.sub, .int .i64 P.set, .int .i64 P.len, .int .i64 P.ttl, .int .i64 P.ent, .int .i64 P.ing, .int .i64 P.pro, .int .u64 (P.bits : Int), .string P.pay] 25)).cell? ⟨w3.heap.size, 3, none⟩ = some (.int .i64 P.len) := cell_of_row _ _ _ _ _ _ HP6.out
    have a4 : (w6.alloc (.cells #[.int .i64 P.mode, .int .i64 P.sub, .int .i64 P.set, .int .i64 P.len, .int .i64 P.ttl, .int .i64 P.ent, .int .i64 P.ing, .int .i64 P.pro, .int .u64 (P.bits : Int), .string P.pay] 25)).cell? ⟨w3.heap.size, 4, none⟩ = some (.int .i64 P.ttl) := cell_of_row _ _ _ _ _ _ HP6.out
    have a5 : (w6.alloc (.cells #[.int .i64 P.mode, .int .i64 P.sub, .int .i64 P.set, .int .i64 P.len, .int .i64 P.ttl, .int .i64 P.ent, .int .i64 P.ing, .int .i64 P.pro, .int .u64 (P.bits : Int), .string P.pay] 25)).cell? ⟨w3.heap.size, 5, none⟩ = some (.int .i64 P.ent) := cell_of_row _ _ _ _ _ _ HP6.out
    have a6 : (w6.alloc (.cells #[.int .i64 P.mode, .int .i64 P.sub, .int .i64 P.set, .int .i64 P.len, .int .i64 P.ttl, .int .i64 P.ent, .int .i64 P.ing, .int .i64 P.pro, .int .u64 (P.bits : Int), .string P.pay] 25)).cell? ⟨w3.heap.size, 6, none⟩ = some (.int .i64 P.ing) := cell_of_row _ _ _ _ _ _ HP6.out
    have a7 : (w6.alloc (.cells #[.int .i64 P.mode, .int .i64 P.sub, .int .i64 P.set, .int .i64 P.len, .int .i64 P.ttl, .int .i64 P.ent, .int .i64 P.ing, .int .i64 P.pro, .int .u64 (P.bits : Int), .string P.pay] 25)).cell? ⟨w3.heap.size, 7, none⟩ = some (.int .i64 P.pro) := cell_of_row _ _ _ _ _ _ HP6.out
    have a8 : (w6.alloc (.cells #[.int .i64 P.mode, .int .i64 P.sub, .int .i64 P.set, .int .i64 P.len, .int .i64 P.ttl, .int .i64 P.ent, .int .i64 P.ing, .int .i64 P.pro, .int .u64 (P.bits : Int), .string P.pay] 25)).cell? ⟨w3.heap.size, 8, none⟩ = some (.int .u64 (P.bits : Int)) := cell_of_row _ _ _ _ _ _ HP6.out
    have a9 : (w6.alloc (.cells #[.int .i64 P.mode, .int .i64 P.sub, .int .i64 P.set, .int .i64 P.len, .int .i64 P.ttl, .int .i64 P.ent, .int .i64 P.ing, .int .i64 P.pro, .int .u64 (P.bits : Int), .string P.pay] 25)).cell? ⟨w3.heap.size, 9, none⟩ = some (.string P.pay) := cell_of_row _ _ _ _ _ _ HP6.out
    clear hg hgb HP5 HB
    unfold pcells
    go_wp2_with fail
    rw [← hval]
    refine (psize_any P HW.out.1 _).mono ?_
    rintro e w7 ⟨rfl, hg⟩
    rw [← hlen.out]
    have G7 := Lib.hid (grown_trans G6.out hg)
    have HT7 := Lib.hid (HT6.out.keep hg)
    clear hg a0 a1 a2 a3 a4 a5 a6 a7 a8 a9
    go_wp2_with fail
    refine (awake_any _ HT7.out).mono ?_
    rintro e w8 ⟨rfl, hg⟩
    have G8 := Lib.hid (grown_trans G7.out hg)
    clear hg
    go_wp2_with fail
    go_ret
    exact ⟨rfl, G8.out⟩
  · rw [HW.out.2] at h; cases h
end Go.Proofs.YtokolidakcfopaaDoor
