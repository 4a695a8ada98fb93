/- packet: the chapter's example. -/
import Derived.Test.YtnfgkakhdgiepaaDoorPkEncode
import Derived.Test.YtnfgkakhdgiepaaDoorPkDecode
import Derived.Test.YtnfgkakhdgiepaaDoorPkSize
namespace Go.Proofs.YtnfgkakhdgiepaaDoor
open Go.RowKit Bs
/-- The example's packet. -/
def exP : Pk := ⟨1, 0, 0, 8, 0, 0, 0, 0, 0, ⟨#[]⟩⟩
set_option maxRecDepth 100000 in
theorem ex_valid : vpk exP = true := by decide +kernel
set_option maxRecDepth 100000 in
theorem ex_enc : enc exP = [144, 0, 0, 0, 0, 0, 0, 109, 76, 0] := by decide +kernel
set_option maxRecDepth 100000 in
theorem ex_size : sizeV exP = 10 := by decide +kernel
set_option maxRecDepth 100000 in
theorem ex_wf : exP.Wf := ⟨by unfold I64; decide, by unfold I64; decide, by unfold I64; decide, by unfold I64; decide, by unfold I64; decide, by unfold I64; decide, by unfold I64; decide, by unfold I64; decide, by unfold U64; decide, by decide⟩
set_option maxRecDepth 100000 in
theorem ex_dec : decV [144, 0, 0, 0, 0, 0, 0, 109, 76, 0] = (#[.int .i64 1, .int .i64 0, .int .i64 0, .int .i64 8, .int .i64 0, .int .i64 0, .int .i64 0, .int .i64 0, .int .u64 0, .string ⟨#[]⟩], 0) := by kernel_rfl
set_option maxRecDepth 100000 in
set_option maxHeartbeats 3200000 in
theorem awake_any (w : World) (hT : Tb w) :
    Calls Tryd.prog 22 #[] w fun e w' => e = .returned (.bool true) ∧ w.grownBy w' none := by
  go_enter Tryd.func22, Tryd.ntmps22
  go_wp2_with fail
  obtain ⟨k1, k2⟩ := one_box w #[.int .i64 1, .int .i64 0, .int .i64 0, .int .i64 8, .int .i64 0, .int .i64 0, .int .i64 0, .int .i64 0, .int .u64 0, .string ⟨#[]⟩] 25
  have HP := Lib.hid (And.intro k1 k2)
  have HT := Lib.hid (hT.keep k2)
  clear k1 k2
  generalize w.alloc _ = wa at *
  refine (pencode_any exP ex_wf wa HT.out).mono ?_
  rintro e w2 (⟨_, g, rfl, hB, hge, hg⟩ | ⟨h, _⟩)
  · rw [ex_enc] at hB ⊢
    have HQ := Lib.hid (And.intro (kept_row HP.out.1 hg (by simp)) (grown_trans HP.out.2 hg))
    have HB := Lib.hid hB
    clear hB hge hg HP
    go_wp2_with fail
    refine (pdecode_any [144, 0, 0, 0, 0, 0, 0, 109, 76, 0] (by intro x hx; simp at hx; omega) (some ⟨g, 0, none⟩) 10 (Nat.le_refl _) (fun _ => True) w2 (HB.out.rd _ trivial _)).mono ?_
    rintro e w3 ⟨rfl, hg⟩
    rw [ex_dec]
    have hgb := World.grownBy_alloc w3 (.cells #[.int .i64 1, .int .i64 0, .int .i64 0, .int .i64 8, .int .i64 0, .int .i64 0, .int .i64 0, .int .i64 0, .int .u64 0, .string ⟨#[]⟩] 25) none
    have HQ3 := Lib.hid (And.intro (kept_row HQ.out.1 (grown_trans hg hgb) (by simp)) (grown_trans HQ.out.2 (grown_trans hg hgb)))
    have hB3 := (HB.out.keep hg).keep hgb
    have b0 : (w3.alloc (.cells #[.int .i64 1, .int .i64 0, .int .i64 0, .int .i64 8, .int .i64 0, .int .i64 0, .int .i64 0, .int .i64 0, .int .u64 0, .string ⟨#[]⟩] 25)).cell? ⟨g, 0, none⟩ = some (.int .u8 144) := hB3.cell (j := 0) (by decide)
    have a0 : (w3.alloc (.cells #[.int .i64 1, .int .i64 0, .int .i64 0, .int .i64 8, .int .i64 0, .int .i64 0, .int .i64 0, .int .i64 0, .int .u64 0, .string ⟨#[]⟩] 25)).cell? ⟨w.heap.size, 0, none⟩ = some (.int .i64 1) := cell_of_row _ _ _ _ _ _ HQ3.out.1
    have a1 : (w3.alloc (.cells #[.int .i64 1, .int .i64 0, .int .i64 0, .int .i64 8, .int .i64 0, .int .i64 0, .int .i64 0, .int .i64 0, .int .u64 0, .string ⟨#[]⟩] 25)).cell? ⟨w.heap.size, 1, none⟩ = some (.int .i64 0) := cell_of_row _ _ _ _ _ _ HQ3.out.1
    have a2 : (w3.alloc (.cells #[.int .i64 1, .int .i64 0, .int .i64 0, .int .i64 8, .int .i64 0, .int .i64 0, .int .i64 0, .int .i64 0, .int .u64 0, .string ⟨#[]⟩] 25)).cell? ⟨w.heap.size, 2, none⟩ = some (.int .i64 0) := cell_of_row _ _ _ _ _ _ HQ3.out.1
    have a3 : (w3.alloc (.cells #[.int .i64 1, .int .i64 0, .int .i64 0, .int .i64 8, .int .i64 0, .int .i64 0, .int .i64 0, .int .i64 0, .int .u64 0, .string ⟨#[]⟩] 25)).cell? ⟨w.heap.size, 3, none⟩ = some (.int .i64 8) := cell_of_row _ _ _ _ _ _ HQ3.out.1
    have a4 : (w3.alloc (.cells #[.int .i64 1, .int .i64 0, .int .i64 0, .int .i64 8, .int .i64 0, .int .i64 0, .int .i64 0, .int .i64 0, .int .u64 0, .string ⟨#[]⟩] 25)).cell? ⟨w.heap.size, 4, none⟩ = some (.int .i64 0) := cell_of_row _ _ _ _ _ _ HQ3.out.1
    have a5 : (w3.alloc (.cells #[.int .i64 1, .int .i64 0, .int .i64 0, .int .i64 8, .int .i64 0, .int .i64 0, .int .i64 0, .int .i64 0, .int .u64 0, .string ⟨#[]⟩] 25)).cell? ⟨w.heap.size, 5, none⟩ = some (.int .i64 0) := cell_of_row _ _ _ _ _ _ HQ3.out.1
    have a6 : (w3.alloc (.cells #[.int .i64 1, .int .i64 0, .int .i64 0, .int .i64 8, .int .i64 0, .int .i64 0, .int .i64 0, .int .i64 0, .int .u64 0, .string ⟨#[]⟩] 25)).cell? ⟨w.heap.size, 6, none⟩ = some (.int .i64 0) := cell_of_row _ _ _ _ _ _ HQ3.out.1
    have a7 : (w3.alloc (.cells #[.int .i64 1, .int .i64 0, .int .i64 0, .int .i64 8, .int .i64 0, .int .i64 0, .int .i64 0, .int .i64 0, .int .u64 0, .string ⟨#[]⟩] 25)).cell? ⟨w.heap.size, 7, none⟩ = some (.int .i64 0) := cell_of_row _ _ _ _ _ _ HQ3.out.1
    have a8 : (w3.alloc (.cells #[.int .i64 1, .int .i64 0, .int .i64 0, .int .i64 8, .int .i64 0, .int .i64 0, .int .i64 0, .int .i64 0, .int .u64 0, .string ⟨#[]⟩] 25)).cell? ⟨w.heap.size, 8, none⟩ = some (.int .u64 0) := cell_of_row _ _ _ _ _ _ HQ3.out.1
    have a9 : (w3.alloc (.cells #[.int .i64 1, .int .i64 0, .int .i64 0, .int .i64 8, .int .i64 0, .int .i64 0, .int .i64 0, .int .i64 0, .int .u64 0, .string ⟨#[]⟩] 25)).cell? ⟨w.heap.size, 9, none⟩ = some (.string ⟨#[]⟩) := cell_of_row _ _ _ _ _ _ HQ3.out.1
    clear hg hgb hB3 HQ HB
    go_wp2_with fail
    refine (psize_any exP ex_wf _).mono ?_
    rintro e w5 ⟨rfl, hg⟩
    rw [ex_size]
    have GE := Lib.hid (grown_trans HQ3.out.2 hg)
    clear hg b0 a0 a1 a2 a3 a4 a5 a6 a7 a8 a9
    go_wp2_with fail
    go_ret
    exact ⟨rfl, GE.out⟩
  · rw [ex_valid] at h; cases h
end Go.Proofs.YtnfgkakhdgiepaaDoor
