/- BitsetLengths: the walk. -/
import Derived.Test.YtmbgcmhcpgdanaaDoorAwake
import Derived.Test.YtmbgcmhcpgdanaaDoorDraw
import Derived.Test.YtmbgcmhcpgdanaaDoorQuiet
namespace Go.Proofs.YtmbgcmhcpgdanaaDoor
open Go.RowKit Bs
theorem ints3 {w w' : World} {n r1 r2 : Int} {a : Nat} (ha : a < w.heap.size) (g : (w.alloc (.cells #[.int .i64 n, .int .i64 r1, .int .i64 r2] 3)).grownBy w' (some a)) :
    ∀ j, j < 3 → ∃ y : Int, w'.cell? ⟨w.heap.size, j, none⟩ = some (.int .i64 y) := by
  intro j hj
  have A := among_list (fun _ => True) w a [n, r1, r2] _ 3 ha rfl (by simp)
  obtain ⟨y, _, hy⟩ := A.at_ g j hj
  exact ⟨y, by rw [Nat.zero_add] at hy; exact hy⟩
theorem words3 (w : World) {b x y : Nat} (hb : U64 b) (hx : U64 x) (hy : U64 y) :
    ∀ j, j < 3 → ∃ z : Nat, U64 z ∧ (w.alloc (.cells #[.int .u64 (b : Int), .int .u64 (x : Int), .int .u64 (y : Int)] 23)).cell? ⟨w.heap.size, j, none⟩ = some (.int .u64 (z : Int)) := by
  intro j hj
  have hh : (w.alloc (.cells #[.int .u64 (b : Int), .int .u64 (x : Int), .int .u64 (y : Int)] 23)).heap[w.heap.size]? = _ := heap_alloc_new w _
  rw [cell_of_row _ _ _ _ _ _ hh]
  match j, hj with
  | 0, _ => exact ⟨b, hb, rfl⟩
  | 1, _ => exact ⟨x, hx, rfl⟩
  | 2, _ => exact ⟨y, hy, rfl⟩
theorem ints3w (w : World) {x y z : Int} (hx : I64 x) (hy : I64 y) (hz : I64 z) :
    ∀ j, j < 3 → ∃ i : Int, I64 i ∧ (w.alloc (.cells #[.int .i64 x, .int .i64 y, .int .i64 z] 3)).cell? ⟨w.heap.size, j, none⟩ = some (.int .i64 i) := by
  intro j hj
  have hh : (w.alloc (.cells #[.int .i64 x, .int .i64 y, .int .i64 z] 3)).heap[w.heap.size]? = _ := heap_alloc_new w _
  rw [cell_of_row _ _ _ _ _ _ hh]
  match j, hj with
  | 0, _ => exact ⟨x, hx, rfl⟩
  | 1, _ => exact ⟨y, hy, rfl⟩
  | 2, _ => exact ⟨z, hz, rfl⟩
set_option maxHeartbeats 1000000 in
theorem lengths_walk (v : Value) (b : Nat) (n : Int) (hb : U64 b) (hn : I64 n) (w : World) (hv : IntsIn w v) (hT : Tb w) :
    Calls Tryd.prog 3 #[v, .int .u64 (b : Int), .int .i64 n] w fun e w' => Nw (.bool true) w e w' := by
  have vl64 : vl 64 = true := by decide
  have vl8 : vl 8 = true := by decide
  go_enter Tryd.func3, Tryd.ntmps3
  go_wp2_with fail
  refine (new_any v w hv).mono ?_
  rintro e w1 ⟨rfl, hg1, hT1⟩
  go_wp2_with fail
  refine (range_any _ (-1) 66 (by omega) (by omega) (by omega) (by omega) _ hT1).mono ?_
  rintro e w2 ⟨r1, rfl, hr1, hs2⟩
  go_wp2_with fail
  refine (length_any _ _ hs2.2).mono ?_
  rintro e w3 ⟨r2, rfl, hr2, hs3⟩
  have s3 := hs2.trans hs3
  go_wp2_with fail
  refine (bits_any _ 64 vl64 _ (s3.2.alloc _)).mono ?_
  rintro e w4 ⟨x1, rfl, hx1, hv1, hs4⟩
  go_wp2_with fail
  refine (bits_any _ 8 vl8 _ hs4.2).mono ?_
  rintro e w5 ⟨x2, rfl, hx2, hv2, hs5⟩
  have HL := ints3 (w := w3) (n := n) (r1 := r1) (r2 := r2) (Nat.lt_of_lt_of_le s3.2.lt (Nat.le_refl _)) (grown_trans hs4.1 (hs5.grown_alloc (.cells #[.int .u64 (b : Int), .int .u64 (x1 : Int), .int .u64 (x2 : Int)] 23)))
  have HX := words3 w5 hb hx1 hx2
  have g5 : w.grownBy (w5.alloc (.cells #[.int .u64 (b : Int), .int .u64 (x1 : Int), .int .u64 (x2 : Int)] 23)) none :=
    grown_tape hg1 (grown_trans (grown_trans s3.1 (World.grownBy_alloc w3 _ _)) (grown_trans hs4.1 (hs5.grown_alloc _)))
  have T5 := hT.keep g5
  clear hr1 hr2 hv1 hv2 hs2 hs3 s3 hs4 hs5 hg1 hT1 vl64 vl8 hv hT
  go_wp2_with fail
  generalize (w5.alloc (.cells #[.int .u64 (b : Int), .int .u64 (x1 : Int), .int .u64 (x2 : Int)] 23)) = W at *
  generalize w5.heap.size = B at *
  generalize w3.heap.size = C at *
  have G := Lib.hid g5
  clear g5
  go_loopw [10] (fun i wr => ∃ j m : Nat, j ≤ 3 ∧ i = .int .i64 (j : Int) ∧ wr = W.drewN m) (fun i _ => 3 - (intOf i).toNat)
  case atStart => exact ⟨0, 0, by omega, rfl, rfl⟩
  case round =>
    obtain ⟨j, m, hj, rfl, rfl⟩ := hrel
    by_cases hlt : j < 3
    · obtain ⟨y, hy⟩ := HL j hlt
      go_wp2_with fail
      go_quiet ((first | (go_at_call 15; first | exact qt0 (vlp_any _ _) | exact qt1 (vlp_any _ _) | exact qt2 (vlp_any _ _)) | (go_at_call 16; first | exact qt0 (vlr_any _ _) | exact qt1 (vlr_any _ _) | exact qt2 (vlr_any _ _)) | (go_at_call 17; first | exact qt0 (fullp_any _ _) | exact qt1 (fullp_any _ _) | exact qt2 (fullp_any _ _)) | (go_at_call 18; first | exact qt0 (fullr_any _ _) | exact qt1 (fullr_any _ _) | exact qt2 (fullr_any _ _))))
      go_wp2_with fail
      go_loopw [11] (fun i wr => ∃ k q : Nat, k ≤ 3 ∧ i = .int .i64 (k : Int) ∧ wr = W.drewN q) (fun i _ => 3 - (intOf i).toNat)
      case atStart => exact ⟨0, _, by omega, rfl, World.drewN_drewN _ _ _⟩
      case round =>
        obtain ⟨k, q, hk, rfl, rfl⟩ := hrel
        by_cases hlt2 : k < 3
        · obtain ⟨z, hz, hzc⟩ := HX k hlt2
          go_wp2_with fail
          go_quiet ((first | (go_at_call 19; first | exact qt0 (validp_any _ _ hz _) | exact qt1 (validp_any _ _ hz _) | exact qt2 (validp_any _ _ hz _)) | (go_at_call 20; first | exact qt0 (validr_any _ _ hz _) | exact qt1 (validr_any _ _ hz _) | exact qt2 (validr_any _ _ hz _))))
          go_wp2_with fail
          go_roundw
          case rel => exact ⟨k + 1, _, by omega, by go_num, rfl⟩
          case measure => simp [intOf]; omega
        · go_wp2_with fail
          go_roundw
          case rel => exact ⟨j + 1, q, by omega, by go_num, rfl⟩
          case measure => simp [intOf]; omega
    · go_wp2_with fail
      refine (awake_any _ (T5.keep (grown_drewN W m none))).mono ?_
      rintro e w' ⟨rfl, hg⟩
      go_wp2_with fail
      go_ret
      exact ⟨rfl, grown_trans (grown_trans G.out (grown_drewN W m none)) hg⟩
end Go.Proofs.YtmbgcmhcpgdanaaDoor
