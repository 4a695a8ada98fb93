/- packet: sizes; the mistakes of a header. -/
import Derived.Test.YtnfgkakhdgiepaaDoorPkRead
import Derived.Test.YtnfgkakhdgiepaaDoorIoSlice
import Derived.Test.YtnfgkakhdgiepaaDoorPkValid
namespace Go.Proofs.YtnfgkakhdgiepaaDoor
open Go.RowKit Bs
set_option maxRecDepth 100000 in
set_option maxHeartbeats 3200000 in
theorem wholeBytes_any (n : Nat) (hn : n ≤ 100000) (w : World) :
    Calls Tryd.prog 80 #[.int .i64 (n : Int)] w fun e w' => e = .returned (.int .i64 (((n + 7) / 8 : Nat) : Int)) ∧ w = w' := by
  go_enter Tryd.func80, Tryd.ntmps80
  go_wp2
  all_goals (go_ret; exact ⟨by go_num, rfl⟩)
set_option maxRecDepth 100000 in
theorem bytesForP_any (n m : Nat) (hn : n ≤ 10000) (hm : m ≤ 1000) (w : World) :
    Calls Tryd.prog 66 #[.int .i64 (n : Int), .int .i64 (m : Int)] w fun e w' => e = .returned (.int .i64 (((49 + n + 8 * m + 16 + 7) / 8 : Nat) : Int)) ∧ w = w' := by
  go_enter Tryd.func66, Tryd.ntmps66
  go_wp2_with (go_at_call 80; rw [show (49 + (n : Int) + 8 * (m : Int) + 16) = ((49 + n + 8 * m + 16 : Nat) : Int) by omega]; refine (wholeBytes_any (49 + n + 8 * m + 16) (by omega) _).mono ?_; rintro e w' ⟨rfl, rfl⟩)
  all_goals (go_ret; exact ⟨rfl, rfl⟩)
/-- The first mistake of a header. -/
def misV (V : Nat → Nat) : Int := if V 0 ≠ 2 then 22 else if V 1 = 0 then 1 else if 256 < V 7 ∨ 64 < V 9 then 2 else 0
set_option maxRecDepth 100000 in
set_option maxHeartbeats 3200000 in
theorem mistake_any (V : Nat → Nat) (n : Int) (h : Nat) (w : World) (hr : w.heap[h]? = some (.cells (hdc V 10 n) 101 (0, 0))) :
    Calls Tryd.prog 82 #[.pointer (some ⟨h, 0, none⟩)] w fun e w' => e = .returned (.int .i64 (misV V)) ∧ w = w' := by
  have c0 : w.cell? ⟨h, 0, none⟩ = some (.int .i64 (V 0 : Int)) := cell_of_row _ _ _ _ _ _ hr
  have c1 : w.cell? ⟨h, 1, none⟩ = some (.int .i64 (V 1 : Int)) := cell_of_row _ _ _ _ _ _ hr
  have c7 : w.cell? ⟨h, 7, none⟩ = some (.int .i64 (V 7 : Int)) := cell_of_row _ _ _ _ _ _ hr
  have c9 : w.cell? ⟨h, 12, none⟩ = some (.int .i64 (V 9 : Int)) := cell_of_row _ _ _ _ _ _ hr
  clear hr
  by_cases h0 : V 0 = 2
  · by_cases h1 : V 1 = 0
    · have hm := Lib.hid (show misV V = 1 by unfold misV; rw [if_neg (by simp [h0]), if_pos h1])
      go_enter Tryd.func82, Tryd.ntmps82
      go_wp2
      all_goals (go_ret; exact ⟨by rw [hm.out]; rfl, rfl⟩)
    · by_cases h2 : 256 < V 7
      · have hm := Lib.hid (show misV V = 2 by unfold misV; rw [if_neg (by simp [h0]), if_neg h1, if_pos (.inl h2)])
        go_enter Tryd.func82, Tryd.ntmps82
        go_wp2
        all_goals (go_ret; exact ⟨by rw [hm.out]; rfl, rfl⟩)
      · by_cases h3 : 64 < V 9
        · have hm := Lib.hid (show misV V = 2 by unfold misV; rw [if_neg (by simp [h0]), if_neg h1, if_pos (.inr h3)])
          go_enter Tryd.func82, Tryd.ntmps82
          go_wp2
          all_goals (go_ret; exact ⟨by rw [hm.out]; rfl, rfl⟩)
        · have hm := Lib.hid (show misV V = 0 by unfold misV; rw [if_neg (by simp [h0]), if_neg h1, if_neg (by omega)])
          go_enter Tryd.func82, Tryd.ntmps82
          go_wp2
          all_goals (go_ret; exact ⟨by rw [hm.out]; rfl, rfl⟩)
  · have hm := Lib.hid (show misV V = 22 by unfold misV; rw [if_pos h0])
    go_enter Tryd.func82, Tryd.ntmps82
    go_wp2
    all_goals (go_ret; exact ⟨by rw [hm.out]; rfl, rfl⟩)
end Go.Proofs.YtnfgkakhdgiepaaDoor
