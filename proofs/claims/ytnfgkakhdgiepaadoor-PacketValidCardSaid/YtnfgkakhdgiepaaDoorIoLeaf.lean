/- Both. -/
import Derived.Test.YtnfgkakhdgiepaaDoorRows
import Derived.Test.YtnfgkakhdgiepaaDoorIoWord
import Derived.WalkKit
import Derived.WalkSpells
import Derived.WalkLawsBesides
import Derived.Lib.Hide
import Derived.Deep.QuietTactic
import Derived.BigQuiet
import Derived.Shelf.Spec.TrailingZeros
namespace Go.Proofs.YtnfgkakhdgiepaaDoor
open Go.RowKit Bs

set_option maxRecDepth 100000 in
theorem ret_int {k : IntKind} {a b : Int} (h : a = b) : Ending.returned (.int k a) = .returned (.int k b) := by rw [h]
set_option maxRecDepth 100000 in
theorem ret_bool {a b : Bool} (h : a = b) : Ending.returned (.bool a) = .returned (.bool b) := by rw [h]

/-- The table of math/bits stands in its variable. -/
def Tb (w : World) : Prop := TabAt 0 Lib.deBruijn64tab w

set_option maxRecDepth 100000 in
set_option maxHeartbeats 400000 in
theorem tz_core (x k idx : Nat) (w : World) (hx0 : ((x : Int) == 0) = false)
    (key : IntKind.u64.wrap (bits BinOp.and IntKind.u64 (x : Int) (IntKind.u64.wrap (-(x : Int))) * 285870213051353865) / 288230376151711744 = (idx : Int))
    (hi : idx < 64) (hk : k < 64) (hcell : w.cell? ⟨0, idx, none⟩ = some (.int .u8 k)) :
    Calls Tryd.prog 126 #[.int .u64 (x : Int)] w fun e w' => e = .returned (.int .i64 k) ∧ w = w' := by
  go_enter Tryd.func126, Tryd.ntmps126
  go_wp2_with (simp only [key])
  go_ret
  exact ⟨rfl, rfl⟩

set_option maxRecDepth 100000 in
set_option maxHeartbeats 400000 in
theorem tz_zero (w : World) :
    Calls Tryd.prog 126 #[.int .u64 0] w fun e w' => e = .returned (.int .i64 64) ∧ w = w' := by
  go_enter Tryd.func126, Tryd.ntmps126
  go_wp2
  go_ret
  exact ⟨rfl, rfl⟩

set_option maxRecDepth 100000 in
theorem tz_any (x : Nat) (hx : U64 x) (w : World) (hT : Tb w) :
    Calls Tryd.prog 126 #[.int .u64 (x : Int)] w fun e w' => e = .returned (.int .i64 ((Lib.ctz 64 x : Nat) : Int)) ∧ w = w' := by
  by_cases hx0 : x = 0
  · subst hx0
    exact tz_zero w
  · obtain ⟨hlow, hk⟩ := Lib.lowest_bit 64 x hx0 hx
    obtain ⟨hi, htab⟩ := Lib.deBruijn64_at _ hk
    have hcell := hT _ hi
    rw [htab] at hcell
    exact tz_core x _ _ w (by simp; omega) (tz64_key x _ hx hx0 hlow) hi hk hcell

/-- Cut: a number from 0 on, below n. -/
def CutOf (n r : Int) : Prop := 0 ≤ r ∧ (1 ≤ n → r < n) ∧ (n < 1 → r = 0)

set_option maxRecDepth 100000 in
theorem cut_neg (x n : Int) (hn : I64 n) (h1 : 1 ≤ n) (h : x.tmod n < 0) : CutOf n (wrap64 (x.tmod n + n)) := by
  have h2 := Int.lt_tmod_of_pos x (show 0 < n by omega)
  unfold I64 at hn
  rw [IntWalk.wrap64_in _ (by omega)]
  unfold CutOf; omega
set_option maxRecDepth 100000 in
theorem cut_pos (x n : Int) (h1 : 1 ≤ n) (h : ¬ x.tmod n < 0) : CutOf n (x.tmod n) := by
  have h2 := Int.tmod_lt_of_pos x (show 0 < n by omega)
  unfold CutOf; omega
set_option maxRecDepth 100000 in
set_option maxHeartbeats 400000 in
theorem cut_any (x n : Int) (hn : I64 n) (w : World) :
    Calls Tryd.prog 78 #[.int .i64 x, .int .i64 n] w fun e w' => (∃ r, e = .returned (.int .i64 r) ∧ CutOf n r) ∧ w = w' := by
  by_cases h1 : n < 1
  · go_enter Tryd.func78, Tryd.ntmps78
    go_wp2
    go_ret
    exact ⟨⟨0, rfl, by unfold CutOf; omega⟩, rfl⟩
  · have h1' : 1 ≤ n := by omega
    by_cases h2 : x.tmod n < 0
    · have hf := Lib.hid (cut_neg x n hn h1' h2)
      go_enter Tryd.func78, Tryd.ntmps78
      go_wp2
      go_ret
      exact ⟨⟨_, rfl, hf.out⟩, rfl⟩
    · have hf := Lib.hid (cut_pos x n h1' h2)
      go_enter Tryd.func78, Tryd.ntmps78
      go_wp2
      go_ret
      exact ⟨⟨_, rfl, hf.out⟩, rfl⟩

def vl (n : Int) : Bool := n == 8 || n == 16 || n == 32 || n == 64
set_option maxRecDepth 100000 in
theorem vl_cases {n : Int} (h : vl n = true) : n = 8 ∨ n = 16 ∨ n = 32 ∨ n = 64 := by
  unfold vl at h; simp at h; omega
set_option maxRecDepth 100000 in
theorem vl_false {n : Int} (h : vl n = false) : n ≠ 8 ∧ n ≠ 16 ∧ n ≠ 32 ∧ n ≠ 64 := by
  unfold vl at h; simp at h; omega
set_option maxRecDepth 100000 in
set_option maxHeartbeats 400000 in
theorem vlp_any (n : Int) (w : World) :
    Calls Tryd.prog 105 #[.int .i64 n] w fun e w' => e = .returned (.bool (vl n)) ∧ w = w' := by
  go_enter Tryd.func105, Tryd.ntmps105
  go_wp2
  all_goals go_ret
  all_goals exact ⟨ret_bool (by first | rfl | (unfold vl; simp [*])), rfl⟩
set_option maxRecDepth 100000 in
set_option maxHeartbeats 400000 in
theorem vlr_any (n : Int) (w : World) :
    Calls Tryd.prog 107 #[.int .i64 n] w fun e w' => e = .returned (.bool (vl n)) ∧ w = w' := by
  go_enter Tryd.func107, Tryd.ntmps107
  go_wp2
  all_goals go_ret
  all_goals exact ⟨ret_bool (by first | rfl | (unfold vl; simp [*])), rfl⟩
set_option maxRecDepth 100000 in
theorem pow_word (k : Nat) (hk : k < 64) : IntKind.u64.wrap (2 ^ k) = ((b2 k : Nat) : Int) := by
  unfold b2
  have e : ((2 : Int) ^ k) = ((2 ^ k : Nat) : Int) := by simp
  rw [e]
  exact wrapU _ (Nat.pow_lt_pow_right (by decide) hk)
set_option maxRecDepth 100000 in
set_option maxHeartbeats 400000 in
theorem bit_any (k : Nat) (hk : k < 64) (w : World) :
    Calls Tryd.prog 90 #[.int .i64 (k : Int)] w fun e w' => e = .returned (.int .u64 ((b2 k : Nat) : Int)) ∧ w = w' := by
  go_enter Tryd.func90, Tryd.ntmps90
  go_wp2
  all_goals go_ret
  exact ⟨ret_int (pow_word k hk), rfl⟩
set_option maxRecDepth 100000 in
set_option maxHeartbeats 400000 in
theorem has_any (b k : Nat) (hk : k < 64) (hb : U64 b) (w : World) :
    Calls Tryd.prog 89 #[.int .u64 (b : Int), .int .i64 (k : Int)] w fun e w' => e = .returned (.bool (b.testBit k)) ∧ w = w' := by
  go_enter Tryd.func89, Tryd.ntmps89
  go_wp2
  go_ret
  exact ⟨ret_bool (testW b k hb), rfl⟩

end Go.Proofs.YtnfgkakhdgiepaaDoor
