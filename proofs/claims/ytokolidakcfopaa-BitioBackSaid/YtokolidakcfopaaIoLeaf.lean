/- The leaves: small functions without loops. -/
import Derived.Test.YtokolidakcfopaaRows
import Derived.Test.YtokolidakcfopaaIoWord
import Derived.WalkKit
import Derived.WalkSpells
import Derived.WalkLawsBesides
import Derived.Lib.Hide
import Derived.Deep.QuietTactic
import Derived.BigQuiet
namespace Go.Proofs.Ytokolidakcfopaa
open Go.RowKit Bs

theorem ret_int {k : IntKind} {a b : Int} (h : a = b) : Ending.returned (.int k a) = .returned (.int k b) := by rw [h]
theorem ret_bool {a b : Bool} (h : a = b) : Ending.returned (.bool a) = .returned (.bool b) := by rw [h]

/-- Cut: a number from 0 on, below n. -/
def CutOf (n r : Int) : Prop := 0 ≤ r ∧ (1 ≤ n → r < n) ∧ (n < 1 → r = 0)

theorem cut_neg (x n : Int) (hn : I64 n) (h1 : 1 ≤ n) (h : x.tmod n < 0) : CutOf n (wrap64 (x.tmod n + n)) := by
  have h2 := Int.lt_tmod_of_pos x (show 0 < n by omega)
  unfold I64 at hn
  rw [IntWalk.wrap64_in _ (by omega)]
  unfold CutOf; omega
theorem cut_pos (x n : Int) (h1 : 1 ≤ n) (h : ¬ x.tmod n < 0) : CutOf n (x.tmod n) := by
  have h2 := Int.tmod_lt_of_pos x (show 0 < n by omega)
  unfold CutOf; omega
set_option maxHeartbeats 400000 in
theorem cut_any (x n : Int) (hn : I64 n) (w : World) :
    Calls Try.prog 19 #[.int .i64 x, .int .i64 n] w fun e w' => (∃ r, e = .returned (.int .i64 r) ∧ CutOf n r) ∧ w = w' := by
  by_cases h1 : n < 1
  · go_enter Try.func19, Try.ntmps19
    go_wp2
    go_ret
    exact ⟨⟨0, rfl, by unfold CutOf; omega⟩, rfl⟩
  · have h1' : 1 ≤ n := by omega
    by_cases h2 : x.tmod n < 0
    · have hf := Lib.hid (cut_neg x n hn h1' h2)
      go_enter Try.func19, Try.ntmps19
      go_wp2
      go_ret
      exact ⟨⟨_, rfl, hf.out⟩, rfl⟩
    · have hf := Lib.hid (cut_pos x n h1' h2)
      go_enter Try.func19, Try.ntmps19
      go_wp2
      go_ret
      exact ⟨⟨_, rfl, hf.out⟩, rfl⟩

theorem pow_word (k : Nat) (hk : k < 64) : IntKind.u64.wrap (2 ^ k) = ((b2 k : Nat) : Int) := by
  unfold b2
  have e : ((2 : Int) ^ k) = ((2 ^ k : Nat) : Int) := by simp
  rw [e]
  exact wrapU _ (Nat.pow_lt_pow_right (by decide) hk)
set_option maxHeartbeats 400000 in
theorem bit_any (k : Nat) (hk : k < 64) (w : World) :
    Calls Try.prog 11 #[.int .i64 (k : Int)] w fun e w' => e = .returned (.int .u64 ((b2 k : Nat) : Int)) ∧ w = w' := by
  go_enter Try.func11, Try.ntmps11
  go_wp2
  all_goals go_ret
  exact ⟨ret_int (pow_word k hk), rfl⟩
end Go.Proofs.Ytokolidakcfopaa
