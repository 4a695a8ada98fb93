/- Slice, of the program and of the reference. -/
import Derived.Test.YtokolidakcfopaaIoAppendR
namespace Go.Proofs.Ytokolidakcfopaa
open Go.RowKit Bs
/-- What Slice returns. -/
def slV (l : List Nat) (n a b : Int) : List Nat × Int × Int :=
  if vs l n = false then ([], 0, 1) else if a < 0 then ([], 0, 2) else if b < a then ([], 0, 2) else if n < b then ([], 0, 2) else
    (pz (fun i => bt l (a.toNat + i)) (b.toNat - a.toNat) ((b.toNat - a.toNat + 7) / 8), ((b.toNat - a.toNat : Nat) : Int), 0)
theorem slV_inv {l : List Nat} {n a b : Int} (h : vs l n = false) : slV l n a b = ([], 0, 1) := by unfold slV; rw [if_pos h]
theorem slV_range {l : List Nat} {n a b : Int} (h : vs l n = true) (h2 : a < 0 ∨ b < a ∨ n < b) : slV l n a b = ([], 0, 2) := by
  unfold slV; rw [if_neg (by simp [h])]
  by_cases x1 : a < 0
  · rw [if_pos x1]
  · rw [if_neg x1]
    by_cases x2 : b < a
    · rw [if_pos x2]
    · rw [if_neg x2, if_pos (by omega)]
theorem slV_ok {l : List Nat} {N A T B : Nat} (h : vs l (N : Int) = true) (hB : A + T = B) (h2 : B ≤ N) : slV l (N : Int) (A : Int) (B : Int) = (pz (fun i => bt l (A + i)) T ((T + 7) / 8), (T : Int), 0) := by
  subst hB
  unfold slV
  rw [if_neg (by simp [h]), if_neg (by omega), if_neg (by omega), if_neg (by omega), Int.toNat_natCast, Int.toNat_natCast, show A + T - A = T by omega]
theorem pz_none (f : Nat → Bool) (M : Nat) : List.replicate M 0 = pz f 0 M := (pz_zero f M).symm
end Go.Proofs.Ytokolidakcfopaa
