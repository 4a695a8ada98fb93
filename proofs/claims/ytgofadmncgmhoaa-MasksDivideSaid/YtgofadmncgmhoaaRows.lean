/-
  No cell of these rows narrows 'for every input' (looked for: loops, veiled, ifaces, maps, wideKeys, modest, calm, conditions, laid).
  DERIVED. THE GIVEN ROWS OF THIS SEAT. 3 by the template 'for every input the law returns true; each argument reads behind the call as it read before'; 0 by the template 'total and deterministic' (their statements: YtgofadmncgmhoaaTotals.lean).
  GIVEN WITH THE SEED: the statements are not yours to turn. If you find one false, say at which input.
  Laid BY PROGRAM, IN A SANDBOX (cutbox-rows.mjs): the forced cells as the released guide's own fill.sh prints them over the translation 8fa0e3a5c3d857a6… (all of the seat's roots in one cut). By AI agents, Wed Nov 11 2026. No macro, syntax, notation, axiom, sorry.
-/
import Derived.Test.YtgofadmncgmhoaaChecked
import GoSem.Claim
import GoSem.ClaimJoined
import GoSem.ClaimMapViews
import Derived.JoinedTies
import Derived.KernelRfl
namespace Go.Proofs.Ytgofadmncgmhoaa
/- THE CELL 'sum', in the pinned program and in every row, IS THE sha256 OF THE DUMP (.gsa) THAT YtgofadmncgmhoaaProg.lean LOADS. Nothing in Lean hashes anything: it is a label: what it is worth is what the hold of that sum in a sandbox is worth. -/
noncomputable def Try.pinned : Pinned := { name := "ytgofadmncgmhoaa", sum := "8fa0e3a5c3d857a6d512ec70e66e1624060b3a9f4329d78b1b50b782a39c7c15", checked := Try.checked }
namespace Rows
def none {H : Type} : Left H := { results := [], args := [] }

/-- 'bitcastlaw12.MasksDivide': WHATEVER THE INPUT: true; the input reads as it did. -/
def masksDivideSpec : ChangeSpec := { name := "masksDivide", fn := fun _ => fun
  | [d] => { results := [.lit (.bool true)], args := [d] }
  | _ => none }
def masksDivideRow : OpenClaim := { program := "ytgofadmncgmhoaa", sum := "8fa0e3a5c3d857a6d512ec70e66e1624060b3a9f4329d78b1b50b782a39c7c15", func := "bitcast/bitcastlaw12.MasksDivide", spec := "masksDivide", unfollowed := true, recurses := true, apart := false }
def MasksDivideSaid : Prop := masksDivideRow.holds Try.pinned (OpenSpec.ofChange masksDivideSpec)

/-- ITS FALSE NEIGHBOUR: 'it returns false'. Refute it at one input. -/
def masksDivideWrong : ChangeSpec := { name := "masksDivide", fn := fun _ => fun
  | [d] => { results := [.lit (.bool false)], args := [d] }
  | _ => none }
def MasksDivideWrongFalsely : Prop := masksDivideRow.holds Try.pinned (OpenSpec.ofChange masksDivideWrong)

/-- 'bitcastlaw12.MasksMember': WHATEVER THE INPUT: true; the input reads as it did. -/
def masksMemberSpec : ChangeSpec := { name := "masksMember", fn := fun _ => fun
  | [d] => { results := [.lit (.bool true)], args := [d] }
  | _ => none }
def masksMemberRow : OpenClaim := { program := "ytgofadmncgmhoaa", sum := "8fa0e3a5c3d857a6d512ec70e66e1624060b3a9f4329d78b1b50b782a39c7c15", func := "bitcast/bitcastlaw12.MasksMember", spec := "masksMember", unfollowed := true, recurses := true, apart := false }
def MasksMemberSaid : Prop := masksMemberRow.holds Try.pinned (OpenSpec.ofChange masksMemberSpec)

/-- ITS FALSE NEIGHBOUR: 'it returns false'. Refute it at one input. -/
def masksMemberWrong : ChangeSpec := { name := "masksMember", fn := fun _ => fun
  | [d] => { results := [.lit (.bool false)], args := [d] }
  | _ => none }
def MasksMemberWrongFalsely : Prop := masksMemberRow.holds Try.pinned (OpenSpec.ofChange masksMemberWrong)

/-- 'bitcastlaw12.MasksUsed': WHATEVER THE INPUT: true; the input reads as it did. -/
def masksUsedSpec : ChangeSpec := { name := "masksUsed", fn := fun _ => fun
  | [d] => { results := [.lit (.bool true)], args := [d] }
  | _ => none }
def masksUsedRow : OpenClaim := { program := "ytgofadmncgmhoaa", sum := "8fa0e3a5c3d857a6d512ec70e66e1624060b3a9f4329d78b1b50b782a39c7c15", func := "bitcast/bitcastlaw12.MasksUsed", spec := "masksUsed", unfollowed := true, recurses := true, apart := false }
def MasksUsedSaid : Prop := masksUsedRow.holds Try.pinned (OpenSpec.ofChange masksUsedSpec)

/-- ITS FALSE NEIGHBOUR: 'it returns false'. Refute it at one input. -/
def masksUsedWrong : ChangeSpec := { name := "masksUsed", fn := fun _ => fun
  | [d] => { results := [.lit (.bool false)], args := [d] }
  | _ => none }
def MasksUsedWrongFalsely : Prop := masksUsedRow.holds Try.pinned (OpenSpec.ofChange masksUsedWrong)

/- THE SECOND FORM. 'bulk': how many values and letters a reading holds, each counted each time it is reached (what is shared counts as often as it is met; a slice's spare places count too). A statement '..UptoSaid' is the law's where the arguments, and the package variables that the reading takes, are together of bulk at most 1048576: NARROWER than '..Said'. Prove '..Said' where nothing that the law and all that it calls make is longer than what came in: it says more and counts as full. Else prove '..UptoSaid'. A law counts once. -/
mutual
def uptoBulk {H : Type} : DataW H → Nat
  | .lit (.string bytes) => bytes.length + 1
  | .lit _ => 1
  | .nil => 1
  | .ptr d => uptoBulk d + 1
  | .slice elems spare => uptoBulkAll elems + uptoBulkAll spare + 1
  | .agg parts => uptoBulkAll parts + 1
  | .iface _ d => uptoBulk d + 1
  | .map entries => uptoBulkEntries entries + 1
  | .held _ => 1
def uptoBulkAll {H : Type} : List (DataW H) → Nat
  | [] => 0
  | d :: r => uptoBulk d + uptoBulkAll r
def uptoBulkEntries {H : Type} : List (Lit × DataW H) → Nat
  | [] => 0
  | x :: r => uptoBulkEntry x + uptoBulkEntries r
def uptoBulkEntry {H : Type} : Lit × DataW H → Nat
  | (.string bytes, d) => bytes.length + uptoBulk d + 1
  | (_, d) => uptoBulk d + 1
 end
def uptoSmall : (H : Type) → List (DataW H) → Bool := fun _ ds => decide (uptoBulkAll ds ≤ 1048576)
def OpenSpec.upto (s : _root_.Go.ChangeSpec) : _root_.Go.OpenSpec := { _root_.Go.OpenSpec.ofChange s with cond := some uptoSmall }

/-- 'bitcastlaw12.MasksDivide', WHERE WHAT IT READS IS OF BULK AT MOST 1048576: true; the input reads as it did. -/
def masksDivideUptoRow : OpenClaim := { program := "ytgofadmncgmhoaa", sum := "8fa0e3a5c3d857a6d512ec70e66e1624060b3a9f4329d78b1b50b782a39c7c15", func := "bitcast/bitcastlaw12.MasksDivide", spec := "masksDivide", unfollowed := true, recurses := true, apart := false, narrowed := true }
def MasksDivideUptoSaid : Prop := masksDivideUptoRow.holds Try.pinned (OpenSpec.upto masksDivideSpec)

/-- 'bitcastlaw12.MasksMember', WHERE WHAT IT READS IS OF BULK AT MOST 1048576: true; the input reads as it did. -/
def masksMemberUptoRow : OpenClaim := { program := "ytgofadmncgmhoaa", sum := "8fa0e3a5c3d857a6d512ec70e66e1624060b3a9f4329d78b1b50b782a39c7c15", func := "bitcast/bitcastlaw12.MasksMember", spec := "masksMember", unfollowed := true, recurses := true, apart := false, narrowed := true }
def MasksMemberUptoSaid : Prop := masksMemberUptoRow.holds Try.pinned (OpenSpec.upto masksMemberSpec)

/-- 'bitcastlaw12.MasksUsed', WHERE WHAT IT READS IS OF BULK AT MOST 1048576: true; the input reads as it did. -/
def masksUsedUptoRow : OpenClaim := { program := "ytgofadmncgmhoaa", sum := "8fa0e3a5c3d857a6d512ec70e66e1624060b3a9f4329d78b1b50b782a39c7c15", func := "bitcast/bitcastlaw12.MasksUsed", spec := "masksUsed", unfollowed := true, recurses := true, apart := false, narrowed := true }
def MasksUsedUptoSaid : Prop := masksUsedUptoRow.holds Try.pinned (OpenSpec.upto masksUsedSpec)

end Rows
end Go.Proofs.Ytgofadmncgmhoaa
