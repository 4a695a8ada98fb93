/-
  No cell of these rows narrows 'for every input' (looked for: loops, veiled, ifaces, maps, wideKeys, modest, calm, conditions, laid).
  DERIVED. THE GIVEN ROWS OF THIS SEAT. 8 by the template 'for every input the law returns true; each argument reads behind the call as it read before'; 0 by the template 'total and deterministic' (their statements: YtnpkihioklpnmaaTotals.lean).
  GIVEN WITH THE SEED: the statements are not yours to turn. If you find one false, say at which input.
  Laid BY PROGRAM, IN A SANDBOX (cutbox-rows.mjs): the forced cells as the released guide's own fill.sh prints them over the translation f487081e1232abe4… (all of the seat's roots in one cut). By AI agents, Wed Nov 11 2026. No macro, syntax, notation, axiom, sorry.
-/
import Derived.Test.YtnpkihioklpnmaaChecked
import GoSem.Claim
import GoSem.ClaimJoined
import GoSem.ClaimMapViews
import Derived.JoinedTies
import Derived.KernelRfl
namespace Go.Proofs.Ytnpkihioklpnmaa
/- THE CELL 'sum', in the pinned program and in every row, IS THE sha256 OF THE DUMP (.gsa) THAT YtnpkihioklpnmaaProg.lean LOADS. Nothing in Lean hashes anything: it is a label: what it is worth is what the hold of that sum in a sandbox is worth. -/
noncomputable def Try.pinned : Pinned := { name := "ytnpkihioklpnmaa", sum := "f487081e1232abe49c8ed285b7f5a8c5243baeae095b39e7fa0bf8c05173b25f", checked := Try.checked }
namespace Rows
def none {H : Type} : Left H := { results := [], args := [] }

/-- 'bitcastlaw08.DatabaseChecks': WHATEVER THE INPUT: true; the input reads as it did. -/
def databaseChecksSpec : ChangeSpec := { name := "databaseChecks", fn := fun _ => fun
  | [d1, d2, d3] => { results := [.lit (.bool true)], args := [d1, d2, d3] }
  | _ => none }
def databaseChecksRow : OpenClaim := { program := "ytnpkihioklpnmaa", sum := "f487081e1232abe49c8ed285b7f5a8c5243baeae095b39e7fa0bf8c05173b25f", func := "bitcast/bitcastlaw08.DatabaseChecks", spec := "databaseChecks", unfollowed := true, recurses := true, apart := false }
def DatabaseChecksSaid : Prop := databaseChecksRow.holds Try.pinned (OpenSpec.ofChange databaseChecksSpec)

/-- ITS FALSE NEIGHBOUR: 'it returns false'. Refute it at one input. -/
def databaseChecksWrong : ChangeSpec := { name := "databaseChecks", fn := fun _ => fun
  | [d1, d2, d3] => { results := [.lit (.bool false)], args := [d1, d2, d3] }
  | _ => none }
def DatabaseChecksWrongFalsely : Prop := databaseChecksRow.holds Try.pinned (OpenSpec.ofChange databaseChecksWrong)

/-- 'bitcastlaw08.DatabasePuts': WHATEVER THE INPUT: true; the input reads as it did. -/
def databasePutsSpec : ChangeSpec := { name := "databasePuts", fn := fun _ => fun
  | [d1, d2, d3] => { results := [.lit (.bool true)], args := [d1, d2, d3] }
  | _ => none }
def databasePutsRow : OpenClaim := { program := "ytnpkihioklpnmaa", sum := "f487081e1232abe49c8ed285b7f5a8c5243baeae095b39e7fa0bf8c05173b25f", func := "bitcast/bitcastlaw08.DatabasePuts", spec := "databasePuts", inPlace := ["slices.overlaps[bitcast/api.Advert]"], unfollowed := true, recurses := true, apart := false }
def DatabasePutsSaid : Prop := databasePutsRow.holds Try.pinned (OpenSpec.ofChange databasePutsSpec)

/-- ITS FALSE NEIGHBOUR: 'it returns false'. Refute it at one input. -/
def databasePutsWrong : ChangeSpec := { name := "databasePuts", fn := fun _ => fun
  | [d1, d2, d3] => { results := [.lit (.bool false)], args := [d1, d2, d3] }
  | _ => none }
def DatabasePutsWrongFalsely : Prop := databasePutsRow.holds Try.pinned (OpenSpec.ofChange databasePutsWrong)

/-- 'bitcastlaw08.DatabaseMerges': WHATEVER THE INPUT: true; the input reads as it did. -/
def databaseMergesSpec : ChangeSpec := { name := "databaseMerges", fn := fun _ => fun
  | [d] => { results := [.lit (.bool true)], args := [d] }
  | _ => none }
def databaseMergesRow : OpenClaim := { program := "ytnpkihioklpnmaa", sum := "f487081e1232abe49c8ed285b7f5a8c5243baeae095b39e7fa0bf8c05173b25f", func := "bitcast/bitcastlaw08.DatabaseMerges", spec := "databaseMerges", inPlace := ["slices.overlaps[bitcast/api.Advert]"], unfollowed := true, recurses := true, apart := false }
def DatabaseMergesSaid : Prop := databaseMergesRow.holds Try.pinned (OpenSpec.ofChange databaseMergesSpec)

/-- ITS FALSE NEIGHBOUR: 'it returns false'. Refute it at one input. -/
def databaseMergesWrong : ChangeSpec := { name := "databaseMerges", fn := fun _ => fun
  | [d] => { results := [.lit (.bool false)], args := [d] }
  | _ => none }
def DatabaseMergesWrongFalsely : Prop := databaseMergesRow.holds Try.pinned (OpenSpec.ofChange databaseMergesWrong)

/-- 'bitcastlaw08.DatabaseGrows': WHATEVER THE INPUT: true; the input reads as it did. -/
def databaseGrowsSpec : ChangeSpec := { name := "databaseGrows", fn := fun _ => fun
  | [d] => { results := [.lit (.bool true)], args := [d] }
  | _ => none }
def databaseGrowsRow : OpenClaim := { program := "ytnpkihioklpnmaa", sum := "f487081e1232abe49c8ed285b7f5a8c5243baeae095b39e7fa0bf8c05173b25f", func := "bitcast/bitcastlaw08.DatabaseGrows", spec := "databaseGrows", inPlace := ["slices.overlaps[bitcast/api.Advert]"], unfollowed := true, recurses := true, apart := false }
def DatabaseGrowsSaid : Prop := databaseGrowsRow.holds Try.pinned (OpenSpec.ofChange databaseGrowsSpec)

/-- ITS FALSE NEIGHBOUR: 'it returns false'. Refute it at one input. -/
def databaseGrowsWrong : ChangeSpec := { name := "databaseGrows", fn := fun _ => fun
  | [d] => { results := [.lit (.bool false)], args := [d] }
  | _ => none }
def DatabaseGrowsWrongFalsely : Prop := databaseGrowsRow.holds Try.pinned (OpenSpec.ofChange databaseGrowsWrong)

/-- 'bitcastlaw08.DatabaseViews': WHATEVER THE INPUT: true; the input reads as it did. -/
def databaseViewsSpec : ChangeSpec := { name := "databaseViews", fn := fun _ => fun
  | [d1, d2, d3] => { results := [.lit (.bool true)], args := [d1, d2, d3] }
  | _ => none }
def databaseViewsRow : OpenClaim := { program := "ytnpkihioklpnmaa", sum := "f487081e1232abe49c8ed285b7f5a8c5243baeae095b39e7fa0bf8c05173b25f", func := "bitcast/bitcastlaw08.DatabaseViews", spec := "databaseViews", unfollowed := true, recurses := true, apart := false }
def DatabaseViewsSaid : Prop := databaseViewsRow.holds Try.pinned (OpenSpec.ofChange databaseViewsSpec)

/-- ITS FALSE NEIGHBOUR: 'it returns false'. Refute it at one input. -/
def databaseViewsWrong : ChangeSpec := { name := "databaseViews", fn := fun _ => fun
  | [d1, d2, d3] => { results := [.lit (.bool false)], args := [d1, d2, d3] }
  | _ => none }
def DatabaseViewsWrongFalsely : Prop := databaseViewsRow.holds Try.pinned (OpenSpec.ofChange databaseViewsWrong)

/-- 'bitcastlaw08.DatabaseAgrees': WHATEVER THE INPUT: true; the input reads as it did. -/
def databaseAgreesSpec : ChangeSpec := { name := "databaseAgrees", fn := fun _ => fun
  | [d] => { results := [.lit (.bool true)], args := [d] }
  | _ => none }
def databaseAgreesRow : OpenClaim := { program := "ytnpkihioklpnmaa", sum := "f487081e1232abe49c8ed285b7f5a8c5243baeae095b39e7fa0bf8c05173b25f", func := "bitcast/bitcastlaw08.DatabaseAgrees", spec := "databaseAgrees", unfollowed := true, recurses := true, apart := false }
def DatabaseAgreesSaid : Prop := databaseAgreesRow.holds Try.pinned (OpenSpec.ofChange databaseAgreesSpec)

/-- ITS FALSE NEIGHBOUR: 'it returns false'. Refute it at one input. -/
def databaseAgreesWrong : ChangeSpec := { name := "databaseAgrees", fn := fun _ => fun
  | [d] => { results := [.lit (.bool false)], args := [d] }
  | _ => none }
def DatabaseAgreesWrongFalsely : Prop := databaseAgreesRow.holds Try.pinned (OpenSpec.ofChange databaseAgreesWrong)

/-- 'bitcastlaw08.DatabaseStrangers': WHATEVER THE INPUT: true; the input reads as it did. -/
def databaseStrangersSpec : ChangeSpec := { name := "databaseStrangers", fn := fun _ => fun
  | [d] => { results := [.lit (.bool true)], args := [d] }
  | _ => none }
def databaseStrangersRow : OpenClaim := { program := "ytnpkihioklpnmaa", sum := "f487081e1232abe49c8ed285b7f5a8c5243baeae095b39e7fa0bf8c05173b25f", func := "bitcast/bitcastlaw08.DatabaseStrangers", spec := "databaseStrangers", inPlace := ["slices.overlaps[bitcast/api.Advert]"], unfollowed := true, recurses := true, apart := false }
def DatabaseStrangersSaid : Prop := databaseStrangersRow.holds Try.pinned (OpenSpec.ofChange databaseStrangersSpec)

/-- ITS FALSE NEIGHBOUR: 'it returns false'. Refute it at one input. -/
def databaseStrangersWrong : ChangeSpec := { name := "databaseStrangers", fn := fun _ => fun
  | [d] => { results := [.lit (.bool false)], args := [d] }
  | _ => none }
def DatabaseStrangersWrongFalsely : Prop := databaseStrangersRow.holds Try.pinned (OpenSpec.ofChange databaseStrangersWrong)

/-- 'bitcastlaw08.DatabaseOf': WHATEVER THE INPUT: true; the input reads as it did. -/
def databaseOfSpec : ChangeSpec := { name := "databaseOf", fn := fun _ => fun
  | [d] => { results := [.lit (.bool true)], args := [d] }
  | _ => none }
def databaseOfRow : OpenClaim := { program := "ytnpkihioklpnmaa", sum := "f487081e1232abe49c8ed285b7f5a8c5243baeae095b39e7fa0bf8c05173b25f", func := "bitcast/bitcastlaw08.DatabaseOf", spec := "databaseOf", inPlace := ["slices.overlaps[bitcast/api.Advert]"], unfollowed := true, recurses := true, apart := false }
def DatabaseOfSaid : Prop := databaseOfRow.holds Try.pinned (OpenSpec.ofChange databaseOfSpec)

/-- ITS FALSE NEIGHBOUR: 'it returns false'. Refute it at one input. -/
def databaseOfWrong : ChangeSpec := { name := "databaseOf", fn := fun _ => fun
  | [d] => { results := [.lit (.bool false)], args := [d] }
  | _ => none }
def DatabaseOfWrongFalsely : Prop := databaseOfRow.holds Try.pinned (OpenSpec.ofChange databaseOfWrong)

/- THE SECOND FORM. 'bulk': how many values and letters a reading holds, each counted each time it is reached (what is shared counts as often as it is met; a slice's spare places count too). A statement '..UptoSaid' is the law's where the arguments, and the package variables that the reading takes, are together of bulk at most 1048576: NARROWER than '..Said'. Prove '..Said' where nothing that the law and all that it calls make is longer than what came in: it says more and counts as full. Else prove '..UptoSaid'. A law counts once. -/
mutual
def uptoBulk {H : Type} : DataW H → Nat
  | .lit (.string bytes) => bytes.length + 1
  | .lit _ => 1
  | .nil => 1
  | .ptr d => uptoBulk d + 1
  | .slice elems spare => uptoBulkAll elems + uptoBulkAll spare + 1
  | .agg parts => uptoBulkAll parts + 1
  | .iface _ d => uptoBulk d + 1
  | .map entries => uptoBulkEntries entries + 1
  | .held _ => 1
def uptoBulkAll {H : Type} : List (DataW H) → Nat
  | [] => 0
  | d :: r => uptoBulk d + uptoBulkAll r
def uptoBulkEntries {H : Type} : List (Lit × DataW H) → Nat
  | [] => 0
  | x :: r => uptoBulkEntry x + uptoBulkEntries r
def uptoBulkEntry {H : Type} : Lit × DataW H → Nat
  | (.string bytes, d) => bytes.length + uptoBulk d + 1
  | (_, d) => uptoBulk d + 1
 end
def uptoSmall : (H : Type) → List (DataW H) → Bool := fun _ ds => decide (uptoBulkAll ds ≤ 1048576)
def OpenSpec.upto (s : _root_.Go.ChangeSpec) : _root_.Go.OpenSpec := { _root_.Go.OpenSpec.ofChange s with cond := some uptoSmall }

/-- 'bitcastlaw08.DatabaseChecks', WHERE WHAT IT READS IS OF BULK AT MOST 1048576: true; the input reads as it did. -/
def databaseChecksUptoRow : OpenClaim := { program := "ytnpkihioklpnmaa", sum := "f487081e1232abe49c8ed285b7f5a8c5243baeae095b39e7fa0bf8c05173b25f", func := "bitcast/bitcastlaw08.DatabaseChecks", spec := "databaseChecks", unfollowed := true, recurses := true, apart := false, narrowed := true }
def DatabaseChecksUptoSaid : Prop := databaseChecksUptoRow.holds Try.pinned (OpenSpec.upto databaseChecksSpec)

/-- 'bitcastlaw08.DatabasePuts', WHERE WHAT IT READS IS OF BULK AT MOST 1048576: true; the input reads as it did. -/
def databasePutsUptoRow : OpenClaim := { program := "ytnpkihioklpnmaa", sum := "f487081e1232abe49c8ed285b7f5a8c5243baeae095b39e7fa0bf8c05173b25f", func := "bitcast/bitcastlaw08.DatabasePuts", spec := "databasePuts", inPlace := ["slices.overlaps[bitcast/api.Advert]"], unfollowed := true, recurses := true, apart := false, narrowed := true }
def DatabasePutsUptoSaid : Prop := databasePutsUptoRow.holds Try.pinned (OpenSpec.upto databasePutsSpec)

/-- 'bitcastlaw08.DatabaseMerges', WHERE WHAT IT READS IS OF BULK AT MOST 1048576: true; the input reads as it did. -/
def databaseMergesUptoRow : OpenClaim := { program := "ytnpkihioklpnmaa", sum := "f487081e1232abe49c8ed285b7f5a8c5243baeae095b39e7fa0bf8c05173b25f", func := "bitcast/bitcastlaw08.DatabaseMerges", spec := "databaseMerges", inPlace := ["slices.overlaps[bitcast/api.Advert]"], unfollowed := true, recurses := true, apart := false, narrowed := true }
def DatabaseMergesUptoSaid : Prop := databaseMergesUptoRow.holds Try.pinned (OpenSpec.upto databaseMergesSpec)

/-- 'bitcastlaw08.DatabaseGrows', WHERE WHAT IT READS IS OF BULK AT MOST 1048576: true; the input reads as it did. -/
def databaseGrowsUptoRow : OpenClaim := { program := "ytnpkihioklpnmaa", sum := "f487081e1232abe49c8ed285b7f5a8c5243baeae095b39e7fa0bf8c05173b25f", func := "bitcast/bitcastlaw08.DatabaseGrows", spec := "databaseGrows", inPlace := ["slices.overlaps[bitcast/api.Advert]"], unfollowed := true, recurses := true, apart := false, narrowed := true }
def DatabaseGrowsUptoSaid : Prop := databaseGrowsUptoRow.holds Try.pinned (OpenSpec.upto databaseGrowsSpec)

/-- 'bitcastlaw08.DatabaseViews', WHERE WHAT IT READS IS OF BULK AT MOST 1048576: true; the input reads as it did. -/
def databaseViewsUptoRow : OpenClaim := { program := "ytnpkihioklpnmaa", sum := "f487081e1232abe49c8ed285b7f5a8c5243baeae095b39e7fa0bf8c05173b25f", func := "bitcast/bitcastlaw08.DatabaseViews", spec := "databaseViews", unfollowed := true, recurses := true, apart := false, narrowed := true }
def DatabaseViewsUptoSaid : Prop := databaseViewsUptoRow.holds Try.pinned (OpenSpec.upto databaseViewsSpec)

/-- 'bitcastlaw08.DatabaseAgrees', WHERE WHAT IT READS IS OF BULK AT MOST 1048576: true; the input reads as it did. -/
def databaseAgreesUptoRow : OpenClaim := { program := "ytnpkihioklpnmaa", sum := "f487081e1232abe49c8ed285b7f5a8c5243baeae095b39e7fa0bf8c05173b25f", func := "bitcast/bitcastlaw08.DatabaseAgrees", spec := "databaseAgrees", unfollowed := true, recurses := true, apart := false, narrowed := true }
def DatabaseAgreesUptoSaid : Prop := databaseAgreesUptoRow.holds Try.pinned (OpenSpec.upto databaseAgreesSpec)

/-- 'bitcastlaw08.DatabaseStrangers', WHERE WHAT IT READS IS OF BULK AT MOST 1048576: true; the input reads as it did. -/
def databaseStrangersUptoRow : OpenClaim := { program := "ytnpkihioklpnmaa", sum := "f487081e1232abe49c8ed285b7f5a8c5243baeae095b39e7fa0bf8c05173b25f", func := "bitcast/bitcastlaw08.DatabaseStrangers", spec := "databaseStrangers", inPlace := ["slices.overlaps[bitcast/api.Advert]"], unfollowed := true, recurses := true, apart := false, narrowed := true }
def DatabaseStrangersUptoSaid : Prop := databaseStrangersUptoRow.holds Try.pinned (OpenSpec.upto databaseStrangersSpec)

/-- 'bitcastlaw08.DatabaseOf', WHERE WHAT IT READS IS OF BULK AT MOST 1048576: true; the input reads as it did. -/
def databaseOfUptoRow : OpenClaim := { program := "ytnpkihioklpnmaa", sum := "f487081e1232abe49c8ed285b7f5a8c5243baeae095b39e7fa0bf8c05173b25f", func := "bitcast/bitcastlaw08.DatabaseOf", spec := "databaseOf", inPlace := ["slices.overlaps[bitcast/api.Advert]"], unfollowed := true, recurses := true, apart := false, narrowed := true }
def DatabaseOfUptoSaid : Prop := databaseOfUptoRow.holds Try.pinned (OpenSpec.upto databaseOfSpec)

end Rows
end Go.Proofs.Ytnpkihioklpnmaa
