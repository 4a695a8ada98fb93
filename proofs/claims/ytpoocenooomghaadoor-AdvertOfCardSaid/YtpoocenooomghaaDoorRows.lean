/-
  NARROWER THAN 'FOR EVERY INPUT', by the rows' own cells (each row's printed sentence says how): AdvertValid: laid · AdvertEncodes: laid · AdvertDecodes: laid · AdvertForged: laid · AdvertNewer: laid · AdvertOrder: laid · AdvertOf: laid.
  DERIVED. THE GIVEN ROWS OF THIS SEAT. 7 by the template 'for every input the law returns true; each argument reads behind the call as it read before'; 0 by the template 'total and deterministic' (their statements: YtpoocenooomghaaDoorTotals.lean).
  GIVEN WITH THE SEED: the statements are not yours to turn. If you find one false, say at which input.
  Laid BY PROGRAM, IN A SANDBOX (cutbox-rows.mjs): the forced cells as the released guide's own fill.sh prints them over the translation 749a8da25291c1e3… (all of the seat's roots in one cut). By AI agents, Wed Nov 11 2026. No macro, syntax, notation, axiom, sorry.
-/
import Derived.Test.YtpoocenooomghaaDoorChecked
import GoSem.Claim
import GoSem.ClaimJoined
import GoSem.ClaimMapViews
import Derived.JoinedTies
import Derived.KernelRfl
namespace Go.Proofs.YtpoocenooomghaaDoor
/- THE CELL 'sum', in the pinned program and in every row, IS THE sha256 OF THE DUMP (.gsa) THAT YtpoocenooomghaaDoorProg.lean LOADS. Nothing in Lean hashes anything: it is a label: what it is worth is what the hold of that sum in a sandbox is worth. -/
noncomputable def Tryd.pinned : Pinned := { name := "ytpoocenooomghaadoor", sum := "749a8da25291c1e3acd81e1d69ca6ae7a6d9968825203c4c7f5892233b15bce5", checked := Tryd.checked }
namespace Rows
def none {H : Type} : Left H := { results := [], args := [] }

/- WHAT THE LISTED PACKAGE-LEVEL VARIABLES READ AS WHEN THE CALL BEGINS. Each datum BY PROGRAM (the guide's laid-datum.mjs) off the statement by which the dump's own 'gosem.cut.vars' lays the variable. In a bare row this is a premise. The card (YtpoocenooomghaaDoorCards.lean) ties it to the program's text. -/
def laid_math_bits_deBruijn64tab {H : Type} : DataW H := .agg [.lit (.int .u8 0), .lit (.int .u8 1), .lit (.int .u8 56), .lit (.int .u8 2), .lit (.int .u8 57), .lit (.int .u8 49), .lit (.int .u8 28), .lit (.int .u8 3), .lit (.int .u8 61), .lit (.int .u8 58), .lit (.int .u8 42), .lit (.int .u8 50), .lit (.int .u8 38), .lit (.int .u8 29), .lit (.int .u8 17), .lit (.int .u8 4), .lit (.int .u8 62), .lit (.int .u8 47), .lit (.int .u8 59), .lit (.int .u8 36), .lit (.int .u8 45), .lit (.int .u8 43), .lit (.int .u8 51), .lit (.int .u8 22), .lit (.int .u8 53), .lit (.int .u8 39), .lit (.int .u8 33), .lit (.int .u8 30), .lit (.int .u8 24), .lit (.int .u8 18), .lit (.int .u8 12), .lit (.int .u8 5), .lit (.int .u8 63), .lit (.int .u8 55), .lit (.int .u8 48), .lit (.int .u8 27), .lit (.int .u8 60), .lit (.int .u8 41), .lit (.int .u8 37), .lit (.int .u8 16), .lit (.int .u8 46), .lit (.int .u8 35), .lit (.int .u8 44), .lit (.int .u8 21), .lit (.int .u8 52), .lit (.int .u8 32), .lit (.int .u8 23), .lit (.int .u8 11), .lit (.int .u8 54), .lit (.int .u8 26), .lit (.int .u8 40), .lit (.int .u8 15), .lit (.int .u8 34), .lit (.int .u8 20), .lit (.int .u8 31), .lit (.int .u8 10), .lit (.int .u8 25), .lit (.int .u8 14), .lit (.int .u8 19), .lit (.int .u8 9), .lit (.int .u8 13), .lit (.int .u8 8), .lit (.int .u8 7), .lit (.int .u8 6)]

/-- 'bitcastlaw07.AdvertValid': WHATEVER THE INPUT: true; the input reads as it did. -/
def advertValidSpec : ChangeSpec := { name := "advertValid", fn := fun _ => fun
  | [d1, d2] => { results := [.lit (.bool true)], args := [d1, d2] }
  | _ => none }
def advertValidRow : OpenClaim := { program := "ytpoocenooomghaadoor", sum := "749a8da25291c1e3acd81e1d69ca6ae7a6d9968825203c4c7f5892233b15bce5", func := "bitcast/bitcastlaw07.AdvertValid", spec := "advertValid", unfollowed := true, recurses := true, named := ["math/bits.deBruijn64tab"], apart := false, laid := [("math/bits.deBruijn64tab", laid_math_bits_deBruijn64tab)] }
def AdvertValidSaid : Prop := advertValidRow.holds Tryd.pinned (OpenSpec.ofChange advertValidSpec)

/-- ITS FALSE NEIGHBOUR: 'it returns false'. Refute it at one input. -/
def advertValidWrong : ChangeSpec := { name := "advertValid", fn := fun _ => fun
  | [d1, d2] => { results := [.lit (.bool false)], args := [d1, d2] }
  | _ => none }
def AdvertValidWrongFalsely : Prop := advertValidRow.holds Tryd.pinned (OpenSpec.ofChange advertValidWrong)

/-- 'bitcastlaw07.AdvertEncodes': WHATEVER THE INPUT: true; the input reads as it did. -/
def advertEncodesSpec : ChangeSpec := { name := "advertEncodes", fn := fun _ => fun
  | [d1, d2] => { results := [.lit (.bool true)], args := [d1, d2] }
  | _ => none }
def advertEncodesRow : OpenClaim := { program := "ytpoocenooomghaadoor", sum := "749a8da25291c1e3acd81e1d69ca6ae7a6d9968825203c4c7f5892233b15bce5", func := "bitcast/bitcastlaw07.AdvertEncodes", spec := "advertEncodes", unfollowed := true, recurses := true, named := ["math/bits.deBruijn64tab"], apart := false, laid := [("math/bits.deBruijn64tab", laid_math_bits_deBruijn64tab)] }
def AdvertEncodesSaid : Prop := advertEncodesRow.holds Tryd.pinned (OpenSpec.ofChange advertEncodesSpec)

/-- ITS FALSE NEIGHBOUR: 'it returns false'. Refute it at one input. -/
def advertEncodesWrong : ChangeSpec := { name := "advertEncodes", fn := fun _ => fun
  | [d1, d2] => { results := [.lit (.bool false)], args := [d1, d2] }
  | _ => none }
def AdvertEncodesWrongFalsely : Prop := advertEncodesRow.holds Tryd.pinned (OpenSpec.ofChange advertEncodesWrong)

/-- 'bitcastlaw07.AdvertDecodes': WHATEVER THE INPUT: true; the input reads as it did. -/
def advertDecodesSpec : ChangeSpec := { name := "advertDecodes", fn := fun _ => fun
  | [d1, d2] => { results := [.lit (.bool true)], args := [d1, d2] }
  | _ => none }
def advertDecodesRow : OpenClaim := { program := "ytpoocenooomghaadoor", sum := "749a8da25291c1e3acd81e1d69ca6ae7a6d9968825203c4c7f5892233b15bce5", func := "bitcast/bitcastlaw07.AdvertDecodes", spec := "advertDecodes", unfollowed := true, recurses := true, named := ["math/bits.deBruijn64tab"], apart := false, laid := [("math/bits.deBruijn64tab", laid_math_bits_deBruijn64tab)] }
def AdvertDecodesSaid : Prop := advertDecodesRow.holds Tryd.pinned (OpenSpec.ofChange advertDecodesSpec)

/-- ITS FALSE NEIGHBOUR: 'it returns false'. Refute it at one input. -/
def advertDecodesWrong : ChangeSpec := { name := "advertDecodes", fn := fun _ => fun
  | [d1, d2] => { results := [.lit (.bool false)], args := [d1, d2] }
  | _ => none }
def AdvertDecodesWrongFalsely : Prop := advertDecodesRow.holds Tryd.pinned (OpenSpec.ofChange advertDecodesWrong)

/-- 'bitcastlaw07.AdvertForged': WHATEVER THE INPUT: true; the input reads as it did. -/
def advertForgedSpec : ChangeSpec := { name := "advertForged", fn := fun _ => fun
  | [d] => { results := [.lit (.bool true)], args := [d] }
  | _ => none }
def advertForgedRow : OpenClaim := { program := "ytpoocenooomghaadoor", sum := "749a8da25291c1e3acd81e1d69ca6ae7a6d9968825203c4c7f5892233b15bce5", func := "bitcast/bitcastlaw07.AdvertForged", spec := "advertForged", unfollowed := true, recurses := true, named := ["math/bits.deBruijn64tab"], apart := false, laid := [("math/bits.deBruijn64tab", laid_math_bits_deBruijn64tab)] }
def AdvertForgedSaid : Prop := advertForgedRow.holds Tryd.pinned (OpenSpec.ofChange advertForgedSpec)

/-- ITS FALSE NEIGHBOUR: 'it returns false'. Refute it at one input. -/
def advertForgedWrong : ChangeSpec := { name := "advertForged", fn := fun _ => fun
  | [d] => { results := [.lit (.bool false)], args := [d] }
  | _ => none }
def AdvertForgedWrongFalsely : Prop := advertForgedRow.holds Tryd.pinned (OpenSpec.ofChange advertForgedWrong)

/-- 'bitcastlaw07.AdvertNewer': WHATEVER THE INPUT: true; the input reads as it did. -/
def advertNewerSpec : ChangeSpec := { name := "advertNewer", fn := fun _ => fun
  | [d1, d2, d3] => { results := [.lit (.bool true)], args := [d1, d2, d3] }
  | _ => none }
def advertNewerRow : OpenClaim := { program := "ytpoocenooomghaadoor", sum := "749a8da25291c1e3acd81e1d69ca6ae7a6d9968825203c4c7f5892233b15bce5", func := "bitcast/bitcastlaw07.AdvertNewer", spec := "advertNewer", unfollowed := true, recurses := true, named := ["math/bits.deBruijn64tab"], apart := false, laid := [("math/bits.deBruijn64tab", laid_math_bits_deBruijn64tab)] }
def AdvertNewerSaid : Prop := advertNewerRow.holds Tryd.pinned (OpenSpec.ofChange advertNewerSpec)

/-- ITS FALSE NEIGHBOUR: 'it returns false'. Refute it at one input. -/
def advertNewerWrong : ChangeSpec := { name := "advertNewer", fn := fun _ => fun
  | [d1, d2, d3] => { results := [.lit (.bool false)], args := [d1, d2, d3] }
  | _ => none }
def AdvertNewerWrongFalsely : Prop := advertNewerRow.holds Tryd.pinned (OpenSpec.ofChange advertNewerWrong)

/-- 'bitcastlaw07.AdvertOrder': WHATEVER THE INPUT: true; the input reads as it did. -/
def advertOrderSpec : ChangeSpec := { name := "advertOrder", fn := fun _ => fun
  | [d] => { results := [.lit (.bool true)], args := [d] }
  | _ => none }
def advertOrderRow : OpenClaim := { program := "ytpoocenooomghaadoor", sum := "749a8da25291c1e3acd81e1d69ca6ae7a6d9968825203c4c7f5892233b15bce5", func := "bitcast/bitcastlaw07.AdvertOrder", spec := "advertOrder", unfollowed := true, recurses := true, named := ["math/bits.deBruijn64tab"], apart := false, laid := [("math/bits.deBruijn64tab", laid_math_bits_deBruijn64tab)] }
def AdvertOrderSaid : Prop := advertOrderRow.holds Tryd.pinned (OpenSpec.ofChange advertOrderSpec)

/-- ITS FALSE NEIGHBOUR: 'it returns false'. Refute it at one input. -/
def advertOrderWrong : ChangeSpec := { name := "advertOrder", fn := fun _ => fun
  | [d] => { results := [.lit (.bool false)], args := [d] }
  | _ => none }
def AdvertOrderWrongFalsely : Prop := advertOrderRow.holds Tryd.pinned (OpenSpec.ofChange advertOrderWrong)

/-- 'bitcastlaw07.AdvertOf': WHATEVER THE INPUT: true; the input reads as it did. -/
def advertOfSpec : ChangeSpec := { name := "advertOf", fn := fun _ => fun
  | [d1, d2, d3, d4] => { results := [.lit (.bool true)], args := [d1, d2, d3, d4] }
  | _ => none }
def advertOfRow : OpenClaim := { program := "ytpoocenooomghaadoor", sum := "749a8da25291c1e3acd81e1d69ca6ae7a6d9968825203c4c7f5892233b15bce5", func := "bitcast/bitcastlaw07.AdvertOf", spec := "advertOf", unfollowed := true, recurses := true, named := ["math/bits.deBruijn64tab"], apart := false, laid := [("math/bits.deBruijn64tab", laid_math_bits_deBruijn64tab)] }
def AdvertOfSaid : Prop := advertOfRow.holds Tryd.pinned (OpenSpec.ofChange advertOfSpec)

/-- ITS FALSE NEIGHBOUR: 'it returns false'. Refute it at one input. -/
def advertOfWrong : ChangeSpec := { name := "advertOf", fn := fun _ => fun
  | [d1, d2, d3, d4] => { results := [.lit (.bool false)], args := [d1, d2, d3, d4] }
  | _ => none }
def AdvertOfWrongFalsely : Prop := advertOfRow.holds Tryd.pinned (OpenSpec.ofChange advertOfWrong)

/- THE SECOND FORM. 'bulk': how many values and letters a reading holds, each counted each time it is reached (what is shared counts as often as it is met; a slice's spare places count too). A statement '..UptoSaid' is the law's where the arguments, and the package variables that the reading takes, are together of bulk at most 1048576: NARROWER than '..Said'. Prove '..Said' where nothing that the law and all that it calls make is longer than what came in: it says more and counts as full. Else prove '..UptoSaid'. A law counts once. -/
mutual
def uptoBulk {H : Type} : DataW H → Nat
  | .lit (.string bytes) => bytes.length + 1
  | .lit _ => 1
  | .nil => 1
  | .ptr d => uptoBulk d + 1
  | .slice elems spare => uptoBulkAll elems + uptoBulkAll spare + 1
  | .agg parts => uptoBulkAll parts + 1
  | .iface _ d => uptoBulk d + 1
  | .map entries => uptoBulkEntries entries + 1
  | .held _ => 1
def uptoBulkAll {H : Type} : List (DataW H) → Nat
  | [] => 0
  | d :: r => uptoBulk d + uptoBulkAll r
def uptoBulkEntries {H : Type} : List (Lit × DataW H) → Nat
  | [] => 0
  | x :: r => uptoBulkEntry x + uptoBulkEntries r
def uptoBulkEntry {H : Type} : Lit × DataW H → Nat
  | (.string bytes, d) => bytes.length + uptoBulk d + 1
  | (_, d) => uptoBulk d + 1
 end
def uptoSmall : (H : Type) → List (DataW H) → Bool := fun _ ds => decide (uptoBulkAll ds ≤ 1048576)
def OpenSpec.upto (s : _root_.Go.ChangeSpec) : _root_.Go.OpenSpec := { _root_.Go.OpenSpec.ofChange s with cond := some uptoSmall }

/-- 'bitcastlaw07.AdvertValid', WHERE WHAT IT READS IS OF BULK AT MOST 1048576: true; the input reads as it did. -/
def advertValidUptoRow : OpenClaim := { program := "ytpoocenooomghaadoor", sum := "749a8da25291c1e3acd81e1d69ca6ae7a6d9968825203c4c7f5892233b15bce5", func := "bitcast/bitcastlaw07.AdvertValid", spec := "advertValid", unfollowed := true, recurses := true, named := ["math/bits.deBruijn64tab"], apart := false, laid := [("math/bits.deBruijn64tab", laid_math_bits_deBruijn64tab)], narrowed := true }
def AdvertValidUptoSaid : Prop := advertValidUptoRow.holds Tryd.pinned (OpenSpec.upto advertValidSpec)

/-- 'bitcastlaw07.AdvertEncodes', WHERE WHAT IT READS IS OF BULK AT MOST 1048576: true; the input reads as it did. -/
def advertEncodesUptoRow : OpenClaim := { program := "ytpoocenooomghaadoor", sum := "749a8da25291c1e3acd81e1d69ca6ae7a6d9968825203c4c7f5892233b15bce5", func := "bitcast/bitcastlaw07.AdvertEncodes", spec := "advertEncodes", unfollowed := true, recurses := true, named := ["math/bits.deBruijn64tab"], apart := false, laid := [("math/bits.deBruijn64tab", laid_math_bits_deBruijn64tab)], narrowed := true }
def AdvertEncodesUptoSaid : Prop := advertEncodesUptoRow.holds Tryd.pinned (OpenSpec.upto advertEncodesSpec)

/-- 'bitcastlaw07.AdvertDecodes', WHERE WHAT IT READS IS OF BULK AT MOST 1048576: true; the input reads as it did. -/
def advertDecodesUptoRow : OpenClaim := { program := "ytpoocenooomghaadoor", sum := "749a8da25291c1e3acd81e1d69ca6ae7a6d9968825203c4c7f5892233b15bce5", func := "bitcast/bitcastlaw07.AdvertDecodes", spec := "advertDecodes", unfollowed := true, recurses := true, named := ["math/bits.deBruijn64tab"], apart := false, laid := [("math/bits.deBruijn64tab", laid_math_bits_deBruijn64tab)], narrowed := true }
def AdvertDecodesUptoSaid : Prop := advertDecodesUptoRow.holds Tryd.pinned (OpenSpec.upto advertDecodesSpec)

/-- 'bitcastlaw07.AdvertForged', WHERE WHAT IT READS IS OF BULK AT MOST 1048576: true; the input reads as it did. -/
def advertForgedUptoRow : OpenClaim := { program := "ytpoocenooomghaadoor", sum := "749a8da25291c1e3acd81e1d69ca6ae7a6d9968825203c4c7f5892233b15bce5", func := "bitcast/bitcastlaw07.AdvertForged", spec := "advertForged", unfollowed := true, recurses := true, named := ["math/bits.deBruijn64tab"], apart := false, laid := [("math/bits.deBruijn64tab", laid_math_bits_deBruijn64tab)], narrowed := true }
def AdvertForgedUptoSaid : Prop := advertForgedUptoRow.holds Tryd.pinned (OpenSpec.upto advertForgedSpec)

/-- 'bitcastlaw07.AdvertNewer', WHERE WHAT IT READS IS OF BULK AT MOST 1048576: true; the input reads as it did. -/
def advertNewerUptoRow : OpenClaim := { program := "ytpoocenooomghaadoor", sum := "749a8da25291c1e3acd81e1d69ca6ae7a6d9968825203c4c7f5892233b15bce5", func := "bitcast/bitcastlaw07.AdvertNewer", spec := "advertNewer", unfollowed := true, recurses := true, named := ["math/bits.deBruijn64tab"], apart := false, laid := [("math/bits.deBruijn64tab", laid_math_bits_deBruijn64tab)], narrowed := true }
def AdvertNewerUptoSaid : Prop := advertNewerUptoRow.holds Tryd.pinned (OpenSpec.upto advertNewerSpec)

/-- 'bitcastlaw07.AdvertOrder', WHERE WHAT IT READS IS OF BULK AT MOST 1048576: true; the input reads as it did. -/
def advertOrderUptoRow : OpenClaim := { program := "ytpoocenooomghaadoor", sum := "749a8da25291c1e3acd81e1d69ca6ae7a6d9968825203c4c7f5892233b15bce5", func := "bitcast/bitcastlaw07.AdvertOrder", spec := "advertOrder", unfollowed := true, recurses := true, named := ["math/bits.deBruijn64tab"], apart := false, laid := [("math/bits.deBruijn64tab", laid_math_bits_deBruijn64tab)], narrowed := true }
def AdvertOrderUptoSaid : Prop := advertOrderUptoRow.holds Tryd.pinned (OpenSpec.upto advertOrderSpec)

/-- 'bitcastlaw07.AdvertOf', WHERE WHAT IT READS IS OF BULK AT MOST 1048576: true; the input reads as it did. -/
def advertOfUptoRow : OpenClaim := { program := "ytpoocenooomghaadoor", sum := "749a8da25291c1e3acd81e1d69ca6ae7a6d9968825203c4c7f5892233b15bce5", func := "bitcast/bitcastlaw07.AdvertOf", spec := "advertOf", unfollowed := true, recurses := true, named := ["math/bits.deBruijn64tab"], apart := false, laid := [("math/bits.deBruijn64tab", laid_math_bits_deBruijn64tab)], narrowed := true }
def AdvertOfUptoSaid : Prop := advertOfUptoRow.holds Tryd.pinned (OpenSpec.upto advertOfSpec)

end Rows
end Go.Proofs.YtpoocenooomghaaDoor
