/-
  NARROWER THAN 'FOR EVERY INPUT', by the rows' own cells (each row's printed sentence says how): PacketDecodes: laid · StackValid: laid · StackLabels: laid · StackReads: laid · StackFrames: laid · StackDecodes: laid · StackPushes: laid.
  DERIVED. THE GIVEN ROWS OF THIS SEAT. 7 by the template 'for every input the law returns true; each argument reads behind the call as it read before'; 0 by the template 'total and deterministic' (their statements: YtpombmpkccnefaaDoorTotals.lean).
  GIVEN WITH THE SEED: the statements are not yours to turn. If you find one false, say at which input.
  Laid BY PROGRAM, IN A SANDBOX (cutbox-rows.mjs): the forced cells as the released guide's own fill.sh prints them over the translation ac88d8730e770bf1… (all of the seat's roots in one cut). By AI agents, Wed Nov 11 2026. No macro, syntax, notation, axiom, sorry.
-/
import Derived.Test.YtpombmpkccnefaaDoorChecked
import GoSem.Claim
import GoSem.ClaimJoined
import GoSem.ClaimMapViews
import Derived.JoinedTies
import Derived.KernelRfl
namespace Go.Proofs.YtpombmpkccnefaaDoor
/- THE CELL 'sum', in the pinned program and in every row, IS THE sha256 OF THE DUMP (.gsa) THAT YtpombmpkccnefaaDoorProg.lean LOADS. Nothing in Lean hashes anything: it is a label: what it is worth is what the hold of that sum in a sandbox is worth. -/
noncomputable def Tryd.pinned : Pinned := { name := "ytpombmpkccnefaadoor", sum := "ac88d8730e770bf1fe47f23d26bf082bf8bce27aa5872abada1430cd66b66b49", checked := Tryd.checked }
namespace Rows
def none {H : Type} : Left H := { results := [], args := [] }

/- WHAT THE LISTED PACKAGE-LEVEL VARIABLES READ AS WHEN THE CALL BEGINS. Each datum BY PROGRAM (the guide's laid-datum.mjs) off the statement by which the dump's own 'gosem.cut.vars' lays the variable. In a bare row this is a premise. The card (YtpombmpkccnefaaDoorCards.lean) ties it to the program's text. -/
def laid_math_bits_deBruijn64tab {H : Type} : DataW H := .agg [.lit (.int .u8 0), .lit (.int .u8 1), .lit (.int .u8 56), .lit (.int .u8 2), .lit (.int .u8 57), .lit (.int .u8 49), .lit (.int .u8 28), .lit (.int .u8 3), .lit (.int .u8 61), .lit (.int .u8 58), .lit (.int .u8 42), .lit (.int .u8 50), .lit (.int .u8 38), .lit (.int .u8 29), .lit (.int .u8 17), .lit (.int .u8 4), .lit (.int .u8 62), .lit (.int .u8 47), .lit (.int .u8 59), .lit (.int .u8 36), .lit (.int .u8 45), .lit (.int .u8 43), .lit (.int .u8 51), .lit (.int .u8 22), .lit (.int .u8 53), .lit (.int .u8 39), .lit (.int .u8 33), .lit (.int .u8 30), .lit (.int .u8 24), .lit (.int .u8 18), .lit (.int .u8 12), .lit (.int .u8 5), .lit (.int .u8 63), .lit (.int .u8 55), .lit (.int .u8 48), .lit (.int .u8 27), .lit (.int .u8 60), .lit (.int .u8 41), .lit (.int .u8 37), .lit (.int .u8 16), .lit (.int .u8 46), .lit (.int .u8 35), .lit (.int .u8 44), .lit (.int .u8 21), .lit (.int .u8 52), .lit (.int .u8 32), .lit (.int .u8 23), .lit (.int .u8 11), .lit (.int .u8 54), .lit (.int .u8 26), .lit (.int .u8 40), .lit (.int .u8 15), .lit (.int .u8 34), .lit (.int .u8 20), .lit (.int .u8 31), .lit (.int .u8 10), .lit (.int .u8 25), .lit (.int .u8 14), .lit (.int .u8 19), .lit (.int .u8 9), .lit (.int .u8 13), .lit (.int .u8 8), .lit (.int .u8 7), .lit (.int .u8 6)]

/-- 'bitcastlaw03.PacketDecodes': WHATEVER THE INPUT: true; the input reads as it did. -/
def packetDecodesSpec : ChangeSpec := { name := "packetDecodes", fn := fun _ => fun
  | [d1, d2] => { results := [.lit (.bool true)], args := [d1, d2] }
  | _ => none }
def packetDecodesRow : OpenClaim := { program := "ytpombmpkccnefaadoor", sum := "ac88d8730e770bf1fe47f23d26bf082bf8bce27aa5872abada1430cd66b66b49", func := "bitcast/bitcastlaw03.PacketDecodes", spec := "packetDecodes", named := ["math/bits.deBruijn64tab"], apart := false, laid := [("math/bits.deBruijn64tab", laid_math_bits_deBruijn64tab)] }
def PacketDecodesSaid : Prop := packetDecodesRow.holds Tryd.pinned (OpenSpec.ofChange packetDecodesSpec)

/-- ITS FALSE NEIGHBOUR: 'it returns false'. Refute it at one input. -/
def packetDecodesWrong : ChangeSpec := { name := "packetDecodes", fn := fun _ => fun
  | [d1, d2] => { results := [.lit (.bool false)], args := [d1, d2] }
  | _ => none }
def PacketDecodesWrongFalsely : Prop := packetDecodesRow.holds Tryd.pinned (OpenSpec.ofChange packetDecodesWrong)

/-- 'bitcastlaw04.StackValid': WHATEVER THE INPUT: true; the input reads as it did. -/
def stackValidSpec : ChangeSpec := { name := "stackValid", fn := fun _ => fun
  | [d1, d2, d3] => { results := [.lit (.bool true)], args := [d1, d2, d3] }
  | _ => none }
def stackValidRow : OpenClaim := { program := "ytpombmpkccnefaadoor", sum := "ac88d8730e770bf1fe47f23d26bf082bf8bce27aa5872abada1430cd66b66b49", func := "bitcast/bitcastlaw04.StackValid", spec := "stackValid", named := ["math/bits.deBruijn64tab"], apart := false, laid := [("math/bits.deBruijn64tab", laid_math_bits_deBruijn64tab)] }
def StackValidSaid : Prop := stackValidRow.holds Tryd.pinned (OpenSpec.ofChange stackValidSpec)

/-- ITS FALSE NEIGHBOUR: 'it returns false'. Refute it at one input. -/
def stackValidWrong : ChangeSpec := { name := "stackValid", fn := fun _ => fun
  | [d1, d2, d3] => { results := [.lit (.bool false)], args := [d1, d2, d3] }
  | _ => none }
def StackValidWrongFalsely : Prop := stackValidRow.holds Tryd.pinned (OpenSpec.ofChange stackValidWrong)

/-- 'bitcastlaw04.StackLabels': WHATEVER THE INPUT: true; the input reads as it did. -/
def stackLabelsSpec : ChangeSpec := { name := "stackLabels", fn := fun _ => fun
  | [d1, d2, d3] => { results := [.lit (.bool true)], args := [d1, d2, d3] }
  | _ => none }
def stackLabelsRow : OpenClaim := { program := "ytpombmpkccnefaadoor", sum := "ac88d8730e770bf1fe47f23d26bf082bf8bce27aa5872abada1430cd66b66b49", func := "bitcast/bitcastlaw04.StackLabels", spec := "stackLabels", named := ["math/bits.deBruijn64tab"], apart := false, laid := [("math/bits.deBruijn64tab", laid_math_bits_deBruijn64tab)] }
def StackLabelsSaid : Prop := stackLabelsRow.holds Tryd.pinned (OpenSpec.ofChange stackLabelsSpec)

/-- ITS FALSE NEIGHBOUR: 'it returns false'. Refute it at one input. -/
def stackLabelsWrong : ChangeSpec := { name := "stackLabels", fn := fun _ => fun
  | [d1, d2, d3] => { results := [.lit (.bool false)], args := [d1, d2, d3] }
  | _ => none }
def StackLabelsWrongFalsely : Prop := stackLabelsRow.holds Tryd.pinned (OpenSpec.ofChange stackLabelsWrong)

/-- 'bitcastlaw04.StackReads': WHATEVER THE INPUT: true; the input reads as it did. -/
def stackReadsSpec : ChangeSpec := { name := "stackReads", fn := fun _ => fun
  | [d1, d2] => { results := [.lit (.bool true)], args := [d1, d2] }
  | _ => none }
def stackReadsRow : OpenClaim := { program := "ytpombmpkccnefaadoor", sum := "ac88d8730e770bf1fe47f23d26bf082bf8bce27aa5872abada1430cd66b66b49", func := "bitcast/bitcastlaw04.StackReads", spec := "stackReads", named := ["math/bits.deBruijn64tab"], apart := false, laid := [("math/bits.deBruijn64tab", laid_math_bits_deBruijn64tab)] }
def StackReadsSaid : Prop := stackReadsRow.holds Tryd.pinned (OpenSpec.ofChange stackReadsSpec)

/-- ITS FALSE NEIGHBOUR: 'it returns false'. Refute it at one input. -/
def stackReadsWrong : ChangeSpec := { name := "stackReads", fn := fun _ => fun
  | [d1, d2] => { results := [.lit (.bool false)], args := [d1, d2] }
  | _ => none }
def StackReadsWrongFalsely : Prop := stackReadsRow.holds Tryd.pinned (OpenSpec.ofChange stackReadsWrong)

/-- 'bitcastlaw04.StackFrames': WHATEVER THE INPUT: true; the input reads as it did. -/
def stackFramesSpec : ChangeSpec := { name := "stackFrames", fn := fun _ => fun
  | [d1, d2] => { results := [.lit (.bool true)], args := [d1, d2] }
  | _ => none }
def stackFramesRow : OpenClaim := { program := "ytpombmpkccnefaadoor", sum := "ac88d8730e770bf1fe47f23d26bf082bf8bce27aa5872abada1430cd66b66b49", func := "bitcast/bitcastlaw04.StackFrames", spec := "stackFrames", named := ["math/bits.deBruijn64tab"], apart := false, laid := [("math/bits.deBruijn64tab", laid_math_bits_deBruijn64tab)] }
def StackFramesSaid : Prop := stackFramesRow.holds Tryd.pinned (OpenSpec.ofChange stackFramesSpec)

/-- ITS FALSE NEIGHBOUR: 'it returns false'. Refute it at one input. -/
def stackFramesWrong : ChangeSpec := { name := "stackFrames", fn := fun _ => fun
  | [d1, d2] => { results := [.lit (.bool false)], args := [d1, d2] }
  | _ => none }
def StackFramesWrongFalsely : Prop := stackFramesRow.holds Tryd.pinned (OpenSpec.ofChange stackFramesWrong)

/-- 'bitcastlaw04.StackDecodes': WHATEVER THE INPUT: true; the input reads as it did. -/
def stackDecodesSpec : ChangeSpec := { name := "stackDecodes", fn := fun _ => fun
  | [d1, d2] => { results := [.lit (.bool true)], args := [d1, d2] }
  | _ => none }
def stackDecodesRow : OpenClaim := { program := "ytpombmpkccnefaadoor", sum := "ac88d8730e770bf1fe47f23d26bf082bf8bce27aa5872abada1430cd66b66b49", func := "bitcast/bitcastlaw04.StackDecodes", spec := "stackDecodes", named := ["math/bits.deBruijn64tab"], apart := false, laid := [("math/bits.deBruijn64tab", laid_math_bits_deBruijn64tab)] }
def StackDecodesSaid : Prop := stackDecodesRow.holds Tryd.pinned (OpenSpec.ofChange stackDecodesSpec)

/-- ITS FALSE NEIGHBOUR: 'it returns false'. Refute it at one input. -/
def stackDecodesWrong : ChangeSpec := { name := "stackDecodes", fn := fun _ => fun
  | [d1, d2] => { results := [.lit (.bool false)], args := [d1, d2] }
  | _ => none }
def StackDecodesWrongFalsely : Prop := stackDecodesRow.holds Tryd.pinned (OpenSpec.ofChange stackDecodesWrong)

/-- 'bitcastlaw04.StackPushes': WHATEVER THE INPUT: true; the input reads as it did. -/
def stackPushesSpec : ChangeSpec := { name := "stackPushes", fn := fun _ => fun
  | [d1, d2, d3] => { results := [.lit (.bool true)], args := [d1, d2, d3] }
  | _ => none }
def stackPushesRow : OpenClaim := { program := "ytpombmpkccnefaadoor", sum := "ac88d8730e770bf1fe47f23d26bf082bf8bce27aa5872abada1430cd66b66b49", func := "bitcast/bitcastlaw04.StackPushes", spec := "stackPushes", named := ["math/bits.deBruijn64tab"], apart := false, laid := [("math/bits.deBruijn64tab", laid_math_bits_deBruijn64tab)] }
def StackPushesSaid : Prop := stackPushesRow.holds Tryd.pinned (OpenSpec.ofChange stackPushesSpec)

/-- ITS FALSE NEIGHBOUR: 'it returns false'. Refute it at one input. -/
def stackPushesWrong : ChangeSpec := { name := "stackPushes", fn := fun _ => fun
  | [d1, d2, d3] => { results := [.lit (.bool false)], args := [d1, d2, d3] }
  | _ => none }
def StackPushesWrongFalsely : Prop := stackPushesRow.holds Tryd.pinned (OpenSpec.ofChange stackPushesWrong)

/- THE SECOND FORM. 'bulk': how many values and letters a reading holds, each counted each time it is reached (what is shared counts as often as it is met; a slice's spare places count too). A statement '..UptoSaid' is the law's where the arguments, and the package variables that the reading takes, are together of bulk at most 1048576: NARROWER than '..Said'. Prove '..Said' where nothing that the law and all that it calls make is longer than what came in: it says more and counts as full. Else prove '..UptoSaid'. A law counts once. -/
mutual
def uptoBulk {H : Type} : DataW H → Nat
  | .lit (.string bytes) => bytes.length + 1
  | .lit _ => 1
  | .nil => 1
  | .ptr d => uptoBulk d + 1
  | .slice elems spare => uptoBulkAll elems + uptoBulkAll spare + 1
  | .agg parts => uptoBulkAll parts + 1
  | .iface _ d => uptoBulk d + 1
  | .map entries => uptoBulkEntries entries + 1
  | .held _ => 1
def uptoBulkAll {H : Type} : List (DataW H) → Nat
  | [] => 0
  | d :: r => uptoBulk d + uptoBulkAll r
def uptoBulkEntries {H : Type} : List (Lit × DataW H) → Nat
  | [] => 0
  | x :: r => uptoBulkEntry x + uptoBulkEntries r
def uptoBulkEntry {H : Type} : Lit × DataW H → Nat
  | (.string bytes, d) => bytes.length + uptoBulk d + 1
  | (_, d) => uptoBulk d + 1
 end
def uptoSmall : (H : Type) → List (DataW H) → Bool := fun _ ds => decide (uptoBulkAll ds ≤ 1048576)
def OpenSpec.upto (s : _root_.Go.ChangeSpec) : _root_.Go.OpenSpec := { _root_.Go.OpenSpec.ofChange s with cond := some uptoSmall }

/-- 'bitcastlaw03.PacketDecodes', WHERE WHAT IT READS IS OF BULK AT MOST 1048576: true; the input reads as it did. -/
def packetDecodesUptoRow : OpenClaim := { program := "ytpombmpkccnefaadoor", sum := "ac88d8730e770bf1fe47f23d26bf082bf8bce27aa5872abada1430cd66b66b49", func := "bitcast/bitcastlaw03.PacketDecodes", spec := "packetDecodes", named := ["math/bits.deBruijn64tab"], apart := false, laid := [("math/bits.deBruijn64tab", laid_math_bits_deBruijn64tab)], narrowed := true }
def PacketDecodesUptoSaid : Prop := packetDecodesUptoRow.holds Tryd.pinned (OpenSpec.upto packetDecodesSpec)

/-- 'bitcastlaw04.StackValid', WHERE WHAT IT READS IS OF BULK AT MOST 1048576: true; the input reads as it did. -/
def stackValidUptoRow : OpenClaim := { program := "ytpombmpkccnefaadoor", sum := "ac88d8730e770bf1fe47f23d26bf082bf8bce27aa5872abada1430cd66b66b49", func := "bitcast/bitcastlaw04.StackValid", spec := "stackValid", named := ["math/bits.deBruijn64tab"], apart := false, laid := [("math/bits.deBruijn64tab", laid_math_bits_deBruijn64tab)], narrowed := true }
def StackValidUptoSaid : Prop := stackValidUptoRow.holds Tryd.pinned (OpenSpec.upto stackValidSpec)

/-- 'bitcastlaw04.StackLabels', WHERE WHAT IT READS IS OF BULK AT MOST 1048576: true; the input reads as it did. -/
def stackLabelsUptoRow : OpenClaim := { program := "ytpombmpkccnefaadoor", sum := "ac88d8730e770bf1fe47f23d26bf082bf8bce27aa5872abada1430cd66b66b49", func := "bitcast/bitcastlaw04.StackLabels", spec := "stackLabels", named := ["math/bits.deBruijn64tab"], apart := false, laid := [("math/bits.deBruijn64tab", laid_math_bits_deBruijn64tab)], narrowed := true }
def StackLabelsUptoSaid : Prop := stackLabelsUptoRow.holds Tryd.pinned (OpenSpec.upto stackLabelsSpec)

/-- 'bitcastlaw04.StackReads', WHERE WHAT IT READS IS OF BULK AT MOST 1048576: true; the input reads as it did. -/
def stackReadsUptoRow : OpenClaim := { program := "ytpombmpkccnefaadoor", sum := "ac88d8730e770bf1fe47f23d26bf082bf8bce27aa5872abada1430cd66b66b49", func := "bitcast/bitcastlaw04.StackReads", spec := "stackReads", named := ["math/bits.deBruijn64tab"], apart := false, laid := [("math/bits.deBruijn64tab", laid_math_bits_deBruijn64tab)], narrowed := true }
def StackReadsUptoSaid : Prop := stackReadsUptoRow.holds Tryd.pinned (OpenSpec.upto stackReadsSpec)

/-- 'bitcastlaw04.StackFrames', WHERE WHAT IT READS IS OF BULK AT MOST 1048576: true; the input reads as it did. -/
def stackFramesUptoRow : OpenClaim := { program := "ytpombmpkccnefaadoor", sum := "ac88d8730e770bf1fe47f23d26bf082bf8bce27aa5872abada1430cd66b66b49", func := "bitcast/bitcastlaw04.StackFrames", spec := "stackFrames", named := ["math/bits.deBruijn64tab"], apart := false, laid := [("math/bits.deBruijn64tab", laid_math_bits_deBruijn64tab)], narrowed := true }
def StackFramesUptoSaid : Prop := stackFramesUptoRow.holds Tryd.pinned (OpenSpec.upto stackFramesSpec)

/-- 'bitcastlaw04.StackDecodes', WHERE WHAT IT READS IS OF BULK AT MOST 1048576: true; the input reads as it did. -/
def stackDecodesUptoRow : OpenClaim := { program := "ytpombmpkccnefaadoor", sum := "ac88d8730e770bf1fe47f23d26bf082bf8bce27aa5872abada1430cd66b66b49", func := "bitcast/bitcastlaw04.StackDecodes", spec := "stackDecodes", named := ["math/bits.deBruijn64tab"], apart := false, laid := [("math/bits.deBruijn64tab", laid_math_bits_deBruijn64tab)], narrowed := true }
def StackDecodesUptoSaid : Prop := stackDecodesUptoRow.holds Tryd.pinned (OpenSpec.upto stackDecodesSpec)

/-- 'bitcastlaw04.StackPushes', WHERE WHAT IT READS IS OF BULK AT MOST 1048576: true; the input reads as it did. -/
def stackPushesUptoRow : OpenClaim := { program := "ytpombmpkccnefaadoor", sum := "ac88d8730e770bf1fe47f23d26bf082bf8bce27aa5872abada1430cd66b66b49", func := "bitcast/bitcastlaw04.StackPushes", spec := "stackPushes", named := ["math/bits.deBruijn64tab"], apart := false, laid := [("math/bits.deBruijn64tab", laid_math_bits_deBruijn64tab)], narrowed := true }
def StackPushesUptoSaid : Prop := stackPushesUptoRow.holds Tryd.pinned (OpenSpec.upto stackPushesSpec)

end Rows
end Go.Proofs.YtpombmpkccnefaaDoor
