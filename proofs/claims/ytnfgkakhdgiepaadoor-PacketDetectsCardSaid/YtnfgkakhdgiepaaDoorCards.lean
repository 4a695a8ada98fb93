/-
  DERIVED. GIVEN WITH THE SEED: THE CARDS: each row of YtnfgkakhdgiepaaDoorRows.lean that lists a variable, with what it lists TIED to the program's text (the seventh form; the later family's looks); each row that meets fmt, with fmt's text TOLD by the authors' own Lean function (tested against real Go, not proved from fmt's source: count such statements apart). THE CARD IS WHAT COUNTS. Prove the row's statement (the work); the ties are given (YtnfgkakhdgiepaaDoorTie.lean); close each card by the builder's one call (the guide's Derived/Test/ToyasCard.lean, 'card_holds'). Laid BY PROGRAM, IN A SANDBOX (cutbox-door.mjs). By AI agents, Wed Nov 11 2026. No macro, syntax, notation, axiom, sorry.
-/
import Derived.Test.YtnfgkakhdgiepaaDoorRows
import GoSem.ClaimSeven
namespace Go.Proofs.YtnfgkakhdgiepaaDoor
namespace Rows

/-- THE TIED CARD OF 'bitcastlaw03.PacketValid'. -/
def packetValidCard : Claim7 := { stood := { row := packetValidRow, standIns := [], harness := (true, "7836e54a29618f2c90bd00fe395c52bb08b0164a19eab72971c53e3d5fec3df9"), looks := false }, kinds := [], alts := [], laidByText := true, laidKinds := [.data], laidTests := true, laidLooks := .later }
def PacketValidCardSaid : Prop := Claim7.holds Tryd.pinned (.plain (OpenSpec.ofChange packetValidSpec)) packetValidCard

/-- THE TIED CARD OF 'bitcastlaw03.PacketEncodes'. -/
def packetEncodesCard : Claim7 := { stood := { row := packetEncodesRow, standIns := [], harness := (true, "7836e54a29618f2c90bd00fe395c52bb08b0164a19eab72971c53e3d5fec3df9"), looks := false }, kinds := [], alts := [], laidByText := true, laidKinds := [.data], laidTests := true, laidLooks := .later }
def PacketEncodesCardSaid : Prop := Claim7.holds Tryd.pinned (.plain (OpenSpec.ofChange packetEncodesSpec)) packetEncodesCard

/-- THE TIED CARD OF 'bitcastlaw03.PacketDecodes'. -/
def packetDecodesCard : Claim7 := { stood := { row := packetDecodesRow, standIns := [], harness := (true, "7836e54a29618f2c90bd00fe395c52bb08b0164a19eab72971c53e3d5fec3df9"), looks := false }, kinds := [], alts := [], laidByText := true, laidKinds := [.data], laidTests := true, laidLooks := .later }
def PacketDecodesCardSaid : Prop := Claim7.holds Tryd.pinned (.plain (OpenSpec.ofChange packetDecodesSpec)) packetDecodesCard

/-- THE TIED CARD OF 'bitcastlaw03.PacketDetects'. -/
def packetDetectsCard : Claim7 := { stood := { row := packetDetectsRow, standIns := [], harness := (true, "7836e54a29618f2c90bd00fe395c52bb08b0164a19eab72971c53e3d5fec3df9"), looks := false }, kinds := [], alts := [], laidByText := true, laidKinds := [.data], laidTests := true, laidLooks := .later }
def PacketDetectsCardSaid : Prop := Claim7.holds Tryd.pinned (.plain (OpenSpec.ofChange packetDetectsSpec)) packetDetectsCard

/-- THE TIED CARD OF 'bitcastlaw03.PacketCopies'. -/
def packetCopiesCard : Claim7 := { stood := { row := packetCopiesRow, standIns := [], harness := (true, "7836e54a29618f2c90bd00fe395c52bb08b0164a19eab72971c53e3d5fec3df9"), looks := false }, kinds := [], alts := [], laidByText := true, laidKinds := [.data], laidTests := true, laidLooks := .later }
def PacketCopiesCardSaid : Prop := Claim7.holds Tryd.pinned (.plain (OpenSpec.ofChange packetCopiesSpec)) packetCopiesCard

/-- THE TIED CARD OF 'bitcastlaw04.StackValid'. -/
def stackValidCard : Claim7 := { stood := { row := stackValidRow, standIns := [], harness := (true, "7836e54a29618f2c90bd00fe395c52bb08b0164a19eab72971c53e3d5fec3df9"), looks := false }, kinds := [], alts := [], laidByText := true, laidKinds := [.data], laidTests := true, laidLooks := .later }
def StackValidCardSaid : Prop := Claim7.holds Tryd.pinned (.plain (OpenSpec.ofChange stackValidSpec)) stackValidCard

/-- THE TIED CARD OF 'bitcastlaw04.StackLabels'. -/
def stackLabelsCard : Claim7 := { stood := { row := stackLabelsRow, standIns := [], harness := (true, "7836e54a29618f2c90bd00fe395c52bb08b0164a19eab72971c53e3d5fec3df9"), looks := false }, kinds := [], alts := [], laidByText := true, laidKinds := [.data], laidTests := true, laidLooks := .later }
def StackLabelsCardSaid : Prop := Claim7.holds Tryd.pinned (.plain (OpenSpec.ofChange stackLabelsSpec)) stackLabelsCard

/-- THE TIED CARD OF 'bitcastlaw04.StackReads'. -/
def stackReadsCard : Claim7 := { stood := { row := stackReadsRow, standIns := [], harness := (true, "7836e54a29618f2c90bd00fe395c52bb08b0164a19eab72971c53e3d5fec3df9"), looks := false }, kinds := [], alts := [], laidByText := true, laidKinds := [.data], laidTests := true, laidLooks := .later }
def StackReadsCardSaid : Prop := Claim7.holds Tryd.pinned (.plain (OpenSpec.ofChange stackReadsSpec)) stackReadsCard

/-- THE TIED CARD OF 'bitcastlaw04.StackFrames'. -/
def stackFramesCard : Claim7 := { stood := { row := stackFramesRow, standIns := [], harness := (true, "7836e54a29618f2c90bd00fe395c52bb08b0164a19eab72971c53e3d5fec3df9"), looks := false }, kinds := [], alts := [], laidByText := true, laidKinds := [.data], laidTests := true, laidLooks := .later }
def StackFramesCardSaid : Prop := Claim7.holds Tryd.pinned (.plain (OpenSpec.ofChange stackFramesSpec)) stackFramesCard

/-- THE TIED CARD OF 'bitcastlaw04.StackDecodes'. -/
def stackDecodesCard : Claim7 := { stood := { row := stackDecodesRow, standIns := [], harness := (true, "7836e54a29618f2c90bd00fe395c52bb08b0164a19eab72971c53e3d5fec3df9"), looks := false }, kinds := [], alts := [], laidByText := true, laidKinds := [.data], laidTests := true, laidLooks := .later }
def StackDecodesCardSaid : Prop := Claim7.holds Tryd.pinned (.plain (OpenSpec.ofChange stackDecodesSpec)) stackDecodesCard

/-- THE TIED CARD OF 'bitcastlaw04.StackPushes'. -/
def stackPushesCard : Claim7 := { stood := { row := stackPushesRow, standIns := [], harness := (true, "7836e54a29618f2c90bd00fe395c52bb08b0164a19eab72971c53e3d5fec3df9"), looks := false }, kinds := [], alts := [], laidByText := true, laidKinds := [.data], laidTests := true, laidLooks := .later }
def StackPushesCardSaid : Prop := Claim7.holds Tryd.pinned (.plain (OpenSpec.ofChange stackPushesSpec)) stackPushesCard

/-- THE SECOND FORM's CARD OF 'bitcastlaw03.PacketValid'. -/
def packetValidUptoCard : Claim7 := { stood := { row := packetValidUptoRow, standIns := [], harness := (true, "7836e54a29618f2c90bd00fe395c52bb08b0164a19eab72971c53e3d5fec3df9"), looks := false }, kinds := [], alts := [], laidByText := true, laidKinds := [.data], laidTests := true, laidLooks := .later }
def PacketValidUptoCardSaid : Prop := Claim7.holds Tryd.pinned (.plain (OpenSpec.upto packetValidSpec)) packetValidUptoCard

/-- THE SECOND FORM's CARD OF 'bitcastlaw03.PacketEncodes'. -/
def packetEncodesUptoCard : Claim7 := { stood := { row := packetEncodesUptoRow, standIns := [], harness := (true, "7836e54a29618f2c90bd00fe395c52bb08b0164a19eab72971c53e3d5fec3df9"), looks := false }, kinds := [], alts := [], laidByText := true, laidKinds := [.data], laidTests := true, laidLooks := .later }
def PacketEncodesUptoCardSaid : Prop := Claim7.holds Tryd.pinned (.plain (OpenSpec.upto packetEncodesSpec)) packetEncodesUptoCard

/-- THE SECOND FORM's CARD OF 'bitcastlaw03.PacketDecodes'. -/
def packetDecodesUptoCard : Claim7 := { stood := { row := packetDecodesUptoRow, standIns := [], harness := (true, "7836e54a29618f2c90bd00fe395c52bb08b0164a19eab72971c53e3d5fec3df9"), looks := false }, kinds := [], alts := [], laidByText := true, laidKinds := [.data], laidTests := true, laidLooks := .later }
def PacketDecodesUptoCardSaid : Prop := Claim7.holds Tryd.pinned (.plain (OpenSpec.upto packetDecodesSpec)) packetDecodesUptoCard

/-- THE SECOND FORM's CARD OF 'bitcastlaw03.PacketDetects'. -/
def packetDetectsUptoCard : Claim7 := { stood := { row := packetDetectsUptoRow, standIns := [], harness := (true, "7836e54a29618f2c90bd00fe395c52bb08b0164a19eab72971c53e3d5fec3df9"), looks := false }, kinds := [], alts := [], laidByText := true, laidKinds := [.data], laidTests := true, laidLooks := .later }
def PacketDetectsUptoCardSaid : Prop := Claim7.holds Tryd.pinned (.plain (OpenSpec.upto packetDetectsSpec)) packetDetectsUptoCard

/-- THE SECOND FORM's CARD OF 'bitcastlaw03.PacketCopies'. -/
def packetCopiesUptoCard : Claim7 := { stood := { row := packetCopiesUptoRow, standIns := [], harness := (true, "7836e54a29618f2c90bd00fe395c52bb08b0164a19eab72971c53e3d5fec3df9"), looks := false }, kinds := [], alts := [], laidByText := true, laidKinds := [.data], laidTests := true, laidLooks := .later }
def PacketCopiesUptoCardSaid : Prop := Claim7.holds Tryd.pinned (.plain (OpenSpec.upto packetCopiesSpec)) packetCopiesUptoCard

/-- THE SECOND FORM's CARD OF 'bitcastlaw04.StackValid'. -/
def stackValidUptoCard : Claim7 := { stood := { row := stackValidUptoRow, standIns := [], harness := (true, "7836e54a29618f2c90bd00fe395c52bb08b0164a19eab72971c53e3d5fec3df9"), looks := false }, kinds := [], alts := [], laidByText := true, laidKinds := [.data], laidTests := true, laidLooks := .later }
def StackValidUptoCardSaid : Prop := Claim7.holds Tryd.pinned (.plain (OpenSpec.upto stackValidSpec)) stackValidUptoCard

/-- THE SECOND FORM's CARD OF 'bitcastlaw04.StackLabels'. -/
def stackLabelsUptoCard : Claim7 := { stood := { row := stackLabelsUptoRow, standIns := [], harness := (true, "7836e54a29618f2c90bd00fe395c52bb08b0164a19eab72971c53e3d5fec3df9"), looks := false }, kinds := [], alts := [], laidByText := true, laidKinds := [.data], laidTests := true, laidLooks := .later }
def StackLabelsUptoCardSaid : Prop := Claim7.holds Tryd.pinned (.plain (OpenSpec.upto stackLabelsSpec)) stackLabelsUptoCard

/-- THE SECOND FORM's CARD OF 'bitcastlaw04.StackReads'. -/
def stackReadsUptoCard : Claim7 := { stood := { row := stackReadsUptoRow, standIns := [], harness := (true, "7836e54a29618f2c90bd00fe395c52bb08b0164a19eab72971c53e3d5fec3df9"), looks := false }, kinds := [], alts := [], laidByText := true, laidKinds := [.data], laidTests := true, laidLooks := .later }
def StackReadsUptoCardSaid : Prop := Claim7.holds Tryd.pinned (.plain (OpenSpec.upto stackReadsSpec)) stackReadsUptoCard

/-- THE SECOND FORM's CARD OF 'bitcastlaw04.StackFrames'. -/
def stackFramesUptoCard : Claim7 := { stood := { row := stackFramesUptoRow, standIns := [], harness := (true, "7836e54a29618f2c90bd00fe395c52bb08b0164a19eab72971c53e3d5fec3df9"), looks := false }, kinds := [], alts := [], laidByText := true, laidKinds := [.data], laidTests := true, laidLooks := .later }
def StackFramesUptoCardSaid : Prop := Claim7.holds Tryd.pinned (.plain (OpenSpec.upto stackFramesSpec)) stackFramesUptoCard

/-- THE SECOND FORM's CARD OF 'bitcastlaw04.StackDecodes'. -/
def stackDecodesUptoCard : Claim7 := { stood := { row := stackDecodesUptoRow, standIns := [], harness := (true, "7836e54a29618f2c90bd00fe395c52bb08b0164a19eab72971c53e3d5fec3df9"), looks := false }, kinds := [], alts := [], laidByText := true, laidKinds := [.data], laidTests := true, laidLooks := .later }
def StackDecodesUptoCardSaid : Prop := Claim7.holds Tryd.pinned (.plain (OpenSpec.upto stackDecodesSpec)) stackDecodesUptoCard

/-- THE SECOND FORM's CARD OF 'bitcastlaw04.StackPushes'. -/
def stackPushesUptoCard : Claim7 := { stood := { row := stackPushesUptoRow, standIns := [], harness := (true, "7836e54a29618f2c90bd00fe395c52bb08b0164a19eab72971c53e3d5fec3df9"), looks := false }, kinds := [], alts := [], laidByText := true, laidKinds := [.data], laidTests := true, laidLooks := .later }
def StackPushesUptoCardSaid : Prop := Claim7.holds Tryd.pinned (.plain (OpenSpec.upto stackPushesSpec)) stackPushesUptoCard
end Rows
end Go.Proofs.YtnfgkakhdgiepaaDoor
