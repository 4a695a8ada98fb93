/-
  DERIVED. GIVEN WITH THE SEED: THE CARDS: each row of YtpombmpkccnefaaDoorRows.lean that lists a variable, with what it lists TIED to the program's text (the seventh form; the later family's looks); each row that meets fmt, with fmt's text TOLD by the authors' own Lean function (tested against real Go, not proved from fmt's source: count such statements apart). THE CARD IS WHAT COUNTS. Prove the row's statement (the work); the ties are given (YtpombmpkccnefaaDoorTie.lean); close each card by the builder's one call (the guide's Derived/Test/ToyasCard.lean, 'card_holds'). Laid BY PROGRAM, IN A SANDBOX (cutbox-door.mjs). By AI agents, Wed Nov 11 2026. No macro, syntax, notation, axiom, sorry.
-/
import Derived.Test.YtpombmpkccnefaaDoorRows
import GoSem.ClaimSeven
namespace Go.Proofs.YtpombmpkccnefaaDoor
namespace Rows

/-- THE TIED CARD OF 'bitcastlaw03.PacketDecodes'. -/
def packetDecodesCard : Claim7 := { stood := { row := packetDecodesRow, standIns := [], harness := (true, "efd31bf8cc9fb185099f1533291d60de5167a78d88ae5bbd8602ef05d3572d54"), looks := false }, kinds := [], alts := [], laidByText := true, laidKinds := [.data], laidTests := true, laidLooks := .later }
def PacketDecodesCardSaid : Prop := Claim7.holds Tryd.pinned (.plain (OpenSpec.ofChange packetDecodesSpec)) packetDecodesCard

/-- THE TIED CARD OF 'bitcastlaw04.StackValid'. -/
def stackValidCard : Claim7 := { stood := { row := stackValidRow, standIns := [], harness := (true, "efd31bf8cc9fb185099f1533291d60de5167a78d88ae5bbd8602ef05d3572d54"), looks := false }, kinds := [], alts := [], laidByText := true, laidKinds := [.data], laidTests := true, laidLooks := .later }
def StackValidCardSaid : Prop := Claim7.holds Tryd.pinned (.plain (OpenSpec.ofChange stackValidSpec)) stackValidCard

/-- THE TIED CARD OF 'bitcastlaw04.StackLabels'. -/
def stackLabelsCard : Claim7 := { stood := { row := stackLabelsRow, standIns := [], harness := (true, "efd31bf8cc9fb185099f1533291d60de5167a78d88ae5bbd8602ef05d3572d54"), looks := false }, kinds := [], alts := [], laidByText := true, laidKinds := [.data], laidTests := true, laidLooks := .later }
def StackLabelsCardSaid : Prop := Claim7.holds Tryd.pinned (.plain (OpenSpec.ofChange stackLabelsSpec)) stackLabelsCard

/-- THE TIED CARD OF 'bitcastlaw04.StackReads'. -/
def stackReadsCard : Claim7 := { stood := { row := stackReadsRow, standIns := [], harness := (true, "efd31bf8cc9fb185099f1533291d60de5167a78d88ae5bbd8602ef05d3572d54"), looks := false }, kinds := [], alts := [], laidByText := true, laidKinds := [.data], laidTests := true, laidLooks := .later }
def StackReadsCardSaid : Prop := Claim7.holds Tryd.pinned (.plain (OpenSpec.ofChange stackReadsSpec)) stackReadsCard

/-- THE TIED CARD OF 'bitcastlaw04.StackFrames'. -/
def stackFramesCard : Claim7 := { stood := { row := stackFramesRow, standIns := [], harness := (true, "efd31bf8cc9fb185099f1533291d60de5167a78d88ae5bbd8602ef05d3572d54"), looks := false }, kinds := [], alts := [], laidByText := true, laidKinds := [.data], laidTests := true, laidLooks := .later }
def StackFramesCardSaid : Prop := Claim7.holds Tryd.pinned (.plain (OpenSpec.ofChange stackFramesSpec)) stackFramesCard

/-- THE TIED CARD OF 'bitcastlaw04.StackDecodes'. -/
def stackDecodesCard : Claim7 := { stood := { row := stackDecodesRow, standIns := [], harness := (true, "efd31bf8cc9fb185099f1533291d60de5167a78d88ae5bbd8602ef05d3572d54"), looks := false }, kinds := [], alts := [], laidByText := true, laidKinds := [.data], laidTests := true, laidLooks := .later }
def StackDecodesCardSaid : Prop := Claim7.holds Tryd.pinned (.plain (OpenSpec.ofChange stackDecodesSpec)) stackDecodesCard

/-- THE TIED CARD OF 'bitcastlaw04.StackPushes'. -/
def stackPushesCard : Claim7 := { stood := { row := stackPushesRow, standIns := [], harness := (true, "efd31bf8cc9fb185099f1533291d60de5167a78d88ae5bbd8602ef05d3572d54"), looks := false }, kinds := [], alts := [], laidByText := true, laidKinds := [.data], laidTests := true, laidLooks := .later }
def StackPushesCardSaid : Prop := Claim7.holds Tryd.pinned (.plain (OpenSpec.ofChange stackPushesSpec)) stackPushesCard

/-- THE SECOND FORM's CARD OF 'bitcastlaw03.PacketDecodes'. -/
def packetDecodesUptoCard : Claim7 := { stood := { row := packetDecodesUptoRow, standIns := [], harness := (true, "efd31bf8cc9fb185099f1533291d60de5167a78d88ae5bbd8602ef05d3572d54"), looks := false }, kinds := [], alts := [], laidByText := true, laidKinds := [.data], laidTests := true, laidLooks := .later }
def PacketDecodesUptoCardSaid : Prop := Claim7.holds Tryd.pinned (.plain (OpenSpec.upto packetDecodesSpec)) packetDecodesUptoCard

/-- THE SECOND FORM's CARD OF 'bitcastlaw04.StackValid'. -/
def stackValidUptoCard : Claim7 := { stood := { row := stackValidUptoRow, standIns := [], harness := (true, "efd31bf8cc9fb185099f1533291d60de5167a78d88ae5bbd8602ef05d3572d54"), looks := false }, kinds := [], alts := [], laidByText := true, laidKinds := [.data], laidTests := true, laidLooks := .later }
def StackValidUptoCardSaid : Prop := Claim7.holds Tryd.pinned (.plain (OpenSpec.upto stackValidSpec)) stackValidUptoCard

/-- THE SECOND FORM's CARD OF 'bitcastlaw04.StackLabels'. -/
def stackLabelsUptoCard : Claim7 := { stood := { row := stackLabelsUptoRow, standIns := [], harness := (true, "efd31bf8cc9fb185099f1533291d60de5167a78d88ae5bbd8602ef05d3572d54"), looks := false }, kinds := [], alts := [], laidByText := true, laidKinds := [.data], laidTests := true, laidLooks := .later }
def StackLabelsUptoCardSaid : Prop := Claim7.holds Tryd.pinned (.plain (OpenSpec.upto stackLabelsSpec)) stackLabelsUptoCard

/-- THE SECOND FORM's CARD OF 'bitcastlaw04.StackReads'. -/
def stackReadsUptoCard : Claim7 := { stood := { row := stackReadsUptoRow, standIns := [], harness := (true, "efd31bf8cc9fb185099f1533291d60de5167a78d88ae5bbd8602ef05d3572d54"), looks := false }, kinds := [], alts := [], laidByText := true, laidKinds := [.data], laidTests := true, laidLooks := .later }
def StackReadsUptoCardSaid : Prop := Claim7.holds Tryd.pinned (.plain (OpenSpec.upto stackReadsSpec)) stackReadsUptoCard

/-- THE SECOND FORM's CARD OF 'bitcastlaw04.StackFrames'. -/
def stackFramesUptoCard : Claim7 := { stood := { row := stackFramesUptoRow, standIns := [], harness := (true, "efd31bf8cc9fb185099f1533291d60de5167a78d88ae5bbd8602ef05d3572d54"), looks := false }, kinds := [], alts := [], laidByText := true, laidKinds := [.data], laidTests := true, laidLooks := .later }
def StackFramesUptoCardSaid : Prop := Claim7.holds Tryd.pinned (.plain (OpenSpec.upto stackFramesSpec)) stackFramesUptoCard

/-- THE SECOND FORM's CARD OF 'bitcastlaw04.StackDecodes'. -/
def stackDecodesUptoCard : Claim7 := { stood := { row := stackDecodesUptoRow, standIns := [], harness := (true, "efd31bf8cc9fb185099f1533291d60de5167a78d88ae5bbd8602ef05d3572d54"), looks := false }, kinds := [], alts := [], laidByText := true, laidKinds := [.data], laidTests := true, laidLooks := .later }
def StackDecodesUptoCardSaid : Prop := Claim7.holds Tryd.pinned (.plain (OpenSpec.upto stackDecodesSpec)) stackDecodesUptoCard

/-- THE SECOND FORM's CARD OF 'bitcastlaw04.StackPushes'. -/
def stackPushesUptoCard : Claim7 := { stood := { row := stackPushesUptoRow, standIns := [], harness := (true, "efd31bf8cc9fb185099f1533291d60de5167a78d88ae5bbd8602ef05d3572d54"), looks := false }, kinds := [], alts := [], laidByText := true, laidKinds := [.data], laidTests := true, laidLooks := .later }
def StackPushesUptoCardSaid : Prop := Claim7.holds Tryd.pinned (.plain (OpenSpec.upto stackPushesSpec)) stackPushesUptoCard
end Rows
end Go.Proofs.YtpombmpkccnefaaDoor
