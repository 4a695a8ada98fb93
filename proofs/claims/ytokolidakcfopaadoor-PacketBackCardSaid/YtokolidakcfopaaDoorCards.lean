/-
  DERIVED. GIVEN WITH THE SEED: THE CARDS: each row of YtokolidakcfopaaDoorRows.lean that lists a variable, with what it lists TIED to the program's text (the seventh form; the later family's looks); each row that meets fmt, with fmt's text TOLD by the authors' own Lean function (tested against real Go, not proved from fmt's source: count such statements apart). THE CARD IS WHAT COUNTS. Prove the row's statement (the work); the ties are given (YtokolidakcfopaaDoorTie.lean); close each card by the builder's one call (the guide's Derived/Test/ToyasCard.lean, 'card_holds'). Laid BY PROGRAM, IN A SANDBOX (cutbox-door.mjs). By AI agents, Wed Nov 11 2026. No macro, syntax, notation, axiom, sorry.
-/
import Derived.Test.YtokolidakcfopaaDoorRows
import GoSem.ClaimSeven
namespace Go.Proofs.YtokolidakcfopaaDoor
namespace Rows

/-- THE TIED CARD OF 'bitcastlaw03.PacketValid'. -/
def packetValidCard : Claim7 := { stood := { row := packetValidRow, standIns := [], harness := (true, "fe2407a3dca46a922fe328bdb9dfa8cef0f93bb770786bbb4490fd960f1735a5"), looks := false }, kinds := [], alts := [], laidByText := true, laidKinds := [.data], laidTests := true, laidLooks := .later }
def PacketValidCardSaid : Prop := Claim7.holds Tryd.pinned (.plain (OpenSpec.ofChange packetValidSpec)) packetValidCard

/-- THE TIED CARD OF 'bitcastlaw03.PacketEncodes'. -/
def packetEncodesCard : Claim7 := { stood := { row := packetEncodesRow, standIns := [], harness := (true, "fe2407a3dca46a922fe328bdb9dfa8cef0f93bb770786bbb4490fd960f1735a5"), looks := false }, kinds := [], alts := [], laidByText := true, laidKinds := [.data], laidTests := true, laidLooks := .later }
def PacketEncodesCardSaid : Prop := Claim7.holds Tryd.pinned (.plain (OpenSpec.ofChange packetEncodesSpec)) packetEncodesCard

/-- THE TIED CARD OF 'bitcastlaw03.PacketBack'. -/
def packetBackCard : Claim7 := { stood := { row := packetBackRow, standIns := [], harness := (true, "fe2407a3dca46a922fe328bdb9dfa8cef0f93bb770786bbb4490fd960f1735a5"), looks := false }, kinds := [], alts := [], laidByText := true, laidKinds := [.data], laidTests := true, laidLooks := .later }
def PacketBackCardSaid : Prop := Claim7.holds Tryd.pinned (.plain (OpenSpec.ofChange packetBackSpec)) packetBackCard

/-- THE TIED CARD OF 'bitcastlaw03.PacketDecodes'. -/
def packetDecodesCard : Claim7 := { stood := { row := packetDecodesRow, standIns := [], harness := (true, "fe2407a3dca46a922fe328bdb9dfa8cef0f93bb770786bbb4490fd960f1735a5"), looks := false }, kinds := [], alts := [], laidByText := true, laidKinds := [.data], laidTests := true, laidLooks := .later }
def PacketDecodesCardSaid : Prop := Claim7.holds Tryd.pinned (.plain (OpenSpec.ofChange packetDecodesSpec)) packetDecodesCard

/-- THE TIED CARD OF 'bitcastlaw03.PacketDetects'. -/
def packetDetectsCard : Claim7 := { stood := { row := packetDetectsRow, standIns := [], harness := (true, "fe2407a3dca46a922fe328bdb9dfa8cef0f93bb770786bbb4490fd960f1735a5"), looks := false }, kinds := [], alts := [], laidByText := true, laidKinds := [.data], laidTests := true, laidLooks := .later }
def PacketDetectsCardSaid : Prop := Claim7.holds Tryd.pinned (.plain (OpenSpec.ofChange packetDetectsSpec)) packetDetectsCard

/-- THE TIED CARD OF 'bitcastlaw03.PacketCopies'. -/
def packetCopiesCard : Claim7 := { stood := { row := packetCopiesRow, standIns := [], harness := (true, "fe2407a3dca46a922fe328bdb9dfa8cef0f93bb770786bbb4490fd960f1735a5"), looks := false }, kinds := [], alts := [], laidByText := true, laidKinds := [.data], laidTests := true, laidLooks := .later }
def PacketCopiesCardSaid : Prop := Claim7.holds Tryd.pinned (.plain (OpenSpec.ofChange packetCopiesSpec)) packetCopiesCard

/-- THE SECOND FORM's CARD OF 'bitcastlaw03.PacketValid'. -/
def packetValidUptoCard : Claim7 := { stood := { row := packetValidUptoRow, standIns := [], harness := (true, "fe2407a3dca46a922fe328bdb9dfa8cef0f93bb770786bbb4490fd960f1735a5"), looks := false }, kinds := [], alts := [], laidByText := true, laidKinds := [.data], laidTests := true, laidLooks := .later }
def PacketValidUptoCardSaid : Prop := Claim7.holds Tryd.pinned (.plain (OpenSpec.upto packetValidSpec)) packetValidUptoCard

/-- THE SECOND FORM's CARD OF 'bitcastlaw03.PacketEncodes'. -/
def packetEncodesUptoCard : Claim7 := { stood := { row := packetEncodesUptoRow, standIns := [], harness := (true, "fe2407a3dca46a922fe328bdb9dfa8cef0f93bb770786bbb4490fd960f1735a5"), looks := false }, kinds := [], alts := [], laidByText := true, laidKinds := [.data], laidTests := true, laidLooks := .later }
def PacketEncodesUptoCardSaid : Prop := Claim7.holds Tryd.pinned (.plain (OpenSpec.upto packetEncodesSpec)) packetEncodesUptoCard

/-- THE SECOND FORM's CARD OF 'bitcastlaw03.PacketBack'. -/
def packetBackUptoCard : Claim7 := { stood := { row := packetBackUptoRow, standIns := [], harness := (true, "fe2407a3dca46a922fe328bdb9dfa8cef0f93bb770786bbb4490fd960f1735a5"), looks := false }, kinds := [], alts := [], laidByText := true, laidKinds := [.data], laidTests := true, laidLooks := .later }
def PacketBackUptoCardSaid : Prop := Claim7.holds Tryd.pinned (.plain (OpenSpec.upto packetBackSpec)) packetBackUptoCard

/-- THE SECOND FORM's CARD OF 'bitcastlaw03.PacketDecodes'. -/
def packetDecodesUptoCard : Claim7 := { stood := { row := packetDecodesUptoRow, standIns := [], harness := (true, "fe2407a3dca46a922fe328bdb9dfa8cef0f93bb770786bbb4490fd960f1735a5"), looks := false }, kinds := [], alts := [], laidByText := true, laidKinds := [.data], laidTests := true, laidLooks := .later }
def PacketDecodesUptoCardSaid : Prop := Claim7.holds Tryd.pinned (.plain (OpenSpec.upto packetDecodesSpec)) packetDecodesUptoCard

/-- THE SECOND FORM's CARD OF 'bitcastlaw03.PacketDetects'. -/
def packetDetectsUptoCard : Claim7 := { stood := { row := packetDetectsUptoRow, standIns := [], harness := (true, "fe2407a3dca46a922fe328bdb9dfa8cef0f93bb770786bbb4490fd960f1735a5"), looks := false }, kinds := [], alts := [], laidByText := true, laidKinds := [.data], laidTests := true, laidLooks := .later }
def PacketDetectsUptoCardSaid : Prop := Claim7.holds Tryd.pinned (.plain (OpenSpec.upto packetDetectsSpec)) packetDetectsUptoCard

/-- THE SECOND FORM's CARD OF 'bitcastlaw03.PacketCopies'. -/
def packetCopiesUptoCard : Claim7 := { stood := { row := packetCopiesUptoRow, standIns := [], harness := (true, "fe2407a3dca46a922fe328bdb9dfa8cef0f93bb770786bbb4490fd960f1735a5"), looks := false }, kinds := [], alts := [], laidByText := true, laidKinds := [.data], laidTests := true, laidLooks := .later }
def PacketCopiesUptoCardSaid : Prop := Claim7.holds Tryd.pinned (.plain (OpenSpec.upto packetCopiesSpec)) packetCopiesUptoCard
end Rows
end Go.Proofs.YtokolidakcfopaaDoor
