/-
  DERIVED. GIVEN WITH THE SEED: THE CARDS: each row of YtpabfjhjehjebaaDoorRows.lean that lists a variable, with what it lists TIED to the program's text (the seventh form; the later family's looks); each row that meets fmt, with fmt's text TOLD by the authors' own Lean function (tested against real Go, not proved from fmt's source: count such statements apart). THE CARD IS WHAT COUNTS. Prove the row's statement (the work); the ties are given (YtpabfjhjehjebaaDoorTie.lean); close each card by the builder's one call (the guide's Derived/Test/ToyasCard.lean, 'card_holds'). Laid BY PROGRAM, IN A SANDBOX (cutbox-door.mjs). By AI agents, Wed Nov 11 2026. No macro, syntax, notation, axiom, sorry.
-/
import Derived.Test.YtpabfjhjehjebaaDoorRows
import GoSem.ClaimSeven
namespace Go.Proofs.YtpabfjhjehjebaaDoor
namespace Rows

/-- THE TIED CARD OF 'bitcastlaw04.StackDecodes'. -/
def stackDecodesCard : Claim7 := { stood := { row := stackDecodesRow, standIns := [], harness := (true, "abfffc106d5263bdb0dbe80e6da45649d00242caa8afad7d64c5d4a35f7876c5"), looks := false }, kinds := [], alts := [], laidByText := true, laidKinds := [.data], laidTests := true, laidLooks := .later }
def StackDecodesCardSaid : Prop := Claim7.holds Tryd.pinned (.plain (OpenSpec.ofChange stackDecodesSpec)) stackDecodesCard

/-- THE TIED CARD OF 'bitcastlaw04.StackPushes'. -/
def stackPushesCard : Claim7 := { stood := { row := stackPushesRow, standIns := [], harness := (true, "abfffc106d5263bdb0dbe80e6da45649d00242caa8afad7d64c5d4a35f7876c5"), looks := false }, kinds := [], alts := [], laidByText := true, laidKinds := [.data], laidTests := true, laidLooks := .later }
def StackPushesCardSaid : Prop := Claim7.holds Tryd.pinned (.plain (OpenSpec.ofChange stackPushesSpec)) stackPushesCard

/-- THE SECOND FORM's CARD OF 'bitcastlaw04.StackDecodes'. -/
def stackDecodesUptoCard : Claim7 := { stood := { row := stackDecodesUptoRow, standIns := [], harness := (true, "abfffc106d5263bdb0dbe80e6da45649d00242caa8afad7d64c5d4a35f7876c5"), looks := false }, kinds := [], alts := [], laidByText := true, laidKinds := [.data], laidTests := true, laidLooks := .later }
def StackDecodesUptoCardSaid : Prop := Claim7.holds Tryd.pinned (.plain (OpenSpec.upto stackDecodesSpec)) stackDecodesUptoCard

/-- THE SECOND FORM's CARD OF 'bitcastlaw04.StackPushes'. -/
def stackPushesUptoCard : Claim7 := { stood := { row := stackPushesUptoRow, standIns := [], harness := (true, "abfffc106d5263bdb0dbe80e6da45649d00242caa8afad7d64c5d4a35f7876c5"), looks := false }, kinds := [], alts := [], laidByText := true, laidKinds := [.data], laidTests := true, laidLooks := .later }
def StackPushesUptoCardSaid : Prop := Claim7.holds Tryd.pinned (.plain (OpenSpec.upto stackPushesSpec)) stackPushesUptoCard
end Rows
end Go.Proofs.YtpabfjhjehjebaaDoor
