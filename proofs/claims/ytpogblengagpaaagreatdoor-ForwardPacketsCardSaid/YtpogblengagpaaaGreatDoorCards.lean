/-
  DERIVED. GIVEN WITH THE SEED: THE CARDS: each row of YtpogblengagpaaaGreatDoorRows.lean that lists a variable, with what it lists TIED to the program's text (the seventh form; the later family's looks); each row that meets fmt, with fmt's text TOLD by the authors' own Lean function (tested against real Go, not proved from fmt's source: count such statements apart). THE CARD IS WHAT COUNTS. Prove the row's statement (the work); the ties are given (YtpogblengagpaaaGreatDoorTie.lean); close each card by the builder's one call (the guide's Derived/Test/ToyasCard.lean, 'card_holds'). Laid BY PROGRAM, IN A SANDBOX (cutbox-door.mjs). By AI agents, Wed Nov 11 2026. No macro, syntax, notation, axiom, sorry.
-/
import Derived.Test.YtpogblengagpaaaGreatDoorRows
import GoSem.ClaimSeven
namespace Go.Proofs.YtpogblengagpaaaGreatDoor
namespace Rows

/-- THE TIED CARD OF 'bitcastlaw13.ForwardPackets'. -/
def forwardPacketsCard : Claim7 := { stood := { row := forwardPacketsRow, standIns := [], harness := (true, "e232e62fd6b6ee61d5f1a6fb7e881f217db3e9f7046368732ad9c9270dc83a66"), looks := false }, kinds := [], alts := [], laidByText := true, laidKinds := [.data], laidTests := true, laidLooks := .later }
def ForwardPacketsCardSaid : Prop := Claim7.holds Tryz.pinned (.plain (OpenSpec.ofChange forwardPacketsSpec)) forwardPacketsCard

/-- THE TIED CARD OF 'bitcastlaw13.ForwardLocal'. -/
def forwardLocalCard : Claim7 := { stood := { row := forwardLocalRow, standIns := [], harness := (true, "e232e62fd6b6ee61d5f1a6fb7e881f217db3e9f7046368732ad9c9270dc83a66"), looks := false }, kinds := [], alts := [], laidByText := true, laidKinds := [.data], laidTests := true, laidLooks := .later }
def ForwardLocalCardSaid : Prop := Claim7.holds Tryz.pinned (.plain (OpenSpec.ofChange forwardLocalSpec)) forwardLocalCard

/-- THE TIED CARD OF 'bitcastlaw13.ForwardMasks'. -/
def forwardMasksCard : Claim7 := { stood := { row := forwardMasksRow, standIns := [], harness := (true, "e232e62fd6b6ee61d5f1a6fb7e881f217db3e9f7046368732ad9c9270dc83a66"), looks := false }, kinds := [], alts := [], laidByText := true, laidKinds := [.data], laidTests := true, laidLooks := .later }
def ForwardMasksCardSaid : Prop := Claim7.holds Tryz.pinned (.plain (OpenSpec.ofChange forwardMasksSpec)) forwardMasksCard

/-- THE SECOND FORM's CARD OF 'bitcastlaw13.ForwardPackets'. -/
def forwardPacketsUptoCard : Claim7 := { stood := { row := forwardPacketsUptoRow, standIns := [], harness := (true, "e232e62fd6b6ee61d5f1a6fb7e881f217db3e9f7046368732ad9c9270dc83a66"), looks := false }, kinds := [], alts := [], laidByText := true, laidKinds := [.data], laidTests := true, laidLooks := .later }
def ForwardPacketsUptoCardSaid : Prop := Claim7.holds Tryz.pinned (.plain (OpenSpec.upto forwardPacketsSpec)) forwardPacketsUptoCard

/-- THE SECOND FORM's CARD OF 'bitcastlaw13.ForwardLocal'. -/
def forwardLocalUptoCard : Claim7 := { stood := { row := forwardLocalUptoRow, standIns := [], harness := (true, "e232e62fd6b6ee61d5f1a6fb7e881f217db3e9f7046368732ad9c9270dc83a66"), looks := false }, kinds := [], alts := [], laidByText := true, laidKinds := [.data], laidTests := true, laidLooks := .later }
def ForwardLocalUptoCardSaid : Prop := Claim7.holds Tryz.pinned (.plain (OpenSpec.upto forwardLocalSpec)) forwardLocalUptoCard

/-- THE SECOND FORM's CARD OF 'bitcastlaw13.ForwardMasks'. -/
def forwardMasksUptoCard : Claim7 := { stood := { row := forwardMasksUptoRow, standIns := [], harness := (true, "e232e62fd6b6ee61d5f1a6fb7e881f217db3e9f7046368732ad9c9270dc83a66"), looks := false }, kinds := [], alts := [], laidByText := true, laidKinds := [.data], laidTests := true, laidLooks := .later }
def ForwardMasksUptoCardSaid : Prop := Claim7.holds Tryz.pinned (.plain (OpenSpec.upto forwardMasksSpec)) forwardMasksUptoCard
end Rows
end Go.Proofs.YtpogblengagpaaaGreatDoor
