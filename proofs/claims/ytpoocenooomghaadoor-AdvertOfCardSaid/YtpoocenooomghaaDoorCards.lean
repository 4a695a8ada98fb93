/-
  DERIVED. GIVEN WITH THE SEED: THE CARDS: each row of YtpoocenooomghaaDoorRows.lean that lists a variable, with what it lists TIED to the program's text (the seventh form; the later family's looks); each row that meets fmt, with fmt's text TOLD by the authors' own Lean function (tested against real Go, not proved from fmt's source: count such statements apart). THE CARD IS WHAT COUNTS. Prove the row's statement (the work); the ties are given (YtpoocenooomghaaDoorTie.lean); close each card by the builder's one call (the guide's Derived/Test/ToyasCard.lean, 'card_holds'). Laid BY PROGRAM, IN A SANDBOX (cutbox-door.mjs). By AI agents, Wed Nov 11 2026. No macro, syntax, notation, axiom, sorry.
-/
import Derived.Test.YtpoocenooomghaaDoorRows
import GoSem.ClaimSeven
namespace Go.Proofs.YtpoocenooomghaaDoor
namespace Rows

/-- THE TIED CARD OF 'bitcastlaw07.AdvertValid'. -/
def advertValidCard : Claim7 := { stood := { row := advertValidRow, standIns := [], harness := (true, "19ea0cabe0404f7ce1e4c30f6ccf11a7ce6ffff9589cee673dc8176b18b595ab"), looks := false }, kinds := [], alts := [], laidByText := true, laidKinds := [.data], laidTests := true, laidLooks := .later }
def AdvertValidCardSaid : Prop := Claim7.holds Tryd.pinned (.plain (OpenSpec.ofChange advertValidSpec)) advertValidCard

/-- THE TIED CARD OF 'bitcastlaw07.AdvertEncodes'. -/
def advertEncodesCard : Claim7 := { stood := { row := advertEncodesRow, standIns := [], harness := (true, "19ea0cabe0404f7ce1e4c30f6ccf11a7ce6ffff9589cee673dc8176b18b595ab"), looks := false }, kinds := [], alts := [], laidByText := true, laidKinds := [.data], laidTests := true, laidLooks := .later }
def AdvertEncodesCardSaid : Prop := Claim7.holds Tryd.pinned (.plain (OpenSpec.ofChange advertEncodesSpec)) advertEncodesCard

/-- THE TIED CARD OF 'bitcastlaw07.AdvertDecodes'. -/
def advertDecodesCard : Claim7 := { stood := { row := advertDecodesRow, standIns := [], harness := (true, "19ea0cabe0404f7ce1e4c30f6ccf11a7ce6ffff9589cee673dc8176b18b595ab"), looks := false }, kinds := [], alts := [], laidByText := true, laidKinds := [.data], laidTests := true, laidLooks := .later }
def AdvertDecodesCardSaid : Prop := Claim7.holds Tryd.pinned (.plain (OpenSpec.ofChange advertDecodesSpec)) advertDecodesCard

/-- THE TIED CARD OF 'bitcastlaw07.AdvertForged'. -/
def advertForgedCard : Claim7 := { stood := { row := advertForgedRow, standIns := [], harness := (true, "19ea0cabe0404f7ce1e4c30f6ccf11a7ce6ffff9589cee673dc8176b18b595ab"), looks := false }, kinds := [], alts := [], laidByText := true, laidKinds := [.data], laidTests := true, laidLooks := .later }
def AdvertForgedCardSaid : Prop := Claim7.holds Tryd.pinned (.plain (OpenSpec.ofChange advertForgedSpec)) advertForgedCard

/-- THE TIED CARD OF 'bitcastlaw07.AdvertNewer'. -/
def advertNewerCard : Claim7 := { stood := { row := advertNewerRow, standIns := [], harness := (true, "19ea0cabe0404f7ce1e4c30f6ccf11a7ce6ffff9589cee673dc8176b18b595ab"), looks := false }, kinds := [], alts := [], laidByText := true, laidKinds := [.data], laidTests := true, laidLooks := .later }
def AdvertNewerCardSaid : Prop := Claim7.holds Tryd.pinned (.plain (OpenSpec.ofChange advertNewerSpec)) advertNewerCard

/-- THE TIED CARD OF 'bitcastlaw07.AdvertOrder'. -/
def advertOrderCard : Claim7 := { stood := { row := advertOrderRow, standIns := [], harness := (true, "19ea0cabe0404f7ce1e4c30f6ccf11a7ce6ffff9589cee673dc8176b18b595ab"), looks := false }, kinds := [], alts := [], laidByText := true, laidKinds := [.data], laidTests := true, laidLooks := .later }
def AdvertOrderCardSaid : Prop := Claim7.holds Tryd.pinned (.plain (OpenSpec.ofChange advertOrderSpec)) advertOrderCard

/-- THE TIED CARD OF 'bitcastlaw07.AdvertOf'. -/
def advertOfCard : Claim7 := { stood := { row := advertOfRow, standIns := [], harness := (true, "19ea0cabe0404f7ce1e4c30f6ccf11a7ce6ffff9589cee673dc8176b18b595ab"), looks := false }, kinds := [], alts := [], laidByText := true, laidKinds := [.data], laidTests := true, laidLooks := .later }
def AdvertOfCardSaid : Prop := Claim7.holds Tryd.pinned (.plain (OpenSpec.ofChange advertOfSpec)) advertOfCard

/-- THE SECOND FORM's CARD OF 'bitcastlaw07.AdvertValid'. -/
def advertValidUptoCard : Claim7 := { stood := { row := advertValidUptoRow, standIns := [], harness := (true, "19ea0cabe0404f7ce1e4c30f6ccf11a7ce6ffff9589cee673dc8176b18b595ab"), looks := false }, kinds := [], alts := [], laidByText := true, laidKinds := [.data], laidTests := true, laidLooks := .later }
def AdvertValidUptoCardSaid : Prop := Claim7.holds Tryd.pinned (.plain (OpenSpec.upto advertValidSpec)) advertValidUptoCard

/-- THE SECOND FORM's CARD OF 'bitcastlaw07.AdvertEncodes'. -/
def advertEncodesUptoCard : Claim7 := { stood := { row := advertEncodesUptoRow, standIns := [], harness := (true, "19ea0cabe0404f7ce1e4c30f6ccf11a7ce6ffff9589cee673dc8176b18b595ab"), looks := false }, kinds := [], alts := [], laidByText := true, laidKinds := [.data], laidTests := true, laidLooks := .later }
def AdvertEncodesUptoCardSaid : Prop := Claim7.holds Tryd.pinned (.plain (OpenSpec.upto advertEncodesSpec)) advertEncodesUptoCard

/-- THE SECOND FORM's CARD OF 'bitcastlaw07.AdvertDecodes'. -/
def advertDecodesUptoCard : Claim7 := { stood := { row := advertDecodesUptoRow, standIns := [], harness := (true, "19ea0cabe0404f7ce1e4c30f6ccf11a7ce6ffff9589cee673dc8176b18b595ab"), looks := false }, kinds := [], alts := [], laidByText := true, laidKinds := [.data], laidTests := true, laidLooks := .later }
def AdvertDecodesUptoCardSaid : Prop := Claim7.holds Tryd.pinned (.plain (OpenSpec.upto advertDecodesSpec)) advertDecodesUptoCard

/-- THE SECOND FORM's CARD OF 'bitcastlaw07.AdvertForged'. -/
def advertForgedUptoCard : Claim7 := { stood := { row := advertForgedUptoRow, standIns := [], harness := (true, "19ea0cabe0404f7ce1e4c30f6ccf11a7ce6ffff9589cee673dc8176b18b595ab"), looks := false }, kinds := [], alts := [], laidByText := true, laidKinds := [.data], laidTests := true, laidLooks := .later }
def AdvertForgedUptoCardSaid : Prop := Claim7.holds Tryd.pinned (.plain (OpenSpec.upto advertForgedSpec)) advertForgedUptoCard

/-- THE SECOND FORM's CARD OF 'bitcastlaw07.AdvertNewer'. -/
def advertNewerUptoCard : Claim7 := { stood := { row := advertNewerUptoRow, standIns := [], harness := (true, "19ea0cabe0404f7ce1e4c30f6ccf11a7ce6ffff9589cee673dc8176b18b595ab"), looks := false }, kinds := [], alts := [], laidByText := true, laidKinds := [.data], laidTests := true, laidLooks := .later }
def AdvertNewerUptoCardSaid : Prop := Claim7.holds Tryd.pinned (.plain (OpenSpec.upto advertNewerSpec)) advertNewerUptoCard

/-- THE SECOND FORM's CARD OF 'bitcastlaw07.AdvertOrder'. -/
def advertOrderUptoCard : Claim7 := { stood := { row := advertOrderUptoRow, standIns := [], harness := (true, "19ea0cabe0404f7ce1e4c30f6ccf11a7ce6ffff9589cee673dc8176b18b595ab"), looks := false }, kinds := [], alts := [], laidByText := true, laidKinds := [.data], laidTests := true, laidLooks := .later }
def AdvertOrderUptoCardSaid : Prop := Claim7.holds Tryd.pinned (.plain (OpenSpec.upto advertOrderSpec)) advertOrderUptoCard

/-- THE SECOND FORM's CARD OF 'bitcastlaw07.AdvertOf'. -/
def advertOfUptoCard : Claim7 := { stood := { row := advertOfUptoRow, standIns := [], harness := (true, "19ea0cabe0404f7ce1e4c30f6ccf11a7ce6ffff9589cee673dc8176b18b595ab"), looks := false }, kinds := [], alts := [], laidByText := true, laidKinds := [.data], laidTests := true, laidLooks := .later }
def AdvertOfUptoCardSaid : Prop := Claim7.holds Tryd.pinned (.plain (OpenSpec.upto advertOfSpec)) advertOfUptoCard
end Rows
end Go.Proofs.YtpoocenooomghaaDoor
