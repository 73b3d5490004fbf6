/-
  DERIVED. GIVEN WITH THE SEED: THE CARDS: each row of YtkfglbmhpdcfpaaDoorRows.lean that lists a variable, with what it lists TIED to the program's text (the seventh form; the later family's looks); each row that meets fmt, with fmt's text TOLD by the authors' own Lean function (tested against real Go, not proved from fmt's source: count such statements apart). THE CARD IS WHAT COUNTS. Prove the row's statement (the work); the ties are given (YtkfglbmhpdcfpaaDoorTie.lean); close each card by the builder's one call (the guide's Derived/Test/ToyasCard.lean, 'card_holds'). Laid BY PROGRAM, IN A SANDBOX (cutbox-door.mjs). By AI agents, Wed Nov 11 2026. No macro, syntax, notation, axiom, sorry.
-/
import Derived.Test.YtkfglbmhpdcfpaaDoorRows
import GoSem.ClaimSeven
namespace Go.Proofs.YtkfglbmhpdcfpaaDoor
namespace Rows

/-- THE TIED CARD OF 'platbooklaw02.AddrPrints'. -/
def addrPrintsCard : Claim7 := { stood := { row := addrPrintsRow, standIns := [], harness := (true, "c700ab7e33214a8773796ab629ec2d14c602c8e9c2c9a3d7a22a4da9bf1063bf"), looks := true }, kinds := [], alts := [], laidByText := true, laidKinds := [.data, .data, .data, .sentinel, .sentinel], laidTests := true, laidLooks := .later }
def AddrPrintsCardSaid : Prop := Claim7.holds Tryd.pinned (.plain (OpenSpec.ofChange addrPrintsSpec)) addrPrintsCard

/-- THE TIED CARD OF 'platbooklaw02.AddrParses'. -/
def addrParsesCard : Claim7 := { stood := { row := addrParsesRow, standIns := [], harness := (true, "c700ab7e33214a8773796ab629ec2d14c602c8e9c2c9a3d7a22a4da9bf1063bf"), looks := true }, kinds := [], alts := [], laidByText := true, laidKinds := [.data, .data, .data, .sentinel, .sentinel], laidTests := true, laidLooks := .later }
def AddrParsesCardSaid : Prop := Claim7.holds Tryd.pinned (.plain (OpenSpec.ofChange addrParsesSpec)) addrParsesCard

/-- THE TIED CARD OF 'platbooklaw05.BitmapPlays'. -/
def bitmapPlaysCard : Claim7 := { stood := { row := bitmapPlaysRow, standIns := [], harness := (true, "c700ab7e33214a8773796ab629ec2d14c602c8e9c2c9a3d7a22a4da9bf1063bf"), looks := true }, kinds := [], alts := [], laidByText := true, laidKinds := [.data], laidTests := true, laidLooks := .later }
def BitmapPlaysCardSaid : Prop := Claim7.holds Tryd.pinned (.plain (OpenSpec.ofChange bitmapPlaysSpec)) bitmapPlaysCard

/-- THE TIED CARD OF 'platbooklaw05.BitmapGreat'. -/
def bitmapGreatCard : Claim7 := { stood := { row := bitmapGreatRow, standIns := [], harness := (true, "c700ab7e33214a8773796ab629ec2d14c602c8e9c2c9a3d7a22a4da9bf1063bf"), looks := true }, kinds := [], alts := [], laidByText := true, laidKinds := [.data], laidTests := true, laidLooks := .later }
def BitmapGreatCardSaid : Prop := Claim7.holds Tryd.pinned (.plain (OpenSpec.ofChange bitmapGreatSpec)) bitmapGreatCard

/-- THE TIED CARD OF 'platbooklaw05.BitmapBytes'. -/
def bitmapBytesCard : Claim7 := { stood := { row := bitmapBytesRow, standIns := [], harness := (true, "c700ab7e33214a8773796ab629ec2d14c602c8e9c2c9a3d7a22a4da9bf1063bf"), looks := true }, kinds := [], alts := [], laidByText := true, laidKinds := [.data], laidTests := true, laidLooks := .later }
def BitmapBytesCardSaid : Prop := Claim7.holds Tryd.pinned (.plain (OpenSpec.ofChange bitmapBytesSpec)) bitmapBytesCard

/-- THE TIED CARD OF 'platbooklaw05.BitmapTakes'. -/
def bitmapTakesCard : Claim7 := { stood := { row := bitmapTakesRow, standIns := [], harness := (true, "c700ab7e33214a8773796ab629ec2d14c602c8e9c2c9a3d7a22a4da9bf1063bf"), looks := true }, kinds := [], alts := [], laidByText := true, laidKinds := [.data], laidTests := true, laidLooks := .later }
def BitmapTakesCardSaid : Prop := Claim7.holds Tryd.pinned (.plain (OpenSpec.ofChange bitmapTakesSpec)) bitmapTakesCard

/-- THE TIED CARD OF 'platbooklaw05.BitmapNil'. -/
def bitmapNilCard : Claim7 := { stood := { row := bitmapNilRow, standIns := [], harness := (true, "c700ab7e33214a8773796ab629ec2d14c602c8e9c2c9a3d7a22a4da9bf1063bf"), looks := true }, kinds := [], alts := [], laidByText := true, laidKinds := [.data], laidTests := true, laidLooks := .later }
def BitmapNilCardSaid : Prop := Claim7.holds Tryd.pinned (.plain (OpenSpec.ofChange bitmapNilSpec)) bitmapNilCard

/-- THE SECOND FORM's CARD OF 'platbooklaw02.AddrPrints'. -/
def addrPrintsUptoCard : Claim7 := { stood := { row := addrPrintsUptoRow, standIns := [], harness := (true, "c700ab7e33214a8773796ab629ec2d14c602c8e9c2c9a3d7a22a4da9bf1063bf"), looks := true }, kinds := [], alts := [], laidByText := true, laidKinds := [.data, .data, .data, .sentinel, .sentinel], laidTests := true, laidLooks := .later }
def AddrPrintsUptoCardSaid : Prop := Claim7.holds Tryd.pinned (.plain (OpenSpec.upto addrPrintsSpec)) addrPrintsUptoCard

/-- THE SECOND FORM's CARD OF 'platbooklaw02.AddrParses'. -/
def addrParsesUptoCard : Claim7 := { stood := { row := addrParsesUptoRow, standIns := [], harness := (true, "c700ab7e33214a8773796ab629ec2d14c602c8e9c2c9a3d7a22a4da9bf1063bf"), looks := true }, kinds := [], alts := [], laidByText := true, laidKinds := [.data, .data, .data, .sentinel, .sentinel], laidTests := true, laidLooks := .later }
def AddrParsesUptoCardSaid : Prop := Claim7.holds Tryd.pinned (.plain (OpenSpec.upto addrParsesSpec)) addrParsesUptoCard

/-- THE SECOND FORM's CARD OF 'platbooklaw05.BitmapPlays'. -/
def bitmapPlaysUptoCard : Claim7 := { stood := { row := bitmapPlaysUptoRow, standIns := [], harness := (true, "c700ab7e33214a8773796ab629ec2d14c602c8e9c2c9a3d7a22a4da9bf1063bf"), looks := true }, kinds := [], alts := [], laidByText := true, laidKinds := [.data], laidTests := true, laidLooks := .later }
def BitmapPlaysUptoCardSaid : Prop := Claim7.holds Tryd.pinned (.plain (OpenSpec.upto bitmapPlaysSpec)) bitmapPlaysUptoCard

/-- THE SECOND FORM's CARD OF 'platbooklaw05.BitmapGreat'. -/
def bitmapGreatUptoCard : Claim7 := { stood := { row := bitmapGreatUptoRow, standIns := [], harness := (true, "c700ab7e33214a8773796ab629ec2d14c602c8e9c2c9a3d7a22a4da9bf1063bf"), looks := true }, kinds := [], alts := [], laidByText := true, laidKinds := [.data], laidTests := true, laidLooks := .later }
def BitmapGreatUptoCardSaid : Prop := Claim7.holds Tryd.pinned (.plain (OpenSpec.upto bitmapGreatSpec)) bitmapGreatUptoCard

/-- THE SECOND FORM's CARD OF 'platbooklaw05.BitmapBytes'. -/
def bitmapBytesUptoCard : Claim7 := { stood := { row := bitmapBytesUptoRow, standIns := [], harness := (true, "c700ab7e33214a8773796ab629ec2d14c602c8e9c2c9a3d7a22a4da9bf1063bf"), looks := true }, kinds := [], alts := [], laidByText := true, laidKinds := [.data], laidTests := true, laidLooks := .later }
def BitmapBytesUptoCardSaid : Prop := Claim7.holds Tryd.pinned (.plain (OpenSpec.upto bitmapBytesSpec)) bitmapBytesUptoCard

/-- THE SECOND FORM's CARD OF 'platbooklaw05.BitmapTakes'. -/
def bitmapTakesUptoCard : Claim7 := { stood := { row := bitmapTakesUptoRow, standIns := [], harness := (true, "c700ab7e33214a8773796ab629ec2d14c602c8e9c2c9a3d7a22a4da9bf1063bf"), looks := true }, kinds := [], alts := [], laidByText := true, laidKinds := [.data], laidTests := true, laidLooks := .later }
def BitmapTakesUptoCardSaid : Prop := Claim7.holds Tryd.pinned (.plain (OpenSpec.upto bitmapTakesSpec)) bitmapTakesUptoCard

/-- THE SECOND FORM's CARD OF 'platbooklaw05.BitmapNil'. -/
def bitmapNilUptoCard : Claim7 := { stood := { row := bitmapNilUptoRow, standIns := [], harness := (true, "c700ab7e33214a8773796ab629ec2d14c602c8e9c2c9a3d7a22a4da9bf1063bf"), looks := true }, kinds := [], alts := [], laidByText := true, laidKinds := [.data], laidTests := true, laidLooks := .later }
def BitmapNilUptoCardSaid : Prop := Claim7.holds Tryd.pinned (.plain (OpenSpec.upto bitmapNilSpec)) bitmapNilUptoCard
end Rows
end Go.Proofs.YtkfglbmhpdcfpaaDoor
