/-
  DERIVED. GIVEN WITH THE SEED: THE CARDS: each row of YtllidkflgjjkfaaGreatDoorRows.lean that lists a variable, with what it lists TIED to the program's text (the seventh form; the later family's looks); each row that meets fmt, with fmt's text TOLD by the authors' own Lean function (tested against real Go, not proved from fmt's source: count such statements apart). THE CARD IS WHAT COUNTS. Prove the row's statement (the work); the ties are given (YtllidkflgjjkfaaGreatDoorTie.lean); close each card by the builder's one call (the guide's Derived/Test/ToyasCard.lean, 'card_holds'). Laid BY PROGRAM, IN A SANDBOX (cutbox-door.mjs). By AI agents, Wed Nov 11 2026. No macro, syntax, notation, axiom, sorry.
-/
import Derived.Test.YtllidkflgjjkfaaGreatDoorRows
import GoSem.ClaimSeven
namespace Go.Proofs.YtllidkflgjjkfaaGreatDoor
namespace Rows

/-- THE TIED CARD OF 'platbooklaw06.PoolPlays'. -/
def poolPlaysCard : Claim7 := { stood := { row := poolPlaysRow, standIns := [], harness := (true, "07c657e5b4d1765692647664c2f966076a0fa1ddacbb82239b8481e58b8a4c69"), looks := true }, kinds := [], alts := [], laidByText := true, laidKinds := [.data, .data, .data, .sentinel, .sentinel], laidTests := true, laidLooks := .later }
def PoolPlaysCardSaid : Prop := Claim7.holds Tryz.pinned (.plain (OpenSpec.ofChange poolPlaysSpec)) poolPlaysCard

/-- THE TIED CARD OF 'platbooklaw07.BlocksPlay'. -/
def blocksPlayCard : Claim7 := { stood := { row := blocksPlayRow, standIns := [], harness := (true, "07c657e5b4d1765692647664c2f966076a0fa1ddacbb82239b8481e58b8a4c69"), looks := true }, kinds := [], alts := [], laidByText := true, laidKinds := [.data, .data, .data, .sentinel, .sentinel], laidTests := true, laidLooks := .later }
def BlocksPlayCardSaid : Prop := Claim7.holds Tryz.pinned (.plain (OpenSpec.ofChange blocksPlaySpec)) blocksPlayCard

/-- THE TIED CARD OF 'platbooklaw07.BlocksGreat'. -/
def blocksGreatCard : Claim7 := { stood := { row := blocksGreatRow, standIns := [], harness := (true, "07c657e5b4d1765692647664c2f966076a0fa1ddacbb82239b8481e58b8a4c69"), looks := true }, kinds := [], alts := [], laidByText := true, laidKinds := [.data, .data, .data, .sentinel, .sentinel], laidTests := true, laidLooks := .later }
def BlocksGreatCardSaid : Prop := Claim7.holds Tryz.pinned (.plain (OpenSpec.ofChange blocksGreatSpec)) blocksGreatCard

/-- THE TIED CARD OF 'platbooklaw07.BlocksApart'. -/
def blocksApartCard : Claim7 := { stood := { row := blocksApartRow, standIns := [], harness := (true, "07c657e5b4d1765692647664c2f966076a0fa1ddacbb82239b8481e58b8a4c69"), looks := true }, kinds := [], alts := [], laidByText := true, laidKinds := [.data, .data, .data, .sentinel, .sentinel], laidTests := true, laidLooks := .later }
def BlocksApartCardSaid : Prop := Claim7.holds Tryz.pinned (.plain (OpenSpec.ofChange blocksApartSpec)) blocksApartCard

/-- THE TIED CARD OF 'platbooklaw07.BlocksBack'. -/
def blocksBackCard : Claim7 := { stood := { row := blocksBackRow, standIns := [], harness := (true, "07c657e5b4d1765692647664c2f966076a0fa1ddacbb82239b8481e58b8a4c69"), looks := true }, kinds := [], alts := [], laidByText := true, laidKinds := [.data, .data, .data, .sentinel, .sentinel], laidTests := true, laidLooks := .later }
def BlocksBackCardSaid : Prop := Claim7.holds Tryz.pinned (.plain (OpenSpec.ofChange blocksBackSpec)) blocksBackCard

/-- THE TIED CARD OF 'platbooklaw07.BlocksNil'. -/
def blocksNilCard : Claim7 := { stood := { row := blocksNilRow, standIns := [], harness := (true, "07c657e5b4d1765692647664c2f966076a0fa1ddacbb82239b8481e58b8a4c69"), looks := true }, kinds := [], alts := [], laidByText := true, laidKinds := [.data, .data, .data, .sentinel, .sentinel], laidTests := true, laidLooks := .later }
def BlocksNilCardSaid : Prop := Claim7.holds Tryz.pinned (.plain (OpenSpec.ofChange blocksNilSpec)) blocksNilCard

/-- THE SECOND FORM's CARD OF 'platbooklaw06.PoolPlays'. -/
def poolPlaysUptoCard : Claim7 := { stood := { row := poolPlaysUptoRow, standIns := [], harness := (true, "07c657e5b4d1765692647664c2f966076a0fa1ddacbb82239b8481e58b8a4c69"), looks := true }, kinds := [], alts := [], laidByText := true, laidKinds := [.data, .data, .data, .sentinel, .sentinel], laidTests := true, laidLooks := .later }
def PoolPlaysUptoCardSaid : Prop := Claim7.holds Tryz.pinned (.plain (OpenSpec.upto poolPlaysSpec)) poolPlaysUptoCard

/-- THE SECOND FORM's CARD OF 'platbooklaw07.BlocksPlay'. -/
def blocksPlayUptoCard : Claim7 := { stood := { row := blocksPlayUptoRow, standIns := [], harness := (true, "07c657e5b4d1765692647664c2f966076a0fa1ddacbb82239b8481e58b8a4c69"), looks := true }, kinds := [], alts := [], laidByText := true, laidKinds := [.data, .data, .data, .sentinel, .sentinel], laidTests := true, laidLooks := .later }
def BlocksPlayUptoCardSaid : Prop := Claim7.holds Tryz.pinned (.plain (OpenSpec.upto blocksPlaySpec)) blocksPlayUptoCard

/-- THE SECOND FORM's CARD OF 'platbooklaw07.BlocksGreat'. -/
def blocksGreatUptoCard : Claim7 := { stood := { row := blocksGreatUptoRow, standIns := [], harness := (true, "07c657e5b4d1765692647664c2f966076a0fa1ddacbb82239b8481e58b8a4c69"), looks := true }, kinds := [], alts := [], laidByText := true, laidKinds := [.data, .data, .data, .sentinel, .sentinel], laidTests := true, laidLooks := .later }
def BlocksGreatUptoCardSaid : Prop := Claim7.holds Tryz.pinned (.plain (OpenSpec.upto blocksGreatSpec)) blocksGreatUptoCard

/-- THE SECOND FORM's CARD OF 'platbooklaw07.BlocksApart'. -/
def blocksApartUptoCard : Claim7 := { stood := { row := blocksApartUptoRow, standIns := [], harness := (true, "07c657e5b4d1765692647664c2f966076a0fa1ddacbb82239b8481e58b8a4c69"), looks := true }, kinds := [], alts := [], laidByText := true, laidKinds := [.data, .data, .data, .sentinel, .sentinel], laidTests := true, laidLooks := .later }
def BlocksApartUptoCardSaid : Prop := Claim7.holds Tryz.pinned (.plain (OpenSpec.upto blocksApartSpec)) blocksApartUptoCard

/-- THE SECOND FORM's CARD OF 'platbooklaw07.BlocksBack'. -/
def blocksBackUptoCard : Claim7 := { stood := { row := blocksBackUptoRow, standIns := [], harness := (true, "07c657e5b4d1765692647664c2f966076a0fa1ddacbb82239b8481e58b8a4c69"), looks := true }, kinds := [], alts := [], laidByText := true, laidKinds := [.data, .data, .data, .sentinel, .sentinel], laidTests := true, laidLooks := .later }
def BlocksBackUptoCardSaid : Prop := Claim7.holds Tryz.pinned (.plain (OpenSpec.upto blocksBackSpec)) blocksBackUptoCard

/-- THE SECOND FORM's CARD OF 'platbooklaw07.BlocksNil'. -/
def blocksNilUptoCard : Claim7 := { stood := { row := blocksNilUptoRow, standIns := [], harness := (true, "07c657e5b4d1765692647664c2f966076a0fa1ddacbb82239b8481e58b8a4c69"), looks := true }, kinds := [], alts := [], laidByText := true, laidKinds := [.data, .data, .data, .sentinel, .sentinel], laidTests := true, laidLooks := .later }
def BlocksNilUptoCardSaid : Prop := Claim7.holds Tryz.pinned (.plain (OpenSpec.upto blocksNilSpec)) blocksNilUptoCard
end Rows
end Go.Proofs.YtllidkflgjjkfaaGreatDoor
