/-
  DERIVED. GIVEN WITH THE SEED: THE CARDS: each row of YtighdocmncbdnaaGreatDoorRows.lean that lists a variable, with what it lists TIED to the program's text (the seventh form; the later family's looks); each row that meets fmt, with fmt's text TOLD by the authors' own Lean function (tested against real Go, not proved from fmt's source: count such statements apart). THE CARD IS WHAT COUNTS. Prove the row's statement (the work); the ties are given (YtighdocmncbdnaaGreatDoorTie.lean); close each card by the builder's one call (the guide's Derived/Test/ToyasCard.lean, 'card_holds'). Laid BY PROGRAM, IN A SANDBOX (cutbox-door.mjs). By AI agents, Wed Nov 11 2026. No macro, syntax, notation, axiom, sorry.
-/
import Derived.Test.YtighdocmncbdnaaGreatDoorRows
import GoSem.ClaimSeven
namespace Go.Proofs.YtighdocmncbdnaaGreatDoor
namespace Rows

/-- THE TIED CARD OF 'platbooklaw03.PrefixTexts'. -/
def prefixTextsCard : Claim7 := { stood := { row := prefixTextsRow, standIns := [], harness := (true, "450e0daaf1f5cc7edfc4ad05a74eefb24bdc1c6ffcafd229765c1e656de46feb"), looks := true }, kinds := [], alts := [], laidByText := true, laidKinds := [.data, .data, .data, .sentinel, .sentinel], laidTests := true, laidLooks := .later }
def PrefixTextsCardSaid : Prop := Claim7.holds Tryz.pinned (.plain (OpenSpec.ofChange prefixTextsSpec)) prefixTextsCard

/-- THE TIED CARD OF 'platbooklaw06.PoolPlays'. -/
def poolPlaysCard : Claim7 := { stood := { row := poolPlaysRow, standIns := [], harness := (true, "450e0daaf1f5cc7edfc4ad05a74eefb24bdc1c6ffcafd229765c1e656de46feb"), looks := true }, kinds := [], alts := [], laidByText := true, laidKinds := [.data, .data, .data, .sentinel, .sentinel], laidTests := true, laidLooks := .later }
def PoolPlaysCardSaid : Prop := Claim7.holds Tryz.pinned (.plain (OpenSpec.ofChange poolPlaysSpec)) poolPlaysCard

/-- THE TIED CARD OF 'platbooklaw06.PoolGreat'. -/
def poolGreatCard : Claim7 := { stood := { row := poolGreatRow, standIns := [], harness := (true, "450e0daaf1f5cc7edfc4ad05a74eefb24bdc1c6ffcafd229765c1e656de46feb"), looks := true }, kinds := [], alts := [], laidByText := true, laidKinds := [.data, .data, .data, .sentinel, .sentinel], laidTests := true, laidLooks := .later }
def PoolGreatCardSaid : Prop := Claim7.holds Tryz.pinned (.plain (OpenSpec.ofChange poolGreatSpec)) poolGreatCard

/-- THE TIED CARD OF 'platbooklaw06.PoolOnce'. -/
def poolOnceCard : Claim7 := { stood := { row := poolOnceRow, standIns := [], harness := (true, "450e0daaf1f5cc7edfc4ad05a74eefb24bdc1c6ffcafd229765c1e656de46feb"), looks := true }, kinds := [], alts := [], laidByText := true, laidKinds := [.data, .data, .data, .sentinel, .sentinel], laidTests := true, laidLooks := .later }
def PoolOnceCardSaid : Prop := Claim7.holds Tryz.pinned (.plain (OpenSpec.ofChange poolOnceSpec)) poolOnceCard

/-- THE TIED CARD OF 'platbooklaw06.PoolBytes'. -/
def poolBytesCard : Claim7 := { stood := { row := poolBytesRow, standIns := [], harness := (true, "450e0daaf1f5cc7edfc4ad05a74eefb24bdc1c6ffcafd229765c1e656de46feb"), looks := true }, kinds := [], alts := [], laidByText := true, laidKinds := [.data, .data, .data, .sentinel, .sentinel], laidTests := true, laidLooks := .later }
def PoolBytesCardSaid : Prop := Claim7.holds Tryz.pinned (.plain (OpenSpec.ofChange poolBytesSpec)) poolBytesCard

/-- THE TIED CARD OF 'platbooklaw06.PoolNil'. -/
def poolNilCard : Claim7 := { stood := { row := poolNilRow, standIns := [], harness := (true, "450e0daaf1f5cc7edfc4ad05a74eefb24bdc1c6ffcafd229765c1e656de46feb"), looks := true }, kinds := [], alts := [], laidByText := true, laidKinds := [.data, .data, .data, .sentinel, .sentinel], laidTests := true, laidLooks := .later }
def PoolNilCardSaid : Prop := Claim7.holds Tryz.pinned (.plain (OpenSpec.ofChange poolNilSpec)) poolNilCard

/-- THE SECOND FORM's CARD OF 'platbooklaw03.PrefixTexts'. -/
def prefixTextsUptoCard : Claim7 := { stood := { row := prefixTextsUptoRow, standIns := [], harness := (true, "450e0daaf1f5cc7edfc4ad05a74eefb24bdc1c6ffcafd229765c1e656de46feb"), looks := true }, kinds := [], alts := [], laidByText := true, laidKinds := [.data, .data, .data, .sentinel, .sentinel], laidTests := true, laidLooks := .later }
def PrefixTextsUptoCardSaid : Prop := Claim7.holds Tryz.pinned (.plain (OpenSpec.upto prefixTextsSpec)) prefixTextsUptoCard

/-- THE SECOND FORM's CARD OF 'platbooklaw06.PoolPlays'. -/
def poolPlaysUptoCard : Claim7 := { stood := { row := poolPlaysUptoRow, standIns := [], harness := (true, "450e0daaf1f5cc7edfc4ad05a74eefb24bdc1c6ffcafd229765c1e656de46feb"), looks := true }, kinds := [], alts := [], laidByText := true, laidKinds := [.data, .data, .data, .sentinel, .sentinel], laidTests := true, laidLooks := .later }
def PoolPlaysUptoCardSaid : Prop := Claim7.holds Tryz.pinned (.plain (OpenSpec.upto poolPlaysSpec)) poolPlaysUptoCard

/-- THE SECOND FORM's CARD OF 'platbooklaw06.PoolGreat'. -/
def poolGreatUptoCard : Claim7 := { stood := { row := poolGreatUptoRow, standIns := [], harness := (true, "450e0daaf1f5cc7edfc4ad05a74eefb24bdc1c6ffcafd229765c1e656de46feb"), looks := true }, kinds := [], alts := [], laidByText := true, laidKinds := [.data, .data, .data, .sentinel, .sentinel], laidTests := true, laidLooks := .later }
def PoolGreatUptoCardSaid : Prop := Claim7.holds Tryz.pinned (.plain (OpenSpec.upto poolGreatSpec)) poolGreatUptoCard

/-- THE SECOND FORM's CARD OF 'platbooklaw06.PoolOnce'. -/
def poolOnceUptoCard : Claim7 := { stood := { row := poolOnceUptoRow, standIns := [], harness := (true, "450e0daaf1f5cc7edfc4ad05a74eefb24bdc1c6ffcafd229765c1e656de46feb"), looks := true }, kinds := [], alts := [], laidByText := true, laidKinds := [.data, .data, .data, .sentinel, .sentinel], laidTests := true, laidLooks := .later }
def PoolOnceUptoCardSaid : Prop := Claim7.holds Tryz.pinned (.plain (OpenSpec.upto poolOnceSpec)) poolOnceUptoCard

/-- THE SECOND FORM's CARD OF 'platbooklaw06.PoolBytes'. -/
def poolBytesUptoCard : Claim7 := { stood := { row := poolBytesUptoRow, standIns := [], harness := (true, "450e0daaf1f5cc7edfc4ad05a74eefb24bdc1c6ffcafd229765c1e656de46feb"), looks := true }, kinds := [], alts := [], laidByText := true, laidKinds := [.data, .data, .data, .sentinel, .sentinel], laidTests := true, laidLooks := .later }
def PoolBytesUptoCardSaid : Prop := Claim7.holds Tryz.pinned (.plain (OpenSpec.upto poolBytesSpec)) poolBytesUptoCard

/-- THE SECOND FORM's CARD OF 'platbooklaw06.PoolNil'. -/
def poolNilUptoCard : Claim7 := { stood := { row := poolNilUptoRow, standIns := [], harness := (true, "450e0daaf1f5cc7edfc4ad05a74eefb24bdc1c6ffcafd229765c1e656de46feb"), looks := true }, kinds := [], alts := [], laidByText := true, laidKinds := [.data, .data, .data, .sentinel, .sentinel], laidTests := true, laidLooks := .later }
def PoolNilUptoCardSaid : Prop := Claim7.holds Tryz.pinned (.plain (OpenSpec.upto poolNilSpec)) poolNilUptoCard
end Rows
end Go.Proofs.YtighdocmncbdnaaGreatDoor
