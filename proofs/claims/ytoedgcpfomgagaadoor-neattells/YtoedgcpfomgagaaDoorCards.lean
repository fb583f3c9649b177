/-
  DERIVED. GIVEN WITH THE SEED: THE CARDS: each row of YtoedgcpfomgagaaDoorRows.lean that lists a variable, with what it lists TIED to the program's text (the seventh form; the later family's looks); each row that meets fmt, with fmt's text TOLD by the authors' own Lean function (tested against real Go, not proved from fmt's source: count such statements apart). THE CARD IS WHAT COUNTS. Prove the row's statement (the work); the ties are given (YtoedgcpfomgagaaDoorTie.lean); close each card by the builder's one call (the guide's Derived/Test/ToyasCard.lean, 'card_holds'). Laid BY PROGRAM, IN A SANDBOX (cutbox-door.mjs). By AI agents, Wed Nov 11 2026. No macro, syntax, notation, axiom, sorry.
-/
import Derived.Test.YtoedgcpfomgagaaDoorRows
import GoSem.ClaimSeven
namespace Go.Proofs.YtoedgcpfomgagaaDoor
namespace Rows

/-- THE TIED CARD OF 'prelaw12.NeatTells'. -/
def neatTellsCard : Claim7 := { stood := { row := neatTellsRow, standIns := [], harness := (true, "ba9b4043f3e107d1f97eedf54af08bebcfff8c1dba8ee41487fbb437650d9a7f"), looks := false }, kinds := [], alts := [], laidByText := true, laidKinds := [.listed, .data], laidTests := true, laidLooks := .later }
def NeatTellsCardSaid : Prop := Claim7.holds Tryd.pinned (.plain (OpenSpec.ofChange neatTellsSpec)) neatTellsCard

/-- THE TIED CARD OF 'prelaw12.NeatSame'. -/
def neatSameCard : Claim7 := { stood := { row := neatSameRow, standIns := [], harness := (true, "ba9b4043f3e107d1f97eedf54af08bebcfff8c1dba8ee41487fbb437650d9a7f"), looks := false }, kinds := [], alts := [], laidByText := true, laidKinds := [.listed, .data], laidTests := true, laidLooks := .later }
def NeatSameCardSaid : Prop := Claim7.holds Tryd.pinned (.plain (OpenSpec.ofChange neatSameSpec)) neatSameCard

/-- THE TIED CARD OF 'prelaw12.NeatTwice'. -/
def neatTwiceCard : Claim7 := { stood := { row := neatTwiceRow, standIns := [], harness := (true, "ba9b4043f3e107d1f97eedf54af08bebcfff8c1dba8ee41487fbb437650d9a7f"), looks := false }, kinds := [], alts := [], laidByText := true, laidKinds := [.listed, .data], laidTests := true, laidLooks := .later }
def NeatTwiceCardSaid : Prop := Claim7.holds Tryd.pinned (.plain (OpenSpec.ofChange neatTwiceSpec)) neatTwiceCard

/-- THE SECOND FORM's CARD OF 'prelaw12.NeatTells'. -/
def neatTellsUptoCard : Claim7 := { stood := { row := neatTellsUptoRow, standIns := [], harness := (true, "ba9b4043f3e107d1f97eedf54af08bebcfff8c1dba8ee41487fbb437650d9a7f"), looks := false }, kinds := [], alts := [], laidByText := true, laidKinds := [.listed, .data], laidTests := true, laidLooks := .later }
def NeatTellsUptoCardSaid : Prop := Claim7.holds Tryd.pinned (.plain (OpenSpec.upto neatTellsSpec)) neatTellsUptoCard

/-- THE SECOND FORM's CARD OF 'prelaw12.NeatSame'. -/
def neatSameUptoCard : Claim7 := { stood := { row := neatSameUptoRow, standIns := [], harness := (true, "ba9b4043f3e107d1f97eedf54af08bebcfff8c1dba8ee41487fbb437650d9a7f"), looks := false }, kinds := [], alts := [], laidByText := true, laidKinds := [.listed, .data], laidTests := true, laidLooks := .later }
def NeatSameUptoCardSaid : Prop := Claim7.holds Tryd.pinned (.plain (OpenSpec.upto neatSameSpec)) neatSameUptoCard

/-- THE SECOND FORM's CARD OF 'prelaw12.NeatTwice'. -/
def neatTwiceUptoCard : Claim7 := { stood := { row := neatTwiceUptoRow, standIns := [], harness := (true, "ba9b4043f3e107d1f97eedf54af08bebcfff8c1dba8ee41487fbb437650d9a7f"), looks := false }, kinds := [], alts := [], laidByText := true, laidKinds := [.listed, .data], laidTests := true, laidLooks := .later }
def NeatTwiceUptoCardSaid : Prop := Claim7.holds Tryd.pinned (.plain (OpenSpec.upto neatTwiceSpec)) neatTwiceUptoCard
end Rows
end Go.Proofs.YtoedgcpfomgagaaDoor
