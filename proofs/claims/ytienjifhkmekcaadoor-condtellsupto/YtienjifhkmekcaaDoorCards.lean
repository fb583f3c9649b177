/-
  DERIVED. GIVEN WITH THE SEED: THE CARDS: each row of YtienjifhkmekcaaDoorRows.lean that lists a variable, with what it lists TIED to the program's text (the seventh form; the later family's looks); each row that meets fmt, with fmt's text TOLD by the authors' own Lean function (tested against real Go, not proved from fmt's source: count such statements apart). THE CARD IS WHAT COUNTS. Prove the row's statement (the work); the ties are given (YtienjifhkmekcaaDoorTie.lean); close each card by the builder's one call (the guide's Derived/Test/ToyasCard.lean, 'card_holds'). Laid BY PROGRAM, IN A SANDBOX (cutbox-door.mjs). By AI agents, Wed Nov 11 2026. No macro, syntax, notation, axiom, sorry.
-/
import Derived.Test.YtienjifhkmekcaaDoorRows
import GoSem.ClaimSeven
namespace Go.Proofs.YtienjifhkmekcaaDoor
namespace Rows

/-- THE TIED CARD OF 'prelaw4.CondTells'. -/
def condTellsCard : Claim7 := { stood := { row := condTellsRow, standIns := [], harness := (true, "983b86f23e2bb914859ba155471cbdc88d21d0eb57f4e8cf91dbc3594854e497"), looks := true }, kinds := [], alts := [], laidByText := true, laidKinds := [.data, .data, .data, .data, .sentinel, .sentinel, .pinned], laidTests := true, laidLooks := .later }
def CondTellsCardSaid : Prop := Claim7.holds Tryd.pinned (.plain (OpenSpec.ofChange condTellsSpec)) condTellsCard

/-- THE SECOND FORM's CARD OF 'prelaw4.CondTells'. -/
def condTellsUptoCard : Claim7 := { stood := { row := condTellsUptoRow, standIns := [], harness := (true, "983b86f23e2bb914859ba155471cbdc88d21d0eb57f4e8cf91dbc3594854e497"), looks := true }, kinds := [], alts := [], laidByText := true, laidKinds := [.data, .data, .data, .data, .sentinel, .sentinel, .pinned], laidTests := true, laidLooks := .later }
def CondTellsUptoCardSaid : Prop := Claim7.holds Tryd.pinned (.plain (OpenSpec.upto condTellsSpec)) condTellsUptoCard
end Rows
end Go.Proofs.YtienjifhkmekcaaDoor
