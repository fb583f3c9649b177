/-
  DERIVED. GIVEN WITH THE SEED: THE CARDS: each row of YtedmcefckcmheaaGreatDoorRows.lean that lists a variable, with what it lists TIED to the program's text (the seventh form; the later family's looks); each row that meets fmt, with fmt's text TOLD by the authors' own Lean function (tested against real Go, not proved from fmt's source: count such statements apart). THE CARD IS WHAT COUNTS. Prove the row's statement (the work); the ties are given (YtedmcefckcmheaaGreatDoorTie.lean); close each card by the builder's one call (the guide's Derived/Test/ToyasCard.lean, 'card_holds'). Laid BY PROGRAM, IN A SANDBOX (cutbox-door.mjs). By AI agents, Wed Nov 11 2026. No macro, syntax, notation, axiom, sorry.
-/
import Derived.Test.YtedmcefckcmheaaGreatDoorRows
import GoSem.ClaimSeven
namespace Go.Proofs.YtedmcefckcmheaaGreatDoor
namespace Rows

/-- THE TIED CARD OF 'prelaw5.MacroTells'. -/
def macroTellsCard : Claim7 := { stood := { row := macroTellsRow, standIns := [], harness := (true, "b9471beb6f74b289b07f1936246b06e494a910a2c1bc54e8c876d30ec2ca7d17"), looks := false }, kinds := [], alts := [], laidByText := true, laidKinds := [.data, .listed, .data, .pinned], laidTests := true, laidLooks := .later }
def MacroTellsCardSaid : Prop := Claim7.holds Tryz.pinned (.plain (OpenSpec.ofChange macroTellsSpec)) macroTellsCard

/-- THE TIED CARD OF 'prelaw5.MacroDefine'. -/
def macroDefineCard : Claim7 := { stood := { row := macroDefineRow, standIns := [], harness := (true, "b9471beb6f74b289b07f1936246b06e494a910a2c1bc54e8c876d30ec2ca7d17"), looks := false }, kinds := [], alts := [], laidByText := true, laidKinds := [.data, .listed, .data, .pinned], laidTests := true, laidLooks := .later }
def MacroDefineCardSaid : Prop := Claim7.holds Tryz.pinned (.plain (OpenSpec.ofChange macroDefineSpec)) macroDefineCard

/-- THE TIED CARD OF 'prelaw5.MacroQuote'. -/
def macroQuoteCard : Claim7 := { stood := { row := macroQuoteRow, standIns := [], harness := (true, "b9471beb6f74b289b07f1936246b06e494a910a2c1bc54e8c876d30ec2ca7d17"), looks := false }, kinds := [], alts := [], laidByText := true, laidKinds := [.data, .listed, .data, .pinned], laidTests := true, laidLooks := .later }
def MacroQuoteCardSaid : Prop := Claim7.holds Tryz.pinned (.plain (OpenSpec.ofChange macroQuoteSpec)) macroQuoteCard

/-- THE TIED CARD OF 'prelaw5.MacroPaste'. -/
def macroPasteCard : Claim7 := { stood := { row := macroPasteRow, standIns := [], harness := (true, "b9471beb6f74b289b07f1936246b06e494a910a2c1bc54e8c876d30ec2ca7d17"), looks := false }, kinds := [], alts := [], laidByText := true, laidKinds := [.data, .listed, .data, .pinned], laidTests := true, laidLooks := .later }
def MacroPasteCardSaid : Prop := Claim7.holds Tryz.pinned (.plain (OpenSpec.ofChange macroPasteSpec)) macroPasteCard

/-- THE SECOND FORM's CARD OF 'prelaw5.MacroTells'. -/
def macroTellsUptoCard : Claim7 := { stood := { row := macroTellsUptoRow, standIns := [], harness := (true, "b9471beb6f74b289b07f1936246b06e494a910a2c1bc54e8c876d30ec2ca7d17"), looks := false }, kinds := [], alts := [], laidByText := true, laidKinds := [.data, .listed, .data, .pinned], laidTests := true, laidLooks := .later }
def MacroTellsUptoCardSaid : Prop := Claim7.holds Tryz.pinned (.plain (OpenSpec.upto macroTellsSpec)) macroTellsUptoCard

/-- THE SECOND FORM's CARD OF 'prelaw5.MacroDefine'. -/
def macroDefineUptoCard : Claim7 := { stood := { row := macroDefineUptoRow, standIns := [], harness := (true, "b9471beb6f74b289b07f1936246b06e494a910a2c1bc54e8c876d30ec2ca7d17"), looks := false }, kinds := [], alts := [], laidByText := true, laidKinds := [.data, .listed, .data, .pinned], laidTests := true, laidLooks := .later }
def MacroDefineUptoCardSaid : Prop := Claim7.holds Tryz.pinned (.plain (OpenSpec.upto macroDefineSpec)) macroDefineUptoCard

/-- THE SECOND FORM's CARD OF 'prelaw5.MacroQuote'. -/
def macroQuoteUptoCard : Claim7 := { stood := { row := macroQuoteUptoRow, standIns := [], harness := (true, "b9471beb6f74b289b07f1936246b06e494a910a2c1bc54e8c876d30ec2ca7d17"), looks := false }, kinds := [], alts := [], laidByText := true, laidKinds := [.data, .listed, .data, .pinned], laidTests := true, laidLooks := .later }
def MacroQuoteUptoCardSaid : Prop := Claim7.holds Tryz.pinned (.plain (OpenSpec.upto macroQuoteSpec)) macroQuoteUptoCard

/-- THE SECOND FORM's CARD OF 'prelaw5.MacroPaste'. -/
def macroPasteUptoCard : Claim7 := { stood := { row := macroPasteUptoRow, standIns := [], harness := (true, "b9471beb6f74b289b07f1936246b06e494a910a2c1bc54e8c876d30ec2ca7d17"), looks := false }, kinds := [], alts := [], laidByText := true, laidKinds := [.data, .listed, .data, .pinned], laidTests := true, laidLooks := .later }
def MacroPasteUptoCardSaid : Prop := Claim7.holds Tryz.pinned (.plain (OpenSpec.upto macroPasteSpec)) macroPasteUptoCard
end Rows
end Go.Proofs.YtedmcefckcmheaaGreatDoor
