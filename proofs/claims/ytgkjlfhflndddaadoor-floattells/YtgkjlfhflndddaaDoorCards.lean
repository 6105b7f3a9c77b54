/-
  DERIVED. GIVEN WITH THE SEED: THE CARDS: each row of YtgkjlfhflndddaaDoorRows.lean that lists a variable, with what it lists TIED to the program's text (the seventh form; the later family's looks); each row that meets fmt, with fmt's text TOLD by the authors' own Lean function (tested against real Go, not proved from fmt's source: count such statements apart). THE CARD IS WHAT COUNTS. Prove the row's statement (the work); the ties are given (YtgkjlfhflndddaaDoorTie.lean); close each card by the builder's one call (the guide's Derived/Test/ToyasCard.lean, 'card_holds'). Laid BY PROGRAM, IN A SANDBOX (cutbox-door.mjs). By AI agents, Wed Nov 11 2026. No macro, syntax, notation, axiom, sorry.
-/
import Derived.Test.YtgkjlfhflndddaaDoorRows
import GoSem.ClaimSeven
namespace Go.Proofs.YtgkjlfhflndddaaDoor
namespace Rows

/-- THE TIED CARD OF 'planimeterlaw06.FloatTells'. -/
def floatTellsCard : Claim7 := { stood := { row := floatTellsRow, standIns := [], harness := (true, "68d91c584f449c64f0821221cec09be6e28aa86ca8a5c29ded89e52bc2642973"), looks := false }, kinds := [], alts := [], laidByText := true, laidKinds := [.data], laidTests := true, laidLooks := .later }
def FloatTellsCardSaid : Prop := Claim7.holds Tryd.pinned (.plain (OpenSpec.ofChange floatTellsSpec)) floatTellsCard

/-- THE TIED CARD OF 'planimeterlaw06.FloatExact'. -/
def floatExactCard : Claim7 := { stood := { row := floatExactRow, standIns := [], harness := (true, "68d91c584f449c64f0821221cec09be6e28aa86ca8a5c29ded89e52bc2642973"), looks := false }, kinds := [], alts := [], laidByText := true, laidKinds := [.data], laidTests := true, laidLooks := .later }
def FloatExactCardSaid : Prop := Claim7.holds Tryd.pinned (.plain (OpenSpec.ofChange floatExactSpec)) floatExactCard

/-- THE TIED CARD OF 'planimeterlaw06.FloatBack'. -/
def floatBackCard : Claim7 := { stood := { row := floatBackRow, standIns := [], harness := (true, "68d91c584f449c64f0821221cec09be6e28aa86ca8a5c29ded89e52bc2642973"), looks := false }, kinds := [], alts := [], laidByText := true, laidKinds := [.data], laidTests := true, laidLooks := .later }
def FloatBackCardSaid : Prop := Claim7.holds Tryd.pinned (.plain (OpenSpec.ofChange floatBackSpec)) floatBackCard

/-- THE TIED CARD OF 'planimeterlaw06.FloatWhole'. -/
def floatWholeCard : Claim7 := { stood := { row := floatWholeRow, standIns := [], harness := (true, "68d91c584f449c64f0821221cec09be6e28aa86ca8a5c29ded89e52bc2642973"), looks := false }, kinds := [], alts := [], laidByText := true, laidKinds := [.data], laidTests := true, laidLooks := .later }
def FloatWholeCardSaid : Prop := Claim7.holds Tryd.pinned (.plain (OpenSpec.ofChange floatWholeSpec)) floatWholeCard

/-- THE SECOND FORM's CARD OF 'planimeterlaw06.FloatTells'. -/
def floatTellsUptoCard : Claim7 := { stood := { row := floatTellsUptoRow, standIns := [], harness := (true, "68d91c584f449c64f0821221cec09be6e28aa86ca8a5c29ded89e52bc2642973"), looks := false }, kinds := [], alts := [], laidByText := true, laidKinds := [.data], laidTests := true, laidLooks := .later }
def FloatTellsUptoCardSaid : Prop := Claim7.holds Tryd.pinned (.plain (OpenSpec.upto floatTellsSpec)) floatTellsUptoCard

/-- THE SECOND FORM's CARD OF 'planimeterlaw06.FloatExact'. -/
def floatExactUptoCard : Claim7 := { stood := { row := floatExactUptoRow, standIns := [], harness := (true, "68d91c584f449c64f0821221cec09be6e28aa86ca8a5c29ded89e52bc2642973"), looks := false }, kinds := [], alts := [], laidByText := true, laidKinds := [.data], laidTests := true, laidLooks := .later }
def FloatExactUptoCardSaid : Prop := Claim7.holds Tryd.pinned (.plain (OpenSpec.upto floatExactSpec)) floatExactUptoCard

/-- THE SECOND FORM's CARD OF 'planimeterlaw06.FloatBack'. -/
def floatBackUptoCard : Claim7 := { stood := { row := floatBackUptoRow, standIns := [], harness := (true, "68d91c584f449c64f0821221cec09be6e28aa86ca8a5c29ded89e52bc2642973"), looks := false }, kinds := [], alts := [], laidByText := true, laidKinds := [.data], laidTests := true, laidLooks := .later }
def FloatBackUptoCardSaid : Prop := Claim7.holds Tryd.pinned (.plain (OpenSpec.upto floatBackSpec)) floatBackUptoCard

/-- THE SECOND FORM's CARD OF 'planimeterlaw06.FloatWhole'. -/
def floatWholeUptoCard : Claim7 := { stood := { row := floatWholeUptoRow, standIns := [], harness := (true, "68d91c584f449c64f0821221cec09be6e28aa86ca8a5c29ded89e52bc2642973"), looks := false }, kinds := [], alts := [], laidByText := true, laidKinds := [.data], laidTests := true, laidLooks := .later }
def FloatWholeUptoCardSaid : Prop := Claim7.holds Tryd.pinned (.plain (OpenSpec.upto floatWholeSpec)) floatWholeUptoCard
end Rows
end Go.Proofs.YtgkjlfhflndddaaDoor
