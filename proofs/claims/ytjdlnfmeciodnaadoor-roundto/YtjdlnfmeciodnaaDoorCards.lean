/-
  DERIVED. GIVEN WITH THE SEED: THE CARDS: each row of YtjdlnfmeciodnaaDoorRows.lean that lists a variable, with what it lists TIED to the program's text (the seventh form; the later family's looks); each row that meets fmt, with fmt's text TOLD by the authors' own Lean function (tested against real Go, not proved from fmt's source: count such statements apart). THE CARD IS WHAT COUNTS. Prove the row's statement (the work); the ties are given (YtjdlnfmeciodnaaDoorTie.lean); close each card by the builder's one call (the guide's Derived/Test/ToyasCard.lean, 'card_holds'). Laid BY PROGRAM, IN A SANDBOX (cutbox-door.mjs). By AI agents, Wed Nov 11 2026. No macro, syntax, notation, axiom, sorry.
-/
import Derived.Test.YtjdlnfmeciodnaaDoorRows
import GoSem.ClaimSeven
namespace Go.Proofs.YtjdlnfmeciodnaaDoor
namespace Rows

/-- THE TIED CARD OF 'planimeterlaw07.RoundTo'. -/
def roundToCard : Claim7 := { stood := { row := roundToRow, standIns := [], harness := (true, "47da8406b5bc198f0cfda4325e6f9576c1de67768fca9582af4b14f417f2d901"), looks := false }, kinds := [], alts := [], laidByText := true, laidKinds := [.data], laidTests := true, laidLooks := .later }
def RoundToCardSaid : Prop := Claim7.holds Tryd.pinned (.plain (OpenSpec.ofChange roundToSpec)) roundToCard

/-- THE TIED CARD OF 'planimeterlaw07.RoundOrder'. -/
def roundOrderCard : Claim7 := { stood := { row := roundOrderRow, standIns := [], harness := (true, "47da8406b5bc198f0cfda4325e6f9576c1de67768fca9582af4b14f417f2d901"), looks := false }, kinds := [], alts := [], laidByText := true, laidKinds := [.data], laidTests := true, laidLooks := .later }
def RoundOrderCardSaid : Prop := Claim7.holds Tryd.pinned (.plain (OpenSpec.ofChange roundOrderSpec)) roundOrderCard

/-- THE TIED CARD OF 'planimeterlaw07.RoundMore'. -/
def roundMoreCard : Claim7 := { stood := { row := roundMoreRow, standIns := [], harness := (true, "47da8406b5bc198f0cfda4325e6f9576c1de67768fca9582af4b14f417f2d901"), looks := false }, kinds := [], alts := [], laidByText := true, laidKinds := [.data], laidTests := true, laidLooks := .later }
def RoundMoreCardSaid : Prop := Claim7.holds Tryd.pinned (.plain (OpenSpec.ofChange roundMoreSpec)) roundMoreCard

/-- THE SECOND FORM's CARD OF 'planimeterlaw07.RoundTo'. -/
def roundToUptoCard : Claim7 := { stood := { row := roundToUptoRow, standIns := [], harness := (true, "47da8406b5bc198f0cfda4325e6f9576c1de67768fca9582af4b14f417f2d901"), looks := false }, kinds := [], alts := [], laidByText := true, laidKinds := [.data], laidTests := true, laidLooks := .later }
def RoundToUptoCardSaid : Prop := Claim7.holds Tryd.pinned (.plain (OpenSpec.upto roundToSpec)) roundToUptoCard

/-- THE SECOND FORM's CARD OF 'planimeterlaw07.RoundOrder'. -/
def roundOrderUptoCard : Claim7 := { stood := { row := roundOrderUptoRow, standIns := [], harness := (true, "47da8406b5bc198f0cfda4325e6f9576c1de67768fca9582af4b14f417f2d901"), looks := false }, kinds := [], alts := [], laidByText := true, laidKinds := [.data], laidTests := true, laidLooks := .later }
def RoundOrderUptoCardSaid : Prop := Claim7.holds Tryd.pinned (.plain (OpenSpec.upto roundOrderSpec)) roundOrderUptoCard

/-- THE SECOND FORM's CARD OF 'planimeterlaw07.RoundMore'. -/
def roundMoreUptoCard : Claim7 := { stood := { row := roundMoreUptoRow, standIns := [], harness := (true, "47da8406b5bc198f0cfda4325e6f9576c1de67768fca9582af4b14f417f2d901"), looks := false }, kinds := [], alts := [], laidByText := true, laidKinds := [.data], laidTests := true, laidLooks := .later }
def RoundMoreUptoCardSaid : Prop := Claim7.holds Tryd.pinned (.plain (OpenSpec.upto roundMoreSpec)) roundMoreUptoCard
end Rows
end Go.Proofs.YtjdlnfmeciodnaaDoor
