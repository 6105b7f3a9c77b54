/-
  DERIVED. GIVEN WITH THE SEED: THE CARDS: each row of YtngldpmnbdgkiaaDoorRows.lean that lists a variable, with what it lists TIED to the program's text (the seventh form; the later family's looks); each row that meets fmt, with fmt's text TOLD by the authors' own Lean function (tested against real Go, not proved from fmt's source: count such statements apart). THE CARD IS WHAT COUNTS. Prove the row's statement (the work); the ties are given (YtngldpmnbdgkiaaDoorTie.lean); close each card by the builder's one call (the guide's Derived/Test/ToyasCard.lean, 'card_holds'). Laid BY PROGRAM, IN A SANDBOX (cutbox-door.mjs). By AI agents, Wed Nov 11 2026. No macro, syntax, notation, axiom, sorry.
-/
import Derived.Test.YtngldpmnbdgkiaaDoorRows
import GoSem.ClaimSeven
namespace Go.Proofs.YtngldpmnbdgkiaaDoor
namespace Rows

/-- THE TIED CARD OF 'planimeterlaw12.SeriesAtanh'. -/
def seriesAtanhCard : Claim7 := { stood := { row := seriesAtanhRow, standIns := [], harness := (true, "de399c56b2c449099a7dae5fd410ecca4c08429f63c25daf21049ee19df7ba5b"), looks := false }, kinds := [], alts := [], laidByText := true, laidKinds := [.data], laidTests := true, laidLooks := .later }
def SeriesAtanhCardSaid : Prop := Claim7.holds Tryd.pinned (.plain (OpenSpec.ofChange seriesAtanhSpec)) seriesAtanhCard

/-- THE TIED CARD OF 'planimeterlaw12.SeriesExp'. -/
def seriesExpCard : Claim7 := { stood := { row := seriesExpRow, standIns := [], harness := (true, "de399c56b2c449099a7dae5fd410ecca4c08429f63c25daf21049ee19df7ba5b"), looks := false }, kinds := [], alts := [], laidByText := true, laidKinds := [.data], laidTests := true, laidLooks := .later }
def SeriesExpCardSaid : Prop := Claim7.holds Tryd.pinned (.plain (OpenSpec.ofChange seriesExpSpec)) seriesExpCard

/-- THE TIED CARD OF 'planimeterlaw12.SeriesScales'. -/
def seriesScalesCard : Claim7 := { stood := { row := seriesScalesRow, standIns := [], harness := (true, "de399c56b2c449099a7dae5fd410ecca4c08429f63c25daf21049ee19df7ba5b"), looks := false }, kinds := [], alts := [], laidByText := true, laidKinds := [.data], laidTests := true, laidLooks := .later }
def SeriesScalesCardSaid : Prop := Claim7.holds Tryd.pinned (.plain (OpenSpec.ofChange seriesScalesSpec)) seriesScalesCard

/-- THE TIED CARD OF 'planimeterlaw12.SeriesAdds'. -/
def seriesAddsCard : Claim7 := { stood := { row := seriesAddsRow, standIns := [], harness := (true, "de399c56b2c449099a7dae5fd410ecca4c08429f63c25daf21049ee19df7ba5b"), looks := false }, kinds := [], alts := [], laidByText := true, laidKinds := [.data], laidTests := true, laidLooks := .later }
def SeriesAddsCardSaid : Prop := Claim7.holds Tryd.pinned (.plain (OpenSpec.ofChange seriesAddsSpec)) seriesAddsCard

/-- THE SECOND FORM's CARD OF 'planimeterlaw12.SeriesAtanh'. -/
def seriesAtanhUptoCard : Claim7 := { stood := { row := seriesAtanhUptoRow, standIns := [], harness := (true, "de399c56b2c449099a7dae5fd410ecca4c08429f63c25daf21049ee19df7ba5b"), looks := false }, kinds := [], alts := [], laidByText := true, laidKinds := [.data], laidTests := true, laidLooks := .later }
def SeriesAtanhUptoCardSaid : Prop := Claim7.holds Tryd.pinned (.plain (OpenSpec.upto seriesAtanhSpec)) seriesAtanhUptoCard

/-- THE SECOND FORM's CARD OF 'planimeterlaw12.SeriesExp'. -/
def seriesExpUptoCard : Claim7 := { stood := { row := seriesExpUptoRow, standIns := [], harness := (true, "de399c56b2c449099a7dae5fd410ecca4c08429f63c25daf21049ee19df7ba5b"), looks := false }, kinds := [], alts := [], laidByText := true, laidKinds := [.data], laidTests := true, laidLooks := .later }
def SeriesExpUptoCardSaid : Prop := Claim7.holds Tryd.pinned (.plain (OpenSpec.upto seriesExpSpec)) seriesExpUptoCard

/-- THE SECOND FORM's CARD OF 'planimeterlaw12.SeriesScales'. -/
def seriesScalesUptoCard : Claim7 := { stood := { row := seriesScalesUptoRow, standIns := [], harness := (true, "de399c56b2c449099a7dae5fd410ecca4c08429f63c25daf21049ee19df7ba5b"), looks := false }, kinds := [], alts := [], laidByText := true, laidKinds := [.data], laidTests := true, laidLooks := .later }
def SeriesScalesUptoCardSaid : Prop := Claim7.holds Tryd.pinned (.plain (OpenSpec.upto seriesScalesSpec)) seriesScalesUptoCard

/-- THE SECOND FORM's CARD OF 'planimeterlaw12.SeriesAdds'. -/
def seriesAddsUptoCard : Claim7 := { stood := { row := seriesAddsUptoRow, standIns := [], harness := (true, "de399c56b2c449099a7dae5fd410ecca4c08429f63c25daf21049ee19df7ba5b"), looks := false }, kinds := [], alts := [], laidByText := true, laidKinds := [.data], laidTests := true, laidLooks := .later }
def SeriesAddsUptoCardSaid : Prop := Claim7.holds Tryd.pinned (.plain (OpenSpec.upto seriesAddsSpec)) seriesAddsUptoCard
end Rows
end Go.Proofs.YtngldpmnbdgkiaaDoor
