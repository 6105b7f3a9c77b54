/-
  DERIVED. GIVEN WITH THE SEED: THE CARDS: each row of YtmmeejofepmgaaaDoorRows.lean that lists a variable, with what it lists TIED to the program's text (the seventh form; the later family's looks); each row that meets fmt, with fmt's text TOLD by the authors' own Lean function (tested against real Go, not proved from fmt's source: count such statements apart). THE CARD IS WHAT COUNTS. Prove the row's statement (the work); the ties are given (YtmmeejofepmgaaaDoorTie.lean); close each card by the builder's one call (the guide's Derived/Test/ToyasCard.lean, 'card_holds'). Laid BY PROGRAM, IN A SANDBOX (cutbox-door.mjs). By AI agents, Wed Nov 11 2026. No macro, syntax, notation, axiom, sorry.
-/
import Derived.Test.YtmmeejofepmgaaaDoorRows
import GoSem.ClaimSeven
namespace Go.Proofs.YtmmeejofepmgaaaDoor
namespace Rows

/-- THE TIED CARD OF 'planimeterlaw11.ExactTerms'. -/
def exactTermsCard : Claim7 := { stood := { row := exactTermsRow, standIns := [], harness := (true, "9f3b29f09ef14820881b33df57147f7bbd72a781044240fcbdad36ec1021eb17"), looks := false }, kinds := [], alts := [], laidByText := true, laidKinds := [.data], laidTests := true, laidLooks := .later }
def ExactTermsCardSaid : Prop := Claim7.holds Tryd.pinned (.plain (OpenSpec.ofChange exactTermsSpec)) exactTermsCard

/-- THE TIED CARD OF 'planimeterlaw11.ExactSo'. -/
def exactSoCard : Claim7 := { stood := { row := exactSoRow, standIns := [], harness := (true, "9f3b29f09ef14820881b33df57147f7bbd72a781044240fcbdad36ec1021eb17"), looks := false }, kinds := [], alts := [], laidByText := true, laidKinds := [.data], laidTests := true, laidLooks := .later }
def ExactSoCardSaid : Prop := Claim7.holds Tryd.pinned (.plain (OpenSpec.ofChange exactSoSpec)) exactSoCard

/-- THE TIED CARD OF 'planimeterlaw11.ExactOnce'. -/
def exactOnceCard : Claim7 := { stood := { row := exactOnceRow, standIns := [], harness := (true, "9f3b29f09ef14820881b33df57147f7bbd72a781044240fcbdad36ec1021eb17"), looks := false }, kinds := [], alts := [], laidByText := true, laidKinds := [.data], laidTests := true, laidLooks := .later }
def ExactOnceCardSaid : Prop := Claim7.holds Tryd.pinned (.plain (OpenSpec.ofChange exactOnceSpec)) exactOnceCard

/-- THE SECOND FORM's CARD OF 'planimeterlaw11.ExactTerms'. -/
def exactTermsUptoCard : Claim7 := { stood := { row := exactTermsUptoRow, standIns := [], harness := (true, "9f3b29f09ef14820881b33df57147f7bbd72a781044240fcbdad36ec1021eb17"), looks := false }, kinds := [], alts := [], laidByText := true, laidKinds := [.data], laidTests := true, laidLooks := .later }
def ExactTermsUptoCardSaid : Prop := Claim7.holds Tryd.pinned (.plain (OpenSpec.upto exactTermsSpec)) exactTermsUptoCard

/-- THE SECOND FORM's CARD OF 'planimeterlaw11.ExactSo'. -/
def exactSoUptoCard : Claim7 := { stood := { row := exactSoUptoRow, standIns := [], harness := (true, "9f3b29f09ef14820881b33df57147f7bbd72a781044240fcbdad36ec1021eb17"), looks := false }, kinds := [], alts := [], laidByText := true, laidKinds := [.data], laidTests := true, laidLooks := .later }
def ExactSoUptoCardSaid : Prop := Claim7.holds Tryd.pinned (.plain (OpenSpec.upto exactSoSpec)) exactSoUptoCard

/-- THE SECOND FORM's CARD OF 'planimeterlaw11.ExactOnce'. -/
def exactOnceUptoCard : Claim7 := { stood := { row := exactOnceUptoRow, standIns := [], harness := (true, "9f3b29f09ef14820881b33df57147f7bbd72a781044240fcbdad36ec1021eb17"), looks := false }, kinds := [], alts := [], laidByText := true, laidKinds := [.data], laidTests := true, laidLooks := .later }
def ExactOnceUptoCardSaid : Prop := Claim7.holds Tryd.pinned (.plain (OpenSpec.upto exactOnceSpec)) exactOnceUptoCard
end Rows
end Go.Proofs.YtmmeejofepmgaaaDoor
