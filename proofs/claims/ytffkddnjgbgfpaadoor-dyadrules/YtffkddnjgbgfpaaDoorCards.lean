/-
  DERIVED. GIVEN WITH THE SEED: THE CARDS: each row of YtffkddnjgbgfpaaDoorRows.lean that lists a variable, with what it lists TIED to the program's text (the seventh form; the later family's looks); each row that meets fmt, with fmt's text TOLD by the authors' own Lean function (tested against real Go, not proved from fmt's source: count such statements apart). THE CARD IS WHAT COUNTS. Prove the row's statement (the work); the ties are given (YtffkddnjgbgfpaaDoorTie.lean); close each card by the builder's one call (the guide's Derived/Test/ToyasCard.lean, 'card_holds'). Laid BY PROGRAM, IN A SANDBOX (cutbox-door.mjs). By AI agents, Wed Nov 11 2026. No macro, syntax, notation, axiom, sorry.
-/
import Derived.Test.YtffkddnjgbgfpaaDoorRows
import GoSem.ClaimSeven
namespace Go.Proofs.YtffkddnjgbgfpaaDoor
namespace Rows

/-- THE TIED CARD OF 'planimeterlaw05.DyadRules'. -/
def dyadRulesCard : Claim7 := { stood := { row := dyadRulesRow, standIns := [], harness := (true, "a35bca39f217d448b534e364cfba0466f1b56b96eacfe7aa2bf355ec54990867"), looks := false }, kinds := [], alts := [], laidByText := true, laidKinds := [.data], laidTests := true, laidLooks := .later }
def DyadRulesCardSaid : Prop := Claim7.holds Tryd.pinned (.plain (OpenSpec.ofChange dyadRulesSpec)) dyadRulesCard

/-- THE SECOND FORM's CARD OF 'planimeterlaw05.DyadRules'. -/
def dyadRulesUptoCard : Claim7 := { stood := { row := dyadRulesUptoRow, standIns := [], harness := (true, "a35bca39f217d448b534e364cfba0466f1b56b96eacfe7aa2bf355ec54990867"), looks := false }, kinds := [], alts := [], laidByText := true, laidKinds := [.data], laidTests := true, laidLooks := .later }
def DyadRulesUptoCardSaid : Prop := Claim7.holds Tryd.pinned (.plain (OpenSpec.upto dyadRulesSpec)) dyadRulesUptoCard
end Rows
end Go.Proofs.YtffkddnjgbgfpaaDoor
