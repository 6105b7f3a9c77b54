/-
  DERIVED. GIVEN WITH THE SEED: THE CARDS: each row of YtmmeejofepmgaaaGreatDoorRows.lean that lists a variable, with what it lists TIED to the program's text (the seventh form; the later family's looks); each row that meets fmt, with fmt's text TOLD by the authors' own Lean function (tested against real Go, not proved from fmt's source: count such statements apart). THE CARD IS WHAT COUNTS. Prove the row's statement (the work); the ties are given (YtmmeejofepmgaaaGreatDoorTie.lean); close each card by the builder's one call (the guide's Derived/Test/ToyasCard.lean, 'card_holds'). Laid BY PROGRAM, IN A SANDBOX (cutbox-door.mjs). By AI agents, Wed Nov 11 2026. No macro, syntax, notation, axiom, sorry.
-/
import Derived.Test.YtmmeejofepmgaaaGreatDoorRows
import GoSem.ClaimSeven
namespace Go.Proofs.YtmmeejofepmgaaaGreatDoor
namespace Rows

/-- THE TIED CARD OF 'planimeterlaw11.ExactTells'. -/
def exactTellsCard : Claim7 := { stood := { row := exactTellsRow, standIns := [], harness := (true, "90de17a1924730dc7443538ce2ebaae54495b0aac917a8578771d34b79341303"), looks := false }, kinds := [], alts := [], laidByText := true, laidKinds := [.data], laidTests := true, laidLooks := .later }
def ExactTellsCardSaid : Prop := Claim7.holds Tryz.pinned (.plain (OpenSpec.ofChange exactTellsSpec)) exactTellsCard

/-- THE SECOND FORM's CARD OF 'planimeterlaw11.ExactTells'. -/
def exactTellsUptoCard : Claim7 := { stood := { row := exactTellsUptoRow, standIns := [], harness := (true, "90de17a1924730dc7443538ce2ebaae54495b0aac917a8578771d34b79341303"), looks := false }, kinds := [], alts := [], laidByText := true, laidKinds := [.data], laidTests := true, laidLooks := .later }
def ExactTellsUptoCardSaid : Prop := Claim7.holds Tryz.pinned (.plain (OpenSpec.upto exactTellsSpec)) exactTellsUptoCard
end Rows
end Go.Proofs.YtmmeejofepmgaaaGreatDoor
