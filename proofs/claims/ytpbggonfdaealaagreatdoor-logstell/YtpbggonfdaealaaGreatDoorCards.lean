/-
  DERIVED. GIVEN WITH THE SEED: THE CARDS: each row of YtpbggonfdaealaaGreatDoorRows.lean that lists a variable, with what it lists TIED to the program's text (the seventh form; the later family's looks); each row that meets fmt, with fmt's text TOLD by the authors' own Lean function (tested against real Go, not proved from fmt's source: count such statements apart). THE CARD IS WHAT COUNTS. Prove the row's statement (the work); the ties are given (YtpbggonfdaealaaGreatDoorTie.lean); close each card by the builder's one call (the guide's Derived/Test/ToyasCard.lean, 'card_holds'). Laid BY PROGRAM, IN A SANDBOX (cutbox-door.mjs). By AI agents, Wed Nov 11 2026. No macro, syntax, notation, axiom, sorry.
-/
import Derived.Test.YtpbggonfdaealaaGreatDoorRows
import GoSem.ClaimSeven
namespace Go.Proofs.YtpbggonfdaealaaGreatDoor
namespace Rows

/-- THE TIED CARD OF 'planimeterlaw13.LogsTell'. -/
def logsTellCard : Claim7 := { stood := { row := logsTellRow, standIns := [], harness := (true, "c23b26e294e05c9ff558b3bf5b7d47507d8dfd14c011af43f9e61391c75862e4"), looks := false }, kinds := [], alts := [], laidByText := true, laidKinds := [.data], laidTests := true, laidLooks := .later }
def LogsTellCardSaid : Prop := Claim7.holds Tryz.pinned (.plain (OpenSpec.ofChange logsTellSpec)) logsTellCard

/-- THE SECOND FORM's CARD OF 'planimeterlaw13.LogsTell'. -/
def logsTellUptoCard : Claim7 := { stood := { row := logsTellUptoRow, standIns := [], harness := (true, "c23b26e294e05c9ff558b3bf5b7d47507d8dfd14c011af43f9e61391c75862e4"), looks := false }, kinds := [], alts := [], laidByText := true, laidKinds := [.data], laidTests := true, laidLooks := .later }
def LogsTellUptoCardSaid : Prop := Claim7.holds Tryz.pinned (.plain (OpenSpec.upto logsTellSpec)) logsTellUptoCard
end Rows
end Go.Proofs.YtpbggonfdaealaaGreatDoor
