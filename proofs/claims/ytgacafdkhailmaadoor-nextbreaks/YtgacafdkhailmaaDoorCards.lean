/-
  DERIVED. GIVEN WITH THE SEED: THE CARDS: each row of YtgacafdkhailmaaDoorRows.lean that lists a variable, with what it lists TIED to the program's text (the seventh form; the later family's looks); each row that meets fmt, with fmt's text TOLD by the authors' own Lean function (tested against real Go, not proved from fmt's source: count such statements apart). THE CARD IS WHAT COUNTS. Prove the row's statement (the work); the ties are given (YtgacafdkhailmaaDoorTie.lean); close each card by the builder's one call (the guide's Derived/Test/ToyasCard.lean, 'card_holds'). Laid BY PROGRAM, IN A SANDBOX (cutbox-door.mjs). By AI agents, Wed Nov 11 2026. No macro, syntax, notation, axiom, sorry.
-/
import Derived.Test.YtgacafdkhailmaaDoorRows
import GoSem.ClaimSeven
namespace Go.Proofs.YtgacafdkhailmaaDoor
namespace Rows

/-- THE TIED CARD OF 'planimeterlaw08.NextTells'. -/
def nextTellsCard : Claim7 := { stood := { row := nextTellsRow, standIns := [], harness := (true, "e0a8c684d8e4751ba89acc67735f419e99f1c972c3290f8d74a76f64d6455d49"), looks := false }, kinds := [], alts := [], laidByText := true, laidKinds := [.data], laidTests := true, laidLooks := .later }
def NextTellsCardSaid : Prop := Claim7.holds Tryd.pinned (.plain (OpenSpec.ofChange nextTellsSpec)) nextTellsCard

/-- THE TIED CARD OF 'planimeterlaw08.NextBreaks'. -/
def nextBreaksCard : Claim7 := { stood := { row := nextBreaksRow, standIns := [], harness := (true, "e0a8c684d8e4751ba89acc67735f419e99f1c972c3290f8d74a76f64d6455d49"), looks := false }, kinds := [], alts := [], laidByText := true, laidKinds := [.data], laidTests := true, laidLooks := .later }
def NextBreaksCardSaid : Prop := Claim7.holds Tryd.pinned (.plain (OpenSpec.ofChange nextBreaksSpec)) nextBreaksCard

/-- THE TIED CARD OF 'planimeterlaw08.NextBack'. -/
def nextBackCard : Claim7 := { stood := { row := nextBackRow, standIns := [], harness := (true, "e0a8c684d8e4751ba89acc67735f419e99f1c972c3290f8d74a76f64d6455d49"), looks := false }, kinds := [], alts := [], laidByText := true, laidKinds := [.data], laidTests := true, laidLooks := .later }
def NextBackCardSaid : Prop := Claim7.holds Tryd.pinned (.plain (OpenSpec.ofChange nextBackSpec)) nextBackCard

/-- THE TIED CARD OF 'planimeterlaw08.NextCount'. -/
def nextCountCard : Claim7 := { stood := { row := nextCountRow, standIns := [], harness := (true, "e0a8c684d8e4751ba89acc67735f419e99f1c972c3290f8d74a76f64d6455d49"), looks := false }, kinds := [], alts := [], laidByText := true, laidKinds := [.data], laidTests := true, laidLooks := .later }
def NextCountCardSaid : Prop := Claim7.holds Tryd.pinned (.plain (OpenSpec.ofChange nextCountSpec)) nextCountCard

/-- THE SECOND FORM's CARD OF 'planimeterlaw08.NextTells'. -/
def nextTellsUptoCard : Claim7 := { stood := { row := nextTellsUptoRow, standIns := [], harness := (true, "e0a8c684d8e4751ba89acc67735f419e99f1c972c3290f8d74a76f64d6455d49"), looks := false }, kinds := [], alts := [], laidByText := true, laidKinds := [.data], laidTests := true, laidLooks := .later }
def NextTellsUptoCardSaid : Prop := Claim7.holds Tryd.pinned (.plain (OpenSpec.upto nextTellsSpec)) nextTellsUptoCard

/-- THE SECOND FORM's CARD OF 'planimeterlaw08.NextBreaks'. -/
def nextBreaksUptoCard : Claim7 := { stood := { row := nextBreaksUptoRow, standIns := [], harness := (true, "e0a8c684d8e4751ba89acc67735f419e99f1c972c3290f8d74a76f64d6455d49"), looks := false }, kinds := [], alts := [], laidByText := true, laidKinds := [.data], laidTests := true, laidLooks := .later }
def NextBreaksUptoCardSaid : Prop := Claim7.holds Tryd.pinned (.plain (OpenSpec.upto nextBreaksSpec)) nextBreaksUptoCard

/-- THE SECOND FORM's CARD OF 'planimeterlaw08.NextBack'. -/
def nextBackUptoCard : Claim7 := { stood := { row := nextBackUptoRow, standIns := [], harness := (true, "e0a8c684d8e4751ba89acc67735f419e99f1c972c3290f8d74a76f64d6455d49"), looks := false }, kinds := [], alts := [], laidByText := true, laidKinds := [.data], laidTests := true, laidLooks := .later }
def NextBackUptoCardSaid : Prop := Claim7.holds Tryd.pinned (.plain (OpenSpec.upto nextBackSpec)) nextBackUptoCard

/-- THE SECOND FORM's CARD OF 'planimeterlaw08.NextCount'. -/
def nextCountUptoCard : Claim7 := { stood := { row := nextCountUptoRow, standIns := [], harness := (true, "e0a8c684d8e4751ba89acc67735f419e99f1c972c3290f8d74a76f64d6455d49"), looks := false }, kinds := [], alts := [], laidByText := true, laidKinds := [.data], laidTests := true, laidLooks := .later }
def NextCountUptoCardSaid : Prop := Claim7.holds Tryd.pinned (.plain (OpenSpec.upto nextCountSpec)) nextCountUptoCard
end Rows
end Go.Proofs.YtgacafdkhailmaaDoor
