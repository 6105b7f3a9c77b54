/-
  DERIVED. GIVEN WITH THE SEED: THE CARDS: each row of YtkgbgmhkbigjhaaDoorRows.lean that lists a variable, with what it lists TIED to the program's text (the seventh form; the later family's looks); each row that meets fmt, with fmt's text TOLD by the authors' own Lean function (tested against real Go, not proved from fmt's source: count such statements apart). THE CARD IS WHAT COUNTS. Prove the row's statement (the work); the ties are given (YtkgbgmhkbigjhaaDoorTie.lean); close each card by the builder's one call (the guide's Derived/Test/ToyasCard.lean, 'card_holds'). Laid BY PROGRAM, IN A SANDBOX (cutbox-door.mjs). By AI agents, Wed Nov 11 2026. No macro, syntax, notation, axiom, sorry.
-/
import Derived.Test.YtkgbgmhkbigjhaaDoorRows
import GoSem.ClaimSeven
namespace Go.Proofs.YtkgbgmhkbigjhaaDoor
namespace Rows

/-- THE TIED CARD OF 'planimeterlaw04.RootFinds'. -/
def rootFindsCard : Claim7 := { stood := { row := rootFindsRow, standIns := [], harness := (true, "115a433dfea0d16a0e9d2259a77e3de3136c3c13ad31d6e44b6ead685809479e"), looks := false }, kinds := [], alts := [], laidByText := true, laidKinds := [.data], laidTests := true, laidLooks := .later }
def RootFindsCardSaid : Prop := Claim7.holds Tryd.pinned (.plain (OpenSpec.ofChange rootFindsSpec)) rootFindsCard

/-- THE TIED CARD OF 'planimeterlaw04.RootHalves'. -/
def rootHalvesCard : Claim7 := { stood := { row := rootHalvesRow, standIns := [], harness := (true, "115a433dfea0d16a0e9d2259a77e3de3136c3c13ad31d6e44b6ead685809479e"), looks := false }, kinds := [], alts := [], laidByText := true, laidKinds := [.data], laidTests := true, laidLooks := .later }
def RootHalvesCardSaid : Prop := Claim7.holds Tryd.pinned (.plain (OpenSpec.ofChange rootHalvesSpec)) rootHalvesCard

/-- THE TIED CARD OF 'planimeterlaw04.RootPowers'. -/
def rootPowersCard : Claim7 := { stood := { row := rootPowersRow, standIns := [], harness := (true, "115a433dfea0d16a0e9d2259a77e3de3136c3c13ad31d6e44b6ead685809479e"), looks := false }, kinds := [], alts := [], laidByText := true, laidKinds := [.data], laidTests := true, laidLooks := .later }
def RootPowersCardSaid : Prop := Claim7.holds Tryd.pinned (.plain (OpenSpec.ofChange rootPowersSpec)) rootPowersCard

/-- THE TIED CARD OF 'planimeterlaw04.RootNest'. -/
def rootNestCard : Claim7 := { stood := { row := rootNestRow, standIns := [], harness := (true, "115a433dfea0d16a0e9d2259a77e3de3136c3c13ad31d6e44b6ead685809479e"), looks := false }, kinds := [], alts := [], laidByText := true, laidKinds := [.data], laidTests := true, laidLooks := .later }
def RootNestCardSaid : Prop := Claim7.holds Tryd.pinned (.plain (OpenSpec.ofChange rootNestSpec)) rootNestCard

/-- THE SECOND FORM's CARD OF 'planimeterlaw04.RootFinds'. -/
def rootFindsUptoCard : Claim7 := { stood := { row := rootFindsUptoRow, standIns := [], harness := (true, "115a433dfea0d16a0e9d2259a77e3de3136c3c13ad31d6e44b6ead685809479e"), looks := false }, kinds := [], alts := [], laidByText := true, laidKinds := [.data], laidTests := true, laidLooks := .later }
def RootFindsUptoCardSaid : Prop := Claim7.holds Tryd.pinned (.plain (OpenSpec.upto rootFindsSpec)) rootFindsUptoCard

/-- THE SECOND FORM's CARD OF 'planimeterlaw04.RootHalves'. -/
def rootHalvesUptoCard : Claim7 := { stood := { row := rootHalvesUptoRow, standIns := [], harness := (true, "115a433dfea0d16a0e9d2259a77e3de3136c3c13ad31d6e44b6ead685809479e"), looks := false }, kinds := [], alts := [], laidByText := true, laidKinds := [.data], laidTests := true, laidLooks := .later }
def RootHalvesUptoCardSaid : Prop := Claim7.holds Tryd.pinned (.plain (OpenSpec.upto rootHalvesSpec)) rootHalvesUptoCard

/-- THE SECOND FORM's CARD OF 'planimeterlaw04.RootPowers'. -/
def rootPowersUptoCard : Claim7 := { stood := { row := rootPowersUptoRow, standIns := [], harness := (true, "115a433dfea0d16a0e9d2259a77e3de3136c3c13ad31d6e44b6ead685809479e"), looks := false }, kinds := [], alts := [], laidByText := true, laidKinds := [.data], laidTests := true, laidLooks := .later }
def RootPowersUptoCardSaid : Prop := Claim7.holds Tryd.pinned (.plain (OpenSpec.upto rootPowersSpec)) rootPowersUptoCard

/-- THE SECOND FORM's CARD OF 'planimeterlaw04.RootNest'. -/
def rootNestUptoCard : Claim7 := { stood := { row := rootNestUptoRow, standIns := [], harness := (true, "115a433dfea0d16a0e9d2259a77e3de3136c3c13ad31d6e44b6ead685809479e"), looks := false }, kinds := [], alts := [], laidByText := true, laidKinds := [.data], laidTests := true, laidLooks := .later }
def RootNestUptoCardSaid : Prop := Claim7.holds Tryd.pinned (.plain (OpenSpec.upto rootNestSpec)) rootNestUptoCard
end Rows
end Go.Proofs.YtkgbgmhkbigjhaaDoor
