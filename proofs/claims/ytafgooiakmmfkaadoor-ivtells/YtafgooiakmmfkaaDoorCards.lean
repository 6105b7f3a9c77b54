/-
  DERIVED. GIVEN WITH THE SEED: THE CARDS: each row of YtafgooiakmmfkaaDoorRows.lean that lists a variable, with what it lists TIED to the program's text (the seventh form; the later family's looks); each row that meets fmt, with fmt's text TOLD by the authors' own Lean function (tested against real Go, not proved from fmt's source: count such statements apart). THE CARD IS WHAT COUNTS. Prove the row's statement (the work); the ties are given (YtafgooiakmmfkaaDoorTie.lean); close each card by the builder's one call (the guide's Derived/Test/ToyasCard.lean, 'card_holds'). Laid BY PROGRAM, IN A SANDBOX (cutbox-door.mjs). By AI agents, Wed Nov 11 2026. No macro, syntax, notation, axiom, sorry.
-/
import Derived.Test.YtafgooiakmmfkaaDoorRows
import GoSem.ClaimSeven
namespace Go.Proofs.YtafgooiakmmfkaaDoor
namespace Rows

/-- THE TIED CARD OF 'planimeterlaw15.IvTells'. -/
def ivTellsCard : Claim7 := { stood := { row := ivTellsRow, standIns := [], harness := (true, "c8e5caed8c85be9a86701954f365ad94aaf6144d83db8d0cd9e731e337cdf7ba"), looks := false }, kinds := [], alts := [], laidByText := true, laidKinds := [.data], laidTests := true, laidLooks := .later }
def IvTellsCardSaid : Prop := Claim7.holds Tryd.pinned (.plain (OpenSpec.ofChange ivTellsSpec)) ivTellsCard

/-- THE TIED CARD OF 'planimeterlaw15.IvShort'. -/
def ivShortCard : Claim7 := { stood := { row := ivShortRow, standIns := [], harness := (true, "c8e5caed8c85be9a86701954f365ad94aaf6144d83db8d0cd9e731e337cdf7ba"), looks := false }, kinds := [], alts := [], laidByText := true, laidKinds := [.data], laidTests := true, laidLooks := .later }
def IvShortCardSaid : Prop := Claim7.holds Tryd.pinned (.plain (OpenSpec.ofChange ivShortSpec)) ivShortCard

/-- THE TIED CARD OF 'planimeterlaw15.IvRules'. -/
def ivRulesCard : Claim7 := { stood := { row := ivRulesRow, standIns := [], harness := (true, "c8e5caed8c85be9a86701954f365ad94aaf6144d83db8d0cd9e731e337cdf7ba"), looks := false }, kinds := [], alts := [], laidByText := true, laidKinds := [.data], laidTests := true, laidLooks := .later }
def IvRulesCardSaid : Prop := Claim7.holds Tryd.pinned (.plain (OpenSpec.ofChange ivRulesSpec)) ivRulesCard

/-- THE TIED CARD OF 'planimeterlaw15.IvNest'. -/
def ivNestCard : Claim7 := { stood := { row := ivNestRow, standIns := [], harness := (true, "c8e5caed8c85be9a86701954f365ad94aaf6144d83db8d0cd9e731e337cdf7ba"), looks := false }, kinds := [], alts := [], laidByText := true, laidKinds := [.data], laidTests := true, laidLooks := .later }
def IvNestCardSaid : Prop := Claim7.holds Tryd.pinned (.plain (OpenSpec.ofChange ivNestSpec)) ivNestCard

/-- THE SECOND FORM's CARD OF 'planimeterlaw15.IvTells'. -/
def ivTellsUptoCard : Claim7 := { stood := { row := ivTellsUptoRow, standIns := [], harness := (true, "c8e5caed8c85be9a86701954f365ad94aaf6144d83db8d0cd9e731e337cdf7ba"), looks := false }, kinds := [], alts := [], laidByText := true, laidKinds := [.data], laidTests := true, laidLooks := .later }
def IvTellsUptoCardSaid : Prop := Claim7.holds Tryd.pinned (.plain (OpenSpec.upto ivTellsSpec)) ivTellsUptoCard

/-- THE SECOND FORM's CARD OF 'planimeterlaw15.IvShort'. -/
def ivShortUptoCard : Claim7 := { stood := { row := ivShortUptoRow, standIns := [], harness := (true, "c8e5caed8c85be9a86701954f365ad94aaf6144d83db8d0cd9e731e337cdf7ba"), looks := false }, kinds := [], alts := [], laidByText := true, laidKinds := [.data], laidTests := true, laidLooks := .later }
def IvShortUptoCardSaid : Prop := Claim7.holds Tryd.pinned (.plain (OpenSpec.upto ivShortSpec)) ivShortUptoCard

/-- THE SECOND FORM's CARD OF 'planimeterlaw15.IvRules'. -/
def ivRulesUptoCard : Claim7 := { stood := { row := ivRulesUptoRow, standIns := [], harness := (true, "c8e5caed8c85be9a86701954f365ad94aaf6144d83db8d0cd9e731e337cdf7ba"), looks := false }, kinds := [], alts := [], laidByText := true, laidKinds := [.data], laidTests := true, laidLooks := .later }
def IvRulesUptoCardSaid : Prop := Claim7.holds Tryd.pinned (.plain (OpenSpec.upto ivRulesSpec)) ivRulesUptoCard

/-- THE SECOND FORM's CARD OF 'planimeterlaw15.IvNest'. -/
def ivNestUptoCard : Claim7 := { stood := { row := ivNestUptoRow, standIns := [], harness := (true, "c8e5caed8c85be9a86701954f365ad94aaf6144d83db8d0cd9e731e337cdf7ba"), looks := false }, kinds := [], alts := [], laidByText := true, laidKinds := [.data], laidTests := true, laidLooks := .later }
def IvNestUptoCardSaid : Prop := Claim7.holds Tryd.pinned (.plain (OpenSpec.upto ivNestSpec)) ivNestUptoCard
end Rows
end Go.Proofs.YtafgooiakmmfkaaDoor
