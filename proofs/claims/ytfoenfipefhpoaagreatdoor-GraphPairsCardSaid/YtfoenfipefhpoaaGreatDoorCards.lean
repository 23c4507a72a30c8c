/-
  DERIVED. GIVEN WITH THE SEED: THE CARDS: each row of YtfoenfipefhpoaaGreatDoorRows.lean that lists a variable, with what it lists TIED to the program's text (the seventh form; the later family's looks); each row that meets fmt, with fmt's text TOLD by the authors' own Lean function (tested against real Go, not proved from fmt's source: count such statements apart). THE CARD IS WHAT COUNTS. Prove the row's statement (the work); the ties are given (YtfoenfipefhpoaaGreatDoorTie.lean); close each card by the builder's one call (the guide's Derived/Test/ToyasCard.lean, 'card_holds'). Laid BY PROGRAM, IN A SANDBOX (cutbox-door.mjs). By AI agents, Wed Nov 11 2026. No macro, syntax, notation, axiom, sorry.
-/
import Derived.Test.YtfoenfipefhpoaaGreatDoorRows
import GoSem.ClaimSeven
namespace Go.Proofs.YtfoenfipefhpoaaGreatDoor
namespace Rows

/-- THE TIED CARD OF 'watershedlaw06.GraphOrders'. -/
def graphOrdersCard : Claim7 := { stood := { row := graphOrdersRow, standIns := [], harness := (true, "1244161cdb309d104652dc8cb3b1ef967a4356e9291614ef9421c3bd28c82e0a"), looks := true }, kinds := [], alts := [], laidByText := true, laidKinds := [.data, .data, .data, .sentinel, .sentinel], laidTests := true, laidLooks := .later }
def GraphOrdersCardSaid : Prop := Claim7.holds Tryz.pinned (.plain (OpenSpec.ofChange graphOrdersSpec)) graphOrdersCard

/-- THE TIED CARD OF 'watershedlaw06.GraphReaches'. -/
def graphReachesCard : Claim7 := { stood := { row := graphReachesRow, standIns := [], harness := (true, "1244161cdb309d104652dc8cb3b1ef967a4356e9291614ef9421c3bd28c82e0a"), looks := true }, kinds := [], alts := [], laidByText := true, laidKinds := [.data, .data, .data, .sentinel, .sentinel], laidTests := true, laidLooks := .later }
def GraphReachesCardSaid : Prop := Claim7.holds Tryz.pinned (.plain (OpenSpec.ofChange graphReachesSpec)) graphReachesCard

/-- THE TIED CARD OF 'watershedlaw06.GraphPairs'. -/
def graphPairsCard : Claim7 := { stood := { row := graphPairsRow, standIns := [], harness := (true, "1244161cdb309d104652dc8cb3b1ef967a4356e9291614ef9421c3bd28c82e0a"), looks := true }, kinds := [], alts := [], laidByText := true, laidKinds := [.data, .data, .data, .sentinel, .sentinel], laidTests := true, laidLooks := .later }
def GraphPairsCardSaid : Prop := Claim7.holds Tryz.pinned (.plain (OpenSpec.ofChange graphPairsSpec)) graphPairsCard

/-- THE SECOND FORM's CARD OF 'watershedlaw06.GraphOrders'. -/
def graphOrdersUptoCard : Claim7 := { stood := { row := graphOrdersUptoRow, standIns := [], harness := (true, "1244161cdb309d104652dc8cb3b1ef967a4356e9291614ef9421c3bd28c82e0a"), looks := true }, kinds := [], alts := [], laidByText := true, laidKinds := [.data, .data, .data, .sentinel, .sentinel], laidTests := true, laidLooks := .later }
def GraphOrdersUptoCardSaid : Prop := Claim7.holds Tryz.pinned (.plain (OpenSpec.upto graphOrdersSpec)) graphOrdersUptoCard

/-- THE SECOND FORM's CARD OF 'watershedlaw06.GraphReaches'. -/
def graphReachesUptoCard : Claim7 := { stood := { row := graphReachesUptoRow, standIns := [], harness := (true, "1244161cdb309d104652dc8cb3b1ef967a4356e9291614ef9421c3bd28c82e0a"), looks := true }, kinds := [], alts := [], laidByText := true, laidKinds := [.data, .data, .data, .sentinel, .sentinel], laidTests := true, laidLooks := .later }
def GraphReachesUptoCardSaid : Prop := Claim7.holds Tryz.pinned (.plain (OpenSpec.upto graphReachesSpec)) graphReachesUptoCard

/-- THE SECOND FORM's CARD OF 'watershedlaw06.GraphPairs'. -/
def graphPairsUptoCard : Claim7 := { stood := { row := graphPairsUptoRow, standIns := [], harness := (true, "1244161cdb309d104652dc8cb3b1ef967a4356e9291614ef9421c3bd28c82e0a"), looks := true }, kinds := [], alts := [], laidByText := true, laidKinds := [.data, .data, .data, .sentinel, .sentinel], laidTests := true, laidLooks := .later }
def GraphPairsUptoCardSaid : Prop := Claim7.holds Tryz.pinned (.plain (OpenSpec.upto graphPairsSpec)) graphPairsUptoCard
end Rows
end Go.Proofs.YtfoenfipefhpoaaGreatDoor
