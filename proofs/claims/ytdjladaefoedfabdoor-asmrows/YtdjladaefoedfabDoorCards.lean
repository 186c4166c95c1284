/-
  DERIVED. GIVEN WITH THE SEED: THE CARDS: each row of YtdjladaefoedfabDoorRows.lean that lists a variable, with what it lists TIED to the program's text (the seventh form; the later family's looks); each row that meets fmt, with fmt's text TOLD by the authors' own Lean function (tested against real Go, not proved from fmt's source: count such statements apart). THE CARD IS WHAT COUNTS. Prove the row's statement (the work); the ties are given (YtdjladaefoedfabDoorTie.lean); close each card by the builder's one call (the guide's Derived/Test/ToyasCard.lean, 'card_holds'). Laid BY PROGRAM, IN A SANDBOX (cutbox-door.mjs). By AI agents, Wed Nov 11 2026. No macro, syntax, notation, axiom, sorry.
-/
import Derived.Test.YtdjladaefoedfabDoorRows
import GoSem.ClaimSeven
namespace Go.Proofs.YtdjladaefoedfabDoor
namespace Rows

/-- THE TIED CARD OF 'whetstonelaw05.AsmRows'. -/
def asmRowsCard : Claim7 := { stood := { row := asmRowsRow, standIns := [], harness := (true, "6906ac8081289990cba7ba6b97dca13c098bd72c092af51ab2488c9f81857a88"), looks := true }, kinds := [], alts := [], laidByText := true, laidKinds := [.data, .data, .data, .sentinel, .sentinel, .data], laidTests := true, laidLooks := .later }
def AsmRowsCardSaid : Prop := Claim7.holds Tryd.pinned (.plain (OpenSpec.ofChange asmRowsSpec)) asmRowsCard

/-- THE TIED CARD OF 'whetstonelaw05.AsmOther'. -/
def asmOtherCard : Claim7 := { stood := { row := asmOtherRow, standIns := [], harness := (true, "6906ac8081289990cba7ba6b97dca13c098bd72c092af51ab2488c9f81857a88"), looks := true }, kinds := [], alts := [], laidByText := true, laidKinds := [.data, .data, .data, .sentinel, .sentinel, .data], laidTests := true, laidLooks := .later }
def AsmOtherCardSaid : Prop := Claim7.holds Tryd.pinned (.plain (OpenSpec.ofChange asmOtherSpec)) asmOtherCard

/-- THE SECOND FORM's CARD OF 'whetstonelaw05.AsmRows'. -/
def asmRowsUptoCard : Claim7 := { stood := { row := asmRowsUptoRow, standIns := [], harness := (true, "6906ac8081289990cba7ba6b97dca13c098bd72c092af51ab2488c9f81857a88"), looks := true }, kinds := [], alts := [], laidByText := true, laidKinds := [.data, .data, .data, .sentinel, .sentinel, .data], laidTests := true, laidLooks := .later }
def AsmRowsUptoCardSaid : Prop := Claim7.holds Tryd.pinned (.plain (OpenSpec.upto asmRowsSpec)) asmRowsUptoCard

/-- THE SECOND FORM's CARD OF 'whetstonelaw05.AsmOther'. -/
def asmOtherUptoCard : Claim7 := { stood := { row := asmOtherUptoRow, standIns := [], harness := (true, "6906ac8081289990cba7ba6b97dca13c098bd72c092af51ab2488c9f81857a88"), looks := true }, kinds := [], alts := [], laidByText := true, laidKinds := [.data, .data, .data, .sentinel, .sentinel, .data], laidTests := true, laidLooks := .later }
def AsmOtherUptoCardSaid : Prop := Claim7.holds Tryd.pinned (.plain (OpenSpec.upto asmOtherSpec)) asmOtherUptoCard
end Rows
end Go.Proofs.YtdjladaefoedfabDoor
