/-
  DERIVED. GIVEN WITH THE SEED: THE CARDS: each row of YtmgefmjfefmaoaaDoorRows.lean that lists a variable, with what it lists TIED to the program's text (the seventh form; the later family's looks); each row that meets fmt, with fmt's text TOLD by the authors' own Lean function (tested against real Go, not proved from fmt's source: count such statements apart). THE CARD IS WHAT COUNTS. Prove the row's statement (the work); the ties are given (YtmgefmjfefmaoaaDoorTie.lean); close each card by the builder's one call (the guide's Derived/Test/ToyasCard.lean, 'card_holds'). Laid BY PROGRAM, IN A SANDBOX (cutbox-door.mjs). By AI agents, Wed Nov 11 2026. No macro, syntax, notation, axiom, sorry.
-/
import Derived.Test.YtmgefmjfefmaoaaDoorRows
import GoSem.ClaimSeven
namespace Go.Proofs.YtmgefmjfefmaoaaDoor
namespace Rows

/-- THE TIED CARD OF 'laws.FnExactRcvRead'. -/
def fnExactRcvReadCard : Claim7 := { stood := { row := fnExactRcvReadRow, standIns := [], harness := (true, "18240c2a6ff739c1f30b1c1808a9a7a77c6574c2c2ea22b3ceee5edb4a9fea87"), looks := true }, kinds := [], alts := [], laidByText := true, laidKinds := [.handle], laidTests := true, laidLooks := .later }
def FnExactRcvReadCardSaid : Prop := Claim7.holds Tryd.pinned (.plain (OpenSpec.ofChange fnExactRcvReadSpec)) fnExactRcvReadCard

/-- THE SECOND FORM's CARD OF 'laws.FnExactRcvRead'. -/
def fnExactRcvReadUptoCard : Claim7 := { stood := { row := fnExactRcvReadUptoRow, standIns := [], harness := (true, "18240c2a6ff739c1f30b1c1808a9a7a77c6574c2c2ea22b3ceee5edb4a9fea87"), looks := true }, kinds := [], alts := [], laidByText := true, laidKinds := [.handle], laidTests := true, laidLooks := .later }
def FnExactRcvReadUptoCardSaid : Prop := Claim7.holds Tryd.pinned (.plain (OpenSpec.upto fnExactRcvReadSpec)) fnExactRcvReadUptoCard
end Rows
end Go.Proofs.YtmgefmjfefmaoaaDoor
