/-
  DERIVED. GIVEN WITH THE SEED: THE CARDS: each row of YtdcahilfmhkmiaaGreatDoorRows.lean that lists a variable, with what it lists TIED to the program's text (the seventh form; the later family's looks); each row that meets fmt, with fmt's text TOLD by the authors' own Lean function (tested against real Go, not proved from fmt's source: count such statements apart). THE CARD IS WHAT COUNTS. Prove the row's statement (the work); the ties are given (YtdcahilfmhkmiaaGreatDoorTie.lean); close each card by the builder's one call (the guide's Derived/Test/ToyasCard.lean, 'card_holds'). Laid BY PROGRAM, IN A SANDBOX (cutbox-door.mjs). By AI agents, Wed Nov 11 2026. No macro, syntax, notation, axiom, sorry.
-/
import Derived.Test.YtdcahilfmhkmiaaGreatDoorRows
import GoSem.ClaimSeven
namespace Go.Proofs.YtdcahilfmhkmiaaGreatDoor
namespace Rows

/-- THE TIED CARD OF 'laws.FnRcv'. -/
def fnRcvCard : Claim7 := { stood := { row := fnRcvRow, standIns := [], harness := (true, "6cb65dfb2a1f3762ad87059c5544645d3fadb9b83204ae9dd0a0d918a2a20013"), looks := true }, kinds := [], alts := [], laidByText := true, laidKinds := [.data, .handle], laidTests := true, laidLooks := .later }
def FnRcvCardSaid : Prop := Claim7.holds Tryz.pinned (.plain (OpenSpec.ofChange fnRcvSpec)) fnRcvCard

/-- THE TIED CARD OF 'laws.FnSnd'. -/
def fnSndCard : Claim7 := { stood := { row := fnSndRow, standIns := [], harness := (true, "6cb65dfb2a1f3762ad87059c5544645d3fadb9b83204ae9dd0a0d918a2a20013"), looks := true }, kinds := [], alts := [], laidByText := true, laidKinds := [.handle], laidTests := true, laidLooks := .later }
def FnSndCardSaid : Prop := Claim7.holds Tryz.pinned (.plain (OpenSpec.ofChange fnSndSpec)) fnSndCard

/-- THE TIED CARD OF 'laws.FnExactRcvTake'. -/
def fnExactRcvTakeCard : Claim7 := { stood := { row := fnExactRcvTakeRow, standIns := [], harness := (true, "6cb65dfb2a1f3762ad87059c5544645d3fadb9b83204ae9dd0a0d918a2a20013"), looks := true }, kinds := [], alts := [], laidByText := true, laidKinds := [.data, .handle], laidTests := true, laidLooks := .later }
def FnExactRcvTakeCardSaid : Prop := Claim7.holds Tryz.pinned (.plain (OpenSpec.ofChange fnExactRcvTakeSpec)) fnExactRcvTakeCard

/-- THE TIED CARD OF 'laws.FnExactRcvRead'. -/
def fnExactRcvReadCard : Claim7 := { stood := { row := fnExactRcvReadRow, standIns := [], harness := (true, "6cb65dfb2a1f3762ad87059c5544645d3fadb9b83204ae9dd0a0d918a2a20013"), looks := true }, kinds := [], alts := [], laidByText := true, laidKinds := [.handle], laidTests := true, laidLooks := .later }
def FnExactRcvReadCardSaid : Prop := Claim7.holds Tryz.pinned (.plain (OpenSpec.ofChange fnExactRcvReadSpec)) fnExactRcvReadCard

/-- THE SECOND FORM's CARD OF 'laws.FnRcv'. -/
def fnRcvUptoCard : Claim7 := { stood := { row := fnRcvUptoRow, standIns := [], harness := (true, "6cb65dfb2a1f3762ad87059c5544645d3fadb9b83204ae9dd0a0d918a2a20013"), looks := true }, kinds := [], alts := [], laidByText := true, laidKinds := [.data, .handle], laidTests := true, laidLooks := .later }
def FnRcvUptoCardSaid : Prop := Claim7.holds Tryz.pinned (.plain (OpenSpec.upto fnRcvSpec)) fnRcvUptoCard

/-- THE SECOND FORM's CARD OF 'laws.FnSnd'. -/
def fnSndUptoCard : Claim7 := { stood := { row := fnSndUptoRow, standIns := [], harness := (true, "6cb65dfb2a1f3762ad87059c5544645d3fadb9b83204ae9dd0a0d918a2a20013"), looks := true }, kinds := [], alts := [], laidByText := true, laidKinds := [.handle], laidTests := true, laidLooks := .later }
def FnSndUptoCardSaid : Prop := Claim7.holds Tryz.pinned (.plain (OpenSpec.upto fnSndSpec)) fnSndUptoCard

/-- THE SECOND FORM's CARD OF 'laws.FnExactRcvTake'. -/
def fnExactRcvTakeUptoCard : Claim7 := { stood := { row := fnExactRcvTakeUptoRow, standIns := [], harness := (true, "6cb65dfb2a1f3762ad87059c5544645d3fadb9b83204ae9dd0a0d918a2a20013"), looks := true }, kinds := [], alts := [], laidByText := true, laidKinds := [.data, .handle], laidTests := true, laidLooks := .later }
def FnExactRcvTakeUptoCardSaid : Prop := Claim7.holds Tryz.pinned (.plain (OpenSpec.upto fnExactRcvTakeSpec)) fnExactRcvTakeUptoCard

/-- THE SECOND FORM's CARD OF 'laws.FnExactRcvRead'. -/
def fnExactRcvReadUptoCard : Claim7 := { stood := { row := fnExactRcvReadUptoRow, standIns := [], harness := (true, "6cb65dfb2a1f3762ad87059c5544645d3fadb9b83204ae9dd0a0d918a2a20013"), looks := true }, kinds := [], alts := [], laidByText := true, laidKinds := [.handle], laidTests := true, laidLooks := .later }
def FnExactRcvReadUptoCardSaid : Prop := Claim7.holds Tryz.pinned (.plain (OpenSpec.upto fnExactRcvReadSpec)) fnExactRcvReadUptoCard
end Rows
end Go.Proofs.YtdcahilfmhkmiaaGreatDoor
