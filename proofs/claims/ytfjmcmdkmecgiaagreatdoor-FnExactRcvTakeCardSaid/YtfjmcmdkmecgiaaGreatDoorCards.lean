/-
  DERIVED. GIVEN WITH THE SEED: THE CARDS: each row of YtfjmcmdkmecgiaaGreatDoorRows.lean that lists a variable, with what it lists TIED to the program's text (the seventh form; the later family's looks); each row that meets fmt, with fmt's text TOLD by the authors' own Lean function (tested against real Go, not proved from fmt's source: count such statements apart). THE CARD IS WHAT COUNTS. Prove the row's statement (the work); the ties are given (YtfjmcmdkmecgiaaGreatDoorTie.lean); close each card by the builder's one call (the guide's Derived/Test/ToyasCard.lean, 'card_holds'). Laid BY PROGRAM, IN A SANDBOX (cutbox-door.mjs). By AI agents, Wed Nov 11 2026. No macro, syntax, notation, axiom, sorry.
-/
import Derived.Test.YtfjmcmdkmecgiaaGreatDoorRows
import GoSem.ClaimSeven
namespace Go.Proofs.YtfjmcmdkmecgiaaGreatDoor
namespace Rows

/-- THE TIED CARD OF 'laws.FnRcv'. -/
def fnRcvCard : Claim7 := { stood := { row := fnRcvRow, standIns := [], harness := (true, "17e0635426b7621a7cfb45240cdf0ffd6820df776b644b359b92804b3c1edeb8"), looks := true }, kinds := [], alts := [], laidByText := true, laidKinds := [.data, .handle], laidTests := true, laidLooks := .later }
def FnRcvCardSaid : Prop := Claim7.holds Tryz.pinned (.plain (OpenSpec.ofChange fnRcvSpec)) fnRcvCard

/-- THE TIED CARD OF 'laws.FnSnd'. -/
def fnSndCard : Claim7 := { stood := { row := fnSndRow, standIns := [], harness := (true, "17e0635426b7621a7cfb45240cdf0ffd6820df776b644b359b92804b3c1edeb8"), looks := true }, kinds := [], alts := [], laidByText := true, laidKinds := [.handle], laidTests := true, laidLooks := .later }
def FnSndCardSaid : Prop := Claim7.holds Tryz.pinned (.plain (OpenSpec.ofChange fnSndSpec)) fnSndCard

/-- THE TIED CARD OF 'laws.FnExactRcvTake'. -/
def fnExactRcvTakeCard : Claim7 := { stood := { row := fnExactRcvTakeRow, standIns := [], harness := (true, "17e0635426b7621a7cfb45240cdf0ffd6820df776b644b359b92804b3c1edeb8"), looks := true }, kinds := [], alts := [], laidByText := true, laidKinds := [.data, .handle], laidTests := true, laidLooks := .later }
def FnExactRcvTakeCardSaid : Prop := Claim7.holds Tryz.pinned (.plain (OpenSpec.ofChange fnExactRcvTakeSpec)) fnExactRcvTakeCard

/-- THE TIED CARD OF 'laws.FnExactSndAck'. -/
def fnExactSndAckCard : Claim7 := { stood := { row := fnExactSndAckRow, standIns := [], harness := (true, "17e0635426b7621a7cfb45240cdf0ffd6820df776b644b359b92804b3c1edeb8"), looks := true }, kinds := [], alts := [], laidByText := true, laidKinds := [.handle], laidTests := true, laidLooks := .later }
def FnExactSndAckCardSaid : Prop := Claim7.holds Tryz.pinned (.plain (OpenSpec.ofChange fnExactSndAckSpec)) fnExactSndAckCard

/-- THE TIED CARD OF 'laws.FnExactSndTick'. -/
def fnExactSndTickCard : Claim7 := { stood := { row := fnExactSndTickRow, standIns := [], harness := (true, "17e0635426b7621a7cfb45240cdf0ffd6820df776b644b359b92804b3c1edeb8"), looks := true }, kinds := [], alts := [], laidByText := true, laidKinds := [.handle], laidTests := true, laidLooks := .later }
def FnExactSndTickCardSaid : Prop := Claim7.holds Tryz.pinned (.plain (OpenSpec.ofChange fnExactSndTickSpec)) fnExactSndTickCard

/-- THE SECOND FORM's CARD OF 'laws.FnRcv'. -/
def fnRcvUptoCard : Claim7 := { stood := { row := fnRcvUptoRow, standIns := [], harness := (true, "17e0635426b7621a7cfb45240cdf0ffd6820df776b644b359b92804b3c1edeb8"), looks := true }, kinds := [], alts := [], laidByText := true, laidKinds := [.data, .handle], laidTests := true, laidLooks := .later }
def FnRcvUptoCardSaid : Prop := Claim7.holds Tryz.pinned (.plain (OpenSpec.upto fnRcvSpec)) fnRcvUptoCard

/-- THE SECOND FORM's CARD OF 'laws.FnSnd'. -/
def fnSndUptoCard : Claim7 := { stood := { row := fnSndUptoRow, standIns := [], harness := (true, "17e0635426b7621a7cfb45240cdf0ffd6820df776b644b359b92804b3c1edeb8"), looks := true }, kinds := [], alts := [], laidByText := true, laidKinds := [.handle], laidTests := true, laidLooks := .later }
def FnSndUptoCardSaid : Prop := Claim7.holds Tryz.pinned (.plain (OpenSpec.upto fnSndSpec)) fnSndUptoCard

/-- THE SECOND FORM's CARD OF 'laws.FnExactRcvTake'. -/
def fnExactRcvTakeUptoCard : Claim7 := { stood := { row := fnExactRcvTakeUptoRow, standIns := [], harness := (true, "17e0635426b7621a7cfb45240cdf0ffd6820df776b644b359b92804b3c1edeb8"), looks := true }, kinds := [], alts := [], laidByText := true, laidKinds := [.data, .handle], laidTests := true, laidLooks := .later }
def FnExactRcvTakeUptoCardSaid : Prop := Claim7.holds Tryz.pinned (.plain (OpenSpec.upto fnExactRcvTakeSpec)) fnExactRcvTakeUptoCard

/-- THE SECOND FORM's CARD OF 'laws.FnExactSndAck'. -/
def fnExactSndAckUptoCard : Claim7 := { stood := { row := fnExactSndAckUptoRow, standIns := [], harness := (true, "17e0635426b7621a7cfb45240cdf0ffd6820df776b644b359b92804b3c1edeb8"), looks := true }, kinds := [], alts := [], laidByText := true, laidKinds := [.handle], laidTests := true, laidLooks := .later }
def FnExactSndAckUptoCardSaid : Prop := Claim7.holds Tryz.pinned (.plain (OpenSpec.upto fnExactSndAckSpec)) fnExactSndAckUptoCard

/-- THE SECOND FORM's CARD OF 'laws.FnExactSndTick'. -/
def fnExactSndTickUptoCard : Claim7 := { stood := { row := fnExactSndTickUptoRow, standIns := [], harness := (true, "17e0635426b7621a7cfb45240cdf0ffd6820df776b644b359b92804b3c1edeb8"), looks := true }, kinds := [], alts := [], laidByText := true, laidKinds := [.handle], laidTests := true, laidLooks := .later }
def FnExactSndTickUptoCardSaid : Prop := Claim7.holds Tryz.pinned (.plain (OpenSpec.upto fnExactSndTickSpec)) fnExactSndTickUptoCard
end Rows
end Go.Proofs.YtfjmcmdkmecgiaaGreatDoor
