/-
  DERIVED. GIVEN WITH THE SEED: THE CARDS: each row of YtjcdcaannajnpaaDoorRows.lean that lists a variable, with what it lists TIED to the program's text (the seventh form; the later family's looks); each row that meets fmt, with fmt's text TOLD by the authors' own Lean function (tested against real Go, not proved from fmt's source: count such statements apart). THE CARD IS WHAT COUNTS. Prove the row's statement (the work); the ties are given (YtjcdcaannajnpaaDoorTie.lean); close each card by the builder's one call (the guide's Derived/Test/ToyasCard.lean, 'card_holds'). Laid BY PROGRAM, IN A SANDBOX (cutbox-door.mjs). By AI agents, Wed Nov 11 2026. No macro, syntax, notation, axiom, sorry.
-/
import Derived.Test.YtjcdcaannajnpaaDoorRows
import GoSem.ClaimSeven
namespace Go.Proofs.YtjcdcaannajnpaaDoor
namespace Rows

/-- THE TIED CARD OF 'laws.FnExactSegRead'. -/
def fnExactSegReadCard : Claim7 := { stood := { row := fnExactSegReadRow, standIns := [], harness := (true, "b46d36b8c2b5692ae0475c4c0d6218023ad57fb2690f9ad380f2cf329b451cfc"), looks := true }, kinds := [], alts := [], laidByText := true, laidKinds := [.handle], laidTests := true, laidLooks := .later }
def FnExactSegReadCardSaid : Prop := Claim7.holds Tryd.pinned (.plain (OpenSpec.ofChange fnExactSegReadSpec)) fnExactSegReadCard

/-- THE TIED CARD OF 'laws.FnExactAckRead'. -/
def fnExactAckReadCard : Claim7 := { stood := { row := fnExactAckReadRow, standIns := [], harness := (true, "b46d36b8c2b5692ae0475c4c0d6218023ad57fb2690f9ad380f2cf329b451cfc"), looks := true }, kinds := [], alts := [], laidByText := true, laidKinds := [.handle], laidTests := true, laidLooks := .later }
def FnExactAckReadCardSaid : Prop := Claim7.holds Tryd.pinned (.plain (OpenSpec.ofChange fnExactAckReadSpec)) fnExactAckReadCard

/-- THE SECOND FORM's CARD OF 'laws.FnExactSegRead'. -/
def fnExactSegReadUptoCard : Claim7 := { stood := { row := fnExactSegReadUptoRow, standIns := [], harness := (true, "b46d36b8c2b5692ae0475c4c0d6218023ad57fb2690f9ad380f2cf329b451cfc"), looks := true }, kinds := [], alts := [], laidByText := true, laidKinds := [.handle], laidTests := true, laidLooks := .later }
def FnExactSegReadUptoCardSaid : Prop := Claim7.holds Tryd.pinned (.plain (OpenSpec.upto fnExactSegReadSpec)) fnExactSegReadUptoCard

/-- THE SECOND FORM's CARD OF 'laws.FnExactAckRead'. -/
def fnExactAckReadUptoCard : Claim7 := { stood := { row := fnExactAckReadUptoRow, standIns := [], harness := (true, "b46d36b8c2b5692ae0475c4c0d6218023ad57fb2690f9ad380f2cf329b451cfc"), looks := true }, kinds := [], alts := [], laidByText := true, laidKinds := [.handle], laidTests := true, laidLooks := .later }
def FnExactAckReadUptoCardSaid : Prop := Claim7.holds Tryd.pinned (.plain (OpenSpec.upto fnExactAckReadSpec)) fnExactAckReadUptoCard
end Rows
end Go.Proofs.YtjcdcaannajnpaaDoor
