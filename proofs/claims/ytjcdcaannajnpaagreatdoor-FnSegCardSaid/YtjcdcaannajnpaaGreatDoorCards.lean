/-
  DERIVED. GIVEN WITH THE SEED: THE CARDS: each row of YtjcdcaannajnpaaGreatDoorRows.lean that lists a variable, with what it lists TIED to the program's text (the seventh form; the later family's looks); each row that meets fmt, with fmt's text TOLD by the authors' own Lean function (tested against real Go, not proved from fmt's source: count such statements apart). THE CARD IS WHAT COUNTS. Prove the row's statement (the work); the ties are given (YtjcdcaannajnpaaGreatDoorTie.lean); close each card by the builder's one call (the guide's Derived/Test/ToyasCard.lean, 'card_holds'). Laid BY PROGRAM, IN A SANDBOX (cutbox-door.mjs). By AI agents, Wed Nov 11 2026. No macro, syntax, notation, axiom, sorry.
-/
import Derived.Test.YtjcdcaannajnpaaGreatDoorRows
import GoSem.ClaimSeven
namespace Go.Proofs.YtjcdcaannajnpaaGreatDoor
namespace Rows

/-- THE TIED CARD OF 'laws.FnSeg'. -/
def fnSegCard : Claim7 := { stood := { row := fnSegRow, standIns := [], harness := (true, "eccb7639121f1facd4ddd621efe2e5e9b582ed02b4edbd33642bd1872cdb9ae2"), looks := true }, kinds := [], alts := [], laidByText := true, laidKinds := [.handle], laidTests := true, laidLooks := .later }
def FnSegCardSaid : Prop := Claim7.holds Tryz.pinned (.plain (OpenSpec.ofChange fnSegSpec)) fnSegCard

/-- THE SECOND FORM's CARD OF 'laws.FnSeg'. -/
def fnSegUptoCard : Claim7 := { stood := { row := fnSegUptoRow, standIns := [], harness := (true, "eccb7639121f1facd4ddd621efe2e5e9b582ed02b4edbd33642bd1872cdb9ae2"), looks := true }, kinds := [], alts := [], laidByText := true, laidKinds := [.handle], laidTests := true, laidLooks := .later }
def FnSegUptoCardSaid : Prop := Claim7.holds Tryz.pinned (.plain (OpenSpec.upto fnSegSpec)) fnSegUptoCard
end Rows
end Go.Proofs.YtjcdcaannajnpaaGreatDoor
