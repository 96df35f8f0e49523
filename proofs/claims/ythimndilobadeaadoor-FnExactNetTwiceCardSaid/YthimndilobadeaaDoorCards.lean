/-
  DERIVED. GIVEN WITH THE SEED: THE CARDS: each row of YthimndilobadeaaDoorRows.lean that lists a variable, with what it lists TIED to the program's text (the seventh form; the later family's looks); each row that meets fmt, with fmt's text TOLD by the authors' own Lean function (tested against real Go, not proved from fmt's source: count such statements apart). THE CARD IS WHAT COUNTS. Prove the row's statement (the work); the ties are given (YthimndilobadeaaDoorTie.lean); close each card by the builder's one call (the guide's Derived/Test/ToyasCard.lean, 'card_holds'). Laid BY PROGRAM, IN A SANDBOX (cutbox-door.mjs). By AI agents, Wed Nov 11 2026. No macro, syntax, notation, axiom, sorry.
-/
import Derived.Test.YthimndilobadeaaDoorRows
import GoSem.ClaimSeven
namespace Go.Proofs.YthimndilobadeaaDoor
namespace Rows

/-- THE TIED CARD OF 'laws.FnExactNetTake'. -/
def fnExactNetTakeCard : Claim7 := { stood := { row := fnExactNetTakeRow, standIns := [], harness := (true, "18d3be7ca795a4ffc31d8550527e285be1b74d727c5366908214b7c855d6372f"), looks := true }, kinds := [], alts := [], laidByText := true, laidKinds := [.handle], laidTests := true, laidLooks := .later }
def FnExactNetTakeCardSaid : Prop := Claim7.holds Tryd.pinned (.plain (OpenSpec.ofChange fnExactNetTakeSpec)) fnExactNetTakeCard

/-- THE TIED CARD OF 'laws.FnExactNetTwice'. -/
def fnExactNetTwiceCard : Claim7 := { stood := { row := fnExactNetTwiceRow, standIns := [], harness := (true, "18d3be7ca795a4ffc31d8550527e285be1b74d727c5366908214b7c855d6372f"), looks := true }, kinds := [], alts := [], laidByText := true, laidKinds := [.handle], laidTests := true, laidLooks := .later }
def FnExactNetTwiceCardSaid : Prop := Claim7.holds Tryd.pinned (.plain (OpenSpec.ofChange fnExactNetTwiceSpec)) fnExactNetTwiceCard

/-- THE SECOND FORM's CARD OF 'laws.FnExactNetTake'. -/
def fnExactNetTakeUptoCard : Claim7 := { stood := { row := fnExactNetTakeUptoRow, standIns := [], harness := (true, "18d3be7ca795a4ffc31d8550527e285be1b74d727c5366908214b7c855d6372f"), looks := true }, kinds := [], alts := [], laidByText := true, laidKinds := [.handle], laidTests := true, laidLooks := .later }
def FnExactNetTakeUptoCardSaid : Prop := Claim7.holds Tryd.pinned (.plain (OpenSpec.upto fnExactNetTakeSpec)) fnExactNetTakeUptoCard

/-- THE SECOND FORM's CARD OF 'laws.FnExactNetTwice'. -/
def fnExactNetTwiceUptoCard : Claim7 := { stood := { row := fnExactNetTwiceUptoRow, standIns := [], harness := (true, "18d3be7ca795a4ffc31d8550527e285be1b74d727c5366908214b7c855d6372f"), looks := true }, kinds := [], alts := [], laidByText := true, laidKinds := [.handle], laidTests := true, laidLooks := .later }
def FnExactNetTwiceUptoCardSaid : Prop := Claim7.holds Tryd.pinned (.plain (OpenSpec.upto fnExactNetTwiceSpec)) fnExactNetTwiceUptoCard
end Rows
end Go.Proofs.YthimndilobadeaaDoor
