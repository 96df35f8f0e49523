/-
  No cell of these rows narrows 'for every input' (looked for: loops, veiled, ifaces, maps, wideKeys, modest, calm, conditions, laid).
  DERIVED. THE GIVEN ROWS OF THIS SEAT. 3 by the template 'for every input the law returns true; each argument reads behind the call as it read before'; 0 by the template 'total and deterministic' (their statements: YtfjmcmdkmecgiaaTotals.lean).
  GIVEN WITH THE SEED: the statements are not yours to turn. If you find one false, say at which input.
  Laid BY PROGRAM, IN A SANDBOX (cutbox-rows.mjs): the forced cells as the released guide's own fill.sh prints them over the translation 58b8b391e562a915… (all of the seat's roots in one cut). By AI agents, Wed Nov 11 2026. No macro, syntax, notation, axiom, sorry.
-/
import Derived.Test.YtfjmcmdkmecgiaaChecked
import GoSem.Claim
import GoSem.ClaimJoined
import GoSem.ClaimMapViews
import Derived.JoinedTies
import Derived.KernelRfl
namespace Go.Proofs.Ytfjmcmdkmecgiaa
/- THE CELL 'sum', in the pinned program and in every row, IS THE sha256 OF THE DUMP (.gsa) THAT YtfjmcmdkmecgiaaProg.lean LOADS. Nothing in Lean hashes anything: it is a label: what it is worth is what the hold of that sum in a sandbox is worth. -/
noncomputable def Try.pinned : Pinned := { name := "ytfjmcmdkmecgiaa", sum := "58b8b391e562a915f55749660b38bd6f27f3f52aa3717da2f4dde585457724e6", checked := Try.checked }
namespace Rows
def none {H : Type} : Left H := { results := [], args := [] }

/-- 'laws.FnExactSndRight': WHATEVER THE INPUT: true; the input reads as it did. -/
def fnExactSndRightSpec : ChangeSpec := { name := "fnExactSndRight", fn := fun _ => fun
  | [d] => { results := [.lit (.bool true)], args := [d] }
  | _ => none }
def fnExactSndRightRow : OpenClaim := { program := "ytfjmcmdkmecgiaa", sum := "58b8b391e562a915f55749660b38bd6f27f3f52aa3717da2f4dde585457724e6", func := "loop.example/g00847/laws.FnExactSndRight", spec := "fnExactSndRight", apart := false }
def FnExactSndRightSaid : Prop := fnExactSndRightRow.holds Try.pinned (OpenSpec.ofChange fnExactSndRightSpec)

/-- ITS FALSE NEIGHBOUR: 'it returns false'. Refute it at one input. -/
def fnExactSndRightWrong : ChangeSpec := { name := "fnExactSndRight", fn := fun _ => fun
  | [d] => { results := [.lit (.bool false)], args := [d] }
  | _ => none }
def FnExactSndRightWrongFalsely : Prop := fnExactSndRightRow.holds Try.pinned (OpenSpec.ofChange fnExactSndRightWrong)

/-- 'laws.FnExactSndNew': WHATEVER THE INPUT: true; the input reads as it did. -/
def fnExactSndNewSpec : ChangeSpec := { name := "fnExactSndNew", fn := fun _ => fun
  | [d1, d2, d3] => { results := [.lit (.bool true)], args := [d1, d2, d3] }
  | _ => none }
def fnExactSndNewRow : OpenClaim := { program := "ytfjmcmdkmecgiaa", sum := "58b8b391e562a915f55749660b38bd6f27f3f52aa3717da2f4dde585457724e6", func := "loop.example/g00847/laws.FnExactSndNew", spec := "fnExactSndNew", apart := false }
def FnExactSndNewSaid : Prop := fnExactSndNewRow.holds Try.pinned (OpenSpec.ofChange fnExactSndNewSpec)

/-- ITS FALSE NEIGHBOUR: 'it returns false'. Refute it at one input. -/
def fnExactSndNewWrong : ChangeSpec := { name := "fnExactSndNew", fn := fun _ => fun
  | [d1, d2, d3] => { results := [.lit (.bool false)], args := [d1, d2, d3] }
  | _ => none }
def FnExactSndNewWrongFalsely : Prop := fnExactSndNewRow.holds Try.pinned (OpenSpec.ofChange fnExactSndNewWrong)

/-- 'laws.FnExactSndSeg': WHATEVER THE INPUT: true; the input reads as it did. -/
def fnExactSndSegSpec : ChangeSpec := { name := "fnExactSndSeg", fn := fun _ => fun
  | [d1, d2, d3] => { results := [.lit (.bool true)], args := [d1, d2, d3] }
  | _ => none }
def fnExactSndSegRow : OpenClaim := { program := "ytfjmcmdkmecgiaa", sum := "58b8b391e562a915f55749660b38bd6f27f3f52aa3717da2f4dde585457724e6", func := "loop.example/g00847/laws.FnExactSndSeg", spec := "fnExactSndSeg", apart := false }
def FnExactSndSegSaid : Prop := fnExactSndSegRow.holds Try.pinned (OpenSpec.ofChange fnExactSndSegSpec)

/-- ITS FALSE NEIGHBOUR: 'it returns false'. Refute it at one input. -/
def fnExactSndSegWrong : ChangeSpec := { name := "fnExactSndSeg", fn := fun _ => fun
  | [d1, d2, d3] => { results := [.lit (.bool false)], args := [d1, d2, d3] }
  | _ => none }
def FnExactSndSegWrongFalsely : Prop := fnExactSndSegRow.holds Try.pinned (OpenSpec.ofChange fnExactSndSegWrong)

/- THE SECOND FORM. 'bulk': how many values and letters a reading holds, each counted each time it is reached (what is shared counts as often as it is met; a slice's spare places count too). A statement '..UptoSaid' is the law's where the arguments, and the package variables that the reading takes, are together of bulk at most 1048576: NARROWER than '..Said'. Prove '..Said' where nothing that the law and all that it calls make is longer than what came in: it says more and counts as full. Else prove '..UptoSaid'. A law counts once. -/
mutual
def uptoBulk {H : Type} : DataW H → Nat
  | .lit (.string bytes) => bytes.length + 1
  | .lit _ => 1
  | .nil => 1
  | .ptr d => uptoBulk d + 1
  | .slice elems spare => uptoBulkAll elems + uptoBulkAll spare + 1
  | .agg parts => uptoBulkAll parts + 1
  | .iface _ d => uptoBulk d + 1
  | .map entries => uptoBulkEntries entries + 1
  | .held _ => 1
def uptoBulkAll {H : Type} : List (DataW H) → Nat
  | [] => 0
  | d :: r => uptoBulk d + uptoBulkAll r
def uptoBulkEntries {H : Type} : List (Lit × DataW H) → Nat
  | [] => 0
  | x :: r => uptoBulkEntry x + uptoBulkEntries r
def uptoBulkEntry {H : Type} : Lit × DataW H → Nat
  | (.string bytes, d) => bytes.length + uptoBulk d + 1
  | (_, d) => uptoBulk d + 1
 end
def uptoSmall : (H : Type) → List (DataW H) → Bool := fun _ ds => decide (uptoBulkAll ds ≤ 1048576)
def OpenSpec.upto (s : _root_.Go.ChangeSpec) : _root_.Go.OpenSpec := { _root_.Go.OpenSpec.ofChange s with cond := some uptoSmall }

/-- 'laws.FnExactSndRight', WHERE WHAT IT READS IS OF BULK AT MOST 1048576: true; the input reads as it did. -/
def fnExactSndRightUptoRow : OpenClaim := { program := "ytfjmcmdkmecgiaa", sum := "58b8b391e562a915f55749660b38bd6f27f3f52aa3717da2f4dde585457724e6", func := "loop.example/g00847/laws.FnExactSndRight", spec := "fnExactSndRight", apart := false, narrowed := true }
def FnExactSndRightUptoSaid : Prop := fnExactSndRightUptoRow.holds Try.pinned (OpenSpec.upto fnExactSndRightSpec)

/-- 'laws.FnExactSndNew', WHERE WHAT IT READS IS OF BULK AT MOST 1048576: true; the input reads as it did. -/
def fnExactSndNewUptoRow : OpenClaim := { program := "ytfjmcmdkmecgiaa", sum := "58b8b391e562a915f55749660b38bd6f27f3f52aa3717da2f4dde585457724e6", func := "loop.example/g00847/laws.FnExactSndNew", spec := "fnExactSndNew", apart := false, narrowed := true }
def FnExactSndNewUptoSaid : Prop := fnExactSndNewUptoRow.holds Try.pinned (OpenSpec.upto fnExactSndNewSpec)

/-- 'laws.FnExactSndSeg', WHERE WHAT IT READS IS OF BULK AT MOST 1048576: true; the input reads as it did. -/
def fnExactSndSegUptoRow : OpenClaim := { program := "ytfjmcmdkmecgiaa", sum := "58b8b391e562a915f55749660b38bd6f27f3f52aa3717da2f4dde585457724e6", func := "loop.example/g00847/laws.FnExactSndSeg", spec := "fnExactSndSeg", apart := false, narrowed := true }
def FnExactSndSegUptoSaid : Prop := fnExactSndSegUptoRow.holds Try.pinned (OpenSpec.upto fnExactSndSegSpec)

end Rows
end Go.Proofs.Ytfjmcmdkmecgiaa
