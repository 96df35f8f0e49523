/-
  No cell of these rows narrows 'for every input' (looked for: loops, veiled, ifaces, maps, wideKeys, modest, calm, conditions, laid).
  DERIVED. THE GIVEN ROWS OF THIS SEAT. 5 by the template 'for every input the law returns true; each argument reads behind the call as it read before'; 0 by the template 'total and deterministic' (their statements: YtjcdcaannajnpaaTotals.lean).
  GIVEN WITH THE SEED: the statements are not yours to turn. If you find one false, say at which input.
  Laid BY PROGRAM, IN A SANDBOX (cutbox-rows.mjs): the forced cells as the released guide's own fill.sh prints them over the translation 2aa4c1e24635b50e… (all of the seat's roots in one cut). By AI agents, Wed Nov 11 2026. No macro, syntax, notation, axiom, sorry.
-/
import Derived.Test.YtjcdcaannajnpaaChecked
import GoSem.Claim
import GoSem.ClaimJoined
import GoSem.ClaimMapViews
import Derived.JoinedTies
import Derived.KernelRfl
namespace Go.Proofs.Ytjcdcaannajnpaa
/- THE CELL 'sum', in the pinned program and in every row, IS THE sha256 OF THE DUMP (.gsa) THAT YtjcdcaannajnpaaProg.lean LOADS. Nothing in Lean hashes anything: it is a label: what it is worth is what the hold of that sum in a sandbox is worth. -/
noncomputable def Try.pinned : Pinned := { name := "ytjcdcaannajnpaa", sum := "2aa4c1e24635b50e002144f8da1309d604277918c7cbd921a6e5e363bd807dfe", checked := Try.checked }
namespace Rows
def none {H : Type} : Left H := { results := [], args := [] }

/-- 'laws.FnPiece': WHATEVER THE INPUT: true; the input reads as it did. -/
def fnPieceSpec : ChangeSpec := { name := "fnPiece", fn := fun _ => fun
  | [d1, d2] => { results := [.lit (.bool true)], args := [d1, d2] }
  | _ => none }
def fnPieceRow : OpenClaim := { program := "ytjcdcaannajnpaa", sum := "2aa4c1e24635b50e002144f8da1309d604277918c7cbd921a6e5e363bd807dfe", func := "loop.example/g00847/laws.FnPiece", spec := "fnPiece", apart := false }
def FnPieceSaid : Prop := fnPieceRow.holds Try.pinned (OpenSpec.ofChange fnPieceSpec)

/-- ITS FALSE NEIGHBOUR: 'it returns false'. Refute it at one input. -/
def fnPieceWrong : ChangeSpec := { name := "fnPiece", fn := fun _ => fun
  | [d1, d2] => { results := [.lit (.bool false)], args := [d1, d2] }
  | _ => none }
def FnPieceWrongFalsely : Prop := fnPieceRow.holds Try.pinned (OpenSpec.ofChange fnPieceWrong)

/-- 'laws.FnExactSegRight': WHATEVER THE INPUT: true; the input reads as it did. -/
def fnExactSegRightSpec : ChangeSpec := { name := "fnExactSegRight", fn := fun _ => fun
  | [d] => { results := [.lit (.bool true)], args := [d] }
  | _ => none }
def fnExactSegRightRow : OpenClaim := { program := "ytjcdcaannajnpaa", sum := "2aa4c1e24635b50e002144f8da1309d604277918c7cbd921a6e5e363bd807dfe", func := "loop.example/g00847/laws.FnExactSegRight", spec := "fnExactSegRight", apart := false }
def FnExactSegRightSaid : Prop := fnExactSegRightRow.holds Try.pinned (OpenSpec.ofChange fnExactSegRightSpec)

/-- ITS FALSE NEIGHBOUR: 'it returns false'. Refute it at one input. -/
def fnExactSegRightWrong : ChangeSpec := { name := "fnExactSegRight", fn := fun _ => fun
  | [d] => { results := [.lit (.bool false)], args := [d] }
  | _ => none }
def FnExactSegRightWrongFalsely : Prop := fnExactSegRightRow.holds Try.pinned (OpenSpec.ofChange fnExactSegRightWrong)

/-- 'laws.FnExactSegBytes': WHATEVER THE INPUT: true; the input reads as it did. -/
def fnExactSegBytesSpec : ChangeSpec := { name := "fnExactSegBytes", fn := fun _ => fun
  | [d] => { results := [.lit (.bool true)], args := [d] }
  | _ => none }
def fnExactSegBytesRow : OpenClaim := { program := "ytjcdcaannajnpaa", sum := "2aa4c1e24635b50e002144f8da1309d604277918c7cbd921a6e5e363bd807dfe", func := "loop.example/g00847/laws.FnExactSegBytes", spec := "fnExactSegBytes", apart := false }
def FnExactSegBytesSaid : Prop := fnExactSegBytesRow.holds Try.pinned (OpenSpec.ofChange fnExactSegBytesSpec)

/-- ITS FALSE NEIGHBOUR: 'it returns false'. Refute it at one input. -/
def fnExactSegBytesWrong : ChangeSpec := { name := "fnExactSegBytes", fn := fun _ => fun
  | [d] => { results := [.lit (.bool false)], args := [d] }
  | _ => none }
def FnExactSegBytesWrongFalsely : Prop := fnExactSegBytesRow.holds Try.pinned (OpenSpec.ofChange fnExactSegBytesWrong)

/-- 'laws.FnExactAckRight': WHATEVER THE INPUT: true; the input reads as it did. -/
def fnExactAckRightSpec : ChangeSpec := { name := "fnExactAckRight", fn := fun _ => fun
  | [d] => { results := [.lit (.bool true)], args := [d] }
  | _ => none }
def fnExactAckRightRow : OpenClaim := { program := "ytjcdcaannajnpaa", sum := "2aa4c1e24635b50e002144f8da1309d604277918c7cbd921a6e5e363bd807dfe", func := "loop.example/g00847/laws.FnExactAckRight", spec := "fnExactAckRight", apart := false }
def FnExactAckRightSaid : Prop := fnExactAckRightRow.holds Try.pinned (OpenSpec.ofChange fnExactAckRightSpec)

/-- ITS FALSE NEIGHBOUR: 'it returns false'. Refute it at one input. -/
def fnExactAckRightWrong : ChangeSpec := { name := "fnExactAckRight", fn := fun _ => fun
  | [d] => { results := [.lit (.bool false)], args := [d] }
  | _ => none }
def FnExactAckRightWrongFalsely : Prop := fnExactAckRightRow.holds Try.pinned (OpenSpec.ofChange fnExactAckRightWrong)

/-- 'laws.FnExactAckBytes': WHATEVER THE INPUT: true; the input reads as it did. -/
def fnExactAckBytesSpec : ChangeSpec := { name := "fnExactAckBytes", fn := fun _ => fun
  | [d] => { results := [.lit (.bool true)], args := [d] }
  | _ => none }
def fnExactAckBytesRow : OpenClaim := { program := "ytjcdcaannajnpaa", sum := "2aa4c1e24635b50e002144f8da1309d604277918c7cbd921a6e5e363bd807dfe", func := "loop.example/g00847/laws.FnExactAckBytes", spec := "fnExactAckBytes", apart := false }
def FnExactAckBytesSaid : Prop := fnExactAckBytesRow.holds Try.pinned (OpenSpec.ofChange fnExactAckBytesSpec)

/-- ITS FALSE NEIGHBOUR: 'it returns false'. Refute it at one input. -/
def fnExactAckBytesWrong : ChangeSpec := { name := "fnExactAckBytes", fn := fun _ => fun
  | [d] => { results := [.lit (.bool false)], args := [d] }
  | _ => none }
def FnExactAckBytesWrongFalsely : Prop := fnExactAckBytesRow.holds Try.pinned (OpenSpec.ofChange fnExactAckBytesWrong)

/- THE SECOND FORM. 'bulk': how many values and letters a reading holds, each counted each time it is reached (what is shared counts as often as it is met; a slice's spare places count too). A statement '..UptoSaid' is the law's where the arguments, and the package variables that the reading takes, are together of bulk at most 1048576: NARROWER than '..Said'. Prove '..Said' where nothing that the law and all that it calls make is longer than what came in: it says more and counts as full. Else prove '..UptoSaid'. A law counts once. -/
mutual
def uptoBulk {H : Type} : DataW H → Nat
  | .lit (.string bytes) => bytes.length + 1
  | .lit _ => 1
  | .nil => 1
  | .ptr d => uptoBulk d + 1
  | .slice elems spare => uptoBulkAll elems + uptoBulkAll spare + 1
  | .agg parts => uptoBulkAll parts + 1
  | .iface _ d => uptoBulk d + 1
  | .map entries => uptoBulkEntries entries + 1
  | .held _ => 1
def uptoBulkAll {H : Type} : List (DataW H) → Nat
  | [] => 0
  | d :: r => uptoBulk d + uptoBulkAll r
def uptoBulkEntries {H : Type} : List (Lit × DataW H) → Nat
  | [] => 0
  | x :: r => uptoBulkEntry x + uptoBulkEntries r
def uptoBulkEntry {H : Type} : Lit × DataW H → Nat
  | (.string bytes, d) => bytes.length + uptoBulk d + 1
  | (_, d) => uptoBulk d + 1
 end
def uptoSmall : (H : Type) → List (DataW H) → Bool := fun _ ds => decide (uptoBulkAll ds ≤ 1048576)
def OpenSpec.upto (s : _root_.Go.ChangeSpec) : _root_.Go.OpenSpec := { _root_.Go.OpenSpec.ofChange s with cond := some uptoSmall }

/-- 'laws.FnPiece', WHERE WHAT IT READS IS OF BULK AT MOST 1048576: true; the input reads as it did. -/
def fnPieceUptoRow : OpenClaim := { program := "ytjcdcaannajnpaa", sum := "2aa4c1e24635b50e002144f8da1309d604277918c7cbd921a6e5e363bd807dfe", func := "loop.example/g00847/laws.FnPiece", spec := "fnPiece", apart := false, narrowed := true }
def FnPieceUptoSaid : Prop := fnPieceUptoRow.holds Try.pinned (OpenSpec.upto fnPieceSpec)

/-- 'laws.FnExactSegRight', WHERE WHAT IT READS IS OF BULK AT MOST 1048576: true; the input reads as it did. -/
def fnExactSegRightUptoRow : OpenClaim := { program := "ytjcdcaannajnpaa", sum := "2aa4c1e24635b50e002144f8da1309d604277918c7cbd921a6e5e363bd807dfe", func := "loop.example/g00847/laws.FnExactSegRight", spec := "fnExactSegRight", apart := false, narrowed := true }
def FnExactSegRightUptoSaid : Prop := fnExactSegRightUptoRow.holds Try.pinned (OpenSpec.upto fnExactSegRightSpec)

/-- 'laws.FnExactSegBytes', WHERE WHAT IT READS IS OF BULK AT MOST 1048576: true; the input reads as it did. -/
def fnExactSegBytesUptoRow : OpenClaim := { program := "ytjcdcaannajnpaa", sum := "2aa4c1e24635b50e002144f8da1309d604277918c7cbd921a6e5e363bd807dfe", func := "loop.example/g00847/laws.FnExactSegBytes", spec := "fnExactSegBytes", apart := false, narrowed := true }
def FnExactSegBytesUptoSaid : Prop := fnExactSegBytesUptoRow.holds Try.pinned (OpenSpec.upto fnExactSegBytesSpec)

/-- 'laws.FnExactAckRight', WHERE WHAT IT READS IS OF BULK AT MOST 1048576: true; the input reads as it did. -/
def fnExactAckRightUptoRow : OpenClaim := { program := "ytjcdcaannajnpaa", sum := "2aa4c1e24635b50e002144f8da1309d604277918c7cbd921a6e5e363bd807dfe", func := "loop.example/g00847/laws.FnExactAckRight", spec := "fnExactAckRight", apart := false, narrowed := true }
def FnExactAckRightUptoSaid : Prop := fnExactAckRightUptoRow.holds Try.pinned (OpenSpec.upto fnExactAckRightSpec)

/-- 'laws.FnExactAckBytes', WHERE WHAT IT READS IS OF BULK AT MOST 1048576: true; the input reads as it did. -/
def fnExactAckBytesUptoRow : OpenClaim := { program := "ytjcdcaannajnpaa", sum := "2aa4c1e24635b50e002144f8da1309d604277918c7cbd921a6e5e363bd807dfe", func := "loop.example/g00847/laws.FnExactAckBytes", spec := "fnExactAckBytes", apart := false, narrowed := true }
def FnExactAckBytesUptoSaid : Prop := fnExactAckBytesUptoRow.holds Try.pinned (OpenSpec.upto fnExactAckBytesSpec)

end Rows
end Go.Proofs.Ytjcdcaannajnpaa
