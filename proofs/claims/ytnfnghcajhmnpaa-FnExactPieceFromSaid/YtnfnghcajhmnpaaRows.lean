/-
  No cell of these rows narrows 'for every input' (looked for: loops, veiled, ifaces, maps, wideKeys, modest, calm, conditions, laid).
  DERIVED. THE GIVEN ROWS OF THIS SEAT. 7 by the template 'for every input the law returns true; each argument reads behind the call as it read before'; 0 by the template 'total and deterministic' (their statements: YtnfnghcajhmnpaaTotals.lean).
  GIVEN WITH THE SEED: the statements are not yours to turn. If you find one false, say at which input.
  Laid BY PROGRAM, IN A SANDBOX (cutbox-rows.mjs): the forced cells as the released guide's own fill.sh prints them over the translation dea55cfd3ae5851e… (all of the seat's roots in one cut). By AI agents, Wed Nov 11 2026. No macro, syntax, notation, axiom, sorry.
-/
import Derived.Test.YtnfnghcajhmnpaaChecked
import GoSem.Claim
import GoSem.ClaimJoined
import GoSem.ClaimMapViews
import Derived.JoinedTies
import Derived.KernelRfl
namespace Go.Proofs.Ytnfnghcajhmnpaa
/- THE CELL 'sum', in the pinned program and in every row, IS THE sha256 OF THE DUMP (.gsa) THAT YtnfnghcajhmnpaaProg.lean LOADS. Nothing in Lean hashes anything: it is a label: what it is worth is what the hold of that sum in a sandbox is worth. -/
noncomputable def Try.pinned : Pinned := { name := "ytnfnghcajhmnpaa", sum := "dea55cfd3ae5851ef3b0cdd97e00c1a99647ddfdf098e9bf6ed50d1033a5f3c6", checked := Try.checked }
namespace Rows
def none {H : Type} : Left H := { results := [], args := [] }

/-- 'laws.FnExactPieceBytes': WHATEVER THE INPUT: true; the input reads as it did. -/
def fnExactPieceBytesSpec : ChangeSpec := { name := "fnExactPieceBytes", fn := fun _ => fun
  | [d] => { results := [.lit (.bool true)], args := [d] }
  | _ => none }
def fnExactPieceBytesRow : OpenClaim := { program := "ytnfnghcajhmnpaa", sum := "dea55cfd3ae5851ef3b0cdd97e00c1a99647ddfdf098e9bf6ed50d1033a5f3c6", func := "loop.example/g00847/laws.FnExactPieceBytes", spec := "fnExactPieceBytes", apart := false }
def FnExactPieceBytesSaid : Prop := fnExactPieceBytesRow.holds Try.pinned (OpenSpec.ofChange fnExactPieceBytesSpec)

/-- ITS FALSE NEIGHBOUR: 'it returns false'. Refute it at one input. -/
def fnExactPieceBytesWrong : ChangeSpec := { name := "fnExactPieceBytes", fn := fun _ => fun
  | [d] => { results := [.lit (.bool false)], args := [d] }
  | _ => none }
def FnExactPieceBytesWrongFalsely : Prop := fnExactPieceBytesRow.holds Try.pinned (OpenSpec.ofChange fnExactPieceBytesWrong)

/-- 'laws.FnExactPieceCut': WHATEVER THE INPUT: true; the input reads as it did. -/
def fnExactPieceCutSpec : ChangeSpec := { name := "fnExactPieceCut", fn := fun _ => fun
  | [d1, d2] => { results := [.lit (.bool true)], args := [d1, d2] }
  | _ => none }
def fnExactPieceCutRow : OpenClaim := { program := "ytnfnghcajhmnpaa", sum := "dea55cfd3ae5851ef3b0cdd97e00c1a99647ddfdf098e9bf6ed50d1033a5f3c6", func := "loop.example/g00847/laws.FnExactPieceCut", spec := "fnExactPieceCut", apart := false }
def FnExactPieceCutSaid : Prop := fnExactPieceCutRow.holds Try.pinned (OpenSpec.ofChange fnExactPieceCutSpec)

/-- ITS FALSE NEIGHBOUR: 'it returns false'. Refute it at one input. -/
def fnExactPieceCutWrong : ChangeSpec := { name := "fnExactPieceCut", fn := fun _ => fun
  | [d1, d2] => { results := [.lit (.bool false)], args := [d1, d2] }
  | _ => none }
def FnExactPieceCutWrongFalsely : Prop := fnExactPieceCutRow.holds Try.pinned (OpenSpec.ofChange fnExactPieceCutWrong)

/-- 'laws.FnExactPieceFrom': WHATEVER THE INPUT: true; the input reads as it did. -/
def fnExactPieceFromSpec : ChangeSpec := { name := "fnExactPieceFrom", fn := fun _ => fun
  | [d1, d2] => { results := [.lit (.bool true)], args := [d1, d2] }
  | _ => none }
def fnExactPieceFromRow : OpenClaim := { program := "ytnfnghcajhmnpaa", sum := "dea55cfd3ae5851ef3b0cdd97e00c1a99647ddfdf098e9bf6ed50d1033a5f3c6", func := "loop.example/g00847/laws.FnExactPieceFrom", spec := "fnExactPieceFrom", apart := false }
def FnExactPieceFromSaid : Prop := fnExactPieceFromRow.holds Try.pinned (OpenSpec.ofChange fnExactPieceFromSpec)

/-- ITS FALSE NEIGHBOUR: 'it returns false'. Refute it at one input. -/
def fnExactPieceFromWrong : ChangeSpec := { name := "fnExactPieceFrom", fn := fun _ => fun
  | [d1, d2] => { results := [.lit (.bool false)], args := [d1, d2] }
  | _ => none }
def FnExactPieceFromWrongFalsely : Prop := fnExactPieceFromRow.holds Try.pinned (OpenSpec.ofChange fnExactPieceFromWrong)

/-- 'laws.FnExactPieceHas': WHATEVER THE INPUT: true; the input reads as it did. -/
def fnExactPieceHasSpec : ChangeSpec := { name := "fnExactPieceHas", fn := fun _ => fun
  | [d1, d2] => { results := [.lit (.bool true)], args := [d1, d2] }
  | _ => none }
def fnExactPieceHasRow : OpenClaim := { program := "ytnfnghcajhmnpaa", sum := "dea55cfd3ae5851ef3b0cdd97e00c1a99647ddfdf098e9bf6ed50d1033a5f3c6", func := "loop.example/g00847/laws.FnExactPieceHas", spec := "fnExactPieceHas", apart := false }
def FnExactPieceHasSaid : Prop := fnExactPieceHasRow.holds Try.pinned (OpenSpec.ofChange fnExactPieceHasSpec)

/-- ITS FALSE NEIGHBOUR: 'it returns false'. Refute it at one input. -/
def fnExactPieceHasWrong : ChangeSpec := { name := "fnExactPieceHas", fn := fun _ => fun
  | [d1, d2] => { results := [.lit (.bool false)], args := [d1, d2] }
  | _ => none }
def FnExactPieceHasWrongFalsely : Prop := fnExactPieceHasRow.holds Try.pinned (OpenSpec.ofChange fnExactPieceHasWrong)

/-- 'laws.FnExactPiecePut': WHATEVER THE INPUT: true; the input reads as it did. -/
def fnExactPiecePutSpec : ChangeSpec := { name := "fnExactPiecePut", fn := fun _ => fun
  | [d1, d2, d3] => { results := [.lit (.bool true)], args := [d1, d2, d3] }
  | _ => none }
def fnExactPiecePutRow : OpenClaim := { program := "ytnfnghcajhmnpaa", sum := "dea55cfd3ae5851ef3b0cdd97e00c1a99647ddfdf098e9bf6ed50d1033a5f3c6", func := "loop.example/g00847/laws.FnExactPiecePut", spec := "fnExactPiecePut", apart := false }
def FnExactPiecePutSaid : Prop := fnExactPiecePutRow.holds Try.pinned (OpenSpec.ofChange fnExactPiecePutSpec)

/-- ITS FALSE NEIGHBOUR: 'it returns false'. Refute it at one input. -/
def fnExactPiecePutWrong : ChangeSpec := { name := "fnExactPiecePut", fn := fun _ => fun
  | [d1, d2, d3] => { results := [.lit (.bool false)], args := [d1, d2, d3] }
  | _ => none }
def FnExactPiecePutWrongFalsely : Prop := fnExactPiecePutRow.holds Try.pinned (OpenSpec.ofChange fnExactPiecePutWrong)

/-- 'laws.FnExactPiecesRight': WHATEVER THE INPUT: true; the input reads as it did. -/
def fnExactPiecesRightSpec : ChangeSpec := { name := "fnExactPiecesRight", fn := fun _ => fun
  | [d] => { results := [.lit (.bool true)], args := [d] }
  | _ => none }
def fnExactPiecesRightRow : OpenClaim := { program := "ytnfnghcajhmnpaa", sum := "dea55cfd3ae5851ef3b0cdd97e00c1a99647ddfdf098e9bf6ed50d1033a5f3c6", func := "loop.example/g00847/laws.FnExactPiecesRight", spec := "fnExactPiecesRight", apart := false }
def FnExactPiecesRightSaid : Prop := fnExactPiecesRightRow.holds Try.pinned (OpenSpec.ofChange fnExactPiecesRightSpec)

/-- ITS FALSE NEIGHBOUR: 'it returns false'. Refute it at one input. -/
def fnExactPiecesRightWrong : ChangeSpec := { name := "fnExactPiecesRight", fn := fun _ => fun
  | [d] => { results := [.lit (.bool false)], args := [d] }
  | _ => none }
def FnExactPiecesRightWrongFalsely : Prop := fnExactPiecesRightRow.holds Try.pinned (OpenSpec.ofChange fnExactPiecesRightWrong)

/-- 'laws.FnPiece': WHATEVER THE INPUT: true; the input reads as it did. -/
def fnPieceSpec : ChangeSpec := { name := "fnPiece", fn := fun _ => fun
  | [d1, d2] => { results := [.lit (.bool true)], args := [d1, d2] }
  | _ => none }
def fnPieceRow : OpenClaim := { program := "ytnfnghcajhmnpaa", sum := "dea55cfd3ae5851ef3b0cdd97e00c1a99647ddfdf098e9bf6ed50d1033a5f3c6", func := "loop.example/g00847/laws.FnPiece", spec := "fnPiece", apart := false }
def FnPieceSaid : Prop := fnPieceRow.holds Try.pinned (OpenSpec.ofChange fnPieceSpec)

/-- ITS FALSE NEIGHBOUR: 'it returns false'. Refute it at one input. -/
def fnPieceWrong : ChangeSpec := { name := "fnPiece", fn := fun _ => fun
  | [d1, d2] => { results := [.lit (.bool false)], args := [d1, d2] }
  | _ => none }
def FnPieceWrongFalsely : Prop := fnPieceRow.holds Try.pinned (OpenSpec.ofChange fnPieceWrong)

/- THE SECOND FORM. 'bulk': how many values and letters a reading holds, each counted each time it is reached (what is shared counts as often as it is met; a slice's spare places count too). A statement '..UptoSaid' is the law's where the arguments, and the package variables that the reading takes, are together of bulk at most 1048576: NARROWER than '..Said'. Prove '..Said' where nothing that the law and all that it calls make is longer than what came in: it says more and counts as full. Else prove '..UptoSaid'. A law counts once. -/
mutual
def uptoBulk {H : Type} : DataW H → Nat
  | .lit (.string bytes) => bytes.length + 1
  | .lit _ => 1
  | .nil => 1
  | .ptr d => uptoBulk d + 1
  | .slice elems spare => uptoBulkAll elems + uptoBulkAll spare + 1
  | .agg parts => uptoBulkAll parts + 1
  | .iface _ d => uptoBulk d + 1
  | .map entries => uptoBulkEntries entries + 1
  | .held _ => 1
def uptoBulkAll {H : Type} : List (DataW H) → Nat
  | [] => 0
  | d :: r => uptoBulk d + uptoBulkAll r
def uptoBulkEntries {H : Type} : List (Lit × DataW H) → Nat
  | [] => 0
  | x :: r => uptoBulkEntry x + uptoBulkEntries r
def uptoBulkEntry {H : Type} : Lit × DataW H → Nat
  | (.string bytes, d) => bytes.length + uptoBulk d + 1
  | (_, d) => uptoBulk d + 1
 end
def uptoSmall : (H : Type) → List (DataW H) → Bool := fun _ ds => decide (uptoBulkAll ds ≤ 1048576)
def OpenSpec.upto (s : _root_.Go.ChangeSpec) : _root_.Go.OpenSpec := { _root_.Go.OpenSpec.ofChange s with cond := some uptoSmall }

/-- 'laws.FnExactPieceBytes', WHERE WHAT IT READS IS OF BULK AT MOST 1048576: true; the input reads as it did. -/
def fnExactPieceBytesUptoRow : OpenClaim := { program := "ytnfnghcajhmnpaa", sum := "dea55cfd3ae5851ef3b0cdd97e00c1a99647ddfdf098e9bf6ed50d1033a5f3c6", func := "loop.example/g00847/laws.FnExactPieceBytes", spec := "fnExactPieceBytes", apart := false, narrowed := true }
def FnExactPieceBytesUptoSaid : Prop := fnExactPieceBytesUptoRow.holds Try.pinned (OpenSpec.upto fnExactPieceBytesSpec)

/-- 'laws.FnExactPieceCut', WHERE WHAT IT READS IS OF BULK AT MOST 1048576: true; the input reads as it did. -/
def fnExactPieceCutUptoRow : OpenClaim := { program := "ytnfnghcajhmnpaa", sum := "dea55cfd3ae5851ef3b0cdd97e00c1a99647ddfdf098e9bf6ed50d1033a5f3c6", func := "loop.example/g00847/laws.FnExactPieceCut", spec := "fnExactPieceCut", apart := false, narrowed := true }
def FnExactPieceCutUptoSaid : Prop := fnExactPieceCutUptoRow.holds Try.pinned (OpenSpec.upto fnExactPieceCutSpec)

/-- 'laws.FnExactPieceFrom', WHERE WHAT IT READS IS OF BULK AT MOST 1048576: true; the input reads as it did. -/
def fnExactPieceFromUptoRow : OpenClaim := { program := "ytnfnghcajhmnpaa", sum := "dea55cfd3ae5851ef3b0cdd97e00c1a99647ddfdf098e9bf6ed50d1033a5f3c6", func := "loop.example/g00847/laws.FnExactPieceFrom", spec := "fnExactPieceFrom", apart := false, narrowed := true }
def FnExactPieceFromUptoSaid : Prop := fnExactPieceFromUptoRow.holds Try.pinned (OpenSpec.upto fnExactPieceFromSpec)

/-- 'laws.FnExactPieceHas', WHERE WHAT IT READS IS OF BULK AT MOST 1048576: true; the input reads as it did. -/
def fnExactPieceHasUptoRow : OpenClaim := { program := "ytnfnghcajhmnpaa", sum := "dea55cfd3ae5851ef3b0cdd97e00c1a99647ddfdf098e9bf6ed50d1033a5f3c6", func := "loop.example/g00847/laws.FnExactPieceHas", spec := "fnExactPieceHas", apart := false, narrowed := true }
def FnExactPieceHasUptoSaid : Prop := fnExactPieceHasUptoRow.holds Try.pinned (OpenSpec.upto fnExactPieceHasSpec)

/-- 'laws.FnExactPiecePut', WHERE WHAT IT READS IS OF BULK AT MOST 1048576: true; the input reads as it did. -/
def fnExactPiecePutUptoRow : OpenClaim := { program := "ytnfnghcajhmnpaa", sum := "dea55cfd3ae5851ef3b0cdd97e00c1a99647ddfdf098e9bf6ed50d1033a5f3c6", func := "loop.example/g00847/laws.FnExactPiecePut", spec := "fnExactPiecePut", apart := false, narrowed := true }
def FnExactPiecePutUptoSaid : Prop := fnExactPiecePutUptoRow.holds Try.pinned (OpenSpec.upto fnExactPiecePutSpec)

/-- 'laws.FnExactPiecesRight', WHERE WHAT IT READS IS OF BULK AT MOST 1048576: true; the input reads as it did. -/
def fnExactPiecesRightUptoRow : OpenClaim := { program := "ytnfnghcajhmnpaa", sum := "dea55cfd3ae5851ef3b0cdd97e00c1a99647ddfdf098e9bf6ed50d1033a5f3c6", func := "loop.example/g00847/laws.FnExactPiecesRight", spec := "fnExactPiecesRight", apart := false, narrowed := true }
def FnExactPiecesRightUptoSaid : Prop := fnExactPiecesRightUptoRow.holds Try.pinned (OpenSpec.upto fnExactPiecesRightSpec)

/-- 'laws.FnPiece', WHERE WHAT IT READS IS OF BULK AT MOST 1048576: true; the input reads as it did. -/
def fnPieceUptoRow : OpenClaim := { program := "ytnfnghcajhmnpaa", sum := "dea55cfd3ae5851ef3b0cdd97e00c1a99647ddfdf098e9bf6ed50d1033a5f3c6", func := "loop.example/g00847/laws.FnPiece", spec := "fnPiece", apart := false, narrowed := true }
def FnPieceUptoSaid : Prop := fnPieceUptoRow.holds Try.pinned (OpenSpec.upto fnPieceSpec)

end Rows
end Go.Proofs.Ytnfnghcajhmnpaa
