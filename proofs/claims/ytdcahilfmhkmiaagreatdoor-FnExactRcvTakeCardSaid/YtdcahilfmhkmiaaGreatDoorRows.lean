/-
  NARROWER THAN 'FOR EVERY INPUT', by the rows' own cells (each row's printed sentence says how): FnRcv: laid · FnSnd: laid · FnExactRcvTake: laid · FnExactRcvRead: laid.
  DERIVED. THE GIVEN ROWS OF THIS SEAT. 4 by the template 'for every input the law returns true; each argument reads behind the call as it read before'; 0 by the template 'total and deterministic' (their statements: YtdcahilfmhkmiaaGreatDoorTotals.lean).
  GIVEN WITH THE SEED: the statements are not yours to turn. If you find one false, say at which input.
  Laid BY PROGRAM, IN A SANDBOX (cutbox-rows.mjs): the forced cells as the released guide's own fill.sh prints them over the translation fc5d7b91378e9acd… (all of the seat's roots in one cut). By AI agents, Wed Nov 11 2026. No macro, syntax, notation, axiom, sorry.
-/
import Derived.Test.YtdcahilfmhkmiaaGreatDoorChecked
import GoSem.Claim
import GoSem.ClaimJoined
import GoSem.ClaimMapViews
import Derived.JoinedTies
import Derived.KernelRfl
namespace Go.Proofs.YtdcahilfmhkmiaaGreatDoor
/- THE CELL 'sum', in the pinned program and in every row, IS THE sha256 OF THE DUMP (.gsa) THAT YtdcahilfmhkmiaaGreatDoorProg.lean LOADS. Nothing in Lean hashes anything: it is a label: what it is worth is what the hold of that sum in a sandbox is worth. -/
noncomputable def Tryz.pinned : Pinned := { name := "ytdcahilfmhkmiaagreatdoor", sum := "fc5d7b91378e9acd3e446a6b56c818f8d626389e3a1e2f1e31c0085845d86bb3", checked := Tryz.checked }
namespace Rows
def none {H : Type} : Left H := { results := [], args := [] }

/- WHAT THE LISTED PACKAGE-LEVEL VARIABLES READ AS WHEN THE CALL BEGINS. Each datum BY PROGRAM (the guide's laid-datum.mjs) off the statement by which the dump's own 'gosem.cut.vars' lays the variable. In a bare row this is a premise. The card (YtdcahilfmhkmiaaGreatDoorCards.lean) ties it to the program's text. -/
def laid_math_bits_deBruijn64tab {H : Type} : DataW H := .agg [.lit (.int .u8 0), .lit (.int .u8 1), .lit (.int .u8 56), .lit (.int .u8 2), .lit (.int .u8 57), .lit (.int .u8 49), .lit (.int .u8 28), .lit (.int .u8 3), .lit (.int .u8 61), .lit (.int .u8 58), .lit (.int .u8 42), .lit (.int .u8 50), .lit (.int .u8 38), .lit (.int .u8 29), .lit (.int .u8 17), .lit (.int .u8 4), .lit (.int .u8 62), .lit (.int .u8 47), .lit (.int .u8 59), .lit (.int .u8 36), .lit (.int .u8 45), .lit (.int .u8 43), .lit (.int .u8 51), .lit (.int .u8 22), .lit (.int .u8 53), .lit (.int .u8 39), .lit (.int .u8 33), .lit (.int .u8 30), .lit (.int .u8 24), .lit (.int .u8 18), .lit (.int .u8 12), .lit (.int .u8 5), .lit (.int .u8 63), .lit (.int .u8 55), .lit (.int .u8 48), .lit (.int .u8 27), .lit (.int .u8 60), .lit (.int .u8 41), .lit (.int .u8 37), .lit (.int .u8 16), .lit (.int .u8 46), .lit (.int .u8 35), .lit (.int .u8 44), .lit (.int .u8 21), .lit (.int .u8 52), .lit (.int .u8 32), .lit (.int .u8 23), .lit (.int .u8 11), .lit (.int .u8 54), .lit (.int .u8 26), .lit (.int .u8 40), .lit (.int .u8 15), .lit (.int .u8 34), .lit (.int .u8 20), .lit (.int .u8 31), .lit (.int .u8 10), .lit (.int .u8 25), .lit (.int .u8 14), .lit (.int .u8 19), .lit (.int .u8 9), .lit (.int .u8 13), .lit (.int .u8 8), .lit (.int .u8 7), .lit (.int .u8 6)]
def laid_errors_errorType {H : Type} : DataW H := .iface "internal/reflectlite.rtype" (.agg [.ptr (.lit (.string [101, 114, 114, 111, 114]))])

/-- 'laws.FnRcv': WHATEVER THE INPUT: true; the input reads as it did. -/
def fnRcvSpec : ChangeSpec := { name := "fnRcv", fn := fun _ => fun
  | [d1, d2] => { results := [.lit (.bool true)], args := [d1, d2] }
  | _ => none }
def fnRcvRow : OpenClaim := { program := "ytdcahilfmhkmiaagreatdoor", sum := "fc5d7b91378e9acd3e446a6b56c818f8d626389e3a1e2f1e31c0085845d86bb3", func := "loop.example/g00847/laws.FnRcv", spec := "fnRcv", inPlace := ["slices.overlaps[int64]", "internal/reflectlite.ValueOf", "(internal/reflectlite.Value).Type", "(internal/reflectlite.Value).IsNil", "internal/reflectlite.TypeOf", "(internal/reflectlite.Value).Elem", "(internal/reflectlite.Value).Set"], unfollowed := true, recurses := true, named := ["math/bits.deBruijn64tab", "errors.errorType"], apart := false, laid := [("math/bits.deBruijn64tab", laid_math_bits_deBruijn64tab), ("errors.errorType", laid_errors_errorType)] }
def FnRcvSaid : Prop := fnRcvRow.holds Tryz.pinned (OpenSpec.ofChange fnRcvSpec)

/-- ITS FALSE NEIGHBOUR: 'it returns false'. Refute it at one input. -/
def fnRcvWrong : ChangeSpec := { name := "fnRcv", fn := fun _ => fun
  | [d1, d2] => { results := [.lit (.bool false)], args := [d1, d2] }
  | _ => none }
def FnRcvWrongFalsely : Prop := fnRcvRow.holds Tryz.pinned (OpenSpec.ofChange fnRcvWrong)

/-- 'laws.FnSnd': WHATEVER THE INPUT: true; the input reads as it did. -/
def fnSndSpec : ChangeSpec := { name := "fnSnd", fn := fun _ => fun
  | [d1, d2] => { results := [.lit (.bool true)], args := [d1, d2] }
  | _ => none }
def fnSndRow : OpenClaim := { program := "ytdcahilfmhkmiaagreatdoor", sum := "fc5d7b91378e9acd3e446a6b56c818f8d626389e3a1e2f1e31c0085845d86bb3", func := "loop.example/g00847/laws.FnSnd", spec := "fnSnd", inPlace := ["internal/reflectlite.ValueOf", "(internal/reflectlite.Value).Type", "(internal/reflectlite.Value).IsNil", "internal/reflectlite.TypeOf", "(internal/reflectlite.Value).Elem", "(internal/reflectlite.Value).Set"], unfollowed := true, recurses := true, named := ["errors.errorType"], apart := false, laid := [("errors.errorType", laid_errors_errorType)] }
def FnSndSaid : Prop := fnSndRow.holds Tryz.pinned (OpenSpec.ofChange fnSndSpec)

/-- ITS FALSE NEIGHBOUR: 'it returns false'. Refute it at one input. -/
def fnSndWrong : ChangeSpec := { name := "fnSnd", fn := fun _ => fun
  | [d1, d2] => { results := [.lit (.bool false)], args := [d1, d2] }
  | _ => none }
def FnSndWrongFalsely : Prop := fnSndRow.holds Tryz.pinned (OpenSpec.ofChange fnSndWrong)

/-- 'laws.FnExactRcvTake': WHATEVER THE INPUT: true; the input reads as it did. -/
def fnExactRcvTakeSpec : ChangeSpec := { name := "fnExactRcvTake", fn := fun _ => fun
  | [d1, d2] => { results := [.lit (.bool true)], args := [d1, d2] }
  | _ => none }
def fnExactRcvTakeRow : OpenClaim := { program := "ytdcahilfmhkmiaagreatdoor", sum := "fc5d7b91378e9acd3e446a6b56c818f8d626389e3a1e2f1e31c0085845d86bb3", func := "loop.example/g00847/laws.FnExactRcvTake", spec := "fnExactRcvTake", inPlace := ["slices.overlaps[int64]", "internal/reflectlite.ValueOf", "(internal/reflectlite.Value).Type", "(internal/reflectlite.Value).IsNil", "internal/reflectlite.TypeOf", "(internal/reflectlite.Value).Elem", "(internal/reflectlite.Value).Set"], unfollowed := true, recurses := true, named := ["math/bits.deBruijn64tab", "errors.errorType"], apart := false, laid := [("math/bits.deBruijn64tab", laid_math_bits_deBruijn64tab), ("errors.errorType", laid_errors_errorType)] }
def FnExactRcvTakeSaid : Prop := fnExactRcvTakeRow.holds Tryz.pinned (OpenSpec.ofChange fnExactRcvTakeSpec)

/-- ITS FALSE NEIGHBOUR: 'it returns false'. Refute it at one input. -/
def fnExactRcvTakeWrong : ChangeSpec := { name := "fnExactRcvTake", fn := fun _ => fun
  | [d1, d2] => { results := [.lit (.bool false)], args := [d1, d2] }
  | _ => none }
def FnExactRcvTakeWrongFalsely : Prop := fnExactRcvTakeRow.holds Tryz.pinned (OpenSpec.ofChange fnExactRcvTakeWrong)

/-- 'laws.FnExactRcvRead': WHATEVER THE INPUT: true; the input reads as it did. -/
def fnExactRcvReadSpec : ChangeSpec := { name := "fnExactRcvRead", fn := fun _ => fun
  | [d1, d2] => { results := [.lit (.bool true)], args := [d1, d2] }
  | _ => none }
def fnExactRcvReadRow : OpenClaim := { program := "ytdcahilfmhkmiaagreatdoor", sum := "fc5d7b91378e9acd3e446a6b56c818f8d626389e3a1e2f1e31c0085845d86bb3", func := "loop.example/g00847/laws.FnExactRcvRead", spec := "fnExactRcvRead", inPlace := ["internal/reflectlite.ValueOf", "(internal/reflectlite.Value).Type", "(internal/reflectlite.Value).IsNil", "internal/reflectlite.TypeOf", "(internal/reflectlite.Value).Elem", "(internal/reflectlite.Value).Set"], unfollowed := true, recurses := true, named := ["errors.errorType"], apart := false, laid := [("errors.errorType", laid_errors_errorType)] }
def FnExactRcvReadSaid : Prop := fnExactRcvReadRow.holds Tryz.pinned (OpenSpec.ofChange fnExactRcvReadSpec)

/-- ITS FALSE NEIGHBOUR: 'it returns false'. Refute it at one input. -/
def fnExactRcvReadWrong : ChangeSpec := { name := "fnExactRcvRead", fn := fun _ => fun
  | [d1, d2] => { results := [.lit (.bool false)], args := [d1, d2] }
  | _ => none }
def FnExactRcvReadWrongFalsely : Prop := fnExactRcvReadRow.holds Tryz.pinned (OpenSpec.ofChange fnExactRcvReadWrong)

/- THE SECOND FORM. 'bulk': how many values and letters a reading holds, each counted each time it is reached (what is shared counts as often as it is met; a slice's spare places count too). A statement '..UptoSaid' is the law's where the arguments, and the package variables that the reading takes, are together of bulk at most 1048576: NARROWER than '..Said'. Prove '..Said' where nothing that the law and all that it calls make is longer than what came in: it says more and counts as full. Else prove '..UptoSaid'. A law counts once. -/
mutual
def uptoBulk {H : Type} : DataW H → Nat
  | .lit (.string bytes) => bytes.length + 1
  | .lit _ => 1
  | .nil => 1
  | .ptr d => uptoBulk d + 1
  | .slice elems spare => uptoBulkAll elems + uptoBulkAll spare + 1
  | .agg parts => uptoBulkAll parts + 1
  | .iface _ d => uptoBulk d + 1
  | .map entries => uptoBulkEntries entries + 1
  | .held _ => 1
def uptoBulkAll {H : Type} : List (DataW H) → Nat
  | [] => 0
  | d :: r => uptoBulk d + uptoBulkAll r
def uptoBulkEntries {H : Type} : List (Lit × DataW H) → Nat
  | [] => 0
  | x :: r => uptoBulkEntry x + uptoBulkEntries r
def uptoBulkEntry {H : Type} : Lit × DataW H → Nat
  | (.string bytes, d) => bytes.length + uptoBulk d + 1
  | (_, d) => uptoBulk d + 1
 end
def uptoSmall : (H : Type) → List (DataW H) → Bool := fun _ ds => decide (uptoBulkAll ds ≤ 1048576)
def OpenSpec.upto (s : _root_.Go.ChangeSpec) : _root_.Go.OpenSpec := { _root_.Go.OpenSpec.ofChange s with cond := some uptoSmall }

/-- 'laws.FnRcv', WHERE WHAT IT READS IS OF BULK AT MOST 1048576: true; the input reads as it did. -/
def fnRcvUptoRow : OpenClaim := { program := "ytdcahilfmhkmiaagreatdoor", sum := "fc5d7b91378e9acd3e446a6b56c818f8d626389e3a1e2f1e31c0085845d86bb3", func := "loop.example/g00847/laws.FnRcv", spec := "fnRcv", inPlace := ["slices.overlaps[int64]", "internal/reflectlite.ValueOf", "(internal/reflectlite.Value).Type", "(internal/reflectlite.Value).IsNil", "internal/reflectlite.TypeOf", "(internal/reflectlite.Value).Elem", "(internal/reflectlite.Value).Set"], unfollowed := true, recurses := true, named := ["math/bits.deBruijn64tab", "errors.errorType"], apart := false, laid := [("math/bits.deBruijn64tab", laid_math_bits_deBruijn64tab), ("errors.errorType", laid_errors_errorType)], narrowed := true }
def FnRcvUptoSaid : Prop := fnRcvUptoRow.holds Tryz.pinned (OpenSpec.upto fnRcvSpec)

/-- 'laws.FnSnd', WHERE WHAT IT READS IS OF BULK AT MOST 1048576: true; the input reads as it did. -/
def fnSndUptoRow : OpenClaim := { program := "ytdcahilfmhkmiaagreatdoor", sum := "fc5d7b91378e9acd3e446a6b56c818f8d626389e3a1e2f1e31c0085845d86bb3", func := "loop.example/g00847/laws.FnSnd", spec := "fnSnd", inPlace := ["internal/reflectlite.ValueOf", "(internal/reflectlite.Value).Type", "(internal/reflectlite.Value).IsNil", "internal/reflectlite.TypeOf", "(internal/reflectlite.Value).Elem", "(internal/reflectlite.Value).Set"], unfollowed := true, recurses := true, named := ["errors.errorType"], apart := false, laid := [("errors.errorType", laid_errors_errorType)], narrowed := true }
def FnSndUptoSaid : Prop := fnSndUptoRow.holds Tryz.pinned (OpenSpec.upto fnSndSpec)

/-- 'laws.FnExactRcvTake', WHERE WHAT IT READS IS OF BULK AT MOST 1048576: true; the input reads as it did. -/
def fnExactRcvTakeUptoRow : OpenClaim := { program := "ytdcahilfmhkmiaagreatdoor", sum := "fc5d7b91378e9acd3e446a6b56c818f8d626389e3a1e2f1e31c0085845d86bb3", func := "loop.example/g00847/laws.FnExactRcvTake", spec := "fnExactRcvTake", inPlace := ["slices.overlaps[int64]", "internal/reflectlite.ValueOf", "(internal/reflectlite.Value).Type", "(internal/reflectlite.Value).IsNil", "internal/reflectlite.TypeOf", "(internal/reflectlite.Value).Elem", "(internal/reflectlite.Value).Set"], unfollowed := true, recurses := true, named := ["math/bits.deBruijn64tab", "errors.errorType"], apart := false, laid := [("math/bits.deBruijn64tab", laid_math_bits_deBruijn64tab), ("errors.errorType", laid_errors_errorType)], narrowed := true }
def FnExactRcvTakeUptoSaid : Prop := fnExactRcvTakeUptoRow.holds Tryz.pinned (OpenSpec.upto fnExactRcvTakeSpec)

/-- 'laws.FnExactRcvRead', WHERE WHAT IT READS IS OF BULK AT MOST 1048576: true; the input reads as it did. -/
def fnExactRcvReadUptoRow : OpenClaim := { program := "ytdcahilfmhkmiaagreatdoor", sum := "fc5d7b91378e9acd3e446a6b56c818f8d626389e3a1e2f1e31c0085845d86bb3", func := "loop.example/g00847/laws.FnExactRcvRead", spec := "fnExactRcvRead", inPlace := ["internal/reflectlite.ValueOf", "(internal/reflectlite.Value).Type", "(internal/reflectlite.Value).IsNil", "internal/reflectlite.TypeOf", "(internal/reflectlite.Value).Elem", "(internal/reflectlite.Value).Set"], unfollowed := true, recurses := true, named := ["errors.errorType"], apart := false, laid := [("errors.errorType", laid_errors_errorType)], narrowed := true }
def FnExactRcvReadUptoSaid : Prop := fnExactRcvReadUptoRow.holds Tryz.pinned (OpenSpec.upto fnExactRcvReadSpec)

end Rows
end Go.Proofs.YtdcahilfmhkmiaaGreatDoor
