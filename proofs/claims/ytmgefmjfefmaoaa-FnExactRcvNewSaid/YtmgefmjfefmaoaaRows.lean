/-
  No cell of these rows narrows 'for every input' (looked for: loops, veiled, ifaces, maps, wideKeys, modest, calm, conditions, laid).
  DERIVED. THE GIVEN ROWS OF THIS SEAT. 4 by the template 'for every input the law returns true; each argument reads behind the call as it read before'; 0 by the template 'total and deterministic' (their statements: YtmgefmjfefmaoaaTotals.lean).
  GIVEN WITH THE SEED: the statements are not yours to turn. If you find one false, say at which input.
  Laid BY PROGRAM, IN A SANDBOX (cutbox-rows.mjs): the forced cells as the released guide's own fill.sh prints them over the translation 6a3eb37a4b27f89a… (all of the seat's roots in one cut). By AI agents, Wed Nov 11 2026. No macro, syntax, notation, axiom, sorry.
-/
import Derived.Test.YtmgefmjfefmaoaaChecked
import GoSem.Claim
import GoSem.ClaimJoined
import GoSem.ClaimMapViews
import Derived.JoinedTies
import Derived.KernelRfl
namespace Go.Proofs.Ytmgefmjfefmaoaa
/- THE CELL 'sum', in the pinned program and in every row, IS THE sha256 OF THE DUMP (.gsa) THAT YtmgefmjfefmaoaaProg.lean LOADS. Nothing in Lean hashes anything: it is a label: what it is worth is what the hold of that sum in a sandbox is worth. -/
noncomputable def Try.pinned : Pinned := { name := "ytmgefmjfefmaoaa", sum := "6a3eb37a4b27f89ad5e666ebd100124b10c3a21aefbd5314d7b3dc755663e4bf", checked := Try.checked }
namespace Rows
def none {H : Type} : Left H := { results := [], args := [] }

/-- 'laws.FnExactRcvRight': WHATEVER THE INPUT: true; the input reads as it did. -/
def fnExactRcvRightSpec : ChangeSpec := { name := "fnExactRcvRight", fn := fun _ => fun
  | [d] => { results := [.lit (.bool true)], args := [d] }
  | _ => none }
def fnExactRcvRightRow : OpenClaim := { program := "ytmgefmjfefmaoaa", sum := "6a3eb37a4b27f89ad5e666ebd100124b10c3a21aefbd5314d7b3dc755663e4bf", func := "loop.example/g00847/laws.FnExactRcvRight", spec := "fnExactRcvRight", apart := false }
def FnExactRcvRightSaid : Prop := fnExactRcvRightRow.holds Try.pinned (OpenSpec.ofChange fnExactRcvRightSpec)

/-- ITS FALSE NEIGHBOUR: 'it returns false'. Refute it at one input. -/
def fnExactRcvRightWrong : ChangeSpec := { name := "fnExactRcvRight", fn := fun _ => fun
  | [d] => { results := [.lit (.bool false)], args := [d] }
  | _ => none }
def FnExactRcvRightWrongFalsely : Prop := fnExactRcvRightRow.holds Try.pinned (OpenSpec.ofChange fnExactRcvRightWrong)

/-- 'laws.FnExactRcvNew': WHATEVER THE INPUT: true; the input reads as it did. -/
def fnExactRcvNewSpec : ChangeSpec := { name := "fnExactRcvNew", fn := fun _ => fun
  | [d1, d2, d3] => { results := [.lit (.bool true)], args := [d1, d2, d3] }
  | _ => none }
def fnExactRcvNewRow : OpenClaim := { program := "ytmgefmjfefmaoaa", sum := "6a3eb37a4b27f89ad5e666ebd100124b10c3a21aefbd5314d7b3dc755663e4bf", func := "loop.example/g00847/laws.FnExactRcvNew", spec := "fnExactRcvNew", apart := false }
def FnExactRcvNewSaid : Prop := fnExactRcvNewRow.holds Try.pinned (OpenSpec.ofChange fnExactRcvNewSpec)

/-- ITS FALSE NEIGHBOUR: 'it returns false'. Refute it at one input. -/
def fnExactRcvNewWrong : ChangeSpec := { name := "fnExactRcvNew", fn := fun _ => fun
  | [d1, d2, d3] => { results := [.lit (.bool false)], args := [d1, d2, d3] }
  | _ => none }
def FnExactRcvNewWrongFalsely : Prop := fnExactRcvNewRow.holds Try.pinned (OpenSpec.ofChange fnExactRcvNewWrong)

/-- 'laws.FnExactRcvAck': WHATEVER THE INPUT: true; the input reads as it did. -/
def fnExactRcvAckSpec : ChangeSpec := { name := "fnExactRcvAck", fn := fun _ => fun
  | [d1, d2] => { results := [.lit (.bool true)], args := [d1, d2] }
  | _ => none }
def fnExactRcvAckRow : OpenClaim := { program := "ytmgefmjfefmaoaa", sum := "6a3eb37a4b27f89ad5e666ebd100124b10c3a21aefbd5314d7b3dc755663e4bf", func := "loop.example/g00847/laws.FnExactRcvAck", spec := "fnExactRcvAck", apart := false }
def FnExactRcvAckSaid : Prop := fnExactRcvAckRow.holds Try.pinned (OpenSpec.ofChange fnExactRcvAckSpec)

/-- ITS FALSE NEIGHBOUR: 'it returns false'. Refute it at one input. -/
def fnExactRcvAckWrong : ChangeSpec := { name := "fnExactRcvAck", fn := fun _ => fun
  | [d1, d2] => { results := [.lit (.bool false)], args := [d1, d2] }
  | _ => none }
def FnExactRcvAckWrongFalsely : Prop := fnExactRcvAckRow.holds Try.pinned (OpenSpec.ofChange fnExactRcvAckWrong)

/-- 'laws.FnExactRcvHeld': WHATEVER THE INPUT: true; the input reads as it did. -/
def fnExactRcvHeldSpec : ChangeSpec := { name := "fnExactRcvHeld", fn := fun _ => fun
  | [d] => { results := [.lit (.bool true)], args := [d] }
  | _ => none }
def fnExactRcvHeldRow : OpenClaim := { program := "ytmgefmjfefmaoaa", sum := "6a3eb37a4b27f89ad5e666ebd100124b10c3a21aefbd5314d7b3dc755663e4bf", func := "loop.example/g00847/laws.FnExactRcvHeld", spec := "fnExactRcvHeld", apart := false }
def FnExactRcvHeldSaid : Prop := fnExactRcvHeldRow.holds Try.pinned (OpenSpec.ofChange fnExactRcvHeldSpec)

/-- ITS FALSE NEIGHBOUR: 'it returns false'. Refute it at one input. -/
def fnExactRcvHeldWrong : ChangeSpec := { name := "fnExactRcvHeld", fn := fun _ => fun
  | [d] => { results := [.lit (.bool false)], args := [d] }
  | _ => none }
def FnExactRcvHeldWrongFalsely : Prop := fnExactRcvHeldRow.holds Try.pinned (OpenSpec.ofChange fnExactRcvHeldWrong)

/- THE SECOND FORM. 'bulk': how many values and letters a reading holds, each counted each time it is reached (what is shared counts as often as it is met; a slice's spare places count too). A statement '..UptoSaid' is the law's where the arguments, and the package variables that the reading takes, are together of bulk at most 1048576: NARROWER than '..Said'. Prove '..Said' where nothing that the law and all that it calls make is longer than what came in: it says more and counts as full. Else prove '..UptoSaid'. A law counts once. -/
mutual
def uptoBulk {H : Type} : DataW H → Nat
  | .lit (.string bytes) => bytes.length + 1
  | .lit _ => 1
  | .nil => 1
  | .ptr d => uptoBulk d + 1
  | .slice elems spare => uptoBulkAll elems + uptoBulkAll spare + 1
  | .agg parts => uptoBulkAll parts + 1
  | .iface _ d => uptoBulk d + 1
  | .map entries => uptoBulkEntries entries + 1
  | .held _ => 1
def uptoBulkAll {H : Type} : List (DataW H) → Nat
  | [] => 0
  | d :: r => uptoBulk d + uptoBulkAll r
def uptoBulkEntries {H : Type} : List (Lit × DataW H) → Nat
  | [] => 0
  | x :: r => uptoBulkEntry x + uptoBulkEntries r
def uptoBulkEntry {H : Type} : Lit × DataW H → Nat
  | (.string bytes, d) => bytes.length + uptoBulk d + 1
  | (_, d) => uptoBulk d + 1
 end
def uptoSmall : (H : Type) → List (DataW H) → Bool := fun _ ds => decide (uptoBulkAll ds ≤ 1048576)
def OpenSpec.upto (s : _root_.Go.ChangeSpec) : _root_.Go.OpenSpec := { _root_.Go.OpenSpec.ofChange s with cond := some uptoSmall }

/-- 'laws.FnExactRcvRight', WHERE WHAT IT READS IS OF BULK AT MOST 1048576: true; the input reads as it did. -/
def fnExactRcvRightUptoRow : OpenClaim := { program := "ytmgefmjfefmaoaa", sum := "6a3eb37a4b27f89ad5e666ebd100124b10c3a21aefbd5314d7b3dc755663e4bf", func := "loop.example/g00847/laws.FnExactRcvRight", spec := "fnExactRcvRight", apart := false, narrowed := true }
def FnExactRcvRightUptoSaid : Prop := fnExactRcvRightUptoRow.holds Try.pinned (OpenSpec.upto fnExactRcvRightSpec)

/-- 'laws.FnExactRcvNew', WHERE WHAT IT READS IS OF BULK AT MOST 1048576: true; the input reads as it did. -/
def fnExactRcvNewUptoRow : OpenClaim := { program := "ytmgefmjfefmaoaa", sum := "6a3eb37a4b27f89ad5e666ebd100124b10c3a21aefbd5314d7b3dc755663e4bf", func := "loop.example/g00847/laws.FnExactRcvNew", spec := "fnExactRcvNew", apart := false, narrowed := true }
def FnExactRcvNewUptoSaid : Prop := fnExactRcvNewUptoRow.holds Try.pinned (OpenSpec.upto fnExactRcvNewSpec)

/-- 'laws.FnExactRcvAck', WHERE WHAT IT READS IS OF BULK AT MOST 1048576: true; the input reads as it did. -/
def fnExactRcvAckUptoRow : OpenClaim := { program := "ytmgefmjfefmaoaa", sum := "6a3eb37a4b27f89ad5e666ebd100124b10c3a21aefbd5314d7b3dc755663e4bf", func := "loop.example/g00847/laws.FnExactRcvAck", spec := "fnExactRcvAck", apart := false, narrowed := true }
def FnExactRcvAckUptoSaid : Prop := fnExactRcvAckUptoRow.holds Try.pinned (OpenSpec.upto fnExactRcvAckSpec)

/-- 'laws.FnExactRcvHeld', WHERE WHAT IT READS IS OF BULK AT MOST 1048576: true; the input reads as it did. -/
def fnExactRcvHeldUptoRow : OpenClaim := { program := "ytmgefmjfefmaoaa", sum := "6a3eb37a4b27f89ad5e666ebd100124b10c3a21aefbd5314d7b3dc755663e4bf", func := "loop.example/g00847/laws.FnExactRcvHeld", spec := "fnExactRcvHeld", apart := false, narrowed := true }
def FnExactRcvHeldUptoSaid : Prop := fnExactRcvHeldUptoRow.holds Try.pinned (OpenSpec.upto fnExactRcvHeldSpec)

end Rows
end Go.Proofs.Ytmgefmjfefmaoaa
