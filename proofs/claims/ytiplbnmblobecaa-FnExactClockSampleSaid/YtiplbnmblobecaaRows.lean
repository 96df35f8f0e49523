/-
  No cell of these rows narrows 'for every input' (looked for: loops, veiled, ifaces, maps, wideKeys, modest, calm, conditions, laid).
  DERIVED. THE GIVEN ROWS OF THIS SEAT. 5 by the template 'for every input the law returns true; each argument reads behind the call as it read before'; 0 by the template 'total and deterministic' (their statements: YtiplbnmblobecaaTotals.lean).
  GIVEN WITH THE SEED: the statements are not yours to turn. If you find one false, say at which input.
  Laid BY PROGRAM, IN A SANDBOX (cutbox-rows.mjs): the forced cells as the released guide's own fill.sh prints them over the translation 31939934cb3702b3… (all of the seat's roots in one cut). By AI agents, Wed Nov 11 2026. No macro, syntax, notation, axiom, sorry.
-/
import Derived.Test.YtiplbnmblobecaaChecked
import GoSem.Claim
import GoSem.ClaimJoined
import GoSem.ClaimMapViews
import Derived.JoinedTies
import Derived.KernelRfl
namespace Go.Proofs.Ytiplbnmblobecaa
/- THE CELL 'sum', in the pinned program and in every row, IS THE sha256 OF THE DUMP (.gsa) THAT YtiplbnmblobecaaProg.lean LOADS. Nothing in Lean hashes anything: it is a label: what it is worth is what the hold of that sum in a sandbox is worth. -/
noncomputable def Try.pinned : Pinned := { name := "ytiplbnmblobecaa", sum := "31939934cb3702b3c3ef8cd91870c3b98d181e301b84c323b3c12ac6b8142ae0", checked := Try.checked }
namespace Rows
def none {H : Type} : Left H := { results := [], args := [] }

/-- 'laws.FnExactClockRight': WHATEVER THE INPUT: true; the input reads as it did. -/
def fnExactClockRightSpec : ChangeSpec := { name := "fnExactClockRight", fn := fun _ => fun
  | [d] => { results := [.lit (.bool true)], args := [d] }
  | _ => none }
def fnExactClockRightRow : OpenClaim := { program := "ytiplbnmblobecaa", sum := "31939934cb3702b3c3ef8cd91870c3b98d181e301b84c323b3c12ac6b8142ae0", func := "loop.example/g00847/laws.FnExactClockRight", spec := "fnExactClockRight", apart := false }
def FnExactClockRightSaid : Prop := fnExactClockRightRow.holds Try.pinned (OpenSpec.ofChange fnExactClockRightSpec)

/-- ITS FALSE NEIGHBOUR: 'it returns false'. Refute it at one input. -/
def fnExactClockRightWrong : ChangeSpec := { name := "fnExactClockRight", fn := fun _ => fun
  | [d] => { results := [.lit (.bool false)], args := [d] }
  | _ => none }
def FnExactClockRightWrongFalsely : Prop := fnExactClockRightRow.holds Try.pinned (OpenSpec.ofChange fnExactClockRightWrong)

/-- 'laws.FnExactClockNew': WHATEVER THE INPUT: true; the input reads as it did. -/
def fnExactClockNewSpec : ChangeSpec := { name := "fnExactClockNew", fn := fun _ => fun
  | [] => { results := [.lit (.bool true)], args := [] }
  | _ => none }
def fnExactClockNewRow : OpenClaim := { program := "ytiplbnmblobecaa", sum := "31939934cb3702b3c3ef8cd91870c3b98d181e301b84c323b3c12ac6b8142ae0", func := "loop.example/g00847/laws.FnExactClockNew", spec := "fnExactClockNew", apart := false }
def FnExactClockNewSaid : Prop := fnExactClockNewRow.holds Try.pinned (OpenSpec.ofChange fnExactClockNewSpec)

/-- ITS FALSE NEIGHBOUR: 'it returns false'. Refute it at one input. -/
def fnExactClockNewWrong : ChangeSpec := { name := "fnExactClockNew", fn := fun _ => fun
  | [] => { results := [.lit (.bool false)], args := [] }
  | _ => none }
def FnExactClockNewWrongFalsely : Prop := fnExactClockNewRow.holds Try.pinned (OpenSpec.ofChange fnExactClockNewWrong)

/-- 'laws.FnExactClockSample': WHATEVER THE INPUT: true; the input reads as it did. -/
def fnExactClockSampleSpec : ChangeSpec := { name := "fnExactClockSample", fn := fun _ => fun
  | [d1, d2] => { results := [.lit (.bool true)], args := [d1, d2] }
  | _ => none }
def fnExactClockSampleRow : OpenClaim := { program := "ytiplbnmblobecaa", sum := "31939934cb3702b3c3ef8cd91870c3b98d181e301b84c323b3c12ac6b8142ae0", func := "loop.example/g00847/laws.FnExactClockSample", spec := "fnExactClockSample", unfollowed := true, recurses := true, apart := false }
def FnExactClockSampleSaid : Prop := fnExactClockSampleRow.holds Try.pinned (OpenSpec.ofChange fnExactClockSampleSpec)

/-- ITS FALSE NEIGHBOUR: 'it returns false'. Refute it at one input. -/
def fnExactClockSampleWrong : ChangeSpec := { name := "fnExactClockSample", fn := fun _ => fun
  | [d1, d2] => { results := [.lit (.bool false)], args := [d1, d2] }
  | _ => none }
def FnExactClockSampleWrongFalsely : Prop := fnExactClockSampleRow.holds Try.pinned (OpenSpec.ofChange fnExactClockSampleWrong)

/-- 'laws.FnExactClockSlow': WHATEVER THE INPUT: true; the input reads as it did. -/
def fnExactClockSlowSpec : ChangeSpec := { name := "fnExactClockSlow", fn := fun _ => fun
  | [d] => { results := [.lit (.bool true)], args := [d] }
  | _ => none }
def fnExactClockSlowRow : OpenClaim := { program := "ytiplbnmblobecaa", sum := "31939934cb3702b3c3ef8cd91870c3b98d181e301b84c323b3c12ac6b8142ae0", func := "loop.example/g00847/laws.FnExactClockSlow", spec := "fnExactClockSlow", apart := false }
def FnExactClockSlowSaid : Prop := fnExactClockSlowRow.holds Try.pinned (OpenSpec.ofChange fnExactClockSlowSpec)

/-- ITS FALSE NEIGHBOUR: 'it returns false'. Refute it at one input. -/
def fnExactClockSlowWrong : ChangeSpec := { name := "fnExactClockSlow", fn := fun _ => fun
  | [d] => { results := [.lit (.bool false)], args := [d] }
  | _ => none }
def FnExactClockSlowWrongFalsely : Prop := fnExactClockSlowRow.holds Try.pinned (OpenSpec.ofChange fnExactClockSlowWrong)

/-- 'laws.FnExactClockLess': WHATEVER THE INPUT: true; the input reads as it did. -/
def fnExactClockLessSpec : ChangeSpec := { name := "fnExactClockLess", fn := fun _ => fun
  | [d1, d2] => { results := [.lit (.bool true)], args := [d1, d2] }
  | _ => none }
def fnExactClockLessRow : OpenClaim := { program := "ytiplbnmblobecaa", sum := "31939934cb3702b3c3ef8cd91870c3b98d181e301b84c323b3c12ac6b8142ae0", func := "loop.example/g00847/laws.FnExactClockLess", spec := "fnExactClockLess", apart := false }
def FnExactClockLessSaid : Prop := fnExactClockLessRow.holds Try.pinned (OpenSpec.ofChange fnExactClockLessSpec)

/-- ITS FALSE NEIGHBOUR: 'it returns false'. Refute it at one input. -/
def fnExactClockLessWrong : ChangeSpec := { name := "fnExactClockLess", fn := fun _ => fun
  | [d1, d2] => { results := [.lit (.bool false)], args := [d1, d2] }
  | _ => none }
def FnExactClockLessWrongFalsely : Prop := fnExactClockLessRow.holds Try.pinned (OpenSpec.ofChange fnExactClockLessWrong)

/- THE SECOND FORM. 'bulk': how many values and letters a reading holds, each counted each time it is reached (what is shared counts as often as it is met; a slice's spare places count too). A statement '..UptoSaid' is the law's where the arguments, and the package variables that the reading takes, are together of bulk at most 1048576: NARROWER than '..Said'. Prove '..Said' where nothing that the law and all that it calls make is longer than what came in: it says more and counts as full. Else prove '..UptoSaid'. A law counts once. -/
mutual
def uptoBulk {H : Type} : DataW H → Nat
  | .lit (.string bytes) => bytes.length + 1
  | .lit _ => 1
  | .nil => 1
  | .ptr d => uptoBulk d + 1
  | .slice elems spare => uptoBulkAll elems + uptoBulkAll spare + 1
  | .agg parts => uptoBulkAll parts + 1
  | .iface _ d => uptoBulk d + 1
  | .map entries => uptoBulkEntries entries + 1
  | .held _ => 1
def uptoBulkAll {H : Type} : List (DataW H) → Nat
  | [] => 0
  | d :: r => uptoBulk d + uptoBulkAll r
def uptoBulkEntries {H : Type} : List (Lit × DataW H) → Nat
  | [] => 0
  | x :: r => uptoBulkEntry x + uptoBulkEntries r
def uptoBulkEntry {H : Type} : Lit × DataW H → Nat
  | (.string bytes, d) => bytes.length + uptoBulk d + 1
  | (_, d) => uptoBulk d + 1
 end
def uptoSmall : (H : Type) → List (DataW H) → Bool := fun _ ds => decide (uptoBulkAll ds ≤ 1048576)
def OpenSpec.upto (s : _root_.Go.ChangeSpec) : _root_.Go.OpenSpec := { _root_.Go.OpenSpec.ofChange s with cond := some uptoSmall }

/-- 'laws.FnExactClockRight', WHERE WHAT IT READS IS OF BULK AT MOST 1048576: true; the input reads as it did. -/
def fnExactClockRightUptoRow : OpenClaim := { program := "ytiplbnmblobecaa", sum := "31939934cb3702b3c3ef8cd91870c3b98d181e301b84c323b3c12ac6b8142ae0", func := "loop.example/g00847/laws.FnExactClockRight", spec := "fnExactClockRight", apart := false, narrowed := true }
def FnExactClockRightUptoSaid : Prop := fnExactClockRightUptoRow.holds Try.pinned (OpenSpec.upto fnExactClockRightSpec)

/-- 'laws.FnExactClockNew', WHERE WHAT IT READS IS OF BULK AT MOST 1048576: true; the input reads as it did. -/
def fnExactClockNewUptoRow : OpenClaim := { program := "ytiplbnmblobecaa", sum := "31939934cb3702b3c3ef8cd91870c3b98d181e301b84c323b3c12ac6b8142ae0", func := "loop.example/g00847/laws.FnExactClockNew", spec := "fnExactClockNew", apart := false, narrowed := true }
def FnExactClockNewUptoSaid : Prop := fnExactClockNewUptoRow.holds Try.pinned (OpenSpec.upto fnExactClockNewSpec)

/-- 'laws.FnExactClockSample', WHERE WHAT IT READS IS OF BULK AT MOST 1048576: true; the input reads as it did. -/
def fnExactClockSampleUptoRow : OpenClaim := { program := "ytiplbnmblobecaa", sum := "31939934cb3702b3c3ef8cd91870c3b98d181e301b84c323b3c12ac6b8142ae0", func := "loop.example/g00847/laws.FnExactClockSample", spec := "fnExactClockSample", unfollowed := true, recurses := true, apart := false, narrowed := true }
def FnExactClockSampleUptoSaid : Prop := fnExactClockSampleUptoRow.holds Try.pinned (OpenSpec.upto fnExactClockSampleSpec)

/-- 'laws.FnExactClockSlow', WHERE WHAT IT READS IS OF BULK AT MOST 1048576: true; the input reads as it did. -/
def fnExactClockSlowUptoRow : OpenClaim := { program := "ytiplbnmblobecaa", sum := "31939934cb3702b3c3ef8cd91870c3b98d181e301b84c323b3c12ac6b8142ae0", func := "loop.example/g00847/laws.FnExactClockSlow", spec := "fnExactClockSlow", apart := false, narrowed := true }
def FnExactClockSlowUptoSaid : Prop := fnExactClockSlowUptoRow.holds Try.pinned (OpenSpec.upto fnExactClockSlowSpec)

/-- 'laws.FnExactClockLess', WHERE WHAT IT READS IS OF BULK AT MOST 1048576: true; the input reads as it did. -/
def fnExactClockLessUptoRow : OpenClaim := { program := "ytiplbnmblobecaa", sum := "31939934cb3702b3c3ef8cd91870c3b98d181e301b84c323b3c12ac6b8142ae0", func := "loop.example/g00847/laws.FnExactClockLess", spec := "fnExactClockLess", apart := false, narrowed := true }
def FnExactClockLessUptoSaid : Prop := fnExactClockLessUptoRow.holds Try.pinned (OpenSpec.upto fnExactClockLessSpec)

end Rows
end Go.Proofs.Ytiplbnmblobecaa
