/-
  No cell of these rows narrows 'for every input' (looked for: loops, veiled, ifaces, maps, wideKeys, modest, calm, conditions, laid).
  DERIVED. THE GIVEN ROWS OF THIS SEAT. 5 by the template 'for every input the law returns true; each argument reads behind the call as it read before'; 0 by the template 'total and deterministic' (their statements: YthefbehfnaelbaaTotals.lean).
  GIVEN WITH THE SEED: the statements are not yours to turn. If you find one false, say at which input.
  Laid BY PROGRAM, IN A SANDBOX (cutbox-rows.mjs): the forced cells as the released guide's own fill.sh prints them over the translation fc5e99a04bc6ba50… (all of the seat's roots in one cut). By AI agents, Wed Nov 11 2026. No macro, syntax, notation, axiom, sorry.
-/
import Derived.Test.YthefbehfnaelbaaChecked
import GoSem.Claim
import GoSem.ClaimJoined
import GoSem.ClaimMapViews
import Derived.JoinedTies
import Derived.KernelRfl
namespace Go.Proofs.Ythefbehfnaelbaa
/- THE CELL 'sum', in the pinned program and in every row, IS THE sha256 OF THE DUMP (.gsa) THAT YthefbehfnaelbaaProg.lean LOADS. Nothing in Lean hashes anything: it is a label: what it is worth is what the hold of that sum in a sandbox is worth. -/
noncomputable def Try.pinned : Pinned := { name := "ythefbehfnaelbaa", sum := "fc5e99a04bc6ba50004b904709374a7b5bb1d212c1cf9b0c6f7b180dd12e3cd8", checked := Try.checked }
namespace Rows
def none {H : Type} : Left H := { results := [], args := [] }

/-- 'greenhouselaw06.CastNexts': WHATEVER THE INPUT: true; the input reads as it did. -/
def castNextsSpec : ChangeSpec := { name := "castNexts", fn := fun _ => fun
  | [d] => { results := [.lit (.bool true)], args := [d] }
  | _ => none }
def castNextsRow : OpenClaim := { program := "ythefbehfnaelbaa", sum := "fc5e99a04bc6ba50004b904709374a7b5bb1d212c1cf9b0c6f7b180dd12e3cd8", func := "greenhouse/greenhouselaw06.CastNexts", spec := "castNexts", named := ["math/bits.divideError", "math/bits.overflowError"], apart := false }
def CastNextsSaid : Prop := castNextsRow.holds Try.pinned (OpenSpec.ofChange castNextsSpec)

/-- ITS FALSE NEIGHBOUR: 'it returns false'. Refute it at one input. -/
def castNextsWrong : ChangeSpec := { name := "castNexts", fn := fun _ => fun
  | [d] => { results := [.lit (.bool false)], args := [d] }
  | _ => none }
def CastNextsWrongFalsely : Prop := castNextsRow.holds Try.pinned (OpenSpec.ofChange castNextsWrong)

/-- 'greenhouselaw06.CastLines': WHATEVER THE INPUT: true; the input reads as it did. -/
def castLinesSpec : ChangeSpec := { name := "castLines", fn := fun _ => fun
  | [d1, d2, d3] => { results := [.lit (.bool true)], args := [d1, d2, d3] }
  | _ => none }
def castLinesRow : OpenClaim := { program := "ythefbehfnaelbaa", sum := "fc5e99a04bc6ba50004b904709374a7b5bb1d212c1cf9b0c6f7b180dd12e3cd8", func := "greenhouse/greenhouselaw06.CastLines", spec := "castLines", named := ["math/bits.divideError", "math/bits.overflowError"], apart := false }
def CastLinesSaid : Prop := castLinesRow.holds Try.pinned (OpenSpec.ofChange castLinesSpec)

/-- ITS FALSE NEIGHBOUR: 'it returns false'. Refute it at one input. -/
def castLinesWrong : ChangeSpec := { name := "castLines", fn := fun _ => fun
  | [d1, d2, d3] => { results := [.lit (.bool false)], args := [d1, d2, d3] }
  | _ => none }
def CastLinesWrongFalsely : Prop := castLinesRow.holds Try.pinned (OpenSpec.ofChange castLinesWrong)

/-- 'greenhouselaw06.CastBounds': WHATEVER THE INPUT: true; the input reads as it did. -/
def castBoundsSpec : ChangeSpec := { name := "castBounds", fn := fun _ => fun
  | [d1, d2, d3, d4] => { results := [.lit (.bool true)], args := [d1, d2, d3, d4] }
  | _ => none }
def castBoundsRow : OpenClaim := { program := "ythefbehfnaelbaa", sum := "fc5e99a04bc6ba50004b904709374a7b5bb1d212c1cf9b0c6f7b180dd12e3cd8", func := "greenhouse/greenhouselaw06.CastBounds", spec := "castBounds", named := ["math/bits.divideError", "math/bits.overflowError"], apart := false }
def CastBoundsSaid : Prop := castBoundsRow.holds Try.pinned (OpenSpec.ofChange castBoundsSpec)

/-- ITS FALSE NEIGHBOUR: 'it returns false'. Refute it at one input. -/
def castBoundsWrong : ChangeSpec := { name := "castBounds", fn := fun _ => fun
  | [d1, d2, d3, d4] => { results := [.lit (.bool false)], args := [d1, d2, d3, d4] }
  | _ => none }
def CastBoundsWrongFalsely : Prop := castBoundsRow.holds Try.pinned (OpenSpec.ofChange castBoundsWrong)

/-- 'greenhouselaw06.CastShifts': WHATEVER THE INPUT: true; the input reads as it did. -/
def castShiftsSpec : ChangeSpec := { name := "castShifts", fn := fun _ => fun
  | [d1, d2] => { results := [.lit (.bool true)], args := [d1, d2] }
  | _ => none }
def castShiftsRow : OpenClaim := { program := "ythefbehfnaelbaa", sum := "fc5e99a04bc6ba50004b904709374a7b5bb1d212c1cf9b0c6f7b180dd12e3cd8", func := "greenhouse/greenhouselaw06.CastShifts", spec := "castShifts", named := ["math/bits.divideError", "math/bits.overflowError"], apart := false }
def CastShiftsSaid : Prop := castShiftsRow.holds Try.pinned (OpenSpec.ofChange castShiftsSpec)

/-- ITS FALSE NEIGHBOUR: 'it returns false'. Refute it at one input. -/
def castShiftsWrong : ChangeSpec := { name := "castShifts", fn := fun _ => fun
  | [d1, d2] => { results := [.lit (.bool false)], args := [d1, d2] }
  | _ => none }
def CastShiftsWrongFalsely : Prop := castShiftsRow.holds Try.pinned (OpenSpec.ofChange castShiftsWrong)

/-- 'greenhouselaw06.CastTwos': WHATEVER THE INPUT: true; the input reads as it did. -/
def castTwosSpec : ChangeSpec := { name := "castTwos", fn := fun _ => fun
  | [d1, d2] => { results := [.lit (.bool true)], args := [d1, d2] }
  | _ => none }
def castTwosRow : OpenClaim := { program := "ythefbehfnaelbaa", sum := "fc5e99a04bc6ba50004b904709374a7b5bb1d212c1cf9b0c6f7b180dd12e3cd8", func := "greenhouse/greenhouselaw06.CastTwos", spec := "castTwos", named := ["math/bits.divideError", "math/bits.overflowError"], apart := false }
def CastTwosSaid : Prop := castTwosRow.holds Try.pinned (OpenSpec.ofChange castTwosSpec)

/-- ITS FALSE NEIGHBOUR: 'it returns false'. Refute it at one input. -/
def castTwosWrong : ChangeSpec := { name := "castTwos", fn := fun _ => fun
  | [d1, d2] => { results := [.lit (.bool false)], args := [d1, d2] }
  | _ => none }
def CastTwosWrongFalsely : Prop := castTwosRow.holds Try.pinned (OpenSpec.ofChange castTwosWrong)

/- THE SECOND FORM. 'bulk': how many values and letters a reading holds, each counted each time it is reached (what is shared counts as often as it is met; a slice's spare places count too). A statement '..UptoSaid' is the law's where the arguments, and the package variables that the reading takes, are together of bulk at most 1048576: NARROWER than '..Said'. Prove '..Said' where nothing that the law and all that it calls make is longer than what came in: it says more and counts as full. Else prove '..UptoSaid'. A law counts once. -/
mutual
def uptoBulk {H : Type} : DataW H → Nat
  | .lit (.string bytes) => bytes.length + 1
  | .lit _ => 1
  | .nil => 1
  | .ptr d => uptoBulk d + 1
  | .slice elems spare => uptoBulkAll elems + uptoBulkAll spare + 1
  | .agg parts => uptoBulkAll parts + 1
  | .iface _ d => uptoBulk d + 1
  | .map entries => uptoBulkEntries entries + 1
  | .held _ => 1
def uptoBulkAll {H : Type} : List (DataW H) → Nat
  | [] => 0
  | d :: r => uptoBulk d + uptoBulkAll r
def uptoBulkEntries {H : Type} : List (Lit × DataW H) → Nat
  | [] => 0
  | x :: r => uptoBulkEntry x + uptoBulkEntries r
def uptoBulkEntry {H : Type} : Lit × DataW H → Nat
  | (.string bytes, d) => bytes.length + uptoBulk d + 1
  | (_, d) => uptoBulk d + 1
 end
def uptoSmall : (H : Type) → List (DataW H) → Bool := fun _ ds => decide (uptoBulkAll ds ≤ 1048576)
def OpenSpec.upto (s : _root_.Go.ChangeSpec) : _root_.Go.OpenSpec := { _root_.Go.OpenSpec.ofChange s with cond := some uptoSmall }

/-- 'greenhouselaw06.CastNexts', WHERE WHAT IT READS IS OF BULK AT MOST 1048576: true; the input reads as it did. -/
def castNextsUptoRow : OpenClaim := { program := "ythefbehfnaelbaa", sum := "fc5e99a04bc6ba50004b904709374a7b5bb1d212c1cf9b0c6f7b180dd12e3cd8", func := "greenhouse/greenhouselaw06.CastNexts", spec := "castNexts", named := ["math/bits.divideError", "math/bits.overflowError"], apart := false, narrowed := true }
def CastNextsUptoSaid : Prop := castNextsUptoRow.holds Try.pinned (OpenSpec.upto castNextsSpec)

/-- 'greenhouselaw06.CastLines', WHERE WHAT IT READS IS OF BULK AT MOST 1048576: true; the input reads as it did. -/
def castLinesUptoRow : OpenClaim := { program := "ythefbehfnaelbaa", sum := "fc5e99a04bc6ba50004b904709374a7b5bb1d212c1cf9b0c6f7b180dd12e3cd8", func := "greenhouse/greenhouselaw06.CastLines", spec := "castLines", named := ["math/bits.divideError", "math/bits.overflowError"], apart := false, narrowed := true }
def CastLinesUptoSaid : Prop := castLinesUptoRow.holds Try.pinned (OpenSpec.upto castLinesSpec)

/-- 'greenhouselaw06.CastBounds', WHERE WHAT IT READS IS OF BULK AT MOST 1048576: true; the input reads as it did. -/
def castBoundsUptoRow : OpenClaim := { program := "ythefbehfnaelbaa", sum := "fc5e99a04bc6ba50004b904709374a7b5bb1d212c1cf9b0c6f7b180dd12e3cd8", func := "greenhouse/greenhouselaw06.CastBounds", spec := "castBounds", named := ["math/bits.divideError", "math/bits.overflowError"], apart := false, narrowed := true }
def CastBoundsUptoSaid : Prop := castBoundsUptoRow.holds Try.pinned (OpenSpec.upto castBoundsSpec)

/-- 'greenhouselaw06.CastShifts', WHERE WHAT IT READS IS OF BULK AT MOST 1048576: true; the input reads as it did. -/
def castShiftsUptoRow : OpenClaim := { program := "ythefbehfnaelbaa", sum := "fc5e99a04bc6ba50004b904709374a7b5bb1d212c1cf9b0c6f7b180dd12e3cd8", func := "greenhouse/greenhouselaw06.CastShifts", spec := "castShifts", named := ["math/bits.divideError", "math/bits.overflowError"], apart := false, narrowed := true }
def CastShiftsUptoSaid : Prop := castShiftsUptoRow.holds Try.pinned (OpenSpec.upto castShiftsSpec)

/-- 'greenhouselaw06.CastTwos', WHERE WHAT IT READS IS OF BULK AT MOST 1048576: true; the input reads as it did. -/
def castTwosUptoRow : OpenClaim := { program := "ythefbehfnaelbaa", sum := "fc5e99a04bc6ba50004b904709374a7b5bb1d212c1cf9b0c6f7b180dd12e3cd8", func := "greenhouse/greenhouselaw06.CastTwos", spec := "castTwos", named := ["math/bits.divideError", "math/bits.overflowError"], apart := false, narrowed := true }
def CastTwosUptoSaid : Prop := castTwosUptoRow.holds Try.pinned (OpenSpec.upto castTwosSpec)

end Rows
end Go.Proofs.Ythefbehfnaelbaa
