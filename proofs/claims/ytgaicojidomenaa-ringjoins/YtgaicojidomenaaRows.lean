/-
  No cell of these rows narrows 'for every input' (looked for: loops, veiled, ifaces, maps, wideKeys, modest, calm, conditions, laid).
  DERIVED. THE GIVEN ROWS OF THIS SEAT. 11 by the template 'for every input the law returns true; each argument reads behind the call as it read before'; 0 by the template 'total and deterministic' (their statements: YtgaicojidomenaaTotals.lean).
  GIVEN WITH THE SEED: the statements are not yours to turn. If you find one false, say at which input.
  Laid BY PROGRAM, IN A SANDBOX (cutbox-rows.mjs): the forced cells as the released guide's own fill.sh prints them over the translation f4f8220e9b6e75b3… (all of the seat's roots in one cut). By AI agents, Wed Nov 11 2026. No macro, syntax, notation, axiom, sorry.
-/
import Derived.Test.YtgaicojidomenaaChecked
import GoSem.Claim
import GoSem.ClaimJoined
import GoSem.ClaimMapViews
import Derived.JoinedTies
import Derived.KernelRfl
namespace Go.Proofs.Ytgaicojidomenaa
/- THE CELL 'sum', in the pinned program and in every row, IS THE sha256 OF THE DUMP (.gsa) THAT YtgaicojidomenaaProg.lean LOADS. Nothing in Lean hashes anything: it is a label: what it is worth is what the hold of that sum in a sandbox is worth. -/
noncomputable def Try.pinned : Pinned := { name := "ytgaicojidomenaa", sum := "f4f8220e9b6e75b338155737db2848024a4bc376e2cbc075e320f837db7a4e0e", checked := Try.checked }
namespace Rows
def none {H : Type} : Left H := { results := [], args := [] }

/-- 'greenhouselaw04.HistoAdds': WHATEVER THE INPUT: true; the input reads as it did. -/
def histoAddsSpec : ChangeSpec := { name := "histoAdds", fn := fun _ => fun
  | [d1, d2, d3] => { results := [.lit (.bool true)], args := [d1, d2, d3] }
  | _ => none }
def histoAddsRow : OpenClaim := { program := "ytgaicojidomenaa", sum := "f4f8220e9b6e75b338155737db2848024a4bc376e2cbc075e320f837db7a4e0e", func := "greenhouse/greenhouselaw04.HistoAdds", spec := "histoAdds", apart := false }
def HistoAddsSaid : Prop := histoAddsRow.holds Try.pinned (OpenSpec.ofChange histoAddsSpec)

/-- ITS FALSE NEIGHBOUR: 'it returns false'. Refute it at one input. -/
def histoAddsWrong : ChangeSpec := { name := "histoAdds", fn := fun _ => fun
  | [d1, d2, d3] => { results := [.lit (.bool false)], args := [d1, d2, d3] }
  | _ => none }
def HistoAddsWrongFalsely : Prop := histoAddsRow.holds Try.pinned (OpenSpec.ofChange histoAddsWrong)

/-- 'greenhouselaw04.HistoHalves': WHATEVER THE INPUT: true; the input reads as it did. -/
def histoHalvesSpec : ChangeSpec := { name := "histoHalves", fn := fun _ => fun
  | [d1, d2, d3, d4] => { results := [.lit (.bool true)], args := [d1, d2, d3, d4] }
  | _ => none }
def histoHalvesRow : OpenClaim := { program := "ytgaicojidomenaa", sum := "f4f8220e9b6e75b338155737db2848024a4bc376e2cbc075e320f837db7a4e0e", func := "greenhouse/greenhouselaw04.HistoHalves", spec := "histoHalves", apart := false }
def HistoHalvesSaid : Prop := histoHalvesRow.holds Try.pinned (OpenSpec.ofChange histoHalvesSpec)

/-- ITS FALSE NEIGHBOUR: 'it returns false'. Refute it at one input. -/
def histoHalvesWrong : ChangeSpec := { name := "histoHalves", fn := fun _ => fun
  | [d1, d2, d3, d4] => { results := [.lit (.bool false)], args := [d1, d2, d3, d4] }
  | _ => none }
def HistoHalvesWrongFalsely : Prop := histoHalvesRow.holds Try.pinned (OpenSpec.ofChange histoHalvesWrong)

/-- 'greenhouselaw04.HistoCuts': WHATEVER THE INPUT: true; the input reads as it did. -/
def histoCutsSpec : ChangeSpec := { name := "histoCuts", fn := fun _ => fun
  | [d1, d2, d3] => { results := [.lit (.bool true)], args := [d1, d2, d3] }
  | _ => none }
def histoCutsRow : OpenClaim := { program := "ytgaicojidomenaa", sum := "f4f8220e9b6e75b338155737db2848024a4bc376e2cbc075e320f837db7a4e0e", func := "greenhouse/greenhouselaw04.HistoCuts", spec := "histoCuts", apart := false }
def HistoCutsSaid : Prop := histoCutsRow.holds Try.pinned (OpenSpec.ofChange histoCutsSpec)

/-- ITS FALSE NEIGHBOUR: 'it returns false'. Refute it at one input. -/
def histoCutsWrong : ChangeSpec := { name := "histoCuts", fn := fun _ => fun
  | [d1, d2, d3] => { results := [.lit (.bool false)], args := [d1, d2, d3] }
  | _ => none }
def HistoCutsWrongFalsely : Prop := histoCutsRow.holds Try.pinned (OpenSpec.ofChange histoCutsWrong)

/-- 'greenhouselaw04.HistoTurns': WHATEVER THE INPUT: true; the input reads as it did. -/
def histoTurnsSpec : ChangeSpec := { name := "histoTurns", fn := fun _ => fun
  | [d1, d2] => { results := [.lit (.bool true)], args := [d1, d2] }
  | _ => none }
def histoTurnsRow : OpenClaim := { program := "ytgaicojidomenaa", sum := "f4f8220e9b6e75b338155737db2848024a4bc376e2cbc075e320f837db7a4e0e", func := "greenhouse/greenhouselaw04.HistoTurns", spec := "histoTurns", apart := false }
def HistoTurnsSaid : Prop := histoTurnsRow.holds Try.pinned (OpenSpec.ofChange histoTurnsSpec)

/-- ITS FALSE NEIGHBOUR: 'it returns false'. Refute it at one input. -/
def histoTurnsWrong : ChangeSpec := { name := "histoTurns", fn := fun _ => fun
  | [d1, d2] => { results := [.lit (.bool false)], args := [d1, d2] }
  | _ => none }
def HistoTurnsWrongFalsely : Prop := histoTurnsRow.holds Try.pinned (OpenSpec.ofChange histoTurnsWrong)

/-- 'greenhouselaw04.HistoSpreads': WHATEVER THE INPUT: true; the input reads as it did. -/
def histoSpreadsSpec : ChangeSpec := { name := "histoSpreads", fn := fun _ => fun
  | [d1, d2, d3] => { results := [.lit (.bool true)], args := [d1, d2, d3] }
  | _ => none }
def histoSpreadsRow : OpenClaim := { program := "ytgaicojidomenaa", sum := "f4f8220e9b6e75b338155737db2848024a4bc376e2cbc075e320f837db7a4e0e", func := "greenhouse/greenhouselaw04.HistoSpreads", spec := "histoSpreads", apart := false }
def HistoSpreadsSaid : Prop := histoSpreadsRow.holds Try.pinned (OpenSpec.ofChange histoSpreadsSpec)

/-- ITS FALSE NEIGHBOUR: 'it returns false'. Refute it at one input. -/
def histoSpreadsWrong : ChangeSpec := { name := "histoSpreads", fn := fun _ => fun
  | [d1, d2, d3] => { results := [.lit (.bool false)], args := [d1, d2, d3] }
  | _ => none }
def HistoSpreadsWrongFalsely : Prop := histoSpreadsRow.holds Try.pinned (OpenSpec.ofChange histoSpreadsWrong)

/-- 'greenhouselaw04.HistoOvers': WHATEVER THE INPUT: true; the input reads as it did. -/
def histoOversSpec : ChangeSpec := { name := "histoOvers", fn := fun _ => fun
  | [d1, d2, d3] => { results := [.lit (.bool true)], args := [d1, d2, d3] }
  | _ => none }
def histoOversRow : OpenClaim := { program := "ytgaicojidomenaa", sum := "f4f8220e9b6e75b338155737db2848024a4bc376e2cbc075e320f837db7a4e0e", func := "greenhouse/greenhouselaw04.HistoOvers", spec := "histoOvers", apart := false }
def HistoOversSaid : Prop := histoOversRow.holds Try.pinned (OpenSpec.ofChange histoOversSpec)

/-- ITS FALSE NEIGHBOUR: 'it returns false'. Refute it at one input. -/
def histoOversWrong : ChangeSpec := { name := "histoOvers", fn := fun _ => fun
  | [d1, d2, d3] => { results := [.lit (.bool false)], args := [d1, d2, d3] }
  | _ => none }
def HistoOversWrongFalsely : Prop := histoOversRow.holds Try.pinned (OpenSpec.ofChange histoOversWrong)

/-- 'greenhouselaw04.HistoOnes': WHATEVER THE INPUT: true; the input reads as it did. -/
def histoOnesSpec : ChangeSpec := { name := "histoOnes", fn := fun _ => fun
  | [d1, d2, d3] => { results := [.lit (.bool true)], args := [d1, d2, d3] }
  | _ => none }
def histoOnesRow : OpenClaim := { program := "ytgaicojidomenaa", sum := "f4f8220e9b6e75b338155737db2848024a4bc376e2cbc075e320f837db7a4e0e", func := "greenhouse/greenhouselaw04.HistoOnes", spec := "histoOnes", apart := false }
def HistoOnesSaid : Prop := histoOnesRow.holds Try.pinned (OpenSpec.ofChange histoOnesSpec)

/-- ITS FALSE NEIGHBOUR: 'it returns false'. Refute it at one input. -/
def histoOnesWrong : ChangeSpec := { name := "histoOnes", fn := fun _ => fun
  | [d1, d2, d3] => { results := [.lit (.bool false)], args := [d1, d2, d3] }
  | _ => none }
def HistoOnesWrongFalsely : Prop := histoOnesRow.holds Try.pinned (OpenSpec.ofChange histoOnesWrong)

/-- 'greenhouselaw05.RingPushes': WHATEVER THE INPUT: true; the input reads as it did. -/
def ringPushesSpec : ChangeSpec := { name := "ringPushes", fn := fun _ => fun
  | [d] => { results := [.lit (.bool true)], args := [d] }
  | _ => none }
def ringPushesRow : OpenClaim := { program := "ytgaicojidomenaa", sum := "f4f8220e9b6e75b338155737db2848024a4bc376e2cbc075e320f837db7a4e0e", func := "greenhouse/greenhouselaw05.RingPushes", spec := "ringPushes", apart := false }
def RingPushesSaid : Prop := ringPushesRow.holds Try.pinned (OpenSpec.ofChange ringPushesSpec)

/-- ITS FALSE NEIGHBOUR: 'it returns false'. Refute it at one input. -/
def ringPushesWrong : ChangeSpec := { name := "ringPushes", fn := fun _ => fun
  | [d] => { results := [.lit (.bool false)], args := [d] }
  | _ => none }
def RingPushesWrongFalsely : Prop := ringPushesRow.holds Try.pinned (OpenSpec.ofChange ringPushesWrong)

/-- 'greenhouselaw05.RingForgets': WHATEVER THE INPUT: true; the input reads as it did. -/
def ringForgetsSpec : ChangeSpec := { name := "ringForgets", fn := fun _ => fun
  | [d1, d2, d3] => { results := [.lit (.bool true)], args := [d1, d2, d3] }
  | _ => none }
def ringForgetsRow : OpenClaim := { program := "ytgaicojidomenaa", sum := "f4f8220e9b6e75b338155737db2848024a4bc376e2cbc075e320f837db7a4e0e", func := "greenhouse/greenhouselaw05.RingForgets", spec := "ringForgets", apart := false }
def RingForgetsSaid : Prop := ringForgetsRow.holds Try.pinned (OpenSpec.ofChange ringForgetsSpec)

/-- ITS FALSE NEIGHBOUR: 'it returns false'. Refute it at one input. -/
def ringForgetsWrong : ChangeSpec := { name := "ringForgets", fn := fun _ => fun
  | [d1, d2, d3] => { results := [.lit (.bool false)], args := [d1, d2, d3] }
  | _ => none }
def RingForgetsWrongFalsely : Prop := ringForgetsRow.holds Try.pinned (OpenSpec.ofChange ringForgetsWrong)

/-- 'greenhouselaw05.RingLong': WHATEVER THE INPUT: true; the input reads as it did. -/
def ringLongSpec : ChangeSpec := { name := "ringLong", fn := fun _ => fun
  | [d1, d2] => { results := [.lit (.bool true)], args := [d1, d2] }
  | _ => none }
def ringLongRow : OpenClaim := { program := "ytgaicojidomenaa", sum := "f4f8220e9b6e75b338155737db2848024a4bc376e2cbc075e320f837db7a4e0e", func := "greenhouse/greenhouselaw05.RingLong", spec := "ringLong", apart := false }
def RingLongSaid : Prop := ringLongRow.holds Try.pinned (OpenSpec.ofChange ringLongSpec)

/-- ITS FALSE NEIGHBOUR: 'it returns false'. Refute it at one input. -/
def ringLongWrong : ChangeSpec := { name := "ringLong", fn := fun _ => fun
  | [d1, d2] => { results := [.lit (.bool false)], args := [d1, d2] }
  | _ => none }
def RingLongWrongFalsely : Prop := ringLongRow.holds Try.pinned (OpenSpec.ofChange ringLongWrong)

/-- 'greenhouselaw05.RingJoins': WHATEVER THE INPUT: true; the input reads as it did. -/
def ringJoinsSpec : ChangeSpec := { name := "ringJoins", fn := fun _ => fun
  | [d1, d2] => { results := [.lit (.bool true)], args := [d1, d2] }
  | _ => none }
def ringJoinsRow : OpenClaim := { program := "ytgaicojidomenaa", sum := "f4f8220e9b6e75b338155737db2848024a4bc376e2cbc075e320f837db7a4e0e", func := "greenhouse/greenhouselaw05.RingJoins", spec := "ringJoins", apart := false }
def RingJoinsSaid : Prop := ringJoinsRow.holds Try.pinned (OpenSpec.ofChange ringJoinsSpec)

/-- ITS FALSE NEIGHBOUR: 'it returns false'. Refute it at one input. -/
def ringJoinsWrong : ChangeSpec := { name := "ringJoins", fn := fun _ => fun
  | [d1, d2] => { results := [.lit (.bool false)], args := [d1, d2] }
  | _ => none }
def RingJoinsWrongFalsely : Prop := ringJoinsRow.holds Try.pinned (OpenSpec.ofChange ringJoinsWrong)

/- THE SECOND FORM. 'bulk': how many values and letters a reading holds, each counted each time it is reached (what is shared counts as often as it is met; a slice's spare places count too). A statement '..UptoSaid' is the law's where the arguments, and the package variables that the reading takes, are together of bulk at most 1048576: NARROWER than '..Said'. Prove '..Said' where nothing that the law and all that it calls make is longer than what came in: it says more and counts as full. Else prove '..UptoSaid'. A law counts once. -/
mutual
def uptoBulk {H : Type} : DataW H → Nat
  | .lit (.string bytes) => bytes.length + 1
  | .lit _ => 1
  | .nil => 1
  | .ptr d => uptoBulk d + 1
  | .slice elems spare => uptoBulkAll elems + uptoBulkAll spare + 1
  | .agg parts => uptoBulkAll parts + 1
  | .iface _ d => uptoBulk d + 1
  | .map entries => uptoBulkEntries entries + 1
  | .held _ => 1
def uptoBulkAll {H : Type} : List (DataW H) → Nat
  | [] => 0
  | d :: r => uptoBulk d + uptoBulkAll r
def uptoBulkEntries {H : Type} : List (Lit × DataW H) → Nat
  | [] => 0
  | x :: r => uptoBulkEntry x + uptoBulkEntries r
def uptoBulkEntry {H : Type} : Lit × DataW H → Nat
  | (.string bytes, d) => bytes.length + uptoBulk d + 1
  | (_, d) => uptoBulk d + 1
 end
def uptoSmall : (H : Type) → List (DataW H) → Bool := fun _ ds => decide (uptoBulkAll ds ≤ 1048576)
def OpenSpec.upto (s : _root_.Go.ChangeSpec) : _root_.Go.OpenSpec := { _root_.Go.OpenSpec.ofChange s with cond := some uptoSmall }

/-- 'greenhouselaw04.HistoAdds', WHERE WHAT IT READS IS OF BULK AT MOST 1048576: true; the input reads as it did. -/
def histoAddsUptoRow : OpenClaim := { program := "ytgaicojidomenaa", sum := "f4f8220e9b6e75b338155737db2848024a4bc376e2cbc075e320f837db7a4e0e", func := "greenhouse/greenhouselaw04.HistoAdds", spec := "histoAdds", apart := false, narrowed := true }
def HistoAddsUptoSaid : Prop := histoAddsUptoRow.holds Try.pinned (OpenSpec.upto histoAddsSpec)

/-- 'greenhouselaw04.HistoHalves', WHERE WHAT IT READS IS OF BULK AT MOST 1048576: true; the input reads as it did. -/
def histoHalvesUptoRow : OpenClaim := { program := "ytgaicojidomenaa", sum := "f4f8220e9b6e75b338155737db2848024a4bc376e2cbc075e320f837db7a4e0e", func := "greenhouse/greenhouselaw04.HistoHalves", spec := "histoHalves", apart := false, narrowed := true }
def HistoHalvesUptoSaid : Prop := histoHalvesUptoRow.holds Try.pinned (OpenSpec.upto histoHalvesSpec)

/-- 'greenhouselaw04.HistoCuts', WHERE WHAT IT READS IS OF BULK AT MOST 1048576: true; the input reads as it did. -/
def histoCutsUptoRow : OpenClaim := { program := "ytgaicojidomenaa", sum := "f4f8220e9b6e75b338155737db2848024a4bc376e2cbc075e320f837db7a4e0e", func := "greenhouse/greenhouselaw04.HistoCuts", spec := "histoCuts", apart := false, narrowed := true }
def HistoCutsUptoSaid : Prop := histoCutsUptoRow.holds Try.pinned (OpenSpec.upto histoCutsSpec)

/-- 'greenhouselaw04.HistoTurns', WHERE WHAT IT READS IS OF BULK AT MOST 1048576: true; the input reads as it did. -/
def histoTurnsUptoRow : OpenClaim := { program := "ytgaicojidomenaa", sum := "f4f8220e9b6e75b338155737db2848024a4bc376e2cbc075e320f837db7a4e0e", func := "greenhouse/greenhouselaw04.HistoTurns", spec := "histoTurns", apart := false, narrowed := true }
def HistoTurnsUptoSaid : Prop := histoTurnsUptoRow.holds Try.pinned (OpenSpec.upto histoTurnsSpec)

/-- 'greenhouselaw04.HistoSpreads', WHERE WHAT IT READS IS OF BULK AT MOST 1048576: true; the input reads as it did. -/
def histoSpreadsUptoRow : OpenClaim := { program := "ytgaicojidomenaa", sum := "f4f8220e9b6e75b338155737db2848024a4bc376e2cbc075e320f837db7a4e0e", func := "greenhouse/greenhouselaw04.HistoSpreads", spec := "histoSpreads", apart := false, narrowed := true }
def HistoSpreadsUptoSaid : Prop := histoSpreadsUptoRow.holds Try.pinned (OpenSpec.upto histoSpreadsSpec)

/-- 'greenhouselaw04.HistoOvers', WHERE WHAT IT READS IS OF BULK AT MOST 1048576: true; the input reads as it did. -/
def histoOversUptoRow : OpenClaim := { program := "ytgaicojidomenaa", sum := "f4f8220e9b6e75b338155737db2848024a4bc376e2cbc075e320f837db7a4e0e", func := "greenhouse/greenhouselaw04.HistoOvers", spec := "histoOvers", apart := false, narrowed := true }
def HistoOversUptoSaid : Prop := histoOversUptoRow.holds Try.pinned (OpenSpec.upto histoOversSpec)

/-- 'greenhouselaw04.HistoOnes', WHERE WHAT IT READS IS OF BULK AT MOST 1048576: true; the input reads as it did. -/
def histoOnesUptoRow : OpenClaim := { program := "ytgaicojidomenaa", sum := "f4f8220e9b6e75b338155737db2848024a4bc376e2cbc075e320f837db7a4e0e", func := "greenhouse/greenhouselaw04.HistoOnes", spec := "histoOnes", apart := false, narrowed := true }
def HistoOnesUptoSaid : Prop := histoOnesUptoRow.holds Try.pinned (OpenSpec.upto histoOnesSpec)

/-- 'greenhouselaw05.RingPushes', WHERE WHAT IT READS IS OF BULK AT MOST 1048576: true; the input reads as it did. -/
def ringPushesUptoRow : OpenClaim := { program := "ytgaicojidomenaa", sum := "f4f8220e9b6e75b338155737db2848024a4bc376e2cbc075e320f837db7a4e0e", func := "greenhouse/greenhouselaw05.RingPushes", spec := "ringPushes", apart := false, narrowed := true }
def RingPushesUptoSaid : Prop := ringPushesUptoRow.holds Try.pinned (OpenSpec.upto ringPushesSpec)

/-- 'greenhouselaw05.RingForgets', WHERE WHAT IT READS IS OF BULK AT MOST 1048576: true; the input reads as it did. -/
def ringForgetsUptoRow : OpenClaim := { program := "ytgaicojidomenaa", sum := "f4f8220e9b6e75b338155737db2848024a4bc376e2cbc075e320f837db7a4e0e", func := "greenhouse/greenhouselaw05.RingForgets", spec := "ringForgets", apart := false, narrowed := true }
def RingForgetsUptoSaid : Prop := ringForgetsUptoRow.holds Try.pinned (OpenSpec.upto ringForgetsSpec)

/-- 'greenhouselaw05.RingLong', WHERE WHAT IT READS IS OF BULK AT MOST 1048576: true; the input reads as it did. -/
def ringLongUptoRow : OpenClaim := { program := "ytgaicojidomenaa", sum := "f4f8220e9b6e75b338155737db2848024a4bc376e2cbc075e320f837db7a4e0e", func := "greenhouse/greenhouselaw05.RingLong", spec := "ringLong", apart := false, narrowed := true }
def RingLongUptoSaid : Prop := ringLongUptoRow.holds Try.pinned (OpenSpec.upto ringLongSpec)

/-- 'greenhouselaw05.RingJoins', WHERE WHAT IT READS IS OF BULK AT MOST 1048576: true; the input reads as it did. -/
def ringJoinsUptoRow : OpenClaim := { program := "ytgaicojidomenaa", sum := "f4f8220e9b6e75b338155737db2848024a4bc376e2cbc075e320f837db7a4e0e", func := "greenhouse/greenhouselaw05.RingJoins", spec := "ringJoins", apart := false, narrowed := true }
def RingJoinsUptoSaid : Prop := ringJoinsUptoRow.holds Try.pinned (OpenSpec.upto ringJoinsSpec)

end Rows
end Go.Proofs.Ytgaicojidomenaa
