/-
  No cell of these rows narrows 'for every input' (looked for: loops, veiled, ifaces, maps, wideKeys, modest, calm, conditions, laid).
  DERIVED. THE GIVEN ROWS OF THIS SEAT. 7 by the template 'for every input the law returns true; each argument reads behind the call as it read before'; 0 by the template 'total and deterministic' (their statements: YtkldoeillkfpbaaTotals.lean).
  GIVEN WITH THE SEED: the statements are not yours to turn. If you find one false, say at which input.
  Laid BY PROGRAM, IN A SANDBOX (cutbox-rows.mjs): the forced cells as the released guide's own fill.sh prints them over the translation f7d355e2992670da… (all of the seat's roots in one cut). By AI agents, Wed Nov 11 2026. No macro, syntax, notation, axiom, sorry.
-/
import Derived.Test.YtkldoeillkfpbaaChecked
import GoSem.Claim
import GoSem.ClaimJoined
import GoSem.ClaimMapViews
import Derived.JoinedTies
import Derived.KernelRfl
namespace Go.Proofs.Ytkldoeillkfpbaa
/- THE CELL 'sum', in the pinned program and in every row, IS THE sha256 OF THE DUMP (.gsa) THAT YtkldoeillkfpbaaProg.lean LOADS. Nothing in Lean hashes anything: it is a label: what it is worth is what the hold of that sum in a sandbox is worth. -/
noncomputable def Try.pinned : Pinned := { name := "ytkldoeillkfpbaa", sum := "f7d355e2992670dacc17d71a57d3403696dee97ad176ddc489b0c43e53d046e9", checked := Try.checked }
namespace Rows
def none {H : Type} : Left H := { results := [], args := [] }

/-- 'greenhouselaw14.TimerActs': WHATEVER THE INPUT: true; the input reads as it did. -/
def timerActsSpec : ChangeSpec := { name := "timerActs", fn := fun _ => fun
  | [d] => { results := [.lit (.bool true)], args := [d] }
  | _ => none }
def timerActsRow : OpenClaim := { program := "ytkldoeillkfpbaa", sum := "f7d355e2992670dacc17d71a57d3403696dee97ad176ddc489b0c43e53d046e9", func := "greenhouse/greenhouselaw14.TimerActs", spec := "timerActs", unfollowed := true, recurses := true, plainKeys := false, apart := false }
def TimerActsSaid : Prop := timerActsRow.holds Try.pinned (OpenSpec.ofChange timerActsSpec)

/-- ITS FALSE NEIGHBOUR: 'it returns false'. Refute it at one input. -/
def timerActsWrong : ChangeSpec := { name := "timerActs", fn := fun _ => fun
  | [d] => { results := [.lit (.bool false)], args := [d] }
  | _ => none }
def TimerActsWrongFalsely : Prop := timerActsRow.holds Try.pinned (OpenSpec.ofChange timerActsWrong)

/-- 'greenhouselaw14.TimerSteps': WHATEVER THE INPUT: true; the input reads as it did. -/
def timerStepsSpec : ChangeSpec := { name := "timerSteps", fn := fun _ => fun
  | [d1, d2] => { results := [.lit (.bool true)], args := [d1, d2] }
  | _ => none }
def timerStepsRow : OpenClaim := { program := "ytkldoeillkfpbaa", sum := "f7d355e2992670dacc17d71a57d3403696dee97ad176ddc489b0c43e53d046e9", func := "greenhouse/greenhouselaw14.TimerSteps", spec := "timerSteps", unfollowed := true, recurses := true, plainKeys := false, apart := false }
def TimerStepsSaid : Prop := timerStepsRow.holds Try.pinned (OpenSpec.ofChange timerStepsSpec)

/-- ITS FALSE NEIGHBOUR: 'it returns false'. Refute it at one input. -/
def timerStepsWrong : ChangeSpec := { name := "timerSteps", fn := fun _ => fun
  | [d1, d2] => { results := [.lit (.bool false)], args := [d1, d2] }
  | _ => none }
def TimerStepsWrongFalsely : Prop := timerStepsRow.holds Try.pinned (OpenSpec.ofChange timerStepsWrong)

/-- 'greenhouselaw14.TimerTurns': WHATEVER THE INPUT: true; the input reads as it did. -/
def timerTurnsSpec : ChangeSpec := { name := "timerTurns", fn := fun _ => fun
  | [d1, d2, d3, d4] => { results := [.lit (.bool true)], args := [d1, d2, d3, d4] }
  | _ => none }
def timerTurnsRow : OpenClaim := { program := "ytkldoeillkfpbaa", sum := "f7d355e2992670dacc17d71a57d3403696dee97ad176ddc489b0c43e53d046e9", func := "greenhouse/greenhouselaw14.TimerTurns", spec := "timerTurns", unfollowed := true, recurses := true, plainKeys := false, apart := false }
def TimerTurnsSaid : Prop := timerTurnsRow.holds Try.pinned (OpenSpec.ofChange timerTurnsSpec)

/-- ITS FALSE NEIGHBOUR: 'it returns false'. Refute it at one input. -/
def timerTurnsWrong : ChangeSpec := { name := "timerTurns", fn := fun _ => fun
  | [d1, d2, d3, d4] => { results := [.lit (.bool false)], args := [d1, d2, d3, d4] }
  | _ => none }
def TimerTurnsWrongFalsely : Prop := timerTurnsRow.holds Try.pinned (OpenSpec.ofChange timerTurnsWrong)

/-- 'greenhouselaw15.TallyActs': WHATEVER THE INPUT: true; the input reads as it did. -/
def tallyActsSpec : ChangeSpec := { name := "tallyActs", fn := fun _ => fun
  | [d] => { results := [.lit (.bool true)], args := [d] }
  | _ => none }
def tallyActsRow : OpenClaim := { program := "ytkldoeillkfpbaa", sum := "f7d355e2992670dacc17d71a57d3403696dee97ad176ddc489b0c43e53d046e9", func := "greenhouse/greenhouselaw15.TallyActs", spec := "tallyActs", inPlace := ["sync/atomic.LoadInt64", "sync/atomic.CompareAndSwapInt64"], unfollowed := true, recurses := true, plainKeys := false, apart := false }
def TallyActsSaid : Prop := tallyActsRow.holds Try.pinned (OpenSpec.ofChange tallyActsSpec)

/-- ITS FALSE NEIGHBOUR: 'it returns false'. Refute it at one input. -/
def tallyActsWrong : ChangeSpec := { name := "tallyActs", fn := fun _ => fun
  | [d] => { results := [.lit (.bool false)], args := [d] }
  | _ => none }
def TallyActsWrongFalsely : Prop := tallyActsRow.holds Try.pinned (OpenSpec.ofChange tallyActsWrong)

/-- 'greenhouselaw15.TallyOnce': WHATEVER THE INPUT: true; the input reads as it did. -/
def tallyOnceSpec : ChangeSpec := { name := "tallyOnce", fn := fun _ => fun
  | [d1, d2] => { results := [.lit (.bool true)], args := [d1, d2] }
  | _ => none }
def tallyOnceRow : OpenClaim := { program := "ytkldoeillkfpbaa", sum := "f7d355e2992670dacc17d71a57d3403696dee97ad176ddc489b0c43e53d046e9", func := "greenhouse/greenhouselaw15.TallyOnce", spec := "tallyOnce", inPlace := ["sync/atomic.LoadInt64", "sync/atomic.CompareAndSwapInt64", "sync/atomic.LoadUint32", "sync/atomic.StoreUint32", "(*internal/sync.Mutex).Lock", "internal/race.Disable", "sync/atomic.CompareAndSwapInt32", "internal/race.Enable", "internal/race.Acquire", "(*internal/sync.Mutex).lockSlow", "internal/sync.runtime_canSpin", "internal/sync.runtime_doSpin", "internal/sync.throw", "internal/sync.runtime_nanotime", "internal/sync.runtime_SemacquireMutex", "sync/atomic.AddInt32", "(*internal/sync.Mutex).Unlock", "internal/race.ReleaseMerge", "(*internal/sync.Mutex).unlockSlow", "internal/sync.fatal", "internal/sync.runtime_Semrelease"], unfollowed := true, recurses := true, plainKeys := false, apart := false }
def TallyOnceSaid : Prop := tallyOnceRow.holds Try.pinned (OpenSpec.ofChange tallyOnceSpec)

/-- ITS FALSE NEIGHBOUR: 'it returns false'. Refute it at one input. -/
def tallyOnceWrong : ChangeSpec := { name := "tallyOnce", fn := fun _ => fun
  | [d1, d2] => { results := [.lit (.bool false)], args := [d1, d2] }
  | _ => none }
def TallyOnceWrongFalsely : Prop := tallyOnceRow.holds Try.pinned (OpenSpec.ofChange tallyOnceWrong)

/-- 'greenhouselaw15.TallySums': WHATEVER THE INPUT: true; the input reads as it did. -/
def tallySumsSpec : ChangeSpec := { name := "tallySums", fn := fun _ => fun
  | [d1, d2] => { results := [.lit (.bool true)], args := [d1, d2] }
  | _ => none }
def tallySumsRow : OpenClaim := { program := "ytkldoeillkfpbaa", sum := "f7d355e2992670dacc17d71a57d3403696dee97ad176ddc489b0c43e53d046e9", func := "greenhouse/greenhouselaw15.TallySums", spec := "tallySums", inPlace := ["sync/atomic.LoadInt64", "sync/atomic.CompareAndSwapInt64"], unfollowed := true, recurses := true, plainKeys := false, apart := false }
def TallySumsSaid : Prop := tallySumsRow.holds Try.pinned (OpenSpec.ofChange tallySumsSpec)

/-- ITS FALSE NEIGHBOUR: 'it returns false'. Refute it at one input. -/
def tallySumsWrong : ChangeSpec := { name := "tallySums", fn := fun _ => fun
  | [d1, d2] => { results := [.lit (.bool false)], args := [d1, d2] }
  | _ => none }
def TallySumsWrongFalsely : Prop := tallySumsRow.holds Try.pinned (OpenSpec.ofChange tallySumsWrong)

/-- 'greenhouselaw15.TallyMosts': WHATEVER THE INPUT: true; the input reads as it did. -/
def tallyMostsSpec : ChangeSpec := { name := "tallyMosts", fn := fun _ => fun
  | [d] => { results := [.lit (.bool true)], args := [d] }
  | _ => none }
def tallyMostsRow : OpenClaim := { program := "ytkldoeillkfpbaa", sum := "f7d355e2992670dacc17d71a57d3403696dee97ad176ddc489b0c43e53d046e9", func := "greenhouse/greenhouselaw15.TallyMosts", spec := "tallyMosts", inPlace := ["sync/atomic.LoadInt64", "sync/atomic.CompareAndSwapInt64"], unfollowed := true, recurses := true, plainKeys := false, apart := false }
def TallyMostsSaid : Prop := tallyMostsRow.holds Try.pinned (OpenSpec.ofChange tallyMostsSpec)

/-- ITS FALSE NEIGHBOUR: 'it returns false'. Refute it at one input. -/
def tallyMostsWrong : ChangeSpec := { name := "tallyMosts", fn := fun _ => fun
  | [d] => { results := [.lit (.bool false)], args := [d] }
  | _ => none }
def TallyMostsWrongFalsely : Prop := tallyMostsRow.holds Try.pinned (OpenSpec.ofChange tallyMostsWrong)

/- THE SECOND FORM. 'bulk': how many values and letters a reading holds, each counted each time it is reached (what is shared counts as often as it is met; a slice's spare places count too). A statement '..UptoSaid' is the law's where the arguments, and the package variables that the reading takes, are together of bulk at most 1048576: NARROWER than '..Said'. Prove '..Said' where nothing that the law and all that it calls make is longer than what came in: it says more and counts as full. Else prove '..UptoSaid'. A law counts once. -/
mutual
def uptoBulk {H : Type} : DataW H → Nat
  | .lit (.string bytes) => bytes.length + 1
  | .lit _ => 1
  | .nil => 1
  | .ptr d => uptoBulk d + 1
  | .slice elems spare => uptoBulkAll elems + uptoBulkAll spare + 1
  | .agg parts => uptoBulkAll parts + 1
  | .iface _ d => uptoBulk d + 1
  | .map entries => uptoBulkEntries entries + 1
  | .held _ => 1
def uptoBulkAll {H : Type} : List (DataW H) → Nat
  | [] => 0
  | d :: r => uptoBulk d + uptoBulkAll r
def uptoBulkEntries {H : Type} : List (Lit × DataW H) → Nat
  | [] => 0
  | x :: r => uptoBulkEntry x + uptoBulkEntries r
def uptoBulkEntry {H : Type} : Lit × DataW H → Nat
  | (.string bytes, d) => bytes.length + uptoBulk d + 1
  | (_, d) => uptoBulk d + 1
 end
def uptoSmall : (H : Type) → List (DataW H) → Bool := fun _ ds => decide (uptoBulkAll ds ≤ 1048576)
def OpenSpec.upto (s : _root_.Go.ChangeSpec) : _root_.Go.OpenSpec := { _root_.Go.OpenSpec.ofChange s with cond := some uptoSmall }

/-- 'greenhouselaw14.TimerActs', WHERE WHAT IT READS IS OF BULK AT MOST 1048576: true; the input reads as it did. -/
def timerActsUptoRow : OpenClaim := { program := "ytkldoeillkfpbaa", sum := "f7d355e2992670dacc17d71a57d3403696dee97ad176ddc489b0c43e53d046e9", func := "greenhouse/greenhouselaw14.TimerActs", spec := "timerActs", unfollowed := true, recurses := true, plainKeys := false, apart := false, narrowed := true }
def TimerActsUptoSaid : Prop := timerActsUptoRow.holds Try.pinned (OpenSpec.upto timerActsSpec)

/-- 'greenhouselaw14.TimerSteps', WHERE WHAT IT READS IS OF BULK AT MOST 1048576: true; the input reads as it did. -/
def timerStepsUptoRow : OpenClaim := { program := "ytkldoeillkfpbaa", sum := "f7d355e2992670dacc17d71a57d3403696dee97ad176ddc489b0c43e53d046e9", func := "greenhouse/greenhouselaw14.TimerSteps", spec := "timerSteps", unfollowed := true, recurses := true, plainKeys := false, apart := false, narrowed := true }
def TimerStepsUptoSaid : Prop := timerStepsUptoRow.holds Try.pinned (OpenSpec.upto timerStepsSpec)

/-- 'greenhouselaw14.TimerTurns', WHERE WHAT IT READS IS OF BULK AT MOST 1048576: true; the input reads as it did. -/
def timerTurnsUptoRow : OpenClaim := { program := "ytkldoeillkfpbaa", sum := "f7d355e2992670dacc17d71a57d3403696dee97ad176ddc489b0c43e53d046e9", func := "greenhouse/greenhouselaw14.TimerTurns", spec := "timerTurns", unfollowed := true, recurses := true, plainKeys := false, apart := false, narrowed := true }
def TimerTurnsUptoSaid : Prop := timerTurnsUptoRow.holds Try.pinned (OpenSpec.upto timerTurnsSpec)

/-- 'greenhouselaw15.TallyActs', WHERE WHAT IT READS IS OF BULK AT MOST 1048576: true; the input reads as it did. -/
def tallyActsUptoRow : OpenClaim := { program := "ytkldoeillkfpbaa", sum := "f7d355e2992670dacc17d71a57d3403696dee97ad176ddc489b0c43e53d046e9", func := "greenhouse/greenhouselaw15.TallyActs", spec := "tallyActs", inPlace := ["sync/atomic.LoadInt64", "sync/atomic.CompareAndSwapInt64"], unfollowed := true, recurses := true, plainKeys := false, apart := false, narrowed := true }
def TallyActsUptoSaid : Prop := tallyActsUptoRow.holds Try.pinned (OpenSpec.upto tallyActsSpec)

/-- 'greenhouselaw15.TallyOnce', WHERE WHAT IT READS IS OF BULK AT MOST 1048576: true; the input reads as it did. -/
def tallyOnceUptoRow : OpenClaim := { program := "ytkldoeillkfpbaa", sum := "f7d355e2992670dacc17d71a57d3403696dee97ad176ddc489b0c43e53d046e9", func := "greenhouse/greenhouselaw15.TallyOnce", spec := "tallyOnce", inPlace := ["sync/atomic.LoadInt64", "sync/atomic.CompareAndSwapInt64", "sync/atomic.LoadUint32", "sync/atomic.StoreUint32", "(*internal/sync.Mutex).Lock", "internal/race.Disable", "sync/atomic.CompareAndSwapInt32", "internal/race.Enable", "internal/race.Acquire", "(*internal/sync.Mutex).lockSlow", "internal/sync.runtime_canSpin", "internal/sync.runtime_doSpin", "internal/sync.throw", "internal/sync.runtime_nanotime", "internal/sync.runtime_SemacquireMutex", "sync/atomic.AddInt32", "(*internal/sync.Mutex).Unlock", "internal/race.ReleaseMerge", "(*internal/sync.Mutex).unlockSlow", "internal/sync.fatal", "internal/sync.runtime_Semrelease"], unfollowed := true, recurses := true, plainKeys := false, apart := false, narrowed := true }
def TallyOnceUptoSaid : Prop := tallyOnceUptoRow.holds Try.pinned (OpenSpec.upto tallyOnceSpec)

/-- 'greenhouselaw15.TallySums', WHERE WHAT IT READS IS OF BULK AT MOST 1048576: true; the input reads as it did. -/
def tallySumsUptoRow : OpenClaim := { program := "ytkldoeillkfpbaa", sum := "f7d355e2992670dacc17d71a57d3403696dee97ad176ddc489b0c43e53d046e9", func := "greenhouse/greenhouselaw15.TallySums", spec := "tallySums", inPlace := ["sync/atomic.LoadInt64", "sync/atomic.CompareAndSwapInt64"], unfollowed := true, recurses := true, plainKeys := false, apart := false, narrowed := true }
def TallySumsUptoSaid : Prop := tallySumsUptoRow.holds Try.pinned (OpenSpec.upto tallySumsSpec)

/-- 'greenhouselaw15.TallyMosts', WHERE WHAT IT READS IS OF BULK AT MOST 1048576: true; the input reads as it did. -/
def tallyMostsUptoRow : OpenClaim := { program := "ytkldoeillkfpbaa", sum := "f7d355e2992670dacc17d71a57d3403696dee97ad176ddc489b0c43e53d046e9", func := "greenhouse/greenhouselaw15.TallyMosts", spec := "tallyMosts", inPlace := ["sync/atomic.LoadInt64", "sync/atomic.CompareAndSwapInt64"], unfollowed := true, recurses := true, plainKeys := false, apart := false, narrowed := true }
def TallyMostsUptoSaid : Prop := tallyMostsUptoRow.holds Try.pinned (OpenSpec.upto tallyMostsSpec)

end Rows
end Go.Proofs.Ytkldoeillkfpbaa
