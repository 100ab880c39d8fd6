import Derived.Test.YthdengocipfgiaaGreatCdD
import Derived.Test.YthdengocipfgiaaGreatCcN
import Derived.BigQuiet
/- A part of what core's laws stand on. -/
set_option linter.unusedVariables false
set_option linter.unusedSimpArgs false
namespace Go.Proofs.YthdengocipfgiaaGreat.W.C
open Go.RowKit Go.Proofs.YthdengocipfgiaaGreat.W
attribute [local go_sem] Oper.semAt_some
theorem Wk.drewN_ {w:World} {o:Nat→Option Tag} {c:Nat} {s:St} (h:Wk w o c s) (j:Nat):Wk (w.drewN j) o c s:=h.below (below_drewN (Below.refl _ _) j)
theorem Far.drewN_ {w w':World} {o:Nat→Option Tag} (h:Far w o w') (j:Nat):Far w o (w'.drewN j):=⟨below_drewN h.1 j,h.2⟩
def Rw (w:World) (c1:Nat) (s1:St) (sb:Nat) (MZ:Int→Option Value) (cz yb:Nat) (MB:Int→Option Value) (cb:Nat) (W:World):Prop :=
 ∃ o,Wk W o c1 s1∧Far w o W∧(Mp Tryz.prog 3 W sb MZ cz∧Fs W o sb)∧(Mp Tryz.prog 3 W yb MB cb∧Fs W o yb)
theorem Rw.drewN {w:World} {c1:Nat} {s1:St} {sb:Nat} {MZ:Int→Option Value} {cz yb:Nat} {MB:Int→Option Value} {cb:Nat} {W:World} (h:Rw w c1 s1 sb MZ cz yb MB cb W) (j:Nat):Rw w c1 s1 sb MZ cz yb MB cb (W.drewN j):=by
 obtain ⟨o,h1,h2,h3,h4⟩:=h;have q:Only W (W.drewN j) (fun _=>False):=(Only.refl W _).drewN j;exact ⟨o,h1.drewN_ j,h2.drewN_ j,⟨h3.1.kept q (fun q=>q),h3.2⟩,h4.1.kept q (fun q=>q),h4.2⟩
end Go.Proofs.YthdengocipfgiaaGreat.W.C
