/- Package audit's law: a step. Made by mk_auys.py. -/
import Derived.Test.YtgpookphacdgoaaAuY0
import Derived.Test.YtgpookphacdgoaaAuY2
import Derived.Test.YtgpookphacdgoaaAuY3
import Derived.Test.YtgpookphacdgoaaAuY5
import Derived.Test.YtgpookphacdgoaaAuY7
import Derived.Test.YtgpookphacdgoaaAuY8
import Derived.Test.YtgpookphacdgoaaAuY9
import Derived.Test.YtgpookphacdgoaaAuZ2
import Derived.Test.YtgpookphacdgoaaAuZ3
import Derived.Test.YtgpookphacdgoaaAuZ4
namespace Go.Proofs.Ytgpookphacdgoaa.W.U
open Go.RowKit Go.Maps Go.ChangeMaps Go.MapKept Go.Proofs.Ytgpookphacdgoaa.W

set_option maxRecDepth 100000 in
set_option maxHeartbeats 3200000 in
theorem l_step {w : World} {q gs gm : Nat} {G : Option Nat} {W : Wd} {N : Nat} (h : Wl w q gs gm G W N) {e0 e1 e2 e3 e4 e5 e6 e7 e8 e9 a0 a1 a2 a3 : Int} {sA : Option Addr} {sl sc : Nat} {B : Nat} {cs : List Cmd} (hcs : cs.length = sl) (hcl : CL w B sA cs) (hcw : ∀ c ∈ cs, cwf c) (hB : B ≤ w.heap.size ∧ ∀ j, Ow q gs gm G j → B ≤ j) (hN : N + 2 * sl + 2 < 1048570) : Calls Try.prog 10 #[ptr q, .agg #[.int .i64 e0, .int .i64 e1, .int .i64 e2, .int .i64 e3, .int .i64 e4, .int .i64 e5, .int .i64 e6, .int .i64 e7, .int .i64 e8, .int .i64 e9, .int .i64 a0, .int .i64 a1, .int .i64 a2, .int .i64 a3, .slice sA sl sc]] w (Lr w q gs gm G (N + 2 * sl + 2) (stp W (⟨e0, e1, e2, e3, e4, e5, e6, e7, e8, e9⟩, ⟨a0, a1, a2, a3⟩, cs))) := by
  by_cases hr : right ⟨e0, e1, e2, e3, e4, e5, e6, e7, e8, e9⟩
  · by_cases ha : okA ⟨a0, a1, a2, a3⟩
    · by_cases h1 : a0 = 1
      · subst h1
        rw [stp_ref hr ha rfl]
        by_cases hsl : sl = 0
        · rw [if_pos (List.length_eq_zero_iff.1 (by omega))]; exact (l_step3y h hr ha hsl).mono fun _ _ k => k.up (by omega)
        · rw [if_neg (fun t => hsl (by rw [← hcs, t]; rfl))]; exact (l_step3n h hr ha hsl).mono fun _ _ k => k.up (by omega)
      · by_cases h6 : e0 = 6
        · subst h6
          have ht := ha
          unfold okA at ht
          rcases ht with ⟨t, _⟩ | ⟨t, _⟩ | ⟨t | t, _⟩ | ⟨t, _⟩
          · dsimp only at t; subst t; exact (l_step5 h hr ha).mono fun _ _ k => k.up (by omega)
          · exact absurd t h1
          · dsimp only at t; subst t; exact l_step62 h hcs hcl hcw hB hN hr ha
          · dsimp only at t; subst t; exact l_step63 h hcs hcl hcw hB hN hr ha
          · dsimp only at t; subst t; exact l_step64 h hcs hcl hcw hB hN hr ha
        · by_cases h0 : a0 = 0
          · subst h0
            by_cases k3 : e0 = 3
            · subst k3; exact l_stepK3 h hcs hcl hcw hB hN hr ha
            by_cases k2 : e0 = 2
            · subst k2; exact l_stepK2 h hcs hcl hcw hB hN hr ha
            by_cases k5 : e0 = 5
            · subst k5; exact l_stepK5 h hcs hcl hcw hB hN hr ha
            by_cases k7 : e0 = 7
            · subst k7; exact l_stepK7 h hcs hcl hcw hB hN hr ha
            by_cases k8 : e0 = 8
            · subst k8; exact l_stepK8 h hcs hcl hcw hB hN hr ha
            by_cases k9 : e0 = 9
            · subst k9; exact l_stepK9 h hcs hcl hcw hB hN hr ha
            exact l_stepX h hcs hcl hcw hB hN hr ha k3 k2 k5 h6 k7 k8 k9
          · exact (l_step4 h hr ha h1 h0 h6).mono fun _ _ k => k.up (by omega)
    · exact (l_step2 h hr ha).mono fun _ _ k => k.up (by omega)
  · exact (l_step1 h hr).mono fun _ _ k => k.up (by omega)

end Go.Proofs.Ytgpookphacdgoaa.W.U
