/- Windows by counts and the last few idle times: no program. -/
import Derived.Test.YtocnaopjefhbjaaHistoM
import Derived.Test.YtocnaopjefhbjaaCastM
namespace Go.Proofs.Ytocnaopjefhbjaa.W
open Go.RowKit

/-- A Window as a value. -/
abbrev Win (h p e : Int) : Value := .agg #[.int .i64 h, .int .i64 p, .int .i64 e]
def preN (n : Int) : Int := n * 85 / 100
def endN (n : Int) : Int := max ((n * 115 + 99) / 100) (n * 85 / 100 + 1)
def preC (a : Nat) : Int := (a : Int) * 9 / 10
def endC (b : Nat) : Int := ((b : Int) * 11 + 20) / 10
/-- The window of counts and the last few. -/
def win (F : Nat → Nat) (o : Nat) (ys : List Int) : Value :=
  if tot F + o < 4 then Win 0 0 10 else if tot F + o < 2 * o then Win 2 (preN (nextI ys)) (endN (nextI ys)) else if spreadB F = true then Win 1 (preC (cutN F 5)) (endC (cutN F 99)) else Win 0 0 10
theorem win_few {F : Nat → Nat} {o : Nat} {ys : List Int} (h : tot F + o < 4) : win F o ys = Win 0 0 10 := by unfold win; rw [if_pos h]
theorem win_next {F : Nat → Nat} {o : Nat} {ys : List Int} (h : 4 ≤ tot F + o) (h2 : tot F + o < 2 * o) : win F o ys = Win 2 (preN (nextI ys)) (endN (nextI ys)) := by unfold win; rw [if_neg (by omega), if_pos h2]
theorem win_hist {F : Nat → Nat} {o : Nat} {ys : List Int} (h : 4 ≤ tot F + o) (h2 : 2 * o ≤ tot F + o) (h3 : spreadB F = true) : win F o ys = Win 1 (preC (cutN F 5)) (endC (cutN F 99)) := by unfold win; rw [if_neg (by omega), if_neg (by omega), if_pos h3]
theorem win_not {F : Nat → Nat} {o : Nat} {ys : List Int} (h : 4 ≤ tot F + o) (h2 : 2 * o ≤ tot F + o) (h3 : spreadB F = false) : win F o ys = Win 0 0 10 := by unfold win; rw [if_neg (by omega), if_neg (by omega), if_neg (by rw [h3]; simp)]

theorem frac85 {n : Int} (h0 : 0 ≤ n) (h1 : n ≤ 1099511627776) : fracI n 85 100 = preN n := by
  unfold fracI preN; rw [if_neg (by unfold Bad; omega)]; omega
theorem frac115 {n : Int} (h0 : 0 ≤ n) (h1 : n ≤ 1099511627776) : fracUpI n 115 100 = (n * 115 + 99) / 100 := by
  unfold fracUpI; rw [if_neg (by unfold Bad; omega)]; split <;> omega
theorem frac9 {a : Nat} (h : a < 240) : fracI (a : Int) 9 10 = preC a := by
  unfold fracI preC; rw [if_neg (by unfold Bad; omega)]; omega
theorem frac11 {b : Nat} (h : b < 240) : fracUpI ((b : Int) + 1) 11 10 = endC b := by
  unfold fracUpI endC; rw [if_neg (by unfold Bad; omega)]; split <;> omega
theorem cut_lt (F : Nat → Nat) (P : Nat) : cutN F P < 240 := by
  unfold cutN
  cases hq : (List.range 240).find? (fun j => decide (okC F P j)) with
  | none => simp
  | some c => have := ((List.find?_range_eq_some (n := 240) (i := c)).1 hq).2.1; simpa using this
/-- Whatever window: three numbers, the end above the beginning. -/
theorem win_form (F : Nat → Nat) (o : Nat) (ys : List Int) : ∃ h p e : Int, win F o ys = Win h p e ∧ 0 ≤ p ∧ p < e ∧ e ≤ 1264438371943 := by
  obtain ⟨n0, n1⟩ := next_range ys
  have c1 := cut_lt F 99
  have c2 := cut_lt F 5
  by_cases h1 : tot F + o < 4
  · exact ⟨0, 0, 10, win_few h1, by omega, by omega, by omega⟩
  by_cases h2 : tot F + o < 2 * o
  · refine ⟨_, _, _, win_next (by omega) h2, ?_, ?_, ?_⟩ <;> (try unfold preN) <;> (try unfold endN) <;> omega
  by_cases h3 : spreadB F = true
  · by_cases h0 : 0 < tot F
    · refine ⟨_, _, _, win_hist (by omega) (by omega) h3, ?_, ?_, ?_⟩
      · unfold preC; omega
      · have hk : cutN F 5 ≤ cutN F 99 := by
          obtain ⟨a1, a2, a3⟩ := cutN_ok (F := F) (P := 5) h0 (by omega)
          obtain ⟨b1, b2, b3⟩ := cutN_ok (F := F) (P := 99) h0 (by omega)
          rcases Nat.lt_or_ge (cutN F 99) (cutN F 5) with q | q
          · exact absurd ⟨b1.1, by have := b1.2; omega⟩ (a3 _ q)
          · exact q
        unfold preC endC; omega
      · unfold endC; omega
    · unfold spreadB at h3; simp at h3; omega
  · exact ⟨0, 0, 10, win_not (by omega) (by omega) (by simpa using h3), by omega, by omega, by omega⟩
end Go.Proofs.Ytocnaopjefhbjaa.W
