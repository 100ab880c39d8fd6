/- The law HistoSpreads: its walk. -/
import Derived.Test.YtocnaopjefhbjaaHistoE
namespace Go.Proofs.Ytocnaopjefhbjaa.W
open Go.RowKit

theorem Hs.ext {w : World} {r o : Nat} {F G : Nat → Nat} (h : Hs w r F o) (he : ∀ j, j < 240 → F j = G j) : Hs w r G o := by
  have e1 : tot F = tot G := sumTo_ext 240 he
  have e2 : bins F = bins G := bins_ext he
  obtain ⟨a, b⟩ := h
  rw [e1] at a b
  rw [e2] at b
  exact ⟨a, b⟩
def F2 (i b : Nat) : Nat → Nat := fun j => i + if j < b then 1 else 0
theorem F2_sum (i b : Nat) : ∀ n, sumTo (F2 i b) n = n * i + min n b
  | 0 => by simp [sumTo]
  | n + 1 => by
    simp only [sumTo]
    rw [F2_sum i b n, Nat.succ_mul]
    unfold F2
    generalize n * i = z
    split <;> omega
theorem F2_tot {i b : Nat} (h : b ≤ 240) : tot (F2 i b) = 240 * i + b := by unfold tot; rw [F2_sum]; omega
theorem F2_next (i b : Nat) : aF (F2 i b) (b : Int) = F2 i (b + 1) := by
  funext j
  unfold aF F2
  split <;> split <;> split <;> omega
theorem F2_over {b : Nat} (h : b < 240) : aO 0 (b : Int) = 0 := by unfold aO; rw [if_neg (by omega)]
theorem F2_turn (i : Nat) : ∀ j, j < 240 → F2 i 240 j = F2 (i + 1) 0 j := by intro j hj; unfold F2; rw [if_pos hj, if_neg (by omega)]
theorem sumTo_const (c : Nat) : ∀ n, sumTo (fun _ => c) n = n * c
  | 0 => by simp [sumTo]
  | n + 1 => by simp only [sumTo]; rw [sumTo_const c n, Nat.succ_mul]
theorem spread_flat {i : Nat} (h : 0 < i) : spreadB (F2 i 0) = false := by
  have e1 : tot (F2 i 0) = 240 * i := by rw [F2_tot (by omega)]; omega
  have e2 : sumTo (sq (F2 i 0)) 240 = 240 * (i * i) := by
    rw [show sq (F2 i 0) = fun _ => i * i by funext j; unfold sq F2; simp, sumTo_const]
  rw [spread_is e1 e2]
  have e3 : 5 * (240 * i) * (240 * i) = 288000 * (i * i) := by
    rw [← Nat.mul_assoc 5 240 i, Nat.mul_assoc (5 * 240) i (240 * i), ← Nat.mul_assoc i 240 i, Nat.mul_comm i 240, Nat.mul_assoc 240 i i, ← Nat.mul_assoc]
  rw [e3]
  have : 0 < i * i := Nat.mul_pos h h
  simp; omega
theorem spread_rep {n t : Nat} (hn : 0 < n) (ht : t < 240) : spreadB (cnt (List.replicate n (t : Int))) = true := by
  have e1 : tot (cnt (List.replicate n (t : Int))) = n := by rw [rep_tot, if_pos ht]
  have e2 : sumTo (sq (cnt (List.replicate n (t : Int)))) 240 = n * n := by
    rw [show sq (cnt (List.replicate n (t : Int))) = fun j => if j = t then n * n else 0 by
      funext j; unfold sq; rw [cnt_rep]; by_cases h : j = t <;> simp [h], sumTo_one, if_pos ht]
  rw [spread_is e1 e2]
  have e3 : 5 * n * n = 5 * (n * n) := Nat.mul_assoc _ _ _
  rw [e3]
  simp; omega
theorem spread_none : spreadB (fun _ => 0) = false := by unfold spreadB; rw [tot, sumTo_zero]; simp
end Go.Proofs.Ytocnaopjefhbjaa.W
