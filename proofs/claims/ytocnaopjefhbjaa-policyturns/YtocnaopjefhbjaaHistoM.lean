/- Counts as functions, their sums, cuts and spread: plain arithmetic. -/
import Derived.Test.YtocnaopjefhbjaaBlk
namespace Go.Proofs.Ytocnaopjefhbjaa.W
open Go.RowKit

def sumTo (F : Nat → Nat) : Nat → Nat
  | 0 => 0
  | n + 1 => sumTo F n + F n
def tot (F : Nat → Nat) : Nat := sumTo F 240
def bins (F : Nat → Nat) : List Value := (List.range 240).map (fun j => Value.int .i64 (F j : Int))
theorem bins_len (F : Nat → Nat) : (bins F).length = 240 := by simp [bins]
theorem bins_at (F : Nat → Nat) {j : Nat} (h : j < 240) : (bins F)[j]? = some (.int .i64 (F j : Int)) := by
  unfold bins; rw [List.getElem?_map, List.getElem?_range h]; rfl
theorem bins_ext {F G : Nat → Nat} (h : ∀ j, j < 240 → F j = G j) : bins F = bins G := by
  apply List.ext_getElem?
  intro j
  rcases Nat.lt_or_ge j 240 with q | q
  · rw [bins_at _ q, bins_at _ q, h j q]
  · rw [List.getElem?_eq_none (by rw [bins_len]; exact q), List.getElem?_eq_none (by rw [bins_len]; exact q)]
theorem bins_set (F G : Nat → Nat) {j : Nat} (h : j < 240) (x : Int) (hx : x = (G j : Int)) (ho : ∀ k, k < 240 → k ≠ j → G k = F k) : (bins F).set j (.int .i64 x) = bins G := by
  apply List.ext_getElem?
  intro k
  rcases Nat.lt_or_ge k 240 with q | q
  · rw [List.getElem?_set, bins_len, bins_at G q]
    by_cases e : j = k
    · subst e; simp [h, hx]
    · rw [if_neg e, bins_at F q, ho k q (fun h => e h.symm)]
  · rw [List.getElem?_eq_none (by rw [List.length_set, bins_len]; exact q), List.getElem?_eq_none (by rw [bins_len]; exact q)]
theorem bins_zero : bins (fun _ => 0) = List.replicate 240 (.int .i64 0) := by
  apply List.ext_getElem?
  intro j
  rcases Nat.lt_or_ge j 240 with q | q
  · rw [bins_at _ q, List.getElem?_replicate, if_pos q]; rfl
  · rw [List.getElem?_eq_none (by rw [bins_len]; exact q), List.getElem?_eq_none (by rw [List.length_replicate]; exact q)]

theorem sumTo_ext {F G : Nat → Nat} : ∀ n, (∀ j, j < n → F j = G j) → sumTo F n = sumTo G n
  | 0, _ => rfl
  | n + 1, h => by simp only [sumTo]; rw [sumTo_ext n (fun j hj => h j (by omega)), h n (by omega)]
theorem sumTo_mono (F : Nat → Nat) {m n : Nat} (h : m ≤ n) : sumTo F m ≤ sumTo F n := by
  induction n with
  | zero => obtain rfl : m = 0 := by omega
            exact Nat.le_refl _
  | succ n ih =>
    rcases Nat.lt_or_ge m (n + 1) with q | q
    · have := ih (by omega); simp only [sumTo]; omega
    · obtain rfl : m = n + 1 := by omega
      exact Nat.le_refl _
theorem sumTo_add (F G : Nat → Nat) : ∀ n, sumTo (fun j => F j + G j) n = sumTo F n + sumTo G n
  | 0 => rfl
  | n + 1 => by simp only [sumTo, sumTo_add F G n]; omega
theorem sumTo_one (a c : Nat) : ∀ n, sumTo (fun j => if j = a then c else 0) n = if a < n then c else 0
  | 0 => by simp [sumTo]
  | n + 1 => by
    simp only [sumTo, sumTo_one a c n]
    by_cases h1 : a < n
    · rw [if_pos h1, if_neg (by omega), if_pos (by omega)]; rfl
    · rw [if_neg h1]
      by_cases h2 : n = a
      · rw [if_pos h2, if_pos (by omega)]; omega
      · rw [if_neg h2, if_neg (by omega)]
theorem sumTo_zero : ∀ n, sumTo (fun _ => 0) n = 0
  | 0 => rfl
  | n + 1 => by simp only [sumTo, sumTo_zero n]
theorem sumTo_half (F : Nat → Nat) : ∀ n, 2 * sumTo (fun j => F j / 2) n ≤ sumTo F n
  | 0 => by simp [sumTo]
  | n + 1 => by have := sumTo_half F n; simp only [sumTo]; omega
theorem le_sumTo (F : Nat → Nat) {j n : Nat} (h : j < n) : F j ≤ sumTo F n := by
  have := sumTo_mono F (show j + 1 ≤ n by omega)
  simp only [sumTo] at this; omega
theorem sumTo_sq (F : Nat → Nat) : ∀ n, sumTo (fun j => F j * F j) n ≤ sumTo F n * sumTo F n
  | 0 => by simp [sumTo]
  | n + 1 => by
    have := sumTo_sq F n
    simp only [sumTo]
    rw [Nat.add_mul, Nat.mul_add, Nat.mul_add]
    generalize F n * F n = a at *
    generalize sumTo F n * sumTo F n = b at *
    omega

/-- One idle time more. -/
def aF (F : Nat → Nat) (x : Int) : Nat → Nat := fun j => F j + if (j : Int) = x then 1 else 0
def aO (o : Nat) (x : Int) : Nat := o + if 240 ≤ x then 1 else 0
theorem sumTo_aF (F : Nat → Nat) (x : Int) : ∀ n, sumTo (aF F x) n = sumTo F n + if 0 ≤ x ∧ x < n then 1 else 0
  | 0 => by simp only [sumTo]; rw [if_neg (by omega)]
  | n + 1 => by
    simp only [sumTo, sumTo_aF F x n, aF]
    split <;> split <;> split <;> omega
theorem tot_aF (F : Nat → Nat) (x : Int) : tot (aF F x) = tot F + if 0 ≤ x ∧ x < 240 then 1 else 0 := sumTo_aF F x 240
theorem tot_in {F : Nat → Nat} {x : Int} (h0 : 0 ≤ x) (h1 : x < 240) : tot (aF F x) = tot F + 1 := by rw [tot_aF, if_pos ⟨h0, h1⟩]
theorem tot_out {F : Nat → Nat} {x : Int} (h : x < 0 ∨ 240 ≤ x) : tot (aF F x) = tot F := by rw [tot_aF, if_neg (by omega), Nat.add_zero]
theorem tot_aO (F : Nat → Nat) (o : Nat) (x : Int) : tot (aF F x) + aO o x = tot F + o + if 0 ≤ x then 1 else 0 := by
  rw [tot_aF]; unfold aO; split <;> split <;> split <;> omega

/-- Counts of a list of idle times. -/
def cnt (xs : List Int) : Nat → Nat := fun j => xs.count (j : Int)
def cntO (xs : List Int) : Nat := xs.countP (fun x => decide (240 ≤ x))
theorem cnt_snoc (xs : List Int) (x : Int) : cnt (xs ++ [x]) = aF (cnt xs) x := by
  funext j
  simp only [cnt, aF, List.count_append, List.count_singleton]
  by_cases h : (j : Int) = x
  · simp [h]
  · simp [h]; intro e; exact h e.symm
theorem cntO_snoc (xs : List Int) (x : Int) : cntO (xs ++ [x]) = aO (cntO xs) x := by
  simp only [cntO, aO, List.countP_append, List.countP_singleton, decide_eq_true_eq]
theorem cnt_nil : cnt [] = fun _ => 0 := by funext j; simp [cnt]
theorem cntO_nil : cntO [] = 0 := rfl
theorem cnt_cons (xs : List Int) (x : Int) : cnt (x :: xs) = aF (cnt xs) x := by
  funext j
  simp only [cnt, aF, List.count_cons]
  by_cases h : (j : Int) = x
  · simp [h]
  · simp [h]; intro e; exact h e.symm
theorem cntO_cons (xs : List Int) (x : Int) : cntO (x :: xs) = aO (cntO xs) x := by
  simp only [cntO, aO, List.countP_cons, decide_eq_true_eq]
theorem tot_le : ∀ xs : List Int, tot (cnt xs) + cntO xs ≤ xs.length
  | [] => by rw [cnt_nil, cntO_nil, tot, sumTo_zero]; exact Nat.le_refl _
  | x :: xs => by
    have ih := tot_le xs
    rw [cnt_cons, cntO_cons, tot_aO, List.length_cons]
    split <;> omega

/-- A cut, and whether counts are gathered. -/
def okC (F : Nat → Nat) (P j : Nat) : Prop := 0 < sumTo F (j + 1) ∧ P * tot F ≤ sumTo F (j + 1) * 100
instance (F : Nat → Nat) (P j : Nat) : Decidable (okC F P j) := by unfold okC; exact inferInstance
def cutN (F : Nat → Nat) (P : Nat) : Nat := ((List.range 240).find? (fun j => decide (okC F P j))).getD 0
theorem cutN_is {F : Nat → Nat} {P c : Nat} (h1 : okC F P c) (h2 : c < 240) (h3 : ∀ j, j < c → ¬ okC F P j) : cutN F P = c := by
  unfold cutN
  rw [(List.find?_range_eq_some (n := 240) (i := c)).2 ⟨by simpa using h1, by simpa using h2, fun j hj => by simpa using h3 j hj⟩]; rfl
theorem cutN_none {F : Nat → Nat} {P : Nat} (h : ∀ j, j < 240 → ¬ okC F P j) : cutN F P = 0 := by
  unfold cutN
  rw [List.find?_range_eq_none.2 (fun j hj => by simpa using h j hj)]; rfl
theorem okC_last {F : Nat → Nat} {P : Nat} (h : 0 < tot F) (hP : P ≤ 100) : okC F P 239 := by
  refine ⟨h, ?_⟩
  show P * tot F ≤ tot F * 100
  rw [Nat.mul_comm]; exact Nat.mul_le_mul_left _ hP
theorem cutN_ok {F : Nat → Nat} {P : Nat} (h : 0 < tot F) (hP : P ≤ 100) : okC F P (cutN F P) ∧ cutN F P < 240 ∧ ∀ j, j < cutN F P → ¬ okC F P j := by
  cases hq : (List.range 240).find? (fun j => decide (okC F P j)) with
  | none =>
    have := (List.find?_range_eq_none.1 hq) 239 (by omega)
    simp [okC_last h hP] at this
  | some c =>
    have hc : cutN F P = c := by unfold cutN; rw [hq]; rfl
    obtain ⟨a, b, d⟩ := (List.find?_range_eq_some (n := 240) (i := c)).1 hq
    rw [hc]
    exact ⟨by simpa using a, by simpa using b, fun j hj => by simpa using d j hj⟩
def clampP (p : Int) : Nat := (min (max p 0) 100).toNat
theorem clampP_le (p : Int) : clampP p ≤ 100 := by unfold clampP; omega
theorem clampP_int (p : Int) : ((clampP p : Nat) : Int) = min (max p 0) 100 := by unfold clampP; omega
def spreadB (F : Nat → Nat) : Bool := decide (0 < tot F ∧ 5 * tot F * tot F ≤ 240 * sumTo (fun j => F j * F j) 240)
end Go.Proofs.Ytocnaopjefhbjaa.W
