/- Idle times as lists; the document's example; the law HistoOnes: its walk. -/
import Derived.Test.YtocnaopjefhbjaaHistoD
namespace Go.Proofs.Ytocnaopjefhbjaa.W
open Go.RowKit

/-- A histogram of a list of idle times, none halved. -/
def Hl (w : World) (r : Nat) (xs : List Int) : Prop := Hs w r (cnt xs) (cntO xs)
theorem Hl.lt {w : World} {r : Nat} {xs : List Int} (h : Hl w r xs) : r < w.heap.size := Hs.lt h
theorem Hl.keep {w w' : World} {r : Nat} {xs : List Int} {B : Nat} (h : Hl w r xs) (hb : Below B w w') (hr : r < B) : Hl w' r xs := Hs.keep h hb hr
theorem Hl.off {w w' : World} {r q : Nat} {xs : List Int} (h : Hl w r xs) (hb : w.grownBy w' (some q)) (hr : r ≠ q) : Hl w' r xs := Hs.off h hb hr
theorem list_new (w : World) : Calls Try.prog 9 #[] w fun e w' => e = .returned (.pointer (some ⟨w.heap.size, 0, none⟩)) ∧ Hl w' w.heap.size [] ∧ Below w.heap.size w w' := by
  refine (histo_new w).mono ?_
  rintro e w' ⟨h1, h2, h3⟩
  refine ⟨h1, ?_, h3⟩
  show Hs _ _ _ _
  rw [cnt_nil, cntO_nil]; exact h2
theorem list_add (r : Nat) (x : Int) (xs : List Int) (w : World) (h : Hl w r xs) (hl : xs.length + 1 < 4096) :
    Calls Try.prog 11 #[.pointer (some ⟨r, 0, none⟩), .int .i64 x] w fun e w' => e = .returned (.tuple #[]) ∧ Hl w' r (xs ++ [x]) ∧ w.grownBy w' (some r) := by
  refine (add_low r (cntO xs) x (cnt xs) w h (by have := tot_le xs; omega)).mono ?_
  rintro e w' ⟨h1, h2, h3⟩
  refine ⟨h1, ?_, h3⟩
  show Hs _ _ _ _
  rw [cnt_snoc, cntO_snoc]; exact h2

theorem ex_tot : tot (cnt [3, 3, 9]) = 3 := by decide +kernel
theorem ex_50 : cutN (cnt [3, 3, 9]) (clampP 50) = 3 := by decide +kernel
theorem ex_99 : cutN (cnt [3, 3, 9]) (clampP 99) = 9 := by decide +kernel

theorem cnt_rep (n t : Nat) : cnt (List.replicate n (t : Int)) = fun j => if j = t then n else 0 := by
  funext j
  simp only [cnt, List.count_replicate]
  by_cases h : j = t
  · subst h; simp
  · have h' : ¬ (t : Int) = (j : Int) := by omega
    simp [h, h']
theorem rep_sum (n t j : Nat) : sumTo (cnt (List.replicate n (t : Int))) j = if t < j then n else 0 := by rw [cnt_rep, sumTo_one]
theorem rep_tot (n t : Nat) : tot (cnt (List.replicate n (t : Int))) = if t < 240 then n else 0 := rep_sum n t 240
theorem rep_over (n t : Nat) : cntO (List.replicate n (t : Int)) = if 240 ≤ t then n else 0 := by
  simp only [cntO, List.countP_replicate, decide_eq_true_eq]
  by_cases h : 240 ≤ t
  · rw [if_pos h, if_pos (by omega)]
  · rw [if_neg h, if_neg (by omega)]
theorem rep_cut {n t P : Nat} (hn : 0 < n) (ht : t < 240) (hP : P ≤ 100) : cutN (cnt (List.replicate n (t : Int))) P = t := by
  refine cutN_is ⟨by rw [rep_sum, if_pos (by omega)]; exact hn, ?_⟩ ht ?_
  · rw [rep_sum, rep_tot, if_pos ht, if_pos (Nat.lt_succ_self t), Nat.mul_comm]
    exact Nat.mul_le_mul_left _ hP
  · intro j hj h
    have := h.1
    rw [rep_sum, if_neg (by omega)] at this
    omega
theorem rep_snoc (n : Nat) (t : Int) : List.replicate n t ++ [t] = List.replicate (n + 1) t := by rw [List.replicate_succ']
end Go.Proofs.Ytocnaopjefhbjaa.W
