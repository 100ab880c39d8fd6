/- The law HistoOvers: its walk. -/
import Derived.Test.YtocnaopjefhbjaaHistoF
namespace Go.Proofs.Ytocnaopjefhbjaa.W
open Go.RowKit

def inB (x : Int) : Bool := decide (0 ≤ x ∧ x < 240)
def fl (xs : List Int) : List Int := xs.filter inB
theorem fl_in {xs : List Int} {x : Int} (h : 0 ≤ x ∧ x < 240) : fl (xs ++ [x]) = fl xs ++ [x] := by simp [fl, inB, h]
theorem fl_out {xs : List Int} {x : Int} (h : ¬ (0 ≤ x ∧ x < 240)) : fl (xs ++ [x]) = fl xs := by
  simp only [fl, List.filter_append]
  rw [show [x].filter inB = [] by simp [inB]; omega, List.append_nil]
theorem fl_len (xs : List Int) : (fl xs).length ≤ xs.length := List.length_filter_le _ _
theorem fl_over (xs : List Int) : cntO (fl xs) = 0 := by
  unfold cntO fl
  rw [List.countP_eq_zero]
  intro a ha
  have := (List.mem_filter.1 ha).2
  simp [inB] at this
  simp; omega
theorem new_twoH {w w1 w2 w3 : World} {r s : Nat} {ys : List Int} (hb1 : Below w.heap.size w w1) (hr : w1.heap.size = r) (hR2 : Hl w2 r ys) (hb2 : Below w1.heap.size w1 w2) (hs : w2.heap.size = s) (hb3 : Below w2.heap.size w2 w3) :
    Hl w3 r ys ∧ w.heap.size ≤ r ∧ w.heap.size ≤ s ∧ r ≠ s ∧ Below w.heap.size w w3 := by
  have h1 := hR2.lt
  have h2 := hb1.size
  have h3 := hb2.size
  exact ⟨hR2.keep hb3 h1, by omega, by omega, by omega, (hb1.trans (hb2.mono h2)).trans (hb3.mono (by omega))⟩
end Go.Proofs.Ytocnaopjefhbjaa.W
