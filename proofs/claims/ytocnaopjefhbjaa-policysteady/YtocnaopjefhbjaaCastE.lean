/- The law CastBounds: numbers that are all alike, and its walk. -/
import Derived.Test.YtocnaopjefhbjaaCastB
namespace Go.Proofs.Ytocnaopjefhbjaa.W
open Go.RowKit

theorem same_beh {l : List Int} {c s d : Int} (hs : ws l.length 0 l = s) (hd : (l.length : Int) * ((l.length : Int) - 1) = d) (d0 : 0 < d) (c0 : 0 ≤ c) (c1 : c ≤ 1099511627776) (h : s * 2 = c * d) : behI l = c := by
  have s0 : 0 ≤ c * d := Int.mul_nonneg c0 (by omega)
  rw [beh_form s d hs hd d0 (by omega), h, Int.mul_ediv_cancel _ (by omega), clip_in c0 c1]
theorem same_next (x : Int) (m : Nat) (h1 : 1 ≤ m) (h8 : m ≤ 8) : nextI (List.replicate m x) = clip x := by
  obtain ⟨c0, c1⟩ := clip_range x
  have h : m = 1 ∨ m = 2 ∨ m = 3 ∨ m = 4 ∨ m = 5 ∨ m = 6 ∨ m = 7 ∨ m = 8 := by omega
  rcases h with rfl | rfl | rfl | rfl | rfl | rfl | rfl | rfl
  · rfl
  · show behI [x, x] = clip x
    generalize hc : clip x = c at *
    refine same_beh (d := 2) rfl rfl (by omega) c0 c1 ?_
    simp only [ws, hc, List.length_cons, List.length_nil]
    omega
  · show behI [x, x, x] = clip x
    generalize hc : clip x = c at *
    refine same_beh (d := 6) rfl rfl (by omega) c0 c1 ?_
    simp only [ws, hc, List.length_cons, List.length_nil]
    omega
  · show behI [x, x, x, x] = clip x
    generalize hc : clip x = c at *
    refine same_beh (d := 12) rfl rfl (by omega) c0 c1 ?_
    simp only [ws, hc, List.length_cons, List.length_nil]
    omega
  · show behI [x, x, x, x, x] = clip x
    generalize hc : clip x = c at *
    refine same_beh (d := 20) rfl rfl (by omega) c0 c1 ?_
    simp only [ws, hc, List.length_cons, List.length_nil]
    omega
  · show behI [x, x, x, x, x, x] = clip x
    generalize hc : clip x = c at *
    refine same_beh (d := 30) rfl rfl (by omega) c0 c1 ?_
    simp only [ws, hc, List.length_cons, List.length_nil]
    omega
  · show behI [x, x, x, x, x, x, x] = clip x
    generalize hc : clip x = c at *
    refine same_beh (d := 42) rfl rfl (by omega) c0 c1 ?_
    simp only [ws, hc, List.length_cons, List.length_nil]
    omega
  · show behI [x, x, x, x, x, x, x, x] = clip x
    generalize hc : clip x = c at *
    refine same_beh (d := 56) rfl rfl (by omega) c0 c1 ?_
    simp only [ws, hc, List.length_cons, List.length_nil]
    omega


end Go.Proofs.Ytocnaopjefhbjaa.W