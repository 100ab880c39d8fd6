/- The last eight of a list: no program. -/
import Derived.Test.YtocnaopjefhbjaaBlk
namespace Go.Proofs.Ytocnaopjefhbjaa.W

/-- The last few. -/
def last8 (xs : List Int) : List Int := xs.drop (xs.length - 8)
theorem last8_len (xs : List Int) : (last8 xs).length = min xs.length 8 := by simp [last8]; omega
theorem last8_small {xs : List Int} (h : xs.length ≤ 8) : last8 xs = xs := by simp [last8, show xs.length - 8 = 0 by omega]
theorem last8_app {a b : List Int} (h : 8 ≤ b.length) : last8 (a ++ b) = last8 b := by
  simp only [last8, List.length_append]
  rw [List.drop_append, List.drop_of_length_le (by omega), List.nil_append]
  congr 1; omega
theorem last8_last (a b : List Int) : last8 (last8 a ++ b) = last8 (a ++ b) := by
  rcases Nat.lt_or_ge a.length 9 with h | h
  · rw [last8_small (xs := a) (by omega)]
  · simp only [last8, List.length_append, List.length_drop]
    rw [List.drop_append, List.drop_append, List.length_drop, List.drop_drop]
    congr 2 <;> omega
theorem last8_push {ys : List Int} (h : ys.length = 8) (x : Int) : last8 (ys ++ [x]) = ys.drop 1 ++ [x] := by
  simp only [last8, List.length_append, h, List.length_cons, List.length_nil]
  rw [List.drop_append]; simp [h]
theorem last8_room {ys : List Int} (h : ys.length < 8) (x : Int) : last8 (ys ++ [x]) = ys ++ [x] := last8_small (by simp; omega)
theorem last8_map (f : Int → Int) (xs : List Int) : last8 (xs.map f) = (last8 xs).map f := by simp [last8, List.map_drop]
end Go.Proofs.Ytocnaopjefhbjaa.W
