/- What comes next, over lists of whole numbers: no program. -/
import Derived.Test.YtocnaopjefhbjaaNumC
import Derived.Test.YtocnaopjefhbjaaLast
namespace Go.Proofs.Ytocnaopjefhbjaa.W
open Go.RowKit

/-- A number, or the nearer one of the bounds of times. -/
abbrev clip (x : Int) : Int := clampI x 0 1099511627776
theorem clip_range (x : Int) : 0 ≤ clip x ∧ clip x ≤ 1099511627776 := by unfold clip clampI; omega
theorem clip_in {x : Int} (h0 : 0 ≤ x) (h1 : x ≤ 1099511627776) : clip x = x := by unfold clip clampI; omega
/-- The weighed sum of numbers, the first one at i. -/
def ws (n : Int) : Int → List Int → Int
  | _, [] => 0
  | i, x :: t => clip x * (3 * i - (n - 1)) + ws n (i + 1) t
theorem ws_snoc (n : Int) : ∀ (i : Int) (l : List Int) (x : Int), ws n i (l ++ [x]) = ws n i l + clip x * (3 * (i + l.length) - (n - 1))
  | i, [], x => by simp [ws]
  | i, y :: t, x => by
    rw [List.cons_append]
    unfold ws
    rw [ws_snoc n (i + 1) t x]
    simp only [List.length_cons]
    rw [show ((t.length + 1 : Nat) : Int) = (t.length : Int) + 1 by omega, show i + 1 + (t.length : Int) = i + ((t.length : Int) + 1) by omega]
    omega

theorem weigh (x w : Int) (h0 : -21 ≤ w) (h1 : w ≤ 21) : -23089744183296 ≤ clip x * w ∧ clip x * w ≤ 23089744183296 := by
  obtain ⟨c0, c1⟩ := clip_range x
  generalize clip x = c at *
  have a1 : c * w ≤ c * 21 := Int.mul_le_mul_of_nonneg_left h1 c0
  have a2 : c * (-21) ≤ c * w := Int.mul_le_mul_of_nonneg_left h0 c0
  omega

/-- Where the nearest line of n numbers is at the place n, two at least. -/
def behI (l : List Int) : Int := clip (fracI (ws l.length 0 l) 2 ((l.length : Int) * ((l.length : Int) - 1)))
def nextL : List Int → Int
  | [] => 0
  | [x] => clip x
  | l => behI l
/-- What comes next. -/
def nextI (xs : List Int) : Int := nextL (last8 xs)

theorem nextL_two {l : List Int} (h : 2 ≤ l.length) : nextL l = behI l := by
  match l, h with
  | [], h => simp at h
  | [x], h => simp at h
  | x :: y :: t, _ => rfl
theorem nextL_range (l : List Int) : 0 ≤ nextL l ∧ nextL l ≤ 1099511627776 := by
  match l with
  | [] => exact ⟨by simp [nextL], by simp [nextL]⟩
  | [x] => exact clip_range x
  | x :: y :: t => exact clip_range _
theorem next_range (xs : List Int) : 0 ≤ nextI xs ∧ nextI xs ≤ 1099511627776 := nextL_range _

theorem div_le_self {x d : Int} (h0 : 0 ≤ x) (hd : 1 ≤ d) : x / d ≤ x := by
  have : x / d * d ≤ x := Int.ediv_mul_le _ (by omega)
  have q0 : 0 ≤ x / d := Int.ediv_nonneg h0 (by omega)
  have := Int.mul_le_mul_of_nonneg_left hd q0
  omega
/-- Behind two numbers at least, in one form. -/
theorem beh_form {l : List Int} (s d : Int) (hs : ws l.length 0 l = s) (hd : (l.length : Int) * ((l.length : Int) - 1) = d) (d0 : 0 < d) (s0 : 0 ≤ s) : behI l = clip (s * 2 / d) := by
  unfold behI
  rw [hs, hd]
  unfold fracI
  rw [if_neg (by unfold Bad; omega)]
  have : 0 ≤ s * 2 / d := Int.ediv_nonneg (by omega) (by omega)
  generalize s * 2 / d = q at *
  unfold clip clampI
  omega
theorem beh_low {l : List Int} (s : Int) (hs : ws l.length 0 l = s) (s0 : s < 0) : behI l = 0 := by
  unfold behI
  rw [hs]
  unfold fracI
  rw [if_pos (by unfold Bad; omega)]
  rfl
end Go.Proofs.Ytocnaopjefhbjaa.W
