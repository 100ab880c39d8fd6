/- The plain arithmetic of a division of two words by one, digit by digit (no program in sight). -/
import Derived.IntWalk
import Derived.Lib.ItoaNum
namespace Go.Proofs.Ytocnaopjefhbjaa

/-- What holds at each round's head of a digit's loop: u the upper part, d the next digit, y1 and y0 the divisor's digits, q the guess, r what is left. -/
def Guess (u d y1 y0 q r : Int) : Prop :=
  r = u - q * y1 ∧ (u * 4294967296 + d) / (y1 * 4294967296 + y0) ≤ q ∧ q ≤ 4294967297 ∧ 0 ≤ r ∧ r < 4294967296

/-- A divisor's digits, an upper part that is less than it, and a digit. -/
def Parts (u d y1 y0 : Int) : Prop :=
  2147483648 ≤ y1 ∧ y1 < 4294967296 ∧ 0 ≤ y0 ∧ y0 < 4294967296 ∧ 0 ≤ u ∧ u < y1 * 4294967296 + y0 ∧ 0 ≤ d ∧ d < 4294967296

theorem guess_nonneg {u d y1 y0 q r : Int} (P : Parts u d y1 y0) (G : Guess u d y1 y0 q r) : 0 ≤ q := by
  obtain ⟨a, b, c, e, f, g, h, i⟩ := P
  have : 0 ≤ (u * 4294967296 + d) / (y1 * 4294967296 + y0) := Int.ediv_nonneg (by omega) (by omega)
  obtain ⟨_, G, _⟩ := G
  omega

theorem guess_first {u d y1 y0 : Int} (P : Parts u d y1 y0) : Guess u d y1 y0 (u / y1) (u - u / y1 * y1) := by
  obtain ⟨a, b, c, e, f, g, h, i⟩ := P
  have hm : u - u / y1 * y1 = u % y1 := by
    have := Int.emod_add_mul_ediv u y1
    rw [Int.mul_comm] at this; omega
  have h0 := Int.emod_nonneg u (show y1 ≠ 0 by omega)
  have h1 := Int.emod_lt_of_pos u (show 0 < y1 by omega)
  refine ⟨rfl, ?_, ?_, by omega, by omega⟩
  · have hQ : (u * 4294967296 + d) / (y1 * 4294967296 + y0) * (y1 * 4294967296 + y0) ≤ u * 4294967296 + d := Int.ediv_mul_le _ (by omega)
    have hn : 0 ≤ (u * 4294967296 + d) / (y1 * 4294967296 + y0) := Int.ediv_nonneg (by omega) (by omega)
    generalize (u * 4294967296 + d) / (y1 * 4294967296 + y0) = Q at *
    rw [Int.mul_add, ← Int.mul_assoc] at hQ
    have hy : 0 ≤ Q * y0 := Int.mul_nonneg hn c
    have : Q * y1 ≤ u := by
      generalize Q * y1 = z at *
      generalize Q * y0 = z' at *
      omega
    exact Int.le_ediv_of_mul_le (by omega) this
  · have : u / y1 < 4294967298 := Int.ediv_lt_of_lt_mul (by omega) (by omega)
    omega

theorem guess_over {u d y1 y0 q r : Int} (P : Parts u d y1 y0) (G : Guess u d y1 y0 q r) (h : 4294967296 ≤ q ∨ 4294967296 * r + d < q * y0) :
    (u * 4294967296 + d) / (y1 * 4294967296 + y0) ≤ q - 1 := by
  obtain ⟨a, b, c, e, f, g, i, j⟩ := P
  obtain ⟨hr, _, _, _, _⟩ := G
  rcases h with h | h
  · have : (u * 4294967296 + d) / (y1 * 4294967296 + y0) < 4294967296 := Int.ediv_lt_of_lt_mul (by omega) (by omega)
    omega
  · have : (u * 4294967296 + d) / (y1 * 4294967296 + y0) < q := by
      refine Int.ediv_lt_of_lt_mul (by omega) ?_
      rw [Int.mul_add, ← Int.mul_assoc]
      generalize q * y1 = z at *
      generalize q * y0 = z' at *
      omega
    omega

theorem guess_next {u d y1 y0 q r : Int} (P : Parts u d y1 y0) (G : Guess u d y1 y0 q r) (h : 4294967296 ≤ q ∨ 4294967296 * r + d < q * y0) (k : r + y1 < 4294967296) :
    Guess u d y1 y0 (q - 1) (r + y1) := by
  have := guess_over P G h
  obtain ⟨a, b, c, e, f, g, i, j⟩ := P
  obtain ⟨hr, h1, h2, h3, h4⟩ := G
  refine ⟨?_, this, by omega, by omega, k⟩
  rw [Int.sub_mul]
  generalize q * y1 = z at *
  omega

theorem guess_right {u d y1 y0 q r : Int} (P : Parts u d y1 y0) (hr : r = u - q * y1) (h1 : (u * 4294967296 + d) / (y1 * 4294967296 + y0) ≤ q) (k : q * y0 ≤ 4294967296 * r + d) :
    q = (u * 4294967296 + d) / (y1 * 4294967296 + y0) := by
  obtain ⟨a, b, c, e, f, g, i, j⟩ := P
  have : q ≤ (u * 4294967296 + d) / (y1 * 4294967296 + y0) := by
    refine Int.le_ediv_of_mul_le (by omega) ?_
    rw [Int.mul_add, ← Int.mul_assoc]
    generalize q * y1 = z at *
    generalize q * y0 = z' at *
    omega
  omega

theorem guess_last {u d y1 y0 q r : Int} (P : Parts u d y1 y0) (G : Guess u d y1 y0 q r) (k : q * y0 ≤ 4294967296 * r + d) :
    q = (u * 4294967296 + d) / (y1 * 4294967296 + y0) := by
  obtain ⟨hr, h1, h2, h3, h4⟩ := G
  exact guess_right P hr h1 k

theorem guess_break {u d y1 y0 q r : Int} (P : Parts u d y1 y0) (G : Guess u d y1 y0 q r) (h : 4294967296 ≤ q ∨ 4294967296 * r + d < q * y0) (k : 4294967296 ≤ r + y1) :
    q - 1 = (u * 4294967296 + d) / (y1 * 4294967296 + y0) := by
  have ho := guess_over P G h
  have hn := guess_nonneg P G
  obtain ⟨hr, h1, h2, h3, h4⟩ := G
  refine guess_right (r := r + y1) P (by rw [Int.sub_mul]; generalize q * y1 = z at *; omega) ho ?_
  obtain ⟨a, b, c, e, f, g, i, j⟩ := P
  have m : (q - 1) * y0 ≤ 4294967296 * y0 := Int.mul_le_mul_of_nonneg_right (by omega) c
  omega

/-- What a digit's loop leaves of the upper part is less than the divisor, and is what the words' own arithmetic tells. -/
theorem digit_left (u d y1 y0 : Int) :
    u * 4294967296 + d - (u * 4294967296 + d) / (y1 * 4294967296 + y0) * (y1 * 4294967296 + y0) = (u * 4294967296 + d) % (y1 * 4294967296 + y0) := by
  have := Int.emod_add_mul_ediv (u * 4294967296 + d) (y1 * 4294967296 + y0)
  rw [Int.mul_comm (y1 * 4294967296 + y0)] at this
  omega
theorem digit_less {u d y1 y0 : Int} (P : Parts u d y1 y0) : 0 ≤ (u * 4294967296 + d) % (y1 * 4294967296 + y0) ∧ (u * 4294967296 + d) % (y1 * 4294967296 + y0) < y1 * 4294967296 + y0 := by
  obtain ⟨a, b, c, e, f, g, i, j⟩ := P
  exact ⟨Int.emod_nonneg _ (by omega), Int.emod_lt_of_pos _ (by omega)⟩
theorem digit_lt {u d y1 y0 : Int} (P : Parts u d y1 y0) : 0 ≤ (u * 4294967296 + d) / (y1 * 4294967296 + y0) ∧ (u * 4294967296 + d) / (y1 * 4294967296 + y0) < 4294967296 := by
  obtain ⟨a, b, c, e, f, g, i, j⟩ := P
  exact ⟨Int.ediv_nonneg (by omega) (by omega), Int.ediv_lt_of_lt_mul (by omega) (by omega)⟩

/-- Two digits, one behind the other, are the quotient. -/
theorem two_digits {u d1 d0 Y : Int} (hY : 0 < Y) :
    (u * 4294967296 + d1) / Y * 4294967296 + ((u * 4294967296 + d1) % Y * 4294967296 + d0) / Y = (u * 18446744073709551616 + (d1 * 4294967296 + d0)) / Y ∧
    ((u * 4294967296 + d1) % Y * 4294967296 + d0) % Y = (u * 18446744073709551616 + (d1 * 4294967296 + d0)) % Y := by
  have e1 := Int.emod_add_mul_ediv (u * 4294967296 + d1) Y
  have e2 : u * 18446744073709551616 + (d1 * 4294967296 + d0) = ((u * 4294967296 + d1) % Y * 4294967296 + d0) + Y * ((u * 4294967296 + d1) / Y * 4294967296) := by
    rw [← Int.mul_assoc]
    generalize Y * ((u * 4294967296 + d1) / Y) = z at *
    generalize (u * 4294967296 + d1) % Y = z' at *
    omega
  rw [e2]
  constructor
  · rw [Int.add_mul_ediv_left _ _ (by omega)]; omega
  · rw [Int.add_mul_emod_self_left]

/-- A quotient does not turn when both are shifted; what is left is shifted with them. -/
theorem shifted {n y t : Int} (ht : 0 < t) : n * t / (y * t) = n / y ∧ n * t % (y * t) / t = n % y := by
  constructor
  · exact Int.mul_ediv_mul_of_pos_left _ _ ht
  · rw [Int.mul_comm n t, Int.mul_comm y t, Int.mul_emod_mul_of_pos _ _ ht]
    exact Int.mul_ediv_cancel_left _ (by omega)

/-- A divisor, shifted by its leading noughts, has its highest bit. -/
theorem normal {y : Int} (h0 : 0 < y) (h1 : y ≤ 18446744073709551615) :
    ∃ s : Nat, s ≤ 63 ∧ 64 - (Lib.bitLen y.toNat : Int) = (s : Int) ∧ 9223372036854775808 ≤ y * 2 ^ s ∧ y * 2 ^ s < 18446744073709551616 := by
  obtain ⟨n, rfl⟩ := Int.eq_ofNat_of_zero_le (show 0 ≤ y by omega)
  have hb := Lib.bitLenAux_bounds 64 n (by omega) (by omega)
  change 1 ≤ Lib.bitLen n ∧ 2 ^ (Lib.bitLen n - 1) ≤ n ∧ n < 2 ^ Lib.bitLen n at hb
  obtain ⟨b1, b2, b3⟩ := hb
  have b4 : Lib.bitLen n ≤ 64 := by
    refine Nat.le_of_not_lt fun h => ?_
    have : 2 ^ 64 ≤ 2 ^ (Lib.bitLen n - 1) := Nat.pow_le_pow_right (by omega) (by omega)
    omega
  simp only [Int.toNat_natCast]
  generalize Lib.bitLen n = b at *
  refine ⟨64 - b, by omega, by omega, ?_, ?_⟩
  · have : 2 ^ (b - 1) * 2 ^ (64 - b) ≤ n * 2 ^ (64 - b) := Nat.mul_le_mul_right _ b2
    rw [← Nat.pow_add, show b - 1 + (64 - b) = 63 by omega] at this
    have e : ((n * 2 ^ (64 - b) : Nat) : Int) = (n : Int) * 2 ^ (64 - b) := by push_cast; rfl
    rw [← e]; omega
  · have : n * 2 ^ (64 - b) < 2 ^ b * 2 ^ (64 - b) := Nat.mul_lt_mul_of_pos_right b3 (Nat.two_pow_pos _)
    rw [← Nat.pow_add, show b + (64 - b) = 64 by omega] at this
    have e : ((n * 2 ^ (64 - b) : Nat) : Int) = (n : Int) * 2 ^ (64 - b) := by push_cast; rfl
    rw [← e]; omega
end Go.Proofs.Ytocnaopjefhbjaa
