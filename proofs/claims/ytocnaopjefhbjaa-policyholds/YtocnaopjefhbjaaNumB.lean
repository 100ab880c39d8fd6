/- Contracts of num.Mul and of math/bits.Mul64 over whole numbers. -/
import Derived.Test.YtocnaopjefhbjaaNumA
namespace Go.Proofs.Ytocnaopjefhbjaa
open Go.RowKit Go.Shelf

/-- The upper and the lower half of a product of two words. -/
def mhi (x y : Int) : Int := x * y / 18446744073709551616
def mlo (x y : Int) : Int := x * y % 18446744073709551616
theorem mlo_u64 (x y : Int) : U64 (mlo x y) := by unfold mlo U64; omega
theorem mul_le_u64 {x y : Int} (hx : U64 x) (hy : U64 y) : 0 ≤ x * y ∧ x * y ≤ 340282366920938463426481119284349108225 := by
  obtain ⟨x1, x2⟩ := hx; obtain ⟨y1, y2⟩ := hy
  refine ⟨Int.mul_nonneg x1 y1, ?_⟩
  have := Int.mul_le_mul x2 y2 y1 (by omega)
  omega
theorem mhi_u64 {x y : Int} (hx : U64 x) (hy : U64 y) : U64 (mhi x y) := by
  have h := mul_le_u64 hx hy
  unfold mhi U64
  omega

theorem mul64_any (x y : Int) (hx : U64 x) (hy : U64 y) (w : World) :
    Calls Try.prog 39 #[.int .u64 x, .int .u64 y] w fun e w' => e = .returned (.tuple #[.int .u64 (mhi x y), .int .u64 (mlo x y)]) ∧ w = w' := by
  obtain ⟨x1, x2⟩ := hx; obtain ⟨y1, y2⟩ := hy
  obtain ⟨x, rfl⟩ := Int.eq_ofNat_of_zero_le x1
  obtain ⟨y, rfl⟩ := Int.eq_ofNat_of_zero_le y1
  refine (Try.bits_Mul64 x y (by omega) (by omega) w).mono ?_
  rintro e w' ⟨rfl, rfl⟩
  refine ⟨?_, rfl⟩
  unfold mhi mlo
  simp

theorem size_u64 {a : Int} (ha : I64 a) : U64 (a.natAbs : Int) := by obtain ⟨a1, a2⟩ := ha; unfold U64; omega

theorem prod_apart {a b : Int} (h : (!decide (a < 0) == decide (b < 0)) = true) : a * b = -((a.natAbs : Int) * (b.natAbs : Int)) := by
  by_cases ha : a < 0 <;> by_cases hb : b < 0 <;> simp [ha, hb] at h
  · rw [show (a.natAbs : Int) = -a by omega, show (b.natAbs : Int) = b by omega, Int.neg_mul, Int.neg_neg]
  · rw [show (a.natAbs : Int) = a by omega, show (b.natAbs : Int) = -b by omega, Int.mul_neg, Int.neg_neg]
theorem prod_alike {a b : Int} (h : (!decide (a < 0) == decide (b < 0)) = false) : a * b = (a.natAbs : Int) * (b.natAbs : Int) := by
  by_cases ha : a < 0 <;> by_cases hb : b < 0 <;> simp [ha, hb] at h
  · rw [show (a.natAbs : Int) = -a by omega, show (b.natAbs : Int) = -b by omega, Int.neg_mul, Int.mul_neg, Int.neg_neg]
  · rw [show (a.natAbs : Int) = a by omega, show (b.natAbs : Int) = b by omega]
theorem halves (x y : Int) : x * y = mhi x y * 18446744073709551616 + mlo x y := by unfold mhi mlo; omega
theorem mul_far {a b : Int} (h : (!decide (a < 0) == decide (b < 0)) = true) (ha : I64 a) (hb : I64 b) (k : 0 < mhi a.natAbs b.natAbs ∨ 9223372036854775808 < mlo a.natAbs b.natAbs) : -9223372036854775808 = sat (a * b) := by
  have e := halves a.natAbs b.natAbs
  have l := mlo_u64 a.natAbs b.natAbs
  have m := mhi_u64 (size_u64 ha) (size_u64 hb)
  obtain ⟨l1, l2⟩ := l; obtain ⟨m1, m2⟩ := m
  rw [prod_apart h, e]
  generalize mhi a.natAbs b.natAbs = x at *
  generalize mlo a.natAbs b.natAbs = y at *
  rw [sat_lo (by omega)]
theorem mul_near {a b : Int} (h : (!decide (a < 0) == decide (b < 0)) = true) (ha : I64 a) (hb : I64 b) (k : mhi a.natAbs b.natAbs ≤ 0) (k' : mlo a.natAbs b.natAbs ≤ 9223372036854775808) : wrap64 (IntKind.u64.wrap (-mlo a.natAbs b.natAbs)) = sat (a * b) := by
  have e := halves a.natAbs b.natAbs
  have l := mlo_u64 a.natAbs b.natAbs
  have m := mhi_u64 (size_u64 ha) (size_u64 hb)
  obtain ⟨l1, l2⟩ := l; obtain ⟨m1, m2⟩ := m
  rw [prod_apart h, e]
  generalize mhi a.natAbs b.natAbs = x at *
  generalize mlo a.natAbs b.natAbs = y at *
  obtain rfl : x = 0 := by omega
  rw [sat_in ⟨by omega, by omega⟩]
  rw [IntKind.wrap_u64]
  unfold wrap64
  omega
theorem mul_up {a b : Int} (h : (!decide (a < 0) == decide (b < 0)) = false) (ha : I64 a) (hb : I64 b) : capI (mhi a.natAbs b.natAbs) (mlo a.natAbs b.natAbs) = sat (a * b) := by
  have e := halves a.natAbs b.natAbs
  have l := mlo_u64 a.natAbs b.natAbs
  have m := mhi_u64 (size_u64 ha) (size_u64 hb)
  obtain ⟨l1, l2⟩ := l; obtain ⟨m1, m2⟩ := m
  rw [prod_alike h, e]
  generalize mhi a.natAbs b.natAbs = x at *
  generalize mlo a.natAbs b.natAbs = y at *
  unfold capI
  split
  · rw [sat_hi (by omega)]
  · obtain rfl : x = 0 := by omega
    rw [sat_in ⟨by omega, by omega⟩]
    omega
end Go.Proofs.Ytocnaopjefhbjaa
