/- The product as a wide number, and the law NumSums. -/
import Derived.Test.YtidgehimdbhjcaaNumI
namespace Go.Proofs.Ytidgehimdbhjcaa
open Go.RowKit Go.Shelf

theorem wide_prod {A B : Int} (uA : U64 A) (uB : U64 B) : Value.agg #[.int .u64 (mhi A B), .int .u64 (mlo A B)] = Wide (A * B) := by
  have h := mul_le_u64 uA uB
  unfold Wide
  have e1 : mhi A B = whi (A * B) := by unfold mhi whi; omega
  have e2 : mlo A B = wlo (A * B) := rfl
  rw [e1, e2]

set_option maxRecDepth 100000 in
set_option maxHeartbeats 1000000 in
theorem wmul_nn (a b : Int) (ha : I64 a) (hb : I64 b) (sa : a < 0) (sb : b < 0) (w : World) :
    Calls Try.prog 23 #[.int .i64 a, .int .i64 b] w fun e w' => e = .returned (Wide (a * b)) ∧ Grown w w' := by
  obtain ⟨a1, a2⟩ := ha; obtain ⟨b1, b2⟩ := hb
  have ha : I64 a := ⟨a1, a2⟩
  have hb : I64 b := ⟨b1, b2⟩
  obtain ⟨A, hA⟩ : ∃ A, -a = A := ⟨_, rfl⟩
  obtain ⟨B, hB⟩ : ∃ B, -b = B := ⟨_, rfl⟩
  have uA : U64 A := by rw [← hA]; exact ⟨by omega, by omega⟩
  have uB : U64 B := by rw [← hB]; exact ⟨by omega, by omega⟩
  have EA : Hid (wlo (-a) = A) := Lib.hid (by unfold wlo; omega)
  have EB : Hid (wlo (-b) = B) := Lib.hid (by unfold wlo; omega)
  have EW := Lib.hid (wide_prod uA uB)
  have EP : Hid (A * B = a * b) := Lib.hid (by rw [← hA, ← hB]; rw [Int.neg_mul_neg])
  clear hA hB
  go_enter Try.func23, Try.ntmps23
  go_wp2_with fail
  refine (of_any a ha _).mono ?_
  rintro e w' ⟨rfl, c1, rfl⟩
  unfold Wide
  go_wp2_with fail
  refine (neg_any a _).mono ?_
  rintro e w' ⟨rfl, c2, c3, c4, c5, c6, rfl⟩
  unfold Wide
  go_wp2_with fail
  refine (of_any b hb _).mono ?_
  rintro e w' ⟨rfl, c7, rfl⟩
  unfold Wide
  go_wp2_with fail
  refine (neg_any b _).mono ?_
  rintro e w' ⟨rfl, c8, c9, c10, c11, c12, rfl⟩
  unfold Wide
  go_wp2_with fail
  rw [EA.out, EB.out]
  refine (mul64_any A B uA uB _).mono ?_
  rintro e w' ⟨rfl, rfl⟩
  go_wp2_with fail
  exact bodyPost_ret (v := .agg #[.int .u64 (mhi A B), .int .u64 (mlo A B)]) (by simp [results, Try.results23, go_sem]) rfl ⟨by rw [EW.out, EP.out], by (repeat (with_reducible first | refine Grown.alloc ?_ _ _ | refine Grown.drew ?_)); with_reducible exact Grown.refl _⟩

set_option maxRecDepth 100000 in
set_option maxHeartbeats 1000000 in
theorem wmul_np (a b : Int) (ha : I64 a) (hb : I64 b) (sa : a < 0) (sb : 0 ≤ b) (w : World) :
    Calls Try.prog 23 #[.int .i64 a, .int .i64 b] w fun e w' => e = .returned (Wide (a * b)) ∧ Grown w w' := by
  obtain ⟨a1, a2⟩ := ha; obtain ⟨b1, b2⟩ := hb
  have ha : I64 a := ⟨a1, a2⟩
  have hb : I64 b := ⟨b1, b2⟩
  obtain ⟨A, hA⟩ : ∃ A, -a = A := ⟨_, rfl⟩
  obtain ⟨B, hB⟩ : ∃ B, b = B := ⟨_, rfl⟩
  have uA : U64 A := by rw [← hA]; exact ⟨by omega, by omega⟩
  have uB : U64 B := by rw [← hB]; exact ⟨by omega, by omega⟩
  have EA : Hid (wlo (-a) = A) := Lib.hid (by unfold wlo; omega)
  have EB : Hid (wlo (b) = B) := Lib.hid (by unfold wlo; omega)
  have EW := Lib.hid (wide_prod uA uB)
  have EP : Hid (-(A * B) = a * b) := Lib.hid (by rw [← hA, ← hB]; rw [Int.neg_mul, Int.neg_neg])
  clear hA hB
  have db : decide (b < 0) = false := decide_eq_false (by omega)
  go_enter Try.func23, Try.ntmps23
  go_wp2_with fail
  refine (of_any a ha _).mono ?_
  rintro e w' ⟨rfl, c1, rfl⟩
  unfold Wide
  go_wp2_with fail
  refine (neg_any a _).mono ?_
  rintro e w' ⟨rfl, c2, c3, c4, c5, c6, rfl⟩
  unfold Wide
  go_wp2_with fail
  refine (of_any b hb _).mono ?_
  rintro e w' ⟨rfl, c7, rfl⟩
  unfold Wide
  go_wp2_with fail
  rw [EA.out, EB.out]
  refine (mul64_any A B uA uB _).mono ?_
  rintro e w' ⟨rfl, rfl⟩
  go_wp2_with fail
  rw [EW.out]
  refine (neg_any (A * B) _).mono ?_
  rintro e w' ⟨rfl, c13, c14, c15, c16, c17, rfl⟩
  rw [EP.out]
  unfold Wide
  go_wp2_with fail
  exact bodyPost_ret (v := .agg #[.int .u64 (whi (a * b)), .int .u64 (wlo (a * b))]) (by simp [results, Try.results23, go_sem]) rfl ⟨rfl, by (repeat (with_reducible first | refine Grown.alloc ?_ _ _ | refine Grown.drew ?_)); with_reducible exact Grown.refl _⟩

set_option maxRecDepth 100000 in
set_option maxHeartbeats 1000000 in
theorem wmul_pn (a b : Int) (ha : I64 a) (hb : I64 b) (sa : 0 ≤ a) (sb : b < 0) (w : World) :
    Calls Try.prog 23 #[.int .i64 a, .int .i64 b] w fun e w' => e = .returned (Wide (a * b)) ∧ Grown w w' := by
  obtain ⟨a1, a2⟩ := ha; obtain ⟨b1, b2⟩ := hb
  have ha : I64 a := ⟨a1, a2⟩
  have hb : I64 b := ⟨b1, b2⟩
  obtain ⟨A, hA⟩ : ∃ A, a = A := ⟨_, rfl⟩
  obtain ⟨B, hB⟩ : ∃ B, -b = B := ⟨_, rfl⟩
  have uA : U64 A := by rw [← hA]; exact ⟨by omega, by omega⟩
  have uB : U64 B := by rw [← hB]; exact ⟨by omega, by omega⟩
  have EA : Hid (wlo (a) = A) := Lib.hid (by unfold wlo; omega)
  have EB : Hid (wlo (-b) = B) := Lib.hid (by unfold wlo; omega)
  have EW := Lib.hid (wide_prod uA uB)
  have EP : Hid (-(A * B) = a * b) := Lib.hid (by rw [← hA, ← hB]; rw [Int.mul_neg, Int.neg_neg])
  clear hA hB
  have da : decide (a < 0) = false := decide_eq_false (by omega)
  go_enter Try.func23, Try.ntmps23
  go_wp2_with fail
  refine (of_any a ha _).mono ?_
  rintro e w' ⟨rfl, c1, rfl⟩
  unfold Wide
  go_wp2_with fail
  refine (of_any b hb _).mono ?_
  rintro e w' ⟨rfl, c7, rfl⟩
  unfold Wide
  go_wp2_with fail
  refine (neg_any b _).mono ?_
  rintro e w' ⟨rfl, c8, c9, c10, c11, c12, rfl⟩
  unfold Wide
  go_wp2_with fail
  rw [EA.out, EB.out]
  refine (mul64_any A B uA uB _).mono ?_
  rintro e w' ⟨rfl, rfl⟩
  go_wp2_with fail
  rw [EW.out]
  refine (neg_any (A * B) _).mono ?_
  rintro e w' ⟨rfl, c13, c14, c15, c16, c17, rfl⟩
  rw [EP.out]
  unfold Wide
  go_wp2_with fail
  exact bodyPost_ret (v := .agg #[.int .u64 (whi (a * b)), .int .u64 (wlo (a * b))]) (by simp [results, Try.results23, go_sem]) rfl ⟨rfl, by (repeat (with_reducible first | refine Grown.alloc ?_ _ _ | refine Grown.drew ?_)); with_reducible exact Grown.refl _⟩

set_option maxRecDepth 100000 in
set_option maxHeartbeats 1000000 in
theorem wmul_pp (a b : Int) (ha : I64 a) (hb : I64 b) (sa : 0 ≤ a) (sb : 0 ≤ b) (w : World) :
    Calls Try.prog 23 #[.int .i64 a, .int .i64 b] w fun e w' => e = .returned (Wide (a * b)) ∧ Grown w w' := by
  obtain ⟨a1, a2⟩ := ha; obtain ⟨b1, b2⟩ := hb
  have ha : I64 a := ⟨a1, a2⟩
  have hb : I64 b := ⟨b1, b2⟩
  obtain ⟨A, hA⟩ : ∃ A, a = A := ⟨_, rfl⟩
  obtain ⟨B, hB⟩ : ∃ B, b = B := ⟨_, rfl⟩
  have uA : U64 A := by rw [← hA]; exact ⟨by omega, by omega⟩
  have uB : U64 B := by rw [← hB]; exact ⟨by omega, by omega⟩
  have EA : Hid (wlo (a) = A) := Lib.hid (by unfold wlo; omega)
  have EB : Hid (wlo (b) = B) := Lib.hid (by unfold wlo; omega)
  have EW := Lib.hid (wide_prod uA uB)
  have EP : Hid (A * B = a * b) := Lib.hid (by rw [← hA, ← hB])
  clear hA hB
  have da : decide (a < 0) = false := decide_eq_false (by omega)
  have db : decide (b < 0) = false := decide_eq_false (by omega)
  go_enter Try.func23, Try.ntmps23
  go_wp2_with fail
  refine (of_any a ha _).mono ?_
  rintro e w' ⟨rfl, c1, rfl⟩
  unfold Wide
  go_wp2_with fail
  refine (of_any b hb _).mono ?_
  rintro e w' ⟨rfl, c7, rfl⟩
  unfold Wide
  go_wp2_with fail
  rw [EA.out, EB.out]
  refine (mul64_any A B uA uB _).mono ?_
  rintro e w' ⟨rfl, rfl⟩
  go_wp2_with fail
  exact bodyPost_ret (v := .agg #[.int .u64 (mhi A B), .int .u64 (mlo A B)]) (by simp [results, Try.results23, go_sem]) rfl ⟨by rw [EW.out, EP.out], by (repeat (with_reducible first | refine Grown.alloc ?_ _ _ | refine Grown.drew ?_)); with_reducible exact Grown.refl _⟩

theorem wmul_any (a b : Int) (ha : I64 a) (hb : I64 b) (w : World) :
    Calls Try.prog 23 #[.int .i64 a, .int .i64 b] w fun e w' => e = .returned (Wide (a * b)) ∧ Grown w w' := by
  by_cases sa : a < 0
  · by_cases sb : b < 0
    · exact wmul_nn a b ha hb sa sb w
    · exact wmul_np a b ha hb sa (by omega) w
  · by_cases sb : b < 0
    · exact wmul_pn a b ha hb (by omega) sb w
    · exact wmul_pp a b ha hb (by omega) (by omega) w

theorem sums_room {a b : Int} (ha : I64 a) (hb : I64 b) :
    (-170141183460469231731687303715884105728 ≤ a + b ∧ a + b < 170141183460469231731687303715884105728) ∧ (-170141183460469231731687303715884105728 ≤ a + -b ∧ a + -b < 170141183460469231731687303715884105728) ∧
      (-170141183460469231731687303715884105728 ≤ a * b ∧ a * b < 170141183460469231731687303715884105728) := by
  have hm : (a.natAbs : Int) * (b.natAbs : Int) ≤ 9223372036854775808 * 9223372036854775808 := by
    obtain ⟨a1, a2⟩ := ha; obtain ⟨b1, b2⟩ := hb
    exact Int.mul_le_mul (by omega) (by omega) (by omega) (by omega)
  have h0 : 0 ≤ (a.natAbs : Int) * (b.natAbs : Int) := Int.mul_nonneg (by omega) (by omega)
  have hp : a * b = (a.natAbs : Int) * (b.natAbs : Int) ∨ a * b = -((a.natAbs : Int) * (b.natAbs : Int)) := by
    by_cases h : (!decide (a < 0) == decide (b < 0)) = true
    · exact Or.inr (prod_apart h)
    · exact Or.inl (prod_alike (by simpa using h))
  obtain ⟨a1, a2⟩ := ha; obtain ⟨b1, b2⟩ := hb
  generalize (a.natAbs : Int) * (b.natAbs : Int) = z at *
  refine ⟨by omega, by omega, ?_⟩
  -- (2^63)^2 = 2^126 < 2^127: the bound of an int64's product
  omega

set_option maxRecDepth 100000 in
set_option maxHeartbeats 2000000 in
theorem sums_any (a b : Int) (ha : I64 a) (hb : I64 b) (w : World) :
    Calls Try.prog 3 #[.int .i64 a, .int .i64 b] w fun e w' => e = .returned (.bool true) ∧ Grown w w' := by
  obtain ⟨r1, r2, r3⟩ := sums_room ha hb
  have e1 : Hid (sat (a + -b) = sat (a - b)) := Lib.hid (by rw [Int.sub_eq_add_neg])
  go_enter Try.func3, Try.ntmps3
  go_wp2_with fail
  refine (head1_any _).mono ?_
  rintro e w1 ⟨rfl, j, rfl⟩
  go_wp2_with fail
  refine (add_any a b ha hb _).mono ?_
  rintro e w1 ⟨rfl, rfl⟩
  go_wp2_with fail
  refine (of_any a ha _).mono ?_
  rintro e w1 ⟨rfl, c1, rfl⟩
  go_wp2_with fail
  refine (of_any b hb _).mono ?_
  rintro e w1 ⟨rfl, c2, rfl⟩
  go_wp2_with fail
  refine (wadd_any a b _).mono ?_
  rintro e w1 ⟨rfl, c3, c4, c5, rfl⟩
  go_wp2_with fail
  refine (near_any (a + b) r1 _).mono ?_
  rintro e w1 ⟨rfl, c6, rfl⟩
  go_wp2_with fail
  refine (sub_any a b ha hb _).mono ?_
  rintro e w1 ⟨rfl, rfl⟩
  go_wp2_with fail
  refine (of_any a ha _).mono ?_
  rintro e w1 ⟨rfl, c7, rfl⟩
  go_wp2_with fail
  refine (of_any b hb _).mono ?_
  rintro e w1 ⟨rfl, c8, rfl⟩
  go_wp2_with fail
  refine (neg_any b _).mono ?_
  rintro e w1 ⟨rfl, d1, d2, d3, d4, d5, rfl⟩
  go_wp2_with fail
  refine (wadd_any a (-b) _).mono ?_
  rintro e w1 ⟨rfl, d6, d7, d8, rfl⟩
  go_wp2_with fail
  refine (near_any (a + -b) r2 _).mono ?_
  rintro e w1 ⟨rfl, d9, rfl⟩
  rw [e1.out]
  go_wp2_with fail
  refine (mul_any a b ha hb _).mono ?_
  rintro e w1 ⟨rfl, rfl⟩
  go_wp2_with fail
  refine (wmul_any a b ha hb _).mono ?_
  rintro e w1 ⟨rfl, hg⟩
  go_wp2_with fail
  refine (near_any (a * b) r3 _).mono ?_
  rintro e w2 ⟨rfl, d10, rfl⟩
  go_wp2_with fail
  go_ret
  refine ⟨rfl, (grown_trans ?_ hg).alloc _ _⟩
  (repeat (with_reducible first | refine Grown.alloc ?_ _ _ | refine Grown.drew ?_)); exact grown_drewN _ _
end Go.Proofs.Ytidgehimdbhjcaa
