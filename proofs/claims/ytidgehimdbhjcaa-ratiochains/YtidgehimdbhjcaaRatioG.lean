/- The law RatioChains. -/
import Derived.Test.YtidgehimdbhjcaaRatioB
import Derived.Laws.Bits64b
namespace Go.Proofs.Ytidgehimdbhjcaa.R
open Go.RowKit Go.Shelf
set_option linter.unusedVariables false

theorem cmp_le {x y : Int} (h : cmpI x y ≤ 0) : x ≤ y := by
  unfold cmpI at h; split at h
  · omega
  · split at h <;> omega
theorem le_cmp {x y : Int} (h : x ≤ y) : cmpI x y ≤ 0 := by
  unfold cmpI; split
  · omega
  · split <;> omega
/-- What is less than something that is less than a third is less than that. -/
theorem chain {n0 d0 n1 d1 n2 d2 : Int} (h0 : 0 ≤ d0) (h1 : 0 < d1) (h2 : 0 ≤ d2) (x : cmpI (n0 * d1) (n1 * d0) ≤ 0) (y : cmpI (n1 * d2) (n2 * d1) ≤ 0) : cmpI (n0 * d2) (n2 * d0) ≤ 0 := by
  have x' := Int.mul_le_mul_of_nonneg_right (cmp_le x) h2
  have y' := Int.mul_le_mul_of_nonneg_right (cmp_le y) h0
  refine le_cmp (Int.le_of_mul_le_mul_right ?_ h1)
  have e1 : n0 * d1 * d2 = n0 * d2 * d1 := Int.mul_right_comm _ _ _
  have e2 : n1 * d0 * d2 = n1 * d2 * d0 := Int.mul_right_comm _ _ _
  have e3 : n2 * d1 * d0 = n2 * d0 * d1 := Int.mul_right_comm _ _ _
  omega
theorem cmp_scale {x y k : Int} (hk : 0 < k) : cmpI (x * k) (y * k) = cmpI x y := by
  rcases Int.lt_trichotomy x y with h | h | h
  · rw [cmp_lt h, cmp_lt (Int.mul_lt_mul_of_pos_right h hk)]
  · subst h; rw [cmp_eq, cmp_eq]
  · rw [cmp_gt h, cmp_gt (Int.mul_lt_mul_of_pos_right h hk)]
theorem and255 (a : Int) (ha : U64 a) : 0 ≤ bits .and .u64 a 255 ∧ bits .and .u64 a 255 ≤ 255 := by
  obtain ⟨h0, h1⟩ := ha
  obtain ⟨n, rfl⟩ := Int.eq_ofNat_of_zero_le h0
  have h := bits_and_u64_nat n 255 (by omega) (by omega)
  have e : n &&& 255 = n % 256 := Nat.and_two_pow_sub_one_eq_mod n 8
  rw [e] at h
  have h' : bits .and .u64 (n : Int) 255 = ((n % 256 : Nat) : Int) := h
  rw [h']
  omega

/-- A Ratio of which both numbers are so many times as great. -/
structure Times (n0 d0 n1 d1 j N D : Int) : Prop where
  eN : n0 * (1 + j) = N
  eD : d0 * (1 + j) = D
  uN : U64 N
  uD : U64 D
  c0 : cmpI (N * d0) (n0 * D) = 0
  c1 : cmpI (N * d1) (n1 * D) = cmpI (n0 * d1) (n1 * d0)
  fl : N / D = n0 / d0
theorem times {n0 d0 n1 d1 j : Int} (hn : U64 n0) (hd : 0 < d0) (n2 : n0 ≤ 1125899906842624) (d2 : d0 ≤ 1125899906842624) (j0 : 0 ≤ j) (j1 : j ≤ 255) : ∃ N D, Times n0 d0 n1 d1 j N D := by
  obtain ⟨n3, n4⟩ := hn
  have b1 : 0 ≤ n0 * (1 + j) := Int.mul_nonneg n3 (by omega)
  have b2 : 0 ≤ d0 * (1 + j) := Int.mul_nonneg (by omega) (by omega)
  have b3 : n0 * (1 + j) ≤ 1125899906842624 * 256 := Int.mul_le_mul n2 (by omega) (by omega) (by omega)
  have b4 : d0 * (1 + j) ≤ 1125899906842624 * 256 := Int.mul_le_mul d2 (by omega) (by omega) (by omega)
  refine ⟨_, _, rfl, rfl, ⟨b1, by omega⟩, ⟨b2, by omega⟩, ?_, ?_, ?_⟩
  · rw [Int.mul_right_comm, ← Int.mul_assoc]; exact cmp_eq _
  · rw [Int.mul_right_comm n0, ← Int.mul_assoc n1]; exact cmp_scale (by omega)
  · exact Int.mul_ediv_mul_of_pos_left _ _ (by omega)

set_option maxRecDepth 100000 in
set_option maxHeartbeats 2000000 in
theorem chains_num1 (n0 d0 n1 d1 n2 d2 k : Int) (u0 : U64 n0) (v0 : U64 d0) (u1 : U64 n1) (v1 : U64 d1) (u2 : U64 n2) (v2 : U64 d2) (z0 : (d0 == 0) = false) (z1 : (d1 == 0) = false) (z2 : (d2 == 0) = false) (x : cmpI (n0 * d1) (n1 * d0) ≤ 0) (y : cmpI (n1 * d2) (n2 * d1) ≤ 0) (z : cmpI (n0 * d2) (n2 * d0) ≤ 0) (g : 1125899906842624 < n0) (w : World) :
    Calls Try.prog 13 #[Rat n0 d0, Rat n1 d1, Rat n2 d2, .int .u64 k] w fun e w' => e = .returned (.bool true) ∧ Grown w w' := by
  go_enter Try.func13, Try.ntmps13
  go_wp2_with fail
  refine (head2_any _).mono ?_
  rintro e w' ⟨rfl, x1, x2, x3, x4, x5, x6, rfl⟩
  go_wp2_with (first | (go_at_call 31; refine (compare_any _ _ _ _ (by assumption) (by assumption) (by assumption) (by assumption) _).mono ?_; rintro e w' ⟨rfl, y1, y2, rfl⟩))
  go_ret
  exact ⟨rfl, by (repeat (with_reducible first | refine Grown.alloc ?_ _ _ | refine Grown.drew ?_)); with_reducible exact Grown.refl _⟩

set_option maxRecDepth 100000 in
set_option maxHeartbeats 2000000 in
theorem chains_den1 (n0 d0 n1 d1 n2 d2 k : Int) (u0 : U64 n0) (v0 : U64 d0) (u1 : U64 n1) (v1 : U64 d1) (u2 : U64 n2) (v2 : U64 d2) (z0 : (d0 == 0) = false) (z1 : (d1 == 0) = false) (z2 : (d2 == 0) = false) (x : cmpI (n0 * d1) (n1 * d0) ≤ 0) (y : cmpI (n1 * d2) (n2 * d1) ≤ 0) (z : cmpI (n0 * d2) (n2 * d0) ≤ 0) (g : n0 ≤ 1125899906842624) (g' : 1125899906842624 < d0) (w : World) :
    Calls Try.prog 13 #[Rat n0 d0, Rat n1 d1, Rat n2 d2, .int .u64 k] w fun e w' => e = .returned (.bool true) ∧ Grown w w' := by
  go_enter Try.func13, Try.ntmps13
  go_wp2_with fail
  refine (head2_any _).mono ?_
  rintro e w' ⟨rfl, x1, x2, x3, x4, x5, x6, rfl⟩
  go_wp2_with (first | (go_at_call 31; refine (compare_any _ _ _ _ (by assumption) (by assumption) (by assumption) (by assumption) _).mono ?_; rintro e w' ⟨rfl, y1, y2, rfl⟩))
  go_ret
  exact ⟨rfl, by (repeat (with_reducible first | refine Grown.alloc ?_ _ _ | refine Grown.drew ?_)); with_reducible exact Grown.refl _⟩

set_option maxRecDepth 100000 in
set_option maxHeartbeats 2000000 in
theorem chains_all1 (n0 d0 n1 d1 n2 d2 k : Int) (u0 : U64 n0) (v0 : U64 d0) (u1 : U64 n1) (v1 : U64 d1) (u2 : U64 n2) (v2 : U64 d2) (z0 : (d0 == 0) = false) (z1 : (d1 == 0) = false) (z2 : (d2 == 0) = false) (x : cmpI (n0 * d1) (n1 * d0) ≤ 0) (y : cmpI (n1 * d2) (n2 * d1) ≤ 0) (z : cmpI (n0 * d2) (n2 * d0) ≤ 0) (g : n0 ≤ 1125899906842624) (g' : d0 ≤ 1125899906842624) (j N D : Int) (j0 : 0 ≤ j) (j1 : j ≤ 255) (hj : bits .and .u64 k 255 = j) (T : Times n0 d0 n1 d1 j N D) (w : World) :
    Calls Try.prog 13 #[Rat n0 d0, Rat n1 d1, Rat n2 d2, .int .u64 k] w fun e w' => e = .returned (.bool true) ∧ Grown w w' := by
  have eN := T.eN; have eD := T.eD; have uN := T.uN; have uD := T.uD
  have c0 := T.c0; have c1 := T.c1; have fl := T.fl
  have s1 := uN.1; have s2 := uN.2; have s3 := uD.1; have s4 := uD.2
  clear T
  go_enter Try.func13, Try.ntmps13
  go_wp2_with fail
  refine (head2_any _).mono ?_
  rintro e w' ⟨rfl, x1, x2, x3, x4, x5, x6, rfl⟩
  go_wp2_with (first | (go_at_call 31; refine (compare_any _ _ _ _ (by assumption) (by assumption) (by assumption) (by assumption) _).mono ?_; rintro e w' ⟨rfl, y1, y2, rfl⟩))
  go_region_held3 (fun w' => w'.cell? ⟨w.heap.size, 0, none⟩ = some (.int .u64 n0) ∧ w'.cell? ⟨w.heap.size, 1, none⟩ = some (.int .u64 d0) ∧ w'.cell? ⟨w.heap.size + 1, 0, none⟩ = some (.int .u64 n1) ∧ w'.cell? ⟨w.heap.size + 1, 1, none⟩ = some (.int .u64 d1) ∧ w'.cell? ⟨w.heap.size + 1 + 1 + 1 + 1 + 1 + 1 + 1 + 1 + 1 + 1 + 1 + 1 + 1 + 1 + 1, 0, none⟩ = some (.int .u64 N) ∧ w'.cell? ⟨w.heap.size + 1 + 1 + 1 + 1 + 1 + 1 + 1 + 1 + 1 + 1 + 1 + 1 + 1 + 1 + 1, 1, none⟩ = some (.int .u64 D)) (simp [go_sem, World.cell?_alloc_past])
    (first
      | (go_at_call 31; refine (compare_any _ _ _ _ (by assumption) (by assumption) (by assumption) (by assumption) _).mono ?_; rintro e w' ⟨rfl, y1, y2, rfl⟩)
      | (go_at_call 33; refine (floor_any _ _ (by assumption) (by assumption) _).mono ?_; rintro e w' ⟨rfl, y1, y2, rfl⟩))
  go_wp2
  go_ret
  exact ⟨rfl, by (repeat (with_reducible first | refine Grown.alloc ?_ _ _ | refine Grown.drew ?_)); with_reducible exact Grown.refl _⟩

set_option maxRecDepth 100000 in
set_option maxHeartbeats 2000000 in
theorem chains_num2 (n0 d0 n1 d1 n2 d2 k : Int) (u0 : U64 n0) (v0 : U64 d0) (u1 : U64 n1) (v1 : U64 d1) (u2 : U64 n2) (v2 : U64 d2) (z0 : (d0 == 0) = false) (z1 : (d1 == 0) = false) (z2 : (d2 == 0) = false) (x : cmpI (n0 * d1) (n1 * d0) ≤ 0) (y : 0 < cmpI (n1 * d2) (n2 * d1)) (g : 1125899906842624 < n0) (w : World) :
    Calls Try.prog 13 #[Rat n0 d0, Rat n1 d1, Rat n2 d2, .int .u64 k] w fun e w' => e = .returned (.bool true) ∧ Grown w w' := by
  go_enter Try.func13, Try.ntmps13
  go_wp2_with fail
  refine (head2_any _).mono ?_
  rintro e w' ⟨rfl, x1, x2, x3, x4, x5, x6, rfl⟩
  go_wp2_with (first | (go_at_call 31; refine (compare_any _ _ _ _ (by assumption) (by assumption) (by assumption) (by assumption) _).mono ?_; rintro e w' ⟨rfl, y1, y2, rfl⟩))
  go_ret
  exact ⟨rfl, by (repeat (with_reducible first | refine Grown.alloc ?_ _ _ | refine Grown.drew ?_)); with_reducible exact Grown.refl _⟩

set_option maxRecDepth 100000 in
set_option maxHeartbeats 2000000 in
theorem chains_den2 (n0 d0 n1 d1 n2 d2 k : Int) (u0 : U64 n0) (v0 : U64 d0) (u1 : U64 n1) (v1 : U64 d1) (u2 : U64 n2) (v2 : U64 d2) (z0 : (d0 == 0) = false) (z1 : (d1 == 0) = false) (z2 : (d2 == 0) = false) (x : cmpI (n0 * d1) (n1 * d0) ≤ 0) (y : 0 < cmpI (n1 * d2) (n2 * d1)) (g : n0 ≤ 1125899906842624) (g' : 1125899906842624 < d0) (w : World) :
    Calls Try.prog 13 #[Rat n0 d0, Rat n1 d1, Rat n2 d2, .int .u64 k] w fun e w' => e = .returned (.bool true) ∧ Grown w w' := by
  go_enter Try.func13, Try.ntmps13
  go_wp2_with fail
  refine (head2_any _).mono ?_
  rintro e w' ⟨rfl, x1, x2, x3, x4, x5, x6, rfl⟩
  go_wp2_with (first | (go_at_call 31; refine (compare_any _ _ _ _ (by assumption) (by assumption) (by assumption) (by assumption) _).mono ?_; rintro e w' ⟨rfl, y1, y2, rfl⟩))
  go_ret
  exact ⟨rfl, by (repeat (with_reducible first | refine Grown.alloc ?_ _ _ | refine Grown.drew ?_)); with_reducible exact Grown.refl _⟩

set_option maxRecDepth 100000 in
set_option maxHeartbeats 2000000 in
theorem chains_all2 (n0 d0 n1 d1 n2 d2 k : Int) (u0 : U64 n0) (v0 : U64 d0) (u1 : U64 n1) (v1 : U64 d1) (u2 : U64 n2) (v2 : U64 d2) (z0 : (d0 == 0) = false) (z1 : (d1 == 0) = false) (z2 : (d2 == 0) = false) (x : cmpI (n0 * d1) (n1 * d0) ≤ 0) (y : 0 < cmpI (n1 * d2) (n2 * d1)) (g : n0 ≤ 1125899906842624) (g' : d0 ≤ 1125899906842624) (j N D : Int) (j0 : 0 ≤ j) (j1 : j ≤ 255) (hj : bits .and .u64 k 255 = j) (T : Times n0 d0 n1 d1 j N D) (w : World) :
    Calls Try.prog 13 #[Rat n0 d0, Rat n1 d1, Rat n2 d2, .int .u64 k] w fun e w' => e = .returned (.bool true) ∧ Grown w w' := by
  have eN := T.eN; have eD := T.eD; have uN := T.uN; have uD := T.uD
  have c0 := T.c0; have c1 := T.c1; have fl := T.fl
  have s1 := uN.1; have s2 := uN.2; have s3 := uD.1; have s4 := uD.2
  clear T
  go_enter Try.func13, Try.ntmps13
  go_wp2_with fail
  refine (head2_any _).mono ?_
  rintro e w' ⟨rfl, x1, x2, x3, x4, x5, x6, rfl⟩
  go_wp2_with (first | (go_at_call 31; refine (compare_any _ _ _ _ (by assumption) (by assumption) (by assumption) (by assumption) _).mono ?_; rintro e w' ⟨rfl, y1, y2, rfl⟩))
  go_region_held3 (fun w' => w'.cell? ⟨w.heap.size, 0, none⟩ = some (.int .u64 n0) ∧ w'.cell? ⟨w.heap.size, 1, none⟩ = some (.int .u64 d0) ∧ w'.cell? ⟨w.heap.size + 1, 0, none⟩ = some (.int .u64 n1) ∧ w'.cell? ⟨w.heap.size + 1, 1, none⟩ = some (.int .u64 d1) ∧ w'.cell? ⟨w.heap.size + 1 + 1 + 1 + 1 + 1 + 1 + 1 + 1 + 1 + 1 + 1 + 1 + 1, 0, none⟩ = some (.int .u64 N) ∧ w'.cell? ⟨w.heap.size + 1 + 1 + 1 + 1 + 1 + 1 + 1 + 1 + 1 + 1 + 1 + 1 + 1, 1, none⟩ = some (.int .u64 D)) (simp [go_sem, World.cell?_alloc_past])
    (first
      | (go_at_call 31; refine (compare_any _ _ _ _ (by assumption) (by assumption) (by assumption) (by assumption) _).mono ?_; rintro e w' ⟨rfl, y1, y2, rfl⟩)
      | (go_at_call 33; refine (floor_any _ _ (by assumption) (by assumption) _).mono ?_; rintro e w' ⟨rfl, y1, y2, rfl⟩))
  go_wp2
  go_ret
  exact ⟨rfl, by (repeat (with_reducible first | refine Grown.alloc ?_ _ _ | refine Grown.drew ?_)); with_reducible exact Grown.refl _⟩

set_option maxRecDepth 100000 in
set_option maxHeartbeats 2000000 in
theorem chains_num3 (n0 d0 n1 d1 n2 d2 k : Int) (u0 : U64 n0) (v0 : U64 d0) (u1 : U64 n1) (v1 : U64 d1) (u2 : U64 n2) (v2 : U64 d2) (z0 : (d0 == 0) = false) (z1 : (d1 == 0) = false) (z2 : (d2 == 0) = false) (x : 0 < cmpI (n0 * d1) (n1 * d0)) (g : 1125899906842624 < n0) (w : World) :
    Calls Try.prog 13 #[Rat n0 d0, Rat n1 d1, Rat n2 d2, .int .u64 k] w fun e w' => e = .returned (.bool true) ∧ Grown w w' := by
  go_enter Try.func13, Try.ntmps13
  go_wp2_with fail
  refine (head2_any _).mono ?_
  rintro e w' ⟨rfl, x1, x2, x3, x4, x5, x6, rfl⟩
  go_wp2_with (first | (go_at_call 31; refine (compare_any _ _ _ _ (by assumption) (by assumption) (by assumption) (by assumption) _).mono ?_; rintro e w' ⟨rfl, y1, y2, rfl⟩))
  go_ret
  exact ⟨rfl, by (repeat (with_reducible first | refine Grown.alloc ?_ _ _ | refine Grown.drew ?_)); with_reducible exact Grown.refl _⟩

set_option maxRecDepth 100000 in
set_option maxHeartbeats 2000000 in
theorem chains_den3 (n0 d0 n1 d1 n2 d2 k : Int) (u0 : U64 n0) (v0 : U64 d0) (u1 : U64 n1) (v1 : U64 d1) (u2 : U64 n2) (v2 : U64 d2) (z0 : (d0 == 0) = false) (z1 : (d1 == 0) = false) (z2 : (d2 == 0) = false) (x : 0 < cmpI (n0 * d1) (n1 * d0)) (g : n0 ≤ 1125899906842624) (g' : 1125899906842624 < d0) (w : World) :
    Calls Try.prog 13 #[Rat n0 d0, Rat n1 d1, Rat n2 d2, .int .u64 k] w fun e w' => e = .returned (.bool true) ∧ Grown w w' := by
  go_enter Try.func13, Try.ntmps13
  go_wp2_with fail
  refine (head2_any _).mono ?_
  rintro e w' ⟨rfl, x1, x2, x3, x4, x5, x6, rfl⟩
  go_wp2_with (first | (go_at_call 31; refine (compare_any _ _ _ _ (by assumption) (by assumption) (by assumption) (by assumption) _).mono ?_; rintro e w' ⟨rfl, y1, y2, rfl⟩))
  go_ret
  exact ⟨rfl, by (repeat (with_reducible first | refine Grown.alloc ?_ _ _ | refine Grown.drew ?_)); with_reducible exact Grown.refl _⟩

set_option maxRecDepth 100000 in
set_option maxHeartbeats 2000000 in
theorem chains_all3 (n0 d0 n1 d1 n2 d2 k : Int) (u0 : U64 n0) (v0 : U64 d0) (u1 : U64 n1) (v1 : U64 d1) (u2 : U64 n2) (v2 : U64 d2) (z0 : (d0 == 0) = false) (z1 : (d1 == 0) = false) (z2 : (d2 == 0) = false) (x : 0 < cmpI (n0 * d1) (n1 * d0)) (g : n0 ≤ 1125899906842624) (g' : d0 ≤ 1125899906842624) (j N D : Int) (j0 : 0 ≤ j) (j1 : j ≤ 255) (hj : bits .and .u64 k 255 = j) (T : Times n0 d0 n1 d1 j N D) (w : World) :
    Calls Try.prog 13 #[Rat n0 d0, Rat n1 d1, Rat n2 d2, .int .u64 k] w fun e w' => e = .returned (.bool true) ∧ Grown w w' := by
  have eN := T.eN; have eD := T.eD; have uN := T.uN; have uD := T.uD
  have c0 := T.c0; have c1 := T.c1; have fl := T.fl
  have s1 := uN.1; have s2 := uN.2; have s3 := uD.1; have s4 := uD.2
  clear T
  go_enter Try.func13, Try.ntmps13
  go_wp2_with fail
  refine (head2_any _).mono ?_
  rintro e w' ⟨rfl, x1, x2, x3, x4, x5, x6, rfl⟩
  go_wp2_with (first | (go_at_call 31; refine (compare_any _ _ _ _ (by assumption) (by assumption) (by assumption) (by assumption) _).mono ?_; rintro e w' ⟨rfl, y1, y2, rfl⟩))
  go_region_held3 (fun w' => w'.cell? ⟨w.heap.size, 0, none⟩ = some (.int .u64 n0) ∧ w'.cell? ⟨w.heap.size, 1, none⟩ = some (.int .u64 d0) ∧ w'.cell? ⟨w.heap.size + 1, 0, none⟩ = some (.int .u64 n1) ∧ w'.cell? ⟨w.heap.size + 1, 1, none⟩ = some (.int .u64 d1) ∧ w'.cell? ⟨w.heap.size + 1 + 1 + 1 + 1 + 1 + 1 + 1 + 1 + 1 + 1 + 1, 0, none⟩ = some (.int .u64 N) ∧ w'.cell? ⟨w.heap.size + 1 + 1 + 1 + 1 + 1 + 1 + 1 + 1 + 1 + 1 + 1, 1, none⟩ = some (.int .u64 D)) (simp [go_sem, World.cell?_alloc_past])
    (first
      | (go_at_call 31; refine (compare_any _ _ _ _ (by assumption) (by assumption) (by assumption) (by assumption) _).mono ?_; rintro e w' ⟨rfl, y1, y2, rfl⟩)
      | (go_at_call 33; refine (floor_any _ _ (by assumption) (by assumption) _).mono ?_; rintro e w' ⟨rfl, y1, y2, rfl⟩))
  go_wp2
  go_ret
  exact ⟨rfl, by (repeat (with_reducible first | refine Grown.alloc ?_ _ _ | refine Grown.drew ?_)); with_reducible exact Grown.refl _⟩

set_option maxRecDepth 100000 in
set_option maxHeartbeats 2000000 in
theorem chains_any (n0 d0 n1 d1 n2 d2 k : Int) (u0 : U64 n0) (v0 : U64 d0) (u1 : U64 n1) (v1 : U64 d1) (u2 : U64 n2) (v2 : U64 d2) (hk : U64 k) (w : World) :
    Calls Try.prog 13 #[Rat n0 d0, Rat n1 d1, Rat n2 d2, .int .u64 k] w fun e w' => e = .returned (.bool true) ∧ Grown w w' := by
  by_cases z0 : d0 = 0
  · subst z0
    go_enter Try.func13, Try.ntmps13
    go_wp2_with fail
    refine (head2_any _).mono ?_
    rintro e w' ⟨rfl, x1, x2, x3, x4, x5, x6, rfl⟩
    go_wp2_with (first | (go_at_call 31; refine (compare_any _ _ _ _ (by assumption) (by assumption) (by assumption) (by assumption) _).mono ?_; rintro e w' ⟨rfl, y1, y2, rfl⟩))
    go_ret
    exact ⟨rfl, by (repeat (with_reducible first | refine Grown.alloc ?_ _ _ | refine Grown.drew ?_)); with_reducible exact Grown.refl _⟩
  have z0' : (d0 == 0) = false := by simpa using z0
  by_cases z1 : d1 = 0
  · subst z1
    go_enter Try.func13, Try.ntmps13
    go_wp2_with fail
    refine (head2_any _).mono ?_
    rintro e w' ⟨rfl, x1, x2, x3, x4, x5, x6, rfl⟩
    go_wp2_with (first | (go_at_call 31; refine (compare_any _ _ _ _ (by assumption) (by assumption) (by assumption) (by assumption) _).mono ?_; rintro e w' ⟨rfl, y1, y2, rfl⟩))
    go_ret
    exact ⟨rfl, by (repeat (with_reducible first | refine Grown.alloc ?_ _ _ | refine Grown.drew ?_)); with_reducible exact Grown.refl _⟩
  have z1' : (d1 == 0) = false := by simpa using z1
  by_cases z2 : d2 = 0
  · subst z2
    go_enter Try.func13, Try.ntmps13
    go_wp2_with fail
    refine (head2_any _).mono ?_
    rintro e w' ⟨rfl, x1, x2, x3, x4, x5, x6, rfl⟩
    go_wp2_with (first | (go_at_call 31; refine (compare_any _ _ _ _ (by assumption) (by assumption) (by assumption) (by assumption) _).mono ?_; rintro e w' ⟨rfl, y1, y2, rfl⟩))
    go_ret
    exact ⟨rfl, by (repeat (with_reducible first | refine Grown.alloc ?_ _ _ | refine Grown.drew ?_)); with_reducible exact Grown.refl _⟩
  have z2' : (d2 == 0) = false := by simpa using z2
  have p0 : 0 < d0 := by have := v0.1; omega
  have p1 : 0 < d1 := by have := v1.1; omega
  have p2 : 0 < d2 := by have := v2.1; omega
  have main : (cmpI (n0 * d1) (n1 * d0) ≤ 0 ∧ cmpI (n1 * d2) (n2 * d1) ≤ 0 ∧ cmpI (n0 * d2) (n2 * d0) ≤ 0) ∨ (cmpI (n0 * d1) (n1 * d0) ≤ 0 ∧ 0 < cmpI (n1 * d2) (n2 * d1)) ∨ 0 < cmpI (n0 * d1) (n1 * d0) := by
    by_cases x : cmpI (n0 * d1) (n1 * d0) ≤ 0
    · by_cases y : cmpI (n1 * d2) (n2 * d1) ≤ 0
      · exact Or.inl ⟨x, y, chain (by omega) p1 (by omega) x y⟩
      · exact Or.inr (Or.inl ⟨x, by omega⟩)
    · exact Or.inr (Or.inr (by omega))
  obtain ⟨j0, j1⟩ := and255 k hk
  by_cases g : 1125899906842624 < n0
  · rcases main with ⟨x, y, z⟩ | ⟨x, y⟩ | x
    · exact chains_num1 n0 d0 n1 d1 n2 d2 k u0 v0 u1 v1 u2 v2 z0' z1' z2' x y z g w
    · exact chains_num2 n0 d0 n1 d1 n2 d2 k u0 v0 u1 v1 u2 v2 z0' z1' z2' x y g w
    · exact chains_num3 n0 d0 n1 d1 n2 d2 k u0 v0 u1 v1 u2 v2 z0' z1' z2' x g w
  by_cases g' : 1125899906842624 < d0
  · rcases main with ⟨x, y, z⟩ | ⟨x, y⟩ | x
    · exact chains_den1 n0 d0 n1 d1 n2 d2 k u0 v0 u1 v1 u2 v2 z0' z1' z2' x y z (by omega) g' w
    · exact chains_den2 n0 d0 n1 d1 n2 d2 k u0 v0 u1 v1 u2 v2 z0' z1' z2' x y (by omega) g' w
    · exact chains_den3 n0 d0 n1 d1 n2 d2 k u0 v0 u1 v1 u2 v2 z0' z1' z2' x (by omega) g' w
  obtain ⟨N, D, T⟩ := times (n1 := n1) (d1 := d1) u0 p0 (by omega) (by omega) j0 j1
  rcases main with ⟨x, y, z⟩ | ⟨x, y⟩ | x
  · exact chains_all1 n0 d0 n1 d1 n2 d2 k u0 v0 u1 v1 u2 v2 z0' z1' z2' x y z (by omega) (by omega) _ N D j0 j1 rfl T w
  · exact chains_all2 n0 d0 n1 d1 n2 d2 k u0 v0 u1 v1 u2 v2 z0' z1' z2' x y (by omega) (by omega) _ N D j0 j1 rfl T w
  · exact chains_all3 n0 d0 n1 d1 n2 d2 k u0 v0 u1 v1 u2 v2 z0' z1' z2' x (by omega) (by omega) _ N D j0 j1 rfl T w

end Go.Proofs.Ytidgehimdbhjcaa.R
