/- The order of two by their whole parts, as the law's page reckons it. -/
import Derived.Test.YtpagleilaaljoaaRatioB
namespace Go.Proofs.Ytpagleilaaljoaa.R
open Go.RowKit Go.Shelf

/-- How far division by what is left may still go. -/
def Euclid (i : Nat) (n d : Int) : Prop := i = 0 ∨ (d < n ∧ n * d * 2 ^ (i - 1) < 340282366920938463463374607431768211456)

theorem cmp_of {x y x' y' : Int} (h : x - y = x' - y') : cmpI x y = cmpI x' y' := by
  unfold cmpI; split <;> split <;> (try split) <;> (try split) <;> omega

theorem euclid_next {i : Nat} {n d : Int} (hd : U64 d) (d0 : 0 < d) (h : Euclid i n d) : Euclid (i + 1) d (n % d) := by
  have r0 := Int.emod_nonneg n (show d ≠ 0 by omega)
  have r1 := Int.emod_lt_of_pos n d0
  refine Or.inr ⟨r1, ?_⟩
  rw [Nat.add_sub_cancel]
  rcases h with h | ⟨h1, h2⟩
  · subst h
    have : d * (n % d) ≤ 18446744073709551615 * 18446744073709551615 := Int.mul_le_mul hd.2 (by have := hd.2; omega) r0 (by omega)
    rw [Int.pow_zero, Int.mul_one]
    omega
  · by_cases hi : i = 0
    · subst hi
      have : d * (n % d) ≤ 18446744073709551615 * 18446744073709551615 := Int.mul_le_mul hd.2 (by have := hd.2; omega) r0 (by omega)
      rw [Int.pow_zero, Int.mul_one]
      omega
    · obtain ⟨k, rfl⟩ : ∃ k, i = k + 1 := ⟨i - 1, by omega⟩
      rw [Nat.add_sub_cancel] at h2
      have hr : 2 * (n % d) ≤ n := by
        have e := Int.emod_add_mul_ediv n d
        have q : 1 ≤ n / d := Int.le_ediv_of_mul_le d0 (by omega)
        have m : d * 1 ≤ d * (n / d) := Int.mul_le_mul_of_nonneg_left q (by omega)
        omega
      have p : (0 : Int) ≤ 2 ^ k := Int.le_of_lt (Int.pow_pos (by decide))
      have e1 : d * (n % d) * 2 ^ (k + 1) = d * (2 * (n % d)) * 2 ^ k := by
        rw [Int.pow_succ, Int.mul_comm (2 ^ k) 2, ← Int.mul_assoc, Int.mul_assoc d (n % d) 2, Int.mul_comm (n % d) 2]
      rw [e1]
      have m : d * (2 * (n % d)) ≤ n * d := by rw [Int.mul_comm n d]; exact Int.mul_le_mul_of_nonneg_left hr (by omega)
      have := Int.mul_le_mul_of_nonneg_right m p
      omega

theorem euclid_end {i : Nat} {n d : Int} (n0 : 0 < n) (d0 : 0 < d) (h : Euclid i n d) : i ≤ 128 := by
  rcases h with h | ⟨_, h⟩
  · omega
  · refine Nat.le_of_not_lt fun hc => ?_
    have p : (340282366920938463463374607431768211456 : Int) ≤ 2 ^ (i - 1) := by
      have : (2 : Nat) ^ 128 ≤ 2 ^ (i - 1) := Nat.pow_le_pow_right (by omega) (by omega)
      have e : ((2 ^ (i - 1) : Nat) : Int) = 2 ^ (i - 1) := by push_cast; rfl
      rw [← e]
      omega
    have m : 1 ≤ n * d := Int.mul_pos n0 d0
    have : 1 * 2 ^ (i - 1) ≤ n * d * 2 ^ (i - 1) := Int.mul_le_mul_of_nonneg_right m (by omega)
    omega

/-- One step: by whole parts, else by what is left, turned about. -/
theorem cmp_whole_lt {n0 d0 n1 d1 : Int} (h0 : 0 < d0) (h1 : 0 < d1) (h : n0 / d0 < n1 / d1) : cmpI (n0 * d1) (n1 * d0) = -1 := by
  refine cmp_lt ?_
  have e0 : n0 < (n0 / d0 + 1) * d0 := Int.lt_ediv_add_one_mul_self n0 h0
  have e1 : n1 / d1 * d1 ≤ n1 := Int.ediv_mul_le n1 (by omega)
  have a : n0 * d1 < (n0 / d0 + 1) * d0 * d1 := Int.mul_lt_mul_of_pos_right e0 h1
  have b : n1 / d1 * d1 * d0 ≤ n1 * d0 := Int.mul_le_mul_of_nonneg_right e1 (by omega)
  have c : (n0 / d0 + 1) * (d0 * d1) ≤ n1 / d1 * (d0 * d1) := Int.mul_le_mul_of_nonneg_right (by omega) (Int.mul_nonneg (by omega) (by omega))
  have f1 : (n0 / d0 + 1) * d0 * d1 = (n0 / d0 + 1) * (d0 * d1) := Int.mul_assoc _ _ _
  have f2 : n1 / d1 * d1 * d0 = n1 / d1 * (d0 * d1) := by rw [Int.mul_assoc, Int.mul_comm d1]
  omega
theorem cmp_whole_gt {n0 d0 n1 d1 : Int} (h0 : 0 < d0) (h1 : 0 < d1) (h : n1 / d1 < n0 / d0) : cmpI (n0 * d1) (n1 * d0) = 1 := by
  have := cmp_whole_lt h1 h0 h
  rw [cmp_swap] at this
  omega
theorem cmp_left {n0 d0 n1 d1 : Int} (h : n0 / d0 = n1 / d1) : cmpI (n0 * d1) (n1 * d0) = cmpI (n0 % d0 * d1) (n1 % d1 * d0) := by
  refine cmp_of ?_
  have e0 := Int.emod_add_mul_ediv n0 d0
  have e1 := Int.emod_add_mul_ediv n1 d1
  have f0 : n0 * d1 = n0 % d0 * d1 + d0 * (n0 / d0) * d1 := by rw [← Int.add_mul, e0]
  have f1 : n1 * d0 = n1 % d1 * d0 + d1 * (n1 / d1) * d0 := by rw [← Int.add_mul, e1]
  have f2 : d1 * (n1 / d1) * d0 = d0 * (n0 / d0) * d1 := by rw [h, Int.mul_comm d1, Int.mul_assoc, Int.mul_comm d0, Int.mul_assoc, Int.mul_comm d1]
  omega

/-- The blocks of the two parameters. -/
def Two (w : World) (n0 d0 n1 d1 : Int) : World := (w.alloc (.cells #[.int .u64 n0, .int .u64 d0] 53)).alloc (.cells #[.int .u64 n1, .int .u64 d1] 53)

theorem emod_u64 {n d : Int} (hd : U64 d) (d0 : 0 < d) : U64 (n % d) := by
  have r0 := Int.emod_nonneg n (show d ≠ 0 by omega)
  have r1 := Int.emod_lt_of_pos n d0
  exact ⟨r0, by have := hd.2; omega⟩

set_option maxRecDepth 100000 in
set_option maxHeartbeats 2000000 in
theorem order_any (n0 d0 n1 d1 : Int) (u0 : U64 n0) (v0 : U64 d0) (u1 : U64 n1) (v1 : U64 d1) (p0 : 0 < d0) (p1 : 0 < d1) (w : World) :
    Calls Try.prog 31 #[Rat n0 d0, Rat n1 d1] w fun e w' => e = .returned (.int .i64 (cmpI (n0 * d1) (n1 * d0))) ∧ ∃ x y : Array Value, (w.alloc (.cells x 53)).alloc (.cells y 53) = w' := by
  obtain ⟨C, hC⟩ : ∃ C, cmpI (n0 * d1) (n1 * d0) = C := ⟨_, rfl⟩
  rw [hC]
  have HC := Lib.hid hC
  clear hC
  go_enter Try.func31, Try.ntmps31
  go_wp2
  go_loopw [5] (fun i wr => ∃ (k : Nat) (m0 e0 m1 e1 : Int), k ≤ 129 ∧ i = .int .i64 k ∧ wr = (w.alloc (.cells #[.int .u64 m0, .int .u64 e0] 53)).alloc (.cells #[.int .u64 m1, .int .u64 e1] 53) ∧ U64 m0 ∧ U64 e0 ∧ U64 m1 ∧ U64 e1 ∧ 0 < e0 ∧ 0 < e1 ∧ Hid (cmpI (m0 * e1) (m1 * e0) = C) ∧ Euclid k m0 e0 ∧ Euclid k m1 e1) (fun i _ => 200 - (intOf i).toNat)
  case atStart => exact ⟨0, n0, d0, n1, d1, by omega, rfl, rfl, u0, v0, u1, v1, p0, p1, HC, Or.inl rfl, Or.inl rfl⟩
  case round =>
    clear HC u0 v0 u1 v1 p0 p1
    obtain ⟨k, m0, e0, m1, e1, hk, rfl, rfl, u0, v0, u1, v1, p0, p1, HC, E0, E1⟩ := hrel
    have a1 := u0.1; have a2 := u0.2; have a3 := u1.1; have a4 := u1.2
    have b1 := v0.2; have b2 := v1.2
    by_cases c1 : m0 / e0 < m1 / e1
    · have R := Lib.hid ((cmp_whole_lt p0 p1 c1).symm.trans HC.out)
      go_wp2
      go_ret
      exact ⟨ret_int R.out, _, _, rfl⟩
    · by_cases c2 : m1 / e1 < m0 / e0
      · have R := Lib.hid ((cmp_whole_gt p0 p1 c2).symm.trans HC.out)
        go_wp2
        go_ret
        exact ⟨ret_int R.out, _, _, rfl⟩
      · have c3 : m0 / e0 = m1 / e1 := by omega
        have L := (cmp_left c3).symm.trans HC.out
        have r0 := Int.emod_nonneg m0 (show e0 ≠ 0 by omega)
        have r1 := Int.emod_lt_of_pos m0 p0
        have s0 := Int.emod_nonneg m1 (show e1 ≠ 0 by omega)
        have s1 := Int.emod_lt_of_pos m1 p1
        clear c3
        by_cases z0 : m0 % e0 = 0
        · by_cases z1 : m1 % e1 = 0
          · have R : Hid (0 = C) := Lib.hid (by rw [← L, z0, z1, Int.zero_mul, Int.zero_mul]; exact (cmp_eq 0).symm)
            clear L
            go_wp2
            go_ret
            exact ⟨ret_int R.out, _, _, rfl⟩
          · have R : Hid (-1 = C) := Lib.hid (by rw [← L, z0, Int.zero_mul]; exact (cmp_lt (Int.mul_pos (by omega) p0)).symm)
            have z1' : (m1 % e1 == 0) = false := by simpa using z1
            clear L z1
            go_wp2
            go_ret
            exact ⟨ret_int R.out, _, _, rfl⟩
        · have z0' : (m0 % e0 == 0) = false := by simpa using z0
          by_cases z1 : m1 % e1 = 0
          · have R : Hid (1 = C) := Lib.hid (by rw [← L, z1, Int.zero_mul]; exact (cmp_gt (Int.mul_pos (by omega) p1)).symm)
            clear L z0
            go_wp2
            go_ret
            exact ⟨ret_int R.out, _, _, rfl⟩
          · have z1' : (m1 % e1 == 0) = false := by simpa using z1
            have F0 := euclid_next v0 p0 E0
            have F1 := euclid_next v1 p1 E1
            have hk' : k + 1 ≤ 128 := euclid_end p0 (by omega) F0
            have L' : Hid (cmpI (e1 * (m0 % e0)) (e0 * (m1 % e1)) = C) := Lib.hid (by rw [Int.mul_comm e1, Int.mul_comm e0]; exact L)
            have w0 := emod_u64 (n := m0) v0 p0
            have w1 := emod_u64 (n := m1) v1 p1
            have q0 : 0 < m0 % e0 := by omega
            have q1 : 0 < m1 % e1 := by omega
            clear L z0 z1 E0 E1
            go_wp2
            go_roundw
            case rel => exact ⟨k + 1, e1, m1 % e1, e0, m0 % e0, by omega, by go_num, rfl, v1, w1, v0, w0, q1, q0, L', F1, F0⟩
            case measure => simp [intOf]; omega
end Go.Proofs.Ytpagleilaaljoaa.R
