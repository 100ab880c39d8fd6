/- The laws NumSplits and NumParts. -/
import Derived.Test.YtidgehimdbhjcaaNumF
namespace Go.Proofs.Ytidgehimdbhjcaa
open Go.RowKit Go.Shelf

/-- A number's parts in a hundred, and the rest's. -/
theorem split_parts {n p : Int} (hn : 0 ≤ n) (n1 : I64 n) (h0 : 0 ≤ p) (h1 : p ≤ 63) :
    0 ≤ fracI n p 100 ∧ fracI n p 100 ≤ n ∧ fracUpI n (100 - p) 100 = n - fracI n p 100 ∧
      (fracI n (100 - p) 100 = n - fracI n p 100 ∨ (fracI n (100 - p) 100 = n - fracI n p 100 - 1 ∧ 1 ≤ n - fracI n p 100)) := by
  obtain ⟨a1, a2⟩ := frac_less (n := n) (up := p) (d := 100) hn n1 h0 (by omega) (by omega)
  obtain ⟨b1, b2⟩ := frac_less (n := n) (up := 100 - p) (d := 100) hn n1 (by omega) (by omega) (by omega)
  obtain ⟨_, n2⟩ := n1
  have e : n * (100 - p) = n * 100 - n * p := Int.mul_sub _ _ _
  have e0 : 0 ≤ n * p := Int.mul_nonneg hn h0
  have e1 : n * p ≤ n * 63 := Int.mul_le_mul_of_nonneg_left h1 hn
  refine ⟨(frac_i64 _ _ _).2, a1, ?_⟩
  clear a1 a2 b1 b2
  unfold fracI fracUpI
  rw [if_neg (show ¬ Bad n p 100 by unfold Bad; omega), if_neg (show ¬ Bad n (100 - p) 100 by unfold Bad; omega), e]
  rw [if_neg (show ¬ Bad n (100 - p) 100 by unfold Bad; omega)]
  generalize n * p = z at *
  clear e
  refine ⟨?_, ?_⟩
  · split <;> omega
  · omega

theorem and63 (n : Int) : bits .and .i64 n 63 = n % 64 := by
  have h63 : (BitVec.ofInt 64 63).toNat = 2 ^ 6 - 1 := by decide
  have key : (BitVec.ofInt 64 n &&& BitVec.ofInt 64 63).toNat = (n % ((2 ^ 64 : Nat) : Int)).toNat % 2 ^ 6 := by
    rw [BitVec.toNat_and, BitVec.toNat_ofInt, h63, Nat.and_two_pow_sub_one_eq_mod]
  show IntKind.i64.wrap ((BitVec.ofInt 64 n &&& BitVec.ofInt 64 63).toNat : Nat) = n % 64
  rw [key, IntKind.wrap_i64]
  omega

set_option maxHeartbeats 2000000 in
theorem splits_any (n percent : Int) (hn : I64 n) (w : World) :
    Calls Try.prog 9 #[.int .i64 n, .int .i64 percent] w fun e w' => e = .returned (.bool true) ∧ Grown w w' := by
  obtain ⟨n1, n2⟩ := hn
  obtain ⟨p, hp⟩ : ∃ p, bits .and .i64 percent 63 = p := ⟨_, rfl⟩
  have p0 : 0 ≤ p := by rw [← hp, and63]; omega
  have p1 : p ≤ 63 := by rw [← hp, and63]; omega
  have HP := Lib.hid hp
  clear hp
  have q0 : I64 p := ⟨by omega, by omega⟩
  have q1 : I64 (100 - p) := ⟨by omega, by omega⟩
  have q2 : I64 100 := ⟨by decide, by decide⟩
  have key : ∃ m : Int, Hid (m = if n < 0 then -(n + 1) else n) ∧ I64 m ∧ 0 ≤ m := by
    by_cases h : n < 0
    · exact ⟨-(n + 1), Lib.hid (by rw [if_pos h]), ⟨by omega, by omega⟩, by omega⟩
    · exact ⟨n, Lib.hid (by rw [if_neg h]), ⟨by omega, by omega⟩, by omega⟩
  obtain ⟨m, M, m1, m0⟩ := key
  have S := split_parts m0 m1 p0 p1
  have f1 := (frac_i64 m (100 - p) 100)
  obtain ⟨A, hA⟩ : ∃ A, fracI m p 100 = A := ⟨_, rfl⟩
  obtain ⟨B, hB⟩ : ∃ B, fracI m (100 - p) 100 = B := ⟨_, rfl⟩
  obtain ⟨C, hC⟩ : ∃ C, fracUpI m (100 - p) 100 = C := ⟨_, rfl⟩
  rw [hA, hB, hC] at S
  rw [hB] at f1
  have HA := Lib.hid hA
  have HB := Lib.hid hB
  have HC := Lib.hid hC
  clear hA hB hC
  obtain ⟨s1, s2, rfl, s4⟩ := S
  obtain ⟨⟨_, f2⟩, f3⟩ := f1
  have m2 := m1.2
  by_cases b1 : n < 0
  · have hM : -(n + 1) = m := by rw [M.out, if_pos b1]
    have HM := Lib.hid hM
    clear hM M
    rcases s4 with rfl | ⟨rfl, s5⟩
    all_goals
      go_enter Try.func9, Try.ntmps9
      go_wp2_with (first | (go_at_call 15; refine (head1_any _).mono ?_; rintro e w' ⟨rfl, j, rfl⟩))
      rw [HM.out, HP.out]
      refine (frac_any m p 100 m1 q0 q2 _).mono ?_
      rintro e w' ⟨rfl, j, rfl⟩
      rw [HA.out]
      go_wp2_with fail
      refine (frac_any m (100 - p) 100 m1 q1 q2 _).mono ?_
      rintro e w' ⟨rfl, j, rfl⟩
      rw [HB.out]
      go_wp2_with fail
      refine (fracUp_any m (100 - p) 100 m1 q1 q2 _).mono ?_
      rintro e w' ⟨rfl, j, rfl⟩
      rw [HC.out]
      go_wp2_with fail
      all_goals go_ret
      all_goals exact ⟨ret_bool (by simp <;> omega), grown_drewN _ _⟩
  · have hM : n = m := by rw [M.out, if_neg b1]
    subst hM
    clear M
    rcases s4 with rfl | ⟨rfl, s5⟩
    all_goals
      go_enter Try.func9, Try.ntmps9
      go_wp2_with (first | (go_at_call 15; refine (head1_any _).mono ?_; rintro e w' ⟨rfl, j, rfl⟩))
      rw [HP.out]
      refine (frac_any n p 100 m1 q0 q2 _).mono ?_
      rintro e w' ⟨rfl, j, rfl⟩
      rw [HA.out]
      go_wp2_with fail
      refine (frac_any n (100 - p) 100 m1 q1 q2 _).mono ?_
      rintro e w' ⟨rfl, j, rfl⟩
      rw [HB.out]
      go_wp2_with fail
      refine (fracUp_any n (100 - p) 100 m1 q1 q2 _).mono ?_
      rintro e w' ⟨rfl, j, rfl⟩
      rw [HC.out]
      go_wp2_with fail
      all_goals go_ret
      all_goals exact ⟨ret_bool (by simp <;> omega), grown_drewN _ _⟩
end Go.Proofs.Ytidgehimdbhjcaa
