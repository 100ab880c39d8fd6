/- The law NumParts. -/
import Derived.Test.YtidgehimdbhjcaaNumG
namespace Go.Proofs.Ytidgehimdbhjcaa
open Go.RowKit Go.Shelf

theorem sub64_run (x y b : Int) (hx : 0 ≤ x) (hy : 0 ≤ y) (hy' : y < 18446744073709551616) (hb0 : 0 ≤ b) (hb : b ≤ 1) (w : World) :
    (callFunc 27 #[.int .u64 x, .int .u64 y, .int .u64 b]).run Try.prog w =
    .ok (.value (.tuple #[.int .u64 ((x - y - b) % 18446744073709551616), .int .u64 (if x < y + b then 1 else 0)])) w := by
  obtain ⟨x, rfl⟩ := Int.eq_ofNat_of_zero_le hx
  obtain ⟨y, rfl⟩ := Int.eq_ofNat_of_zero_le hy
  obtain ⟨b, rfl⟩ := Int.eq_ofNat_of_zero_le hb0
  have e1 : (((x + 18446744073709551616 - y - b) % 18446744073709551616 : Nat) : Int) = ((x : Int) - y - b) % 18446744073709551616 := by omega
  have e2 : ((if x < y + b then 1 else 0 : Nat) : Int) = if (x : Int) < y + b then 1 else 0 := by split <;> split <;> omega
  rw [← e1, ← e2]
  exact Any7.bits_Sub64 Try.lays26 x y b (by omega) w

/-- What is left, word by word. -/
theorem left_words {n up q d r : Int} (e : n * up - q * d = r) (r0 : 0 ≤ r) (r1 : r < 9223372036854775808) :
    ∃ c : Int, 0 ≤ c ∧ c ≤ 1 ∧ (mlo n up - mlo q d - 0) % 18446744073709551616 = r ∧ (if mlo n up < mlo q d + 0 then 1 else 0) = c ∧
      (mhi n up - mhi q d - c) % 18446744073709551616 = 0 ∧ (if mhi n up < mhi q d + c then (1 : Int) else 0) = 0 := by
  have e1 := halves n up
  have e2 := halves q d
  obtain ⟨a1, a2⟩ := mlo_u64 n up
  obtain ⟨b1, b2⟩ := mlo_u64 q d
  by_cases h : mlo n up < mlo q d + 0
  · refine ⟨1, by omega, by omega, by omega, by rw [if_pos h], by omega, by rw [if_neg (by omega)]⟩
  · refine ⟨0, by omega, by omega, by omega, by rw [if_neg h], by omega, by rw [if_neg (by omega)]⟩

theorem sub_step {x y b r c : Int} (hx : 0 ≤ x) (hy : U64 y) (hb0 : 0 ≤ b) (hb : b ≤ 1) (h1 : (x - y - b) % 18446744073709551616 = r) (h2 : (if x < y + b then (1 : Int) else 0) = c) (w : World) :
    (callFunc 27 #[.int .u64 x, .int .u64 y, .int .u64 b]).run Try.prog w = .ok (.value (.tuple #[.int .u64 r, .int .u64 c])) w := by
  rw [sub64_run x y b hx hy.1 (by have := hy.2; omega) hb0 hb w, h1, h2]

/-- Parts that are no more than an int64: exactly what is left. -/
theorem frac_exact {n up d : Int} (hb : ¬ Bad n up d) (h : fracI n up d ≠ 9223372036854775807) :
    0 ≤ n * up - fracI n up d * d ∧ n * up - fracI n up d * d < d ∧ fracUpI n up d = (if n * up - fracI n up d * d = 0 then fracI n up d else fracI n up d + 1) := by
  unfold fracI at *
  unfold fracUpI
  rw [if_neg hb] at *
  rw [if_neg hb]
  have hq : min (n * up / d) 9223372036854775807 = n * up / d := by omega
  rw [hq] at h ⊢
  have hlt : n * up / d < 9223372036854775807 := by omega
  unfold Bad at hb
  have e := Int.emod_add_mul_ediv (n * up) d
  rw [Int.mul_comm d] at e
  have e0 := Int.emod_nonneg (n * up) (show d ≠ 0 by omega)
  have e1 := Int.emod_lt_of_pos (n * up) (show 0 < d by omega)
  have e2 : n * up - n * up / d * d = n * up % d := by omega
  rw [e2]
  refine ⟨e0, e1, ?_⟩
  split <;> omega

theorem frac_full {n up d : Int} (hb : ¬ Bad n up d) (h : fracI n up d = 9223372036854775807) :
    9223372036854775807 * d ≤ n * up ∧ fracUpI n up d = 9223372036854775807 := by
  have l := frac_le_up n up d
  have u : fracUpI n up d ≤ 9223372036854775807 := by unfold fracUpI; split <;> omega
  refine ⟨?_, by omega⟩
  unfold fracI at h
  rw [if_neg hb] at h
  unfold Bad at hb
  have h1 : 9223372036854775807 ≤ n * up / d := by omega
  have h2 : n * up / d * d ≤ n * up := Int.ediv_mul_le _ (by omega)
  have h3 : 9223372036854775807 * d ≤ n * up / d * d := Int.mul_le_mul_of_nonneg_right h1 (by omega)
  omega

theorem full_words {a b c d : Int} (h : a * b ≤ c * d) : mhi a b < mhi c d ∨ (mhi a b = mhi c d ∧ mlo a b ≤ mlo c d) := by
  have e1 := halves a b
  have e2 := halves c d
  obtain ⟨a1, a2⟩ := mlo_u64 a b
  obtain ⟨b1, b2⟩ := mlo_u64 c d
  omega

set_option maxRecDepth 100000 in
set_option maxHeartbeats 2000000 in
theorem partsLaw_any (n up down : Int) (hn : I64 n) (hu : I64 up) (hd : I64 down) (w : World) :
    Calls Try.prog 4 #[.int .i64 n, .int .i64 up, .int .i64 down] w fun e w' => e = .returned (.bool true) ∧ Grown w w' := by
  by_cases hb : Bad n up down
  · have HQ := Lib.hid (frac_bad hb).1
    have HP : Hid (fracUpI n up down = 0) := Lib.hid (by unfold fracUpI; rw [if_pos hb])
    unfold Bad at hb
    by_cases b1 : n < 0
    · clear hb
      go_enter Try.func4, Try.ntmps4
      go_wp2_with fail
      refine (head1_any _).mono ?_
      rintro e w' ⟨rfl, j, rfl⟩
      go_wp2_with fail
      refine (frac_any n up down hn hu hd _).mono ?_
      rintro e w' ⟨rfl, j, rfl⟩
      rw [HQ.out]
      go_wp2_with fail
      refine (fracUp_any n up down hn hu hd _).mono ?_
      rintro e w' ⟨rfl, j, rfl⟩
      rw [HP.out]
      go_wp2_with fail
      go_ret
      exact ⟨rfl, grown_drewN _ _⟩
    by_cases b2 : up < 0
    · clear hb
      go_enter Try.func4, Try.ntmps4
      go_wp2_with fail
      refine (head1_any _).mono ?_
      rintro e w' ⟨rfl, j, rfl⟩
      go_wp2_with fail
      refine (frac_any n up down hn hu hd _).mono ?_
      rintro e w' ⟨rfl, j, rfl⟩
      rw [HQ.out]
      go_wp2_with fail
      refine (fracUp_any n up down hn hu hd _).mono ?_
      rintro e w' ⟨rfl, j, rfl⟩
      rw [HP.out]
      go_wp2_with fail
      go_ret
      exact ⟨rfl, grown_drewN _ _⟩
    · have b3 : down ≤ 0 := by omega
      clear hb
      go_enter Try.func4, Try.ntmps4
      go_wp2_with fail
      refine (head1_any _).mono ?_
      rintro e w' ⟨rfl, j, rfl⟩
      go_wp2_with fail
      refine (frac_any n up down hn hu hd _).mono ?_
      rintro e w' ⟨rfl, j, rfl⟩
      rw [HQ.out]
      go_wp2_with fail
      refine (fracUp_any n up down hn hu hd _).mono ?_
      rintro e w' ⟨rfl, j, rfl⟩
      rw [HP.out]
      go_wp2_with fail
      go_ret
      exact ⟨rfl, grown_drewN _ _⟩
  have hb' := hb
  unfold Bad at hb
  have n0 : 0 ≤ n := by omega
  have u0 : 0 ≤ up := by omega
  have d0 : 0 < down := by omega
  obtain ⟨nU, uU⟩ := mul_pos_i64 n0 u0 hn hu
  have dU : U64 down := ⟨by omega, by have := hd.2; omega⟩
  have n1 := hn.2
  have u1 := hu.2
  have d1 := hd.2
  clear hb
  by_cases f : fracI n up down = 9223372036854775807
  · obtain ⟨g1, g2⟩ := frac_full hb' f
    have HQ := Lib.hid f
    have HP := Lib.hid g2
    have g3 := full_words g1
    clear f g1 g2 hb'
    rcases g3 with g | ⟨g, g'⟩
    · go_enter Try.func4, Try.ntmps4
      go_wp2_with fail
      refine (head1_any _).mono ?_
      rintro e w' ⟨rfl, j, rfl⟩
      go_wp2_with fail
      refine (frac_any n up down hn hu hd _).mono ?_
      rintro e w' ⟨rfl, j, rfl⟩
      rw [HQ.out]
      go_wp2_with fail
      refine (fracUp_any n up down hn hu hd _).mono ?_
      rintro e w' ⟨rfl, j, rfl⟩
      rw [HP.out]
      go_wp2_with fail
      refine (mul64_any n up nU uU _).mono ?_
      rintro e w' ⟨rfl, rfl⟩
      go_wp2_with fail
      refine (mul64_any 9223372036854775807 down ⟨by decide, by decide⟩ dU _).mono ?_
      rintro e w' ⟨rfl, rfl⟩
      go_wp2_with fail
      go_ret
      exact ⟨rfl, grown_drewN _ _⟩
    · go_enter Try.func4, Try.ntmps4
      go_wp2_with fail
      refine (head1_any _).mono ?_
      rintro e w' ⟨rfl, j, rfl⟩
      go_wp2_with fail
      refine (frac_any n up down hn hu hd _).mono ?_
      rintro e w' ⟨rfl, j, rfl⟩
      rw [HQ.out]
      go_wp2_with fail
      refine (fracUp_any n up down hn hu hd _).mono ?_
      rintro e w' ⟨rfl, j, rfl⟩
      rw [HP.out]
      go_wp2_with fail
      refine (mul64_any n up nU uU _).mono ?_
      rintro e w' ⟨rfl, rfl⟩
      go_wp2_with fail
      refine (mul64_any 9223372036854775807 down ⟨by decide, by decide⟩ dU _).mono ?_
      rintro e w' ⟨rfl, rfl⟩
      go_wp2_with fail
      go_ret
      exact ⟨rfl, grown_drewN _ _⟩
  · obtain ⟨x0, x1, x2⟩ := frac_exact hb' f
    obtain ⟨⟨_, q1⟩, q0⟩ := frac_i64 n up down
    obtain ⟨q, hq⟩ : ∃ q, fracI n up down = q := ⟨_, rfl⟩
    rw [hq] at x0 x1 x2 f q1 q0
    have HQ := Lib.hid hq
    clear hq hb'
    have q2 : q ≤ 9223372036854775806 := by omega
    have f' : (q == 9223372036854775807) = false := by simpa using f
    clear f q1
    have qU : U64 q := ⟨q0, by omega⟩
    obtain ⟨r, hr⟩ : ∃ r, n * up - q * down = r := ⟨_, rfl⟩
    rw [hr] at x0 x1 x2
    obtain ⟨c, c0, c1, s1, s2, s3, s4⟩ := left_words hr x0 (by omega)
    have S1 := sub_step (x := mlo n up) (y := mlo q down) (b := 0) (mlo_u64 n up).1 (mlo_u64 q down) (by omega) (by omega) s1 s2
    have S2 := sub_step (x := mhi n up) (y := mhi q down) (b := c) (mhi_u64 nU uU).1 (mhi_u64 qU dU) c0 c1 s3 s4
    clear s1 s2 s3 s4 hr
    by_cases z : r = 0
    · subst z
      rw [if_pos rfl] at x2
      have HP := Lib.hid x2
      clear x2
      go_enter Try.func4, Try.ntmps4
      go_wp2_with fail
      refine (head1_any _).mono ?_
      rintro e w' ⟨rfl, j, rfl⟩
      go_wp2_with fail
      refine (frac_any n up down hn hu hd _).mono ?_
      rintro e w' ⟨rfl, j, rfl⟩
      rw [HQ.out]
      go_wp2_with fail
      refine (fracUp_any n up down hn hu hd _).mono ?_
      rintro e w' ⟨rfl, j, rfl⟩
      rw [HP.out]
      go_wp2_with fail
      refine (mul64_any n up nU uU _).mono ?_
      rintro e w' ⟨rfl, rfl⟩
      go_wp2_with fail
      refine (mul64_any q down qU dU _).mono ?_
      rintro e w' ⟨rfl, rfl⟩
      go_wp2_with fail
      go_ret
      exact ⟨rfl, grown_drewN _ _⟩
    · rw [if_neg z] at x2
      have HP := Lib.hid x2
      have z' : 0 < r := by omega
      have z2 : (r == 0) = false := by simpa using z
      clear x2 z
      go_enter Try.func4, Try.ntmps4
      go_wp2_with fail
      refine (head1_any _).mono ?_
      rintro e w' ⟨rfl, j, rfl⟩
      go_wp2_with fail
      refine (frac_any n up down hn hu hd _).mono ?_
      rintro e w' ⟨rfl, j, rfl⟩
      rw [HQ.out]
      go_wp2_with fail
      refine (fracUp_any n up down hn hu hd _).mono ?_
      rintro e w' ⟨rfl, j, rfl⟩
      rw [HP.out]
      go_wp2_with fail
      refine (mul64_any n up nU uU _).mono ?_
      rintro e w' ⟨rfl, rfl⟩
      go_wp2_with fail
      refine (mul64_any q down qU dU _).mono ?_
      rintro e w' ⟨rfl, rfl⟩
      go_wp2_with fail
      go_ret
      exact ⟨rfl, grown_drewN _ _⟩
end Go.Proofs.Ytidgehimdbhjcaa
