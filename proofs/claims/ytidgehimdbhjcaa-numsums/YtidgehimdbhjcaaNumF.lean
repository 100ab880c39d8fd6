/- The law NumWholes. -/
import Derived.Test.YtidgehimdbhjcaaNumE
namespace Go.Proofs.Ytidgehimdbhjcaa
open Go.RowKit Go.Shelf

theorem frac_whole {n d : Int} (hn : 0 ≤ n) (n1 : I64 n) (hd : 0 < d) : fracI n d d = n ∧ fracUpI n d d = n := by
  obtain ⟨_, n2⟩ := n1
  unfold fracI fracUpI
  rw [if_neg (by omega), if_neg (by omega), Int.mul_ediv_cancel _ (by omega), Int.mul_emod_left, if_pos rfl]
  omega
theorem frac_nought {n up d : Int} (hn : 0 ≤ n) (hu : 0 ≤ up) (hd : 0 < d) : fracI n 0 d = 0 ∧ fracUpI 0 up d = 0 := by
  unfold fracI fracUpI
  rw [if_neg (by omega), if_neg (by omega)]
  simp
  omega
theorem frac_le_up (n up d : Int) : fracI n up d ≤ fracUpI n up d := by
  unfold fracI fracUpI
  split
  · omega
  · split <;> omega
theorem frac_less {n up d : Int} (hn : 0 ≤ n) (n1 : I64 n) (hu : 0 ≤ up) (hd : 0 < d) (h : up ≤ d) : fracI n up d ≤ n ∧ fracUpI n up d ≤ n := by
  have hm : n * up ≤ n * d := Int.mul_le_mul_of_nonneg_left h hn
  have h1 : n * up / d ≤ n := Int.ediv_le_of_le_mul hd hm
  have h2 : n * up % d ≠ 0 → n * up / d + 1 ≤ n := by
    intro h0
    have hp := Int.emod_nonneg (n * up) (show d ≠ 0 by omega)
    refine Int.not_lt.mp fun hc => ?_
    have e : n * up / d = n := by omega
    have := Int.emod_add_mul_ediv (n * up) d
    rw [e, Int.mul_comm d n] at this
    omega
  obtain ⟨_, n2⟩ := n1
  unfold fracI fracUpI
  rw [if_neg (by omega), if_neg (by omega)]
  refine ⟨by omega, ?_⟩
  split <;> omega
theorem frac_more {n up d : Int} (hn : 0 ≤ n) (n1 : I64 n) (hu : 0 ≤ up) (hd : 0 < d) (h : d ≤ up) : n ≤ fracI n up d := by
  have hm : n * d ≤ n * up := Int.mul_le_mul_of_nonneg_left h hn
  have h1 : n ≤ n * up / d := Int.le_ediv_of_mul_le hd hm
  obtain ⟨_, n2⟩ := n1
  unfold fracI
  rw [if_neg (by omega)]
  omega
theorem frac_rise {n up d : Int} (hn : 0 ≤ n) (hu : 0 ≤ up) (hd : 0 < d) : fracI n up d ≤ fracI n (up + 1) d := by
  have hm : n * up ≤ n * (up + 1) := Int.mul_le_mul_of_nonneg_left (by omega) hn
  have h1 : n * up / d ≤ n * (up + 1) / d := Int.ediv_le_ediv hd hm
  unfold fracI
  rw [if_neg (by omega), if_neg (by omega)]
  omega

set_option maxHeartbeats 2000000 in
theorem wholes_any (n up down : Int) (hn : I64 n) (hu : I64 up) (hd : I64 down) (w : World) :
    Calls Try.prog 7 #[.int .i64 n, .int .i64 up, .int .i64 down] w fun e w' => e = .returned (.bool true) ∧ Grown w w' := by
  by_cases b1 : n < 0
  · go_enter Try.func7, Try.ntmps7
    go_wp2_with (first | (go_at_call 15; refine (head1_any _).mono ?_; rintro e w' ⟨rfl, j, rfl⟩) | (go_at_call 24; refine (frac_any _ _ _ (by assumption) (by assumption) (by assumption) _).mono ?_; rintro e w' ⟨rfl, j, rfl⟩) | (go_at_call 25; refine (fracUp_any _ _ _ (by assumption) (by assumption) (by assumption) _).mono ?_; rintro e w' ⟨rfl, j, rfl⟩))
    go_ret
    exact ⟨rfl, grown_drewN _ _⟩
  by_cases b2 : up < 0
  · go_enter Try.func7, Try.ntmps7
    go_wp2_with (first | (go_at_call 15; refine (head1_any _).mono ?_; rintro e w' ⟨rfl, j, rfl⟩) | (go_at_call 24; refine (frac_any _ _ _ (by assumption) (by assumption) (by assumption) _).mono ?_; rintro e w' ⟨rfl, j, rfl⟩) | (go_at_call 25; refine (fracUp_any _ _ _ (by assumption) (by assumption) (by assumption) _).mono ?_; rintro e w' ⟨rfl, j, rfl⟩))
    go_ret
    exact ⟨rfl, grown_drewN _ _⟩
  by_cases b3 : down ≤ 0
  · go_enter Try.func7, Try.ntmps7
    go_wp2_with (first | (go_at_call 15; refine (head1_any _).mono ?_; rintro e w' ⟨rfl, j, rfl⟩) | (go_at_call 24; refine (frac_any _ _ _ (by assumption) (by assumption) (by assumption) _).mono ?_; rintro e w' ⟨rfl, j, rfl⟩) | (go_at_call 25; refine (fracUp_any _ _ _ (by assumption) (by assumption) (by assumption) _).mono ?_; rintro e w' ⟨rfl, j, rfl⟩))
    go_ret
    exact ⟨rfl, grown_drewN _ _⟩
  have z0 := i64_0
  obtain ⟨e1, e2⟩ := frac_whole (n := n) (d := down) (by omega) hn (by omega)
  obtain ⟨e3, e4⟩ := frac_nought (n := n) (up := up) (d := down) (by omega) (by omega) (by omega)
  have l1 := frac_le_up n up down
  by_cases m : up ≤ 9223372036854775806
  · have hu' : I64 (up + 1) := ⟨by omega, by omega⟩
    have l4 := frac_rise (n := n) (up := up) (d := down) (by omega) (by omega) (by omega)
    have m' : (up == 9223372036854775807) = false := by simp; omega
    by_cases k1 : up ≤ down
    · obtain ⟨l2, l3⟩ := frac_less (n := n) (up := up) (d := down) (by omega) hn (by omega) (by omega) k1
      by_cases k2 : down ≤ up
      · have l5 := frac_more (n := n) (up := up) (d := down) (by omega) hn (by omega) (by omega) k2
        go_enter Try.func7, Try.ntmps7
        go_wp2_with (first | (go_at_call 15; refine (head1_any _).mono ?_; rintro e w' ⟨rfl, j, rfl⟩) | (go_at_call 24; refine (frac_any _ _ _ (by assumption) (by assumption) (by assumption) _).mono ?_; rintro e w' ⟨rfl, j, rfl⟩) | (go_at_call 25; refine (fracUp_any _ _ _ (by assumption) (by assumption) (by assumption) _).mono ?_; rintro e w' ⟨rfl, j, rfl⟩))
        go_ret
        exact ⟨rfl, grown_drewN _ _⟩
      · go_enter Try.func7, Try.ntmps7
        go_wp2_with (first | (go_at_call 15; refine (head1_any _).mono ?_; rintro e w' ⟨rfl, j, rfl⟩) | (go_at_call 24; refine (frac_any _ _ _ (by assumption) (by assumption) (by assumption) _).mono ?_; rintro e w' ⟨rfl, j, rfl⟩) | (go_at_call 25; refine (fracUp_any _ _ _ (by assumption) (by assumption) (by assumption) _).mono ?_; rintro e w' ⟨rfl, j, rfl⟩))
        go_ret
        exact ⟨rfl, grown_drewN _ _⟩
    · have l5 := frac_more (n := n) (up := up) (d := down) (by omega) hn (by omega) (by omega) (by omega)
      go_enter Try.func7, Try.ntmps7
      go_wp2_with (first | (go_at_call 15; refine (head1_any _).mono ?_; rintro e w' ⟨rfl, j, rfl⟩) | (go_at_call 24; refine (frac_any _ _ _ (by assumption) (by assumption) (by assumption) _).mono ?_; rintro e w' ⟨rfl, j, rfl⟩) | (go_at_call 25; refine (fracUp_any _ _ _ (by assumption) (by assumption) (by assumption) _).mono ?_; rintro e w' ⟨rfl, j, rfl⟩))
      go_ret
      exact ⟨rfl, grown_drewN _ _⟩
  · have m' : up = 9223372036854775807 := by have := hu.2; omega
    subst m'
    have l5 := frac_more (n := n) (up := 9223372036854775807) (d := down) (by omega) hn (by omega) (by omega) hd.2
    by_cases k1 : 9223372036854775807 ≤ down
    · obtain ⟨l2, l3⟩ := frac_less (n := n) (up := 9223372036854775807) (d := down) (by omega) hn (by omega) (by omega) k1
      have k2 := hd.2
      go_enter Try.func7, Try.ntmps7
      go_wp2_with (first | (go_at_call 15; refine (head1_any _).mono ?_; rintro e w' ⟨rfl, j, rfl⟩) | (go_at_call 24; refine (frac_any _ _ _ (by assumption) (by assumption) (by assumption) _).mono ?_; rintro e w' ⟨rfl, j, rfl⟩) | (go_at_call 25; refine (fracUp_any _ _ _ (by assumption) (by assumption) (by assumption) _).mono ?_; rintro e w' ⟨rfl, j, rfl⟩))
      go_ret
      exact ⟨rfl, grown_drewN _ _⟩
    · go_enter Try.func7, Try.ntmps7
      go_wp2_with (first | (go_at_call 15; refine (head1_any _).mono ?_; rintro e w' ⟨rfl, j, rfl⟩) | (go_at_call 24; refine (frac_any _ _ _ (by assumption) (by assumption) (by assumption) _).mono ?_; rintro e w' ⟨rfl, j, rfl⟩) | (go_at_call 25; refine (fracUp_any _ _ _ (by assumption) (by assumption) (by assumption) _).mono ?_; rintro e w' ⟨rfl, j, rfl⟩))
      go_ret
      exact ⟨rfl, grown_drewN _ _⟩
end Go.Proofs.Ytidgehimdbhjcaa
