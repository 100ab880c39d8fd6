/- The law NumTurns. -/
import Derived.Test.YtidgehimdbhjcaaNumD
namespace Go.Proofs.Ytidgehimdbhjcaa
open Go.RowKit Go.Shelf

theorem sat_mono {x y : Int} (h : x ≤ y) : sat x ≤ sat y := by
  unfold sat
  split <;> split <;> (try split) <;> (try split) <;> omega
theorem i64_0 : I64 0 := ⟨by decide, by decide⟩
theorem i64_1 : I64 1 := ⟨by decide, by decide⟩
theorem sat_0 : sat 0 = 0 := sat_in i64_0

set_option maxHeartbeats 1000000 in
theorem turns_any (a b c : Int) (ha : I64 a) (hb : I64 b) (hc : I64 c) (w : World) :
    Calls Try.prog 6 #[.int .i64 a, .int .i64 b, .int .i64 c] w fun e w' => e = .returned (.bool true) ∧ Grown w w' := by
  have z0 := i64_0
  have z1 := i64_1
  have e1 : sat (b + a) = sat (a + b) := by rw [Int.add_comm]
  have e2 : sat (b * a) = sat (a * b) := by rw [Int.mul_comm]
  have e3 := sat_in ha
  have e4 := sat_0
  by_cases h : a ≤ b
  · have l1 : sat (a + c) ≤ sat (b + c) := sat_mono (by omega)
    have l2 : sat (a - c) ≤ sat (b - c) := sat_mono (by omega)
    by_cases k : 0 ≤ c
    · have l3 : sat (a * c) ≤ sat (b * c) := sat_mono (Int.mul_le_mul_of_nonneg_right h k)
      go_enter Try.func6, Try.ntmps6
      go_wp2_with (first | (go_at_call 15; refine (head1_any _).mono ?_; rintro e w' ⟨rfl, j, rfl⟩) | (go_at_call 16; refine (add_any _ _ (by assumption) (by assumption) _).mono ?_; rintro e w' ⟨rfl, rfl⟩) | (go_at_call 20; refine (sub_any _ _ (by assumption) (by assumption) _).mono ?_; rintro e w' ⟨rfl, rfl⟩) | (go_at_call 22; refine (mul_any _ _ (by assumption) (by assumption) _).mono ?_; rintro e w' ⟨rfl, rfl⟩))
      go_ret
      exact ⟨rfl, grown_drewN _ _⟩
    · go_enter Try.func6, Try.ntmps6
      go_wp2_with (first | (go_at_call 15; refine (head1_any _).mono ?_; rintro e w' ⟨rfl, j, rfl⟩) | (go_at_call 16; refine (add_any _ _ (by assumption) (by assumption) _).mono ?_; rintro e w' ⟨rfl, rfl⟩) | (go_at_call 20; refine (sub_any _ _ (by assumption) (by assumption) _).mono ?_; rintro e w' ⟨rfl, rfl⟩) | (go_at_call 22; refine (mul_any _ _ (by assumption) (by assumption) _).mono ?_; rintro e w' ⟨rfl, rfl⟩))
      go_ret
      exact ⟨rfl, grown_drewN _ _⟩
  · go_enter Try.func6, Try.ntmps6
    go_wp2_with (first | (go_at_call 15; refine (head1_any _).mono ?_; rintro e w' ⟨rfl, j, rfl⟩) | (go_at_call 16; refine (add_any _ _ (by assumption) (by assumption) _).mono ?_; rintro e w' ⟨rfl, rfl⟩) | (go_at_call 20; refine (sub_any _ _ (by assumption) (by assumption) _).mono ?_; rintro e w' ⟨rfl, rfl⟩) | (go_at_call 22; refine (mul_any _ _ (by assumption) (by assumption) _).mono ?_; rintro e w' ⟨rfl, rfl⟩))
    go_ret
    exact ⟨rfl, grown_drewN _ _⟩
end Go.Proofs.Ytidgehimdbhjcaa
