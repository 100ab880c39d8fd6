/- The laws RatioFloors, RatioAboves, RatioWholes. -/
import Derived.Test.YtidgehimdbhjcaaRatioB
namespace Go.Proofs.Ytidgehimdbhjcaa.R
open Go.RowKit Go.Shelf

theorem floor_words {n d : Int} (hn : U64 n) (hd : 0 < d) : mhi (n / d) d = 0 ∧ mlo (n / d) d = n - n % d ∧ 0 ≤ n % d ∧ n % d < d := by
  obtain ⟨n0, n1⟩ := hn
  have e := Int.emod_add_mul_ediv n d
  rw [Int.mul_comm] at e
  have m0 := Int.emod_nonneg n (show d ≠ 0 by omega)
  have m1 := Int.emod_lt_of_pos n hd
  have h0 : 0 ≤ n / d * d := Int.mul_nonneg (Int.ediv_nonneg n0 (by omega)) (by omega)
  unfold mhi mlo
  generalize n / d * d = z at *
  exact ⟨by omega, by omega, m0, m1⟩
theorem floor_u64 {n d : Int} (hn : U64 n) (hd : 0 < d) : U64 (n / d) := by
  obtain ⟨n0, n1⟩ := hn
  have h := Int.ediv_nonneg n0 (show 0 ≤ d by omega)
  have h2 : n / d ≤ n := Int.ediv_le_self d n0
  exact ⟨h, by omega⟩

set_option maxRecDepth 100000 in
set_option maxHeartbeats 1000000 in
theorem floors_any (n d : Int) (hn : U64 n) (hd : U64 d) (w : World) :
    Calls Try.prog 11 #[Rat n d] w fun e w' => e = .returned (.bool true) ∧ Grown w w' := by
  by_cases g : d = 0
  · subst g
    have E : Hid (n / 0 = 0) := Lib.hid (by simp)
    go_enter Try.func11, Try.ntmps11
    go_wp2_with fail
    refine (head2_any _).mono ?_
    rintro e w' ⟨rfl, x1, x2, x3, x4, x5, x6, rfl⟩
    go_wp2_with fail
    refine (floor_any n 0 hn hd _).mono ?_
    rintro e w' ⟨rfl, y1, y2, rfl⟩
    rw [E.out]
    go_wp2_with fail
    go_ret
    exact ⟨rfl, by (repeat (with_reducible first | refine Grown.alloc ?_ _ _ | refine Grown.drew ?_)); with_reducible exact Grown.refl _⟩
  · have d0 : 0 < d := by have := hd.1; omega
    have g' : (d == 0) = false := by simpa using g
    obtain ⟨f1, f2, f3, f4⟩ := floor_words hn d0
    obtain ⟨n0, n1⟩ := hn
    have hn : U64 n := ⟨n0, n1⟩
    have hf := floor_u64 hn d0
    have hm : n % d ≤ n := by
      have := Int.ediv_nonneg n0 (show 0 ≤ d by omega)
      have e := Int.emod_add_mul_ediv n d
      have := Int.mul_nonneg (show 0 ≤ d by omega) this
      omega
    have F1 := Lib.hid f1
    have F2 := Lib.hid f2
    clear f1 f2 g
    generalize n % d = r at *
    obtain ⟨q, hq⟩ : ∃ q, n / d = q := ⟨_, rfl⟩
    rw [hq] at hf F1 F2
    have HQ := Lib.hid hq
    clear hq
    go_enter Try.func11, Try.ntmps11
    go_wp2_with fail
    refine (head2_any _).mono ?_
    rintro e w' ⟨rfl, x1, x2, x3, x4, x5, x6, rfl⟩
    go_wp2_with fail
    refine (floor_any n d hn hd _).mono ?_
    rintro e w' ⟨rfl, y1, y2, rfl⟩
    rw [HQ.out]
    go_wp2_with fail
    refine (mul64_any q d hf hd _).mono ?_
    rintro e w' ⟨rfl, rfl⟩
    rw [F1.out, F2.out]
    go_wp2_with fail
    all_goals go_ret
    all_goals exact ⟨ret_bool (by simp <;> omega), by (repeat (with_reducible first | refine Grown.alloc ?_ _ _ | refine Grown.drew ?_)); with_reducible exact Grown.refl _⟩

set_option maxRecDepth 100000 in
set_option maxHeartbeats 1000000 in
theorem aboves_any (n up down : Int) (hn : U64 n) (hu : U64 up) (hd : U64 down) (w : World) :
    Calls Try.prog 12 #[.int .u64 n, .int .u64 up, .int .u64 down] w fun e w' => e = .returned (.bool true) ∧ Grown w w' := by
  obtain ⟨l1, l2⟩ := mlo_u64 n down
  obtain ⟨m1, m2⟩ := mhi_u64 hn hd
  have u0 := hu.1; have u1 := hu.2; have d0 := hd.1; have n0 := hn.1
  have eh := halves n down
  by_cases h : Fits n up down
  · have h' := h
    unfold Fits at h
    obtain ⟨h1, h2⟩ := h
    have k1 : mhi n down = 0 := by omega
    have k2 : mlo n down = n * down := by omega
    have z : (down != 0) = true := by simp; omega
    have hs : U64 (n * down + up) := ⟨by omega, by omega⟩
    have f1 : n ≤ (n * down + up) / down := Int.le_ediv_of_mul_le h1 (by omega)
    have f2 : up < down → (n * down + up) / down = n := by
      intro hlt
      rw [Int.add_comm, Int.add_mul_ediv_right _ _ (by omega), Int.ediv_eq_zero_of_lt u0 hlt]
      omega
    have p0 : 0 ≤ n * down := Int.mul_nonneg n0 d0
    have K1 := Lib.hid k1
    have K2 := Lib.hid k2
    have F2 := Lib.hid f2
    obtain ⟨m, hm⟩ : ∃ m, n * down = m := ⟨_, rfl⟩
    rw [hm] at h2 hs f1 p0
    have HM := Lib.hid hm
    clear k1 k2 f2 eh l1 l2 m1 m2 hm
    obtain ⟨q, hq⟩ : ∃ q, (m + up) / down = q := ⟨_, rfl⟩
    rw [hq] at f1
    have HQ := Lib.hid hq
    have F3 : Hid (up < down → q = n) := Lib.hid (by rw [← HQ.out, ← HM.out]; exact F2.out)
    clear hq F2
    have hle : decide (m ≤ m + up) = true := by simp; omega
    go_enter Try.func12, Try.ntmps12
    go_wp2_with fail
    refine (head2_any _).mono ?_
    rintro e w' ⟨rfl, x1, x2, x3, x4, x5, x6, rfl⟩
    go_wp2_with fail
    refine (above_yes n up down hn hu hd h' _).mono ?_
    rintro e w' ⟨rfl, y1, rfl⟩
    rw [HM.out]
    go_wp2_with fail
    refine (mul64_any n down hn hd _).mono ?_
    rintro e w' ⟨rfl, rfl⟩
    rw [K1.out, K2.out, HM.out]
    by_cases c : down ≤ up
    · go_wp2_with (first | (go_at_call 33; refine (floor_any _ _ hs hd _).mono ?_; rintro e w' ⟨rfl, z1, z2, rfl⟩; rw [HQ.out]))
      all_goals go_ret
      all_goals exact ⟨rfl, by (repeat (with_reducible first | refine Grown.alloc ?_ _ _ | refine Grown.drew ?_)); with_reducible exact Grown.refl _⟩
    · have c' : q = n := F3.out (by omega)
      subst c'
      go_wp2_with (first | (go_at_call 33; refine (floor_any _ _ hs hd _).mono ?_; rintro e w' ⟨rfl, z1, z2, rfl⟩; rw [HQ.out]))
      all_goals go_ret
      all_goals exact ⟨rfl, by (repeat (with_reducible first | refine Grown.alloc ?_ _ _ | refine Grown.drew ?_)); with_reducible exact Grown.refl _⟩
  · have h' := h
    unfold Fits at h
    have p0 : 0 ≤ n * down := Int.mul_nonneg n0 d0
    go_enter Try.func12, Try.ntmps12
    go_wp2_with fail
    refine (head2_any _).mono ?_
    rintro e w' ⟨rfl, x1, x2, x3, x4, x5, x6, rfl⟩
    go_wp2_with fail
    refine (above_no n up down hn hu hd h' _).mono ?_
    rintro e w' ⟨rfl, y1, rfl⟩
    go_wp2_with fail
    refine (mul64_any n down hn hd _).mono ?_
    rintro e w' ⟨rfl, rfl⟩
    go_wp2_with fail
    rotate_left 1
    · exfalso
      rename_i hx
      have hx2 := hx.2
      rw [IntKind.wrap_u64] at hx2
      omega
    all_goals go_ret
    all_goals exact ⟨rfl, by (repeat (with_reducible first | refine Grown.alloc ?_ _ _ | refine Grown.drew ?_)); with_reducible exact Grown.refl _⟩

theorem cmp_one (a b : Int) : cmpI (a * 1) (b * 1) = cmpI a b := by rw [Int.mul_one, Int.mul_one]

end Go.Proofs.Ytidgehimdbhjcaa.R
