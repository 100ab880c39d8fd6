/- Contracts of num.parts, num.Frac and num.FracUp. -/
import Derived.Test.YtocnaopjefhbjaaDivX
namespace Go.Proofs.Ytocnaopjefhbjaa
open Go.RowKit Go.Shelf

/-- Whether there are no such parts. -/
abbrev Bad (n up down : Int) : Prop := n < 0 ∨ up < 0 ∨ down ≤ 0
/-- n times up by down, at most the greatest int64. -/
def fracI (n up down : Int) : Int := if Bad n up down then 0 else min (n * up / down) 9223372036854775807
/-- The same, and one more if something is left. -/
def fracUpI (n up down : Int) : Int := if Bad n up down then 0 else min (if n * up % down = 0 then n * up / down else n * up / down + 1) 9223372036854775807
/-- What num.parts tells of the rest. -/
def leftB (n up down : Int) : Bool := if Bad n up down then false else if down ≤ mhi n up then false else decide (0 < n * up % down)

theorem ret_part {k : IntKind} {a b : Int} {c d : Bool} (h1 : a = b) (h2 : c = d) : Ending.returned (.tuple #[.int k a, .bool c]) = .returned (.tuple #[.int k b, .bool d]) := by rw [h1, h2]

theorem frac_bad {n up down : Int} (h : Bad n up down) : fracI n up down = 0 ∧ leftB n up down = false := by
  unfold fracI leftB; rw [if_pos h, if_pos h]; exact ⟨rfl, rfl⟩

theorem mul_pos_i64 {n up : Int} (hn : 0 ≤ n) (hu : 0 ≤ up) (n1 : I64 n) (u1 : I64 up) : U64 n ∧ U64 up := by
  obtain ⟨_, a⟩ := n1; obtain ⟨_, b⟩ := u1; exact ⟨⟨hn, by omega⟩, ⟨hu, by omega⟩⟩

theorem frac_far {n up down : Int} (hb : ¬ Bad n up down) (k : down ≤ mhi n up) : fracI n up down = 9223372036854775807 ∧ leftB n up down = false := by
  unfold fracI leftB
  rw [if_neg hb, if_neg hb, if_pos k]
  refine ⟨?_, rfl⟩
  unfold Bad at hb
  have e := halves n up
  have l := mlo_u64 n up
  obtain ⟨l1, l2⟩ := l
  have : 18446744073709551616 ≤ n * up / down := Int.le_ediv_of_mul_le (by omega) (by omega)
  omega

theorem frac_near {n up down : Int} (hb : ¬ Bad n up down) (k : mhi n up < down) :
    capI 0 ((mhi n up * 18446744073709551616 + mlo n up) / down) = fracI n up down ∧ decide (0 < (mhi n up * 18446744073709551616 + mlo n up) % down) = leftB n up down := by
  rw [← halves]
  unfold fracI leftB capI
  rw [if_neg hb, if_neg hb, if_neg (show ¬ down ≤ mhi n up by omega)]
  refine ⟨?_, rfl⟩
  split <;> omega

set_option maxHeartbeats 400000 in
theorem parts_any (n up down : Int) (hn : I64 n) (hu : I64 up) (hd : I64 down) (w : World) :
    Calls Try.prog 37 #[.int .i64 n, .int .i64 up, .int .i64 down] w fun e w' => e = .returned (.tuple #[.int .i64 (fracI n up down), .bool (leftB n up down)]) ∧ ∃ k, w' = w.drewN k := by
  by_cases hb : Bad n up down
  · obtain ⟨f1, f2⟩ := frac_bad hb
    have F1 := Lib.hid f1
    have F2 := Lib.hid f2
    clear f1 f2
    unfold Bad at hb
    by_cases b1 : n < 0
    · go_enter Try.func37, Try.ntmps37
      go_wp2
      go_ret2
      exact ⟨ret_part F1.out.symm F2.out.symm, 0, rfl⟩
    · by_cases b2 : up < 0
      · go_enter Try.func37, Try.ntmps37
        go_wp2
        go_ret2
        exact ⟨ret_part F1.out.symm F2.out.symm, 0, rfl⟩
      · have b3 : down ≤ 0 := by omega
        go_enter Try.func37, Try.ntmps37
        go_wp2
        go_ret2
        exact ⟨ret_part F1.out.symm F2.out.symm, 0, rfl⟩
  · have hb' := hb
    unfold Bad at hb
    have n0 : 0 ≤ n := by omega
    have u0 : 0 ≤ up := by omega
    have d0 : 0 < down := by omega
    obtain ⟨nU, uU⟩ := mul_pos_i64 n0 u0 hn hu
    have dU : U64 down := ⟨by omega, by have := hd.2; omega⟩
    have n1 := hn.2
    have u1 := hu.2
    have d1 := hd.2
    clear hb
    by_cases k : down ≤ mhi n up
    · obtain ⟨f1, f2⟩ := frac_far hb' k
      have F1 := Lib.hid f1
      have F2 := Lib.hid f2
      clear f1 f2
      go_enter Try.func37, Try.ntmps37
      go_wp2_with fail
      refine (mul64_any _ _ nU uU _).mono ?_
      rintro e w' ⟨rfl, rfl⟩
      go_wp2_with fail
      go_ret2
      exact ⟨ret_part F1.out.symm F2.out.symm, 0, rfl⟩
    · have E := Lib.hid (frac_near hb' (by omega))
      have m1 := mhi_u64 nU uU
      have m2 := mlo_u64 n up
      have m0 := m1.1
      have k' : mhi n up < down := by omega
      have q0 : 0 ≤ (mhi n up * 18446744073709551616 + mlo n up) / down := Int.ediv_nonneg (by have := m2.1; omega) (by omega)
      have q1 : (mhi n up * 18446744073709551616 + mlo n up) / down < 18446744073709551616 := Int.ediv_lt_of_lt_mul d0 (by have := m2.2; omega)
      have q2 := Int.emod_nonneg (mhi n up * 18446744073709551616 + mlo n up) (show down ≠ 0 by omega)
      generalize hq : (mhi n up * 18446744073709551616 + mlo n up) / down = q at *
      generalize hr : (mhi n up * 18446744073709551616 + mlo n up) % down = r at *
      have HQ := Lib.hid hq
      have HR := Lib.hid hr
      clear hq hr
      go_enter Try.func37, Try.ntmps37
      go_wp2_with fail
      refine (mul64_any _ _ nU uU _).mono ?_
      rintro e w' ⟨rfl, rfl⟩
      go_wp2_with fail
      refine (div64_any _ _ _ m0 m2 k' dU _).mono ?_
      rintro e w' ⟨rfl, j, rfl⟩
      rw [HQ.out, HR.out]
      go_wp2_with fail
      refine (bounded_any _ _ ⟨by omega, by omega⟩ ⟨q0, by omega⟩ _).mono ?_
      rintro e w' ⟨rfl, rfl⟩
      go_wp2_with fail
      go_ret2
      exact ⟨ret_part E.out.1 E.out.2, _, rfl⟩

theorem frac_i64 (n up down : Int) : I64 (fracI n up down) ∧ 0 ≤ fracI n up down := by
  unfold fracI
  split
  · exact ⟨⟨by omega, by omega⟩, by omega⟩
  · rename_i h
    unfold Bad at h
    have : 0 ≤ n * up / down := Int.ediv_nonneg (Int.mul_nonneg (by omega) (by omega)) (by omega)
    exact ⟨⟨by omega, by omega⟩, by omega⟩

theorem fracUp_of {n up down : Int} (h : leftB n up down = true) : sat (fracI n up down + 1) = fracUpI n up down := by
  unfold leftB at h
  unfold fracI fracUpI
  split at h
  · simp at h
  · rename_i hb
    rw [if_neg hb, if_neg hb]
    split at h
    · simp at h
    · simp at h
      rw [if_neg (by omega)]
      unfold Bad at hb
      have : 0 ≤ n * up / down := Int.ediv_nonneg (Int.mul_nonneg (by omega) (by omega)) (by omega)
      unfold sat
      split <;> (try split) <;> omega

theorem fracUp_not {n up down : Int} (h : leftB n up down = false) : fracI n up down = fracUpI n up down := by
  by_cases hb : Bad n up down
  · unfold fracI fracUpI; rw [if_pos hb, if_pos hb]
  · by_cases k : down ≤ mhi n up
    · rw [(frac_far hb k).1]
      unfold fracUpI
      rw [if_neg hb]
      have e := halves n up
      have l := mlo_u64 n up
      obtain ⟨l1, l2⟩ := l
      unfold Bad at hb
      have : 18446744073709551616 ≤ n * up / down := Int.le_ediv_of_mul_le (by omega) (by omega)
      split <;> omega
    · unfold leftB at h
      rw [if_neg hb, if_neg k] at h
      unfold fracI fracUpI
      rw [if_neg hb, if_neg hb]
      unfold Bad at hb
      have := Int.emod_nonneg (n * up) (show down ≠ 0 by omega)
      simp at h
      rw [if_pos (by omega)]

set_option maxHeartbeats 400000 in
theorem frac_any (n up down : Int) (hn : I64 n) (hu : I64 up) (hd : I64 down) (w : World) :
    Calls Try.prog 31 #[.int .i64 n, .int .i64 up, .int .i64 down] w fun e w' => e = .returned (.int .i64 (fracI n up down)) ∧ ∃ k, w' = w.drewN k := by
  go_enter Try.func31, Try.ntmps31
  go_wp2_with fail
  refine (parts_any _ _ _ hn hu hd _).mono ?_
  rintro e w' ⟨rfl, j, rfl⟩
  go_wp2_with fail
  go_ret
  exact ⟨rfl, _, rfl⟩

set_option maxHeartbeats 400000 in
theorem fracUp_any (n up down : Int) (hn : I64 n) (hu : I64 up) (hd : I64 down) (w : World) :
    Calls Try.prog 32 #[.int .i64 n, .int .i64 up, .int .i64 down] w fun e w' => e = .returned (.int .i64 (fracUpI n up down)) ∧ ∃ k, w' = w.drewN k := by
  obtain ⟨f1, f2⟩ := frac_i64 n up down
  by_cases h : leftB n up down = true
  · have F := Lib.hid (fracUp_of h)
    go_enter Try.func32, Try.ntmps32
    go_wp2_with fail
    refine (parts_any _ _ _ hn hu hd _).mono ?_
    rintro e w' ⟨rfl, j, rfl⟩
    go_wp2_with fail
    refine (add_any _ _ f1 ⟨by omega, by omega⟩ _).mono ?_
    rintro e w' ⟨rfl, rfl⟩
    go_wp2_with fail
    go_ret
    exact ⟨ret_int F.out, _, rfl⟩
  · have h' : leftB n up down = false := by simpa using h
    have F := Lib.hid (fracUp_not h')
    clear h
    go_enter Try.func32, Try.ntmps32
    go_wp2_with fail
    refine (parts_any _ _ _ hn hu hd _).mono ?_
    rintro e w' ⟨rfl, j, rfl⟩
    go_wp2_with fail
    go_ret
    exact ⟨ret_int F.out, _, rfl⟩

end Go.Proofs.Ytocnaopjefhbjaa
