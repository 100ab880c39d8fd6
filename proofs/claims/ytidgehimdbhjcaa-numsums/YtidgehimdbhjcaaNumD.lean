/- The document's example of package num, and the laws NumClamps and NumBacks. -/
import Derived.Test.YtidgehimdbhjcaaNumC
namespace Go.Proofs.Ytidgehimdbhjcaa
open Go.RowKit Go.Shelf

theorem grown_trans {a b c : World} (h1 : Grown a b) (h2 : Grown b c) : Grown a c :=
  ⟨World.keptBut_trans h1.1 h2.1, fun x => (h2.2.1 x).trans (h1.2.1 x), Nat.le_trans h1.2.2 h2.2.2⟩
theorem grown_drewN (w : World) (n : Nat) : Grown w (w.drewN n) := by
  induction n generalizing w with
  | zero => exact Grown.refl _
  | succ k ih => exact ih w.drew
theorem grown_of {w w' : World} (h : ∃ n, w' = w.drewN n) : Grown w w' := by
  obtain ⟨n, rfl⟩ := h; exact grown_drewN w n

theorem ex_i64 (x : Int) (h : (-9223372036854775808 ≤ x ∧ x ≤ 9223372036854775807) = True) : I64 x := by unfold I64; rw [h]; trivial

set_option maxHeartbeats 400000 in
theorem head1_any (w : World) : Calls Try.prog 15 #[] w fun e w' => e = .returned (.bool true) ∧ ∃ k, w' = w.drewN k := by
  have f1 : fracI 7 9 10 = 6 := by decide
  have f2 : fracUpI 7 9 10 = 7 := by decide
  have f3 : sat (9223372036854775807 + 1) = 9223372036854775807 := by decide
  have f4 : sat (-3 * 4) = -12 := by decide
  have F1 := Lib.hid f1
  have F2 := Lib.hid f2
  have F3 := Lib.hid f3
  have F4 := Lib.hid f4
  clear f1 f2 f3 f4
  go_enter Try.func15, Try.ntmps15
  go_wp2_with fail
  refine (frac_any 7 9 10 ⟨by decide, by decide⟩ ⟨by decide, by decide⟩ ⟨by decide, by decide⟩ _).mono ?_
  rintro e w' ⟨rfl, j, rfl⟩
  rw [F1.out]
  go_wp2_with fail
  refine (fracUp_any 7 9 10 ⟨by decide, by decide⟩ ⟨by decide, by decide⟩ ⟨by decide, by decide⟩ _).mono ?_
  rintro e w' ⟨rfl, j, rfl⟩
  rw [F2.out]
  go_wp2_with fail
  refine (add_any 9223372036854775807 1 ⟨by decide, by decide⟩ ⟨by decide, by decide⟩ _).mono ?_
  rintro e w' ⟨rfl, rfl⟩
  rw [F3.out]
  go_wp2_with fail
  refine (mul_any (-3) 4 ⟨by decide, by decide⟩ ⟨by decide, by decide⟩ _).mono ?_
  rintro e w' ⟨rfl, rfl⟩
  rw [F4.out]
  go_wp2_with fail
  go_ret
  exact ⟨rfl, _, rfl⟩

theorem ret_bool {a : Bool} (h : a = true) : Ending.returned (.bool a) = .returned (.bool true) := by rw [h]

set_option maxHeartbeats 400000 in
theorem clamps_any (n lo hi : Int) (w : World) :
    Calls Try.prog 5 #[.int .i64 n, .int .i64 lo, .int .i64 hi] w fun e w' => e = .returned (.bool true) ∧ Grown w w' := by
  obtain ⟨r, hr⟩ : ∃ r, clampI n lo hi = r := ⟨_, rfl⟩
  have H := Lib.hid hr
  clear hr
  go_enter Try.func5, Try.ntmps5
  go_wp2_with fail
  refine (head1_any _).mono ?_
  rintro e w' ⟨rfl, j, rfl⟩
  go_wp2_with fail
  refine (clamp_any n lo hi _).mono ?_
  rintro e w' ⟨rfl, rfl⟩
  rw [H.out]
  go_wp2_with fail
  all_goals go_ret
  all_goals exact ⟨ret_bool (by rw [beq_iff_eq]; have := H.out; unfold clampI at this; omega), grown_drewN _ _⟩

theorem back_sum {a b s : Int} (ha : I64 a) (hb : I64 b) (hs : sat (a + b) = s) (h1 : s ≠ 9223372036854775807) (h2 : s ≠ -9223372036854775808) : sat (s - b) = a := by
  obtain ⟨a1, a2⟩ := ha; obtain ⟨b1, b2⟩ := hb
  unfold sat at *
  split at hs
  · omega
  · split at hs
    · omega
    · subst hs; rw [if_neg (by omega), if_neg (by omega)]; omega
theorem back_diff {a b s : Int} (ha : I64 a) (hb : I64 b) (hs : sat (a - b) = s) (h1 : s ≠ 9223372036854775807) (h2 : s ≠ -9223372036854775808) : sat (s + b) = a := by
  obtain ⟨a1, a2⟩ := ha; obtain ⟨b1, b2⟩ := hb
  unfold sat at *
  split at hs
  · omega
  · split at hs
    · omega
    · subst hs; rw [if_neg (by omega), if_neg (by omega)]; omega

set_option maxHeartbeats 400000 in
theorem backs_any (a b : Int) (ha : I64 a) (hb : I64 b) (w : World) :
    Calls Try.prog 8 #[.int .i64 a, .int .i64 b] w fun e w' => e = .returned (.bool true) ∧ Grown w w' := by
  obtain ⟨s, hs⟩ : ∃ s, sat (a + b) = s := ⟨_, rfl⟩
  obtain ⟨d, hd⟩ : ∃ d, sat (a - b) = d := ⟨_, rfl⟩
  have si := sat_i64 (a + b)
  have di := sat_i64 (a - b)
  rw [hs] at si; rw [hd] at di
  have HS := Lib.hid hs
  have HD := Lib.hid hd
  clear hs hd
  go_enter Try.func8, Try.ntmps8
  go_wp2_with fail
  refine (head1_any _).mono ?_
  rintro e w' ⟨rfl, j, rfl⟩
  go_wp2_with fail
  refine (add_any a b ha hb _).mono ?_
  rintro e w' ⟨rfl, rfl⟩
  rw [HS.out]
  go_wp2_with fail
  rotate_left 2
  · have E := Lib.hid (back_sum ha hb HS.out ‹_› ‹_›)
    refine (sub_any s b si hb _).mono ?_
    rintro e w' ⟨rfl, rfl⟩
    rw [E.out]
    go_wp2_with fail
    refine (sub_any a b ha hb _).mono ?_
    rintro e w' ⟨rfl, rfl⟩
    rw [HD.out]
    go_wp2_with fail
    rotate_left 2
    · have E := Lib.hid (back_diff ha hb HD.out ‹_› ‹_›)
      refine (add_any d b di hb _).mono ?_
      rintro e w' ⟨rfl, rfl⟩
      rw [E.out]
      go_wp2_with fail
      go_ret
      exact ⟨rfl, grown_drewN _ _⟩
    all_goals go_ret
    all_goals exact ⟨rfl, grown_drewN _ _⟩
  all_goals
    refine (sub_any a b ha hb _).mono ?_
    rintro e w' ⟨rfl, rfl⟩
    rw [HD.out]
    go_wp2_with fail
    rotate_left 2
    · have E := Lib.hid (back_diff ha hb HD.out ‹_› ‹_›)
      refine (add_any d b di hb _).mono ?_
      rintro e w' ⟨rfl, rfl⟩
      rw [E.out]
      go_wp2_with fail
      go_ret
      exact ⟨rfl, grown_drewN _ _⟩
    all_goals go_ret
    all_goals exact ⟨rfl, grown_drewN _ _⟩
end Go.Proofs.Ytidgehimdbhjcaa
