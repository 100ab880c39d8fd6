/- The law CastTwos: its walk. -/
import Derived.Test.YthefbehfnaelbaaCastB
namespace Go.Proofs.Ythefbehfnaelbaa.W
open Go.RowKit

theorem two_next {a b v : Int} (a0 : 0 ≤ a) (a1 : a < 4294967296) (b0 : 0 ≤ b) (b1 : b < 4294967296) (hv : v = if 2 * b - a < 0 then 0 else 2 * b - a) : nextI [a, b] = v := by
  have e : ws ([a, b].length : Nat) 0 [a, b] = 2 * b - a := by
    simp only [ws, clip_in a0 (by omega), clip_in b0 (by omega), List.length_cons, List.length_nil]
    omega
  show behI [a, b] = v
  subst hv
  by_cases h : 2 * b - a < 0
  · rw [beh_low _ e h, if_pos h]
  · rw [beh_form _ 2 e (by rfl) (by omega) (by omega), if_neg h]
    unfold clip clampI
    omega

set_option maxRecDepth 100000 in
set_option maxHeartbeats 1600000 in
theorem twos_law (x y : Int) (w : World) :
    Calls Try.prog 7 #[.int .i64 x, .int .i64 y] w fun e w' => e = .returned (.bool true) ∧ Below w.heap.size w w' := by
  obtain ⟨a, ha, a1⟩ := and_nat x 4294967295 32 4294967296 (by decide) (by decide) (by decide)
  obtain ⟨b, hb, b1⟩ := and_nat y 4294967295 32 4294967296 (by decide) (by decide) (by decide)
  have a2 : (a : Int) < 4294967296 := by omega
  have b2 : (b : Int) < 4294967296 := by omega
  have E3 := Lib.hid (show nextI [(a : Int)] = a from clip_in (by omega) (by omega))
  have E4 := Lib.hid (show nextI [] = 0 from rfl)
  by_cases hn : 2 * (b : Int) - (a : Int) < 0
  · have E1 := Lib.hid (two_next (v := 0) (show 0 ≤ (a : Int) by omega) a2 (show 0 ≤ (b : Int) by omega) b2 (by rw [if_pos hn]))
    go_enter Try.func7, Try.ntmps7
    go_wp2_with fail
    refine (head_true _).mono ?_
    rintro e w1 ⟨rfl, hb1⟩
    have hs1 := hb1.size
    go_wp2_with fail
    refine (next_any _ _ 2 2 [(a : Int), (b : Int)] _ rfl (Nat.le_refl _) (by omega) (lies_made w1 [(a : Int), (b : Int)] _)).mono ?_
    rintro e w2 ⟨rfl, q2, hw2⟩
    rw [E1.out]
    have hb2 := below_next (hb1.alloc hs1 _) hw2
    have hs2 := hb2.size
    clear hw2 hb1 hs1
    go_wp2_with fail
    refine (next_any _ _ 1 1 [(a : Int)] _ rfl (Nat.le_refl _) (by omega) (lies_made w2 [(a : Int)] _)).mono ?_
    rintro e w3 ⟨rfl, q3, hw3⟩
    rw [E3.out]
    have hb3 := below_next (hb2.alloc hs2 _) hw3
    clear hw3 hb2 hs2
    go_wp2_with fail
    refine (next_any none 0 0 0 [] _ rfl (Nat.le_refl _) (by omega) (Lies.nil _ _ _)).mono ?_
    rintro e w4 ⟨rfl, q4, hw4⟩
    rw [E4.out]
    have hb4 := below_next hb3 hw4
    clear hw4 hb3
    go_wp2_with fail
    go_ret
    exact ⟨rfl, hb4⟩
  · have E1 := Lib.hid (two_next (v := 2 * (b : Int) - (a : Int)) (show 0 ≤ (a : Int) by omega) a2 (show 0 ≤ (b : Int) by omega) b2 (by rw [if_neg hn]))
    have hp : decide (2 * (b : Int) - (a : Int) < 0) = false := by simp; omega
    clear hn
    go_enter Try.func7, Try.ntmps7
    go_wp2_with fail
    refine (head_true _).mono ?_
    rintro e w1 ⟨rfl, hb1⟩
    have hs1 := hb1.size
    go_wp2_with fail
    refine (next_any _ _ 2 2 [(a : Int), (b : Int)] _ rfl (Nat.le_refl _) (by omega) (lies_made w1 [(a : Int), (b : Int)] _)).mono ?_
    rintro e w2 ⟨rfl, q2, hw2⟩
    rw [E1.out]
    generalize 2 * (b : Int) - (a : Int) = v
    have hb2 := below_next (hb1.alloc hs1 _) hw2
    have hs2 := hb2.size
    clear hw2 hb1 hs1
    go_wp2_with fail
    refine (next_any _ _ 1 1 [(a : Int)] _ rfl (Nat.le_refl _) (by omega) (lies_made w2 [(a : Int)] _)).mono ?_
    rintro e w3 ⟨rfl, q3, hw3⟩
    rw [E3.out]
    have hb3 := below_next (hb2.alloc hs2 _) hw3
    clear hw3 hb2 hs2
    go_wp2_with fail
    refine (next_any none 0 0 0 [] _ rfl (Nat.le_refl _) (by omega) (Lies.nil _ _ _)).mono ?_
    rintro e w4 ⟨rfl, q4, hw4⟩
    rw [E4.out]
    have hb4 := below_next hb3 hw4
    clear hw4 hb3
    go_wp2_with fail
    go_ret
    exact ⟨rfl, hb4⟩
end Go.Proofs.Ythefbehfnaelbaa.W
