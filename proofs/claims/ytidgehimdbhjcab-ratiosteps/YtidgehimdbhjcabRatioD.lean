/- The law RatioSteps. -/
import Derived.Test.YtidgehimdbhjcabRatioB
namespace Go.Proofs.Ytidgehimdbhjcab.R
open Go.RowKit Go.Shelf

set_option maxRecDepth 100000 in
set_option maxHeartbeats 2000000 in
theorem steps_any (n d : Int) (hn : U64 n) (hd : U64 d) (w : World) :
    Calls Try.prog 4 #[Rat n d] w fun e w' => e = .returned (.bool true) ∧ Grown w w' := by
  have n0 := hn.1; have d0 := hd.1
  by_cases g1 : d = 0
  · subst g1
    go_enter Try.func4, Try.ntmps4
    go_wp2_with fail
    refine (head2_any _).mono ?_
    rintro e w' ⟨rfl, x1, x2, x3, x4, x5, x6, rfl⟩
    go_wp2_with fail
    go_ret
    exact ⟨rfl, by (repeat (with_reducible first | refine Grown.alloc ?_ _ _ | refine Grown.drew ?_)); with_reducible exact Grown.refl _⟩
  have g1' : (d == 0) = false := by simpa using g1
  by_cases g2 : 4611686018427387904 < n
  · clear g1
    go_enter Try.func4, Try.ntmps4
    go_wp2_with fail
    refine (head2_any _).mono ?_
    rintro e w' ⟨rfl, x1, x2, x3, x4, x5, x6, rfl⟩
    go_wp2_with fail
    go_ret
    exact ⟨rfl, by (repeat (with_reducible first | refine Grown.alloc ?_ _ _ | refine Grown.drew ?_)); with_reducible exact Grown.refl _⟩
  by_cases g3 : 4611686018427387904 < d
  · clear g1
    go_enter Try.func4, Try.ntmps4
    go_wp2_with fail
    refine (head2_any _).mono ?_
    rintro e w' ⟨rfl, x1, x2, x3, x4, x5, x6, rfl⟩
    go_wp2_with fail
    go_ret
    exact ⟨rfl, by (repeat (with_reducible first | refine Grown.alloc ?_ _ _ | refine Grown.drew ?_)); with_reducible exact Grown.refl _⟩
  have hn1 : U64 (n + 1) := ⟨by omega, by omega⟩
  have hd1 : U64 (d + 1) := ⟨by omega, by omega⟩
  have e1 : cmpI ((n + 1) * d) (n * d) = 1 := cmp_gt (by rw [Int.add_mul]; omega)
  have l1 : n / d ≤ (n + 1) / d := Int.ediv_le_ediv (by omega) (by omega)
  have l2 : n / (d + 1) ≤ n / d := by
    refine Int.le_ediv_of_mul_le (by omega) ?_
    have a := Int.ediv_mul_le n (show d + 1 ≠ 0 by omega)
    have b : 0 ≤ n / (d + 1) := Int.ediv_nonneg n0 (by omega)
    rw [Int.mul_add] at a
    omega
  by_cases g4 : n = 0
  · have g4' : (n == 0) = true := by simpa using g4
    have e2 : cmpI (n * (d + 1)) (n * d) = 0 := by rw [g4, Int.zero_mul, Int.zero_mul]; exact cmp_eq 0
    clear g4 g1
    go_enter Try.func4, Try.ntmps4
    go_wp2_with fail
    refine (head2_any _).mono ?_
    rintro e w' ⟨rfl, x1, x2, x3, x4, x5, x6, rfl⟩
    go_wp2_with fail
    go_region_held3 (fun w' => w'.cell? ⟨w.heap.size, 0, none⟩ = some (.int .u64 n) ∧ w'.cell? ⟨w.heap.size, 1, none⟩ = some (.int .u64 d) ∧ w'.cell? ⟨w.heap.size + 1 + 1 + 1 + 1 + 1 + 1 + 1, 0, none⟩ = some (.int .u64 (n + 1)) ∧ w'.cell? ⟨w.heap.size + 1 + 1 + 1 + 1 + 1 + 1 + 1, 1, none⟩ = some (.int .u64 d) ∧ w'.cell? ⟨w.heap.size + 1 + 1 + 1 + 1 + 1 + 1 + 1 + 1, 0, none⟩ = some (.int .u64 n) ∧ w'.cell? ⟨w.heap.size + 1 + 1 + 1 + 1 + 1 + 1 + 1 + 1, 1, none⟩ = some (.int .u64 (d + 1))) (simp [go_sem, World.cell?_alloc_past])
      (first
        | (go_at_call 6; refine (compare_any _ _ _ _ (by assumption) (by assumption) (by assumption) (by assumption) _).mono ?_; rintro e w' ⟨rfl, y1, y2, rfl⟩)
        | (go_at_call 7; refine (floor_any _ _ (by assumption) (by assumption) _).mono ?_; rintro e w' ⟨rfl, y1, y2, rfl⟩))
    go_wp2
    go_ret
    exact ⟨rfl, by (repeat (with_reducible first | refine Grown.alloc ?_ _ _ | refine Grown.drew ?_)); with_reducible exact Grown.refl _⟩
  · have g4' : (n == 0) = false := by simpa using g4
    have e2 : cmpI (n * (d + 1)) (n * d) = 1 := cmp_gt (by rw [Int.mul_add]; omega)
    clear g4 g1
    go_enter Try.func4, Try.ntmps4
    go_wp2_with fail
    refine (head2_any _).mono ?_
    rintro e w' ⟨rfl, x1, x2, x3, x4, x5, x6, rfl⟩
    go_wp2_with fail
    go_region_held3 (fun w' => w'.cell? ⟨w.heap.size, 0, none⟩ = some (.int .u64 n) ∧ w'.cell? ⟨w.heap.size, 1, none⟩ = some (.int .u64 d) ∧ w'.cell? ⟨w.heap.size + 1 + 1 + 1 + 1 + 1 + 1 + 1, 0, none⟩ = some (.int .u64 (n + 1)) ∧ w'.cell? ⟨w.heap.size + 1 + 1 + 1 + 1 + 1 + 1 + 1, 1, none⟩ = some (.int .u64 d) ∧ w'.cell? ⟨w.heap.size + 1 + 1 + 1 + 1 + 1 + 1 + 1 + 1, 0, none⟩ = some (.int .u64 n) ∧ w'.cell? ⟨w.heap.size + 1 + 1 + 1 + 1 + 1 + 1 + 1 + 1, 1, none⟩ = some (.int .u64 (d + 1))) (simp [go_sem, World.cell?_alloc_past])
      (first
        | (go_at_call 6; refine (compare_any _ _ _ _ (by assumption) (by assumption) (by assumption) (by assumption) _).mono ?_; rintro e w' ⟨rfl, y1, y2, rfl⟩)
        | (go_at_call 7; refine (floor_any _ _ (by assumption) (by assumption) _).mono ?_; rintro e w' ⟨rfl, y1, y2, rfl⟩))
    go_wp2
    go_ret
    exact ⟨rfl, by (repeat (with_reducible first | refine Grown.alloc ?_ _ _ | refine Grown.drew ?_)); with_reducible exact Grown.refl _⟩
end Go.Proofs.Ytidgehimdbhjcab.R
