/- The law RatioOrders. -/
import Derived.Test.YtidgehimdbhjcaaRatioH
namespace Go.Proofs.Ytidgehimdbhjcaa.R
open Go.RowKit Go.Shelf

set_option maxRecDepth 100000 in
set_option maxHeartbeats 2000000 in
theorem orders_any (n0 d0 n1 d1 : Int) (u0 : U64 n0) (v0 : U64 d0) (u1 : U64 n1) (v1 : U64 d1) (w : World) :
    Calls Try.prog 10 #[Rat n0 d0, Rat n1 d1] w fun e w' => e = .returned (.bool true) ∧ Grown w w' := by
  have a0 := v0.1; have a1 := v1.1
  by_cases z0 : d0 = 0
  · subst z0
    by_cases z1 : d1 = 0
    · subst z1
      go_enter Try.func10, Try.ntmps10
      go_wp2_with fail
      refine (head2_any _).mono ?_
      rintro e w' ⟨rfl, x1, x2, x3, x4, x5, x6, rfl⟩
      go_wp2_with fail
      go_region_held3 (fun w' => w'.cell? ⟨w.heap.size, 0, none⟩ = some (.int .u64 n0) ∧ w'.cell? ⟨w.heap.size, 1, none⟩ = some (.int .u64 0) ∧ w'.cell? ⟨w.heap.size + 1, 0, none⟩ = some (.int .u64 n1) ∧ w'.cell? ⟨w.heap.size + 1, 1, none⟩ = some (.int .u64 0)) (simp [go_sem, World.cell?_alloc_past])
        (first
          | (go_at_call 30; refine (right_any _ _ _).mono ?_; rintro e w' ⟨rfl, y1, rfl⟩))
      go_wp2
      go_ret
      exact ⟨rfl, by (repeat (with_reducible first | refine Grown.alloc ?_ _ _ | refine Grown.drew ?_)); with_reducible exact Grown.refl _⟩
    · have p1 : 0 < d1 := by omega
      have z1' : (d1 != 0) = true := by simpa using z1
      clear z1
      go_enter Try.func10, Try.ntmps10
      go_wp2_with fail
      refine (head2_any _).mono ?_
      rintro e w' ⟨rfl, x1, x2, x3, x4, x5, x6, rfl⟩
      go_wp2_with fail
      go_region_held3 (fun w' => w'.cell? ⟨w.heap.size, 0, none⟩ = some (.int .u64 n0) ∧ w'.cell? ⟨w.heap.size, 1, none⟩ = some (.int .u64 0) ∧ w'.cell? ⟨w.heap.size + 1, 0, none⟩ = some (.int .u64 n1) ∧ w'.cell? ⟨w.heap.size + 1, 1, none⟩ = some (.int .u64 d1)) (simp [go_sem, World.cell?_alloc_past])
        (first
          | (go_at_call 30; refine (right_any _ _ _).mono ?_; rintro e w' ⟨rfl, y1, rfl⟩))
      go_wp2
      go_ret
      exact ⟨rfl, by (repeat (with_reducible first | refine Grown.alloc ?_ _ _ | refine Grown.drew ?_)); with_reducible exact Grown.refl _⟩
  · have p0 : 0 < d0 := by omega
    have z0' : (d0 != 0) = true := by simpa using z0
    have y0 : (d0 == 0) = false := by simpa using z0
    by_cases z1 : d1 = 0
    · subst z1
      clear z0
      go_enter Try.func10, Try.ntmps10
      go_wp2_with fail
      refine (head2_any _).mono ?_
      rintro e w' ⟨rfl, x1, x2, x3, x4, x5, x6, rfl⟩
      go_wp2_with fail
      go_region_held3 (fun w' => w'.cell? ⟨w.heap.size, 0, none⟩ = some (.int .u64 n0) ∧ w'.cell? ⟨w.heap.size, 1, none⟩ = some (.int .u64 d0) ∧ w'.cell? ⟨w.heap.size + 1, 0, none⟩ = some (.int .u64 n1) ∧ w'.cell? ⟨w.heap.size + 1, 1, none⟩ = some (.int .u64 0)) (simp [go_sem, World.cell?_alloc_past])
        (first
          | (go_at_call 30; refine (right_any _ _ _).mono ?_; rintro e w' ⟨rfl, y1, rfl⟩))
      go_wp2
      go_ret
      exact ⟨rfl, by (repeat (with_reducible first | refine Grown.alloc ?_ _ _ | refine Grown.drew ?_)); with_reducible exact Grown.refl _⟩
    · have p1 : 0 < d1 := by omega
      have z1' : (d1 != 0) = true := by simpa using z1
      have y1 : (d1 == 0) = false := by simpa using z1
      clear z0 z1
      obtain ⟨C, hC⟩ : ∃ C, cmpI (n0 * d1) (n1 * d0) = C := ⟨_, rfl⟩
      have hb := cmp_bd (n0 * d1) (n1 * d0)
      have e1 := cmp_swap (n0 * d1) (n1 * d0)
      rw [hC] at hb e1
      obtain ⟨c1, c2⟩ := hb
      have e2 := cmp_eq (n0 * d0)
      go_enter Try.func10, Try.ntmps10
      go_wp2_with fail
      refine (head2_any _).mono ?_
      rintro e w' ⟨rfl, x1, x2, x3, x4, x5, x6, rfl⟩
      go_wp2_with fail
      go_region_held3 (fun w' => w'.cell? ⟨w.heap.size, 0, none⟩ = some (.int .u64 n0) ∧ w'.cell? ⟨w.heap.size, 1, none⟩ = some (.int .u64 d0) ∧ w'.cell? ⟨w.heap.size + 1, 0, none⟩ = some (.int .u64 n1) ∧ w'.cell? ⟨w.heap.size + 1, 1, none⟩ = some (.int .u64 d1)) (simp [go_sem, World.cell?_alloc_past])
        (first
          | (go_at_call 30; refine (right_any _ _ _).mono ?_; rintro e w' ⟨rfl, y1, rfl⟩))
      go_wp2_with (first
        | (go_at_call 31; refine (compare_any _ _ _ _ (by assumption) (by assumption) (by assumption) (by assumption) _).mono ?_; rintro e w' ⟨rfl, y1, y2, rfl⟩)
        | (go_at_call 32; refine (order_any _ _ _ _ (by assumption) (by assumption) (by assumption) (by assumption) (by assumption) (by assumption) _).mono ?_; rintro e w' ⟨rfl, y1, y2, rfl⟩))
      go_ret
      exact ⟨rfl, by (repeat (with_reducible first | refine Grown.alloc ?_ _ _ | refine Grown.drew ?_)); with_reducible exact Grown.refl _⟩
end Go.Proofs.Ytidgehimdbhjcaa.R
