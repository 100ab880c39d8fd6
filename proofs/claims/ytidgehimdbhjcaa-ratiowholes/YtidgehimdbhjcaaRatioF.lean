/- The law RatioWholes. -/
import Derived.Test.YtidgehimdbhjcaaRatioB
import Derived.BigQuiet
import Derived.Deep.QuietTactic
namespace Go.Proofs.Ytidgehimdbhjcaa.R
open Go.RowKit Go.Shelf

theorem grown_dN {a b : World} (h : Grown a b) (n : Nat) : Grown a (b.drewN n) := by
  induction n generalizing b with
  | zero => exact h
  | succ k ih => exact ih (b := b.drew) h

theorem whole_above {a den : Int} (ha : 0 ≤ a) (hd : 0 < den) : cmpI a 1 ≤ cmpI (a * den + 1) den := by
  have b1 := cmp_bd (a * den + 1) den
  have b2 := cmp_bd a 1
  by_cases h : a = 0
  · subst h; rw [cmp_lt (by omega)]; omega
  · have m : 1 * den ≤ a * den := Int.mul_le_mul_of_nonneg_right (by omega) (by omega)
    rw [cmp_gt (show den < a * den + 1 by omega)]
    omega

set_option maxRecDepth 100000 in
set_option maxHeartbeats 2000000 in
theorem wholes_lt (a b den : Int) (ha : U64 a) (hb : U64 b) (hd : U64 den) (c1 : a < b) (w : World) :
    Calls Try.prog 14 #[.int .u64 a, .int .u64 b, .int .u64 den] w fun e w' => e = .returned (.bool true) ∧ Grown w w' := by
  have one : U64 1 := ⟨by decide, by decide⟩
  have a0 := ha.1; have d0 := hd.1
  have c2 : ¬ b < a := by omega
  have e1 : cmpI a b = -1 := cmp_lt c1
  by_cases f : Fits a 1 den
  · have f' := f
    unfold Fits at f
    obtain ⟨f1, f2⟩ := f
    have p0 : 0 ≤ a * den := Int.mul_nonneg a0 d0
    have hs : U64 (a * den + 1) := ⟨by omega, by omega⟩
    have e2 : cmpI (a * den + 1) (a * den) = 1 := cmp_gt (by omega)
    have e3 := whole_above a0 f1
    clear f2 p0
    go_enter Try.func14, Try.ntmps14
    go_wp2_with fail
    refine (head2_any _).mono ?_
    rintro e w' ⟨rfl, x1, x2, x3, x4, x5, x6, rfl⟩
    go_wp2_with (first
      | (go_at_call 31; refine (compare_any _ _ _ _ (by assumption) (by assumption) (by assumption) (by assumption) _).mono ?_; rintro e w' ⟨rfl, y1, y2, rfl⟩)
      | (go_at_call 33; refine (floor_any _ _ (by assumption) (by assumption) _).mono ?_; rintro e w' ⟨rfl, y1, y2, rfl⟩)
      | (go_at_call 34; refine (above_yes _ _ _ (by assumption) (by assumption) (by assumption) (by assumption) _).mono ?_; rintro e w' ⟨rfl, y1, rfl⟩))
    go_region_held3 (fun w' => w'.cell? ⟨w.heap.size + 1 + 1 + 1 + 1 + 1 + 1, 0, none⟩ = some (.int .u64 a) ∧ w'.cell? ⟨w.heap.size + 1 + 1 + 1 + 1 + 1 + 1, 1, none⟩ = some (.int .u64 1) ∧ w'.cell? ⟨w.heap.size + 1 + 1 + 1 + 1 + 1 + 1 + 1 + 1 + 1 + 1 + 1 + 1 + 1, 0, none⟩ = some (.int .u64 (a * den + 1)) ∧ w'.cell? ⟨w.heap.size + 1 + 1 + 1 + 1 + 1 + 1 + 1 + 1 + 1 + 1 + 1 + 1 + 1, 1, none⟩ = some (.int .u64 den)) (simp [go_sem, World.cell?_alloc_past])
      (first
        | (go_at_call 31; refine (compare_any _ _ _ _ (by assumption) (by assumption) (by assumption) (by assumption) _).mono ?_; rintro e w' ⟨rfl, y1, y2, rfl⟩))
    go_wp2
    go_ret
    exact ⟨rfl, by (repeat (with_reducible first | refine Grown.alloc ?_ _ _ | refine Grown.drew ?_ | refine grown_dN ?_ _)); with_reducible exact Grown.refl _⟩
  · have p0 := a0
    go_enter Try.func14, Try.ntmps14
    go_wp2_with fail
    refine (head2_any _).mono ?_
    rintro e w' ⟨rfl, x1, x2, x3, x4, x5, x6, rfl⟩
    go_wp2_with (first
      | (go_at_call 31; refine (compare_any _ _ _ _ (by assumption) (by assumption) (by assumption) (by assumption) _).mono ?_; rintro e w' ⟨rfl, y1, y2, rfl⟩)
      | (go_at_call 33; refine (floor_any _ _ (by assumption) (by assumption) _).mono ?_; rintro e w' ⟨rfl, y1, y2, rfl⟩)
      | (go_at_call 34; refine (above_no _ _ _ (by assumption) (by assumption) (by assumption) (by assumption) _).mono ?_; rintro e w' ⟨rfl, y1, rfl⟩))
    go_quiet (fail)
    go_wp2
    go_ret
    exact ⟨rfl, by (repeat (with_reducible first | refine Grown.alloc ?_ _ _ | refine Grown.drew ?_ | refine grown_dN ?_ _)); with_reducible exact Grown.refl _⟩

set_option maxRecDepth 100000 in
set_option maxHeartbeats 2000000 in
theorem wholes_gt (a b den : Int) (ha : U64 a) (hb : U64 b) (hd : U64 den) (c1 : b < a) (w : World) :
    Calls Try.prog 14 #[.int .u64 a, .int .u64 b, .int .u64 den] w fun e w' => e = .returned (.bool true) ∧ Grown w w' := by
  have one : U64 1 := ⟨by decide, by decide⟩
  have a0 := ha.1; have d0 := hd.1
  have c2 : ¬ a < b := by omega
  have e1 : cmpI a b = 1 := cmp_gt c1
  by_cases f : Fits a 1 den
  · have f' := f
    unfold Fits at f
    obtain ⟨f1, f2⟩ := f
    have p0 : 0 ≤ a * den := Int.mul_nonneg a0 d0
    have hs : U64 (a * den + 1) := ⟨by omega, by omega⟩
    have e2 : cmpI (a * den + 1) (a * den) = 1 := cmp_gt (by omega)
    have e3 := whole_above a0 f1
    clear f2 p0
    go_enter Try.func14, Try.ntmps14
    go_wp2_with fail
    refine (head2_any _).mono ?_
    rintro e w' ⟨rfl, x1, x2, x3, x4, x5, x6, rfl⟩
    go_wp2_with (first
      | (go_at_call 31; refine (compare_any _ _ _ _ (by assumption) (by assumption) (by assumption) (by assumption) _).mono ?_; rintro e w' ⟨rfl, y1, y2, rfl⟩)
      | (go_at_call 33; refine (floor_any _ _ (by assumption) (by assumption) _).mono ?_; rintro e w' ⟨rfl, y1, y2, rfl⟩)
      | (go_at_call 34; refine (above_yes _ _ _ (by assumption) (by assumption) (by assumption) (by assumption) _).mono ?_; rintro e w' ⟨rfl, y1, rfl⟩))
    go_region_held3 (fun w' => w'.cell? ⟨w.heap.size + 1 + 1 + 1 + 1 + 1 + 1, 0, none⟩ = some (.int .u64 a) ∧ w'.cell? ⟨w.heap.size + 1 + 1 + 1 + 1 + 1 + 1, 1, none⟩ = some (.int .u64 1) ∧ w'.cell? ⟨w.heap.size + 1 + 1 + 1 + 1 + 1 + 1 + 1 + 1 + 1 + 1 + 1 + 1 + 1, 0, none⟩ = some (.int .u64 (a * den + 1)) ∧ w'.cell? ⟨w.heap.size + 1 + 1 + 1 + 1 + 1 + 1 + 1 + 1 + 1 + 1 + 1 + 1 + 1, 1, none⟩ = some (.int .u64 den)) (simp [go_sem, World.cell?_alloc_past])
      (first
        | (go_at_call 31; refine (compare_any _ _ _ _ (by assumption) (by assumption) (by assumption) (by assumption) _).mono ?_; rintro e w' ⟨rfl, y1, y2, rfl⟩))
    go_wp2
    go_ret
    exact ⟨rfl, by (repeat (with_reducible first | refine Grown.alloc ?_ _ _ | refine Grown.drew ?_ | refine grown_dN ?_ _)); with_reducible exact Grown.refl _⟩
  · have p0 := a0
    go_enter Try.func14, Try.ntmps14
    go_wp2_with fail
    refine (head2_any _).mono ?_
    rintro e w' ⟨rfl, x1, x2, x3, x4, x5, x6, rfl⟩
    go_wp2_with (first
      | (go_at_call 31; refine (compare_any _ _ _ _ (by assumption) (by assumption) (by assumption) (by assumption) _).mono ?_; rintro e w' ⟨rfl, y1, y2, rfl⟩)
      | (go_at_call 33; refine (floor_any _ _ (by assumption) (by assumption) _).mono ?_; rintro e w' ⟨rfl, y1, y2, rfl⟩)
      | (go_at_call 34; refine (above_no _ _ _ (by assumption) (by assumption) (by assumption) (by assumption) _).mono ?_; rintro e w' ⟨rfl, y1, rfl⟩))
    go_quiet (fail)
    go_wp2
    go_ret
    exact ⟨rfl, by (repeat (with_reducible first | refine Grown.alloc ?_ _ _ | refine Grown.drew ?_ | refine grown_dN ?_ _)); with_reducible exact Grown.refl _⟩

set_option maxRecDepth 100000 in
set_option maxHeartbeats 2000000 in
theorem wholes_eq (a den : Int) (ha : U64 a) (hd : U64 den) (w : World) :
    Calls Try.prog 14 #[.int .u64 a, .int .u64 a, .int .u64 den] w fun e w' => e = .returned (.bool true) ∧ Grown w w' := by
  have one : U64 1 := ⟨by decide, by decide⟩
  have a0 := ha.1; have d0 := hd.1
  have c2 : ¬ a < a := by omega
  have e1 : cmpI a a = 0 := cmp_eq a
  by_cases f : Fits a 1 den
  · have f' := f
    unfold Fits at f
    obtain ⟨f1, f2⟩ := f
    have p0 : 0 ≤ a * den := Int.mul_nonneg a0 d0
    have hs : U64 (a * den + 1) := ⟨by omega, by omega⟩
    have e2 : cmpI (a * den + 1) (a * den) = 1 := cmp_gt (by omega)
    have e3 := whole_above a0 f1
    clear f2 p0
    go_enter Try.func14, Try.ntmps14
    go_wp2_with fail
    refine (head2_any _).mono ?_
    rintro e w' ⟨rfl, x1, x2, x3, x4, x5, x6, rfl⟩
    go_wp2_with (first
      | (go_at_call 31; refine (compare_any _ _ _ _ (by assumption) (by assumption) (by assumption) (by assumption) _).mono ?_; rintro e w' ⟨rfl, y1, y2, rfl⟩)
      | (go_at_call 33; refine (floor_any _ _ (by assumption) (by assumption) _).mono ?_; rintro e w' ⟨rfl, y1, y2, rfl⟩)
      | (go_at_call 34; refine (above_yes _ _ _ (by assumption) (by assumption) (by assumption) (by assumption) _).mono ?_; rintro e w' ⟨rfl, y1, rfl⟩))
    go_region_held3 (fun w' => w'.cell? ⟨w.heap.size + 1 + 1 + 1 + 1 + 1 + 1, 0, none⟩ = some (.int .u64 a) ∧ w'.cell? ⟨w.heap.size + 1 + 1 + 1 + 1 + 1 + 1, 1, none⟩ = some (.int .u64 1) ∧ w'.cell? ⟨w.heap.size + 1 + 1 + 1 + 1 + 1 + 1 + 1 + 1 + 1 + 1 + 1 + 1 + 1, 0, none⟩ = some (.int .u64 (a * den + 1)) ∧ w'.cell? ⟨w.heap.size + 1 + 1 + 1 + 1 + 1 + 1 + 1 + 1 + 1 + 1 + 1 + 1 + 1, 1, none⟩ = some (.int .u64 den)) (simp [go_sem, World.cell?_alloc_past])
      (first
        | (go_at_call 31; refine (compare_any _ _ _ _ (by assumption) (by assumption) (by assumption) (by assumption) _).mono ?_; rintro e w' ⟨rfl, y1, y2, rfl⟩))
    go_wp2
    go_ret
    exact ⟨rfl, by (repeat (with_reducible first | refine Grown.alloc ?_ _ _ | refine Grown.drew ?_ | refine grown_dN ?_ _)); with_reducible exact Grown.refl _⟩
  · have p0 := a0
    go_enter Try.func14, Try.ntmps14
    go_wp2_with fail
    refine (head2_any _).mono ?_
    rintro e w' ⟨rfl, x1, x2, x3, x4, x5, x6, rfl⟩
    go_wp2_with (first
      | (go_at_call 31; refine (compare_any _ _ _ _ (by assumption) (by assumption) (by assumption) (by assumption) _).mono ?_; rintro e w' ⟨rfl, y1, y2, rfl⟩)
      | (go_at_call 33; refine (floor_any _ _ (by assumption) (by assumption) _).mono ?_; rintro e w' ⟨rfl, y1, y2, rfl⟩)
      | (go_at_call 34; refine (above_no _ _ _ (by assumption) (by assumption) (by assumption) (by assumption) _).mono ?_; rintro e w' ⟨rfl, y1, rfl⟩))
    go_quiet (fail)
    go_wp2
    go_ret
    exact ⟨rfl, by (repeat (with_reducible first | refine Grown.alloc ?_ _ _ | refine Grown.drew ?_ | refine grown_dN ?_ _)); with_reducible exact Grown.refl _⟩

theorem wholes_any (a b den : Int) (ha : U64 a) (hb : U64 b) (hd : U64 den) (w : World) :
    Calls Try.prog 14 #[.int .u64 a, .int .u64 b, .int .u64 den] w fun e w' => e = .returned (.bool true) ∧ Grown w w' := by
  rcases Int.lt_trichotomy a b with h | h | h
  · exact wholes_lt a b den ha hb hd h w
  · subst h; exact wholes_eq a den ha hd w
  · exact wholes_gt a b den ha hb hd h w
end Go.Proofs.Ytidgehimdbhjcaa.R
