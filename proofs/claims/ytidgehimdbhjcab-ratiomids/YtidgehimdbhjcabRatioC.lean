/- The law RatioMids. -/
import Derived.Test.YtidgehimdbhjcabRatioB
namespace Go.Proofs.Ytidgehimdbhjcab.R
open Go.RowKit Go.Shelf

theorem cmp_shift (x y z : Int) : cmpI (x + z) (y + z) = cmpI x y := by
  unfold cmpI; split <;> split <;> (try split) <;> (try split) <;> omega
theorem cmp_of {x y x' y' : Int} (h : x - y = x' - y') : cmpI x y = cmpI x' y' := by
  unfold cmpI; split <;> split <;> (try split) <;> (try split) <;> omega

set_option maxRecDepth 100000 in
set_option maxHeartbeats 1000000 in
theorem mids_any (a b c d : Int) (ha : U64 a) (hb : U64 b) (hc : U64 c) (hd : U64 d) (w : World) :
    Calls Try.prog 3 #[Rat a b, Rat c d] w fun e w' => e = .returned (.bool true) ∧ Grown w w' := by
  have a0 := ha.1; have b0 := hb.1; have c0 := hc.1; have d0 := hd.1
  have E1 : Hid (cmpI (a * (b + d)) ((a + c) * b) = cmpI (a * d) (c * b)) := Lib.hid (cmp_of (by rw [Int.mul_add, Int.add_mul]; omega))
  have E2 : Hid (cmpI ((a + c) * d) (c * (b + d)) = cmpI (a * d) (c * b)) := Lib.hid (cmp_of (by rw [Int.mul_add, Int.add_mul]; omega))
  go_enter Try.func3, Try.ntmps3
  go_wp2_with fail
  refine (head2_any _).mono ?_
  rintro e w' ⟨rfl, x1, x2, x3, x4, x5, x6, rfl⟩
  go_wp2_with fail
  rotate_left 3
  · have hs1 : U64 (a + c) := ⟨by omega, by omega⟩
    have hs2 : U64 (b + d) := ⟨by omega, by omega⟩
    refine (compare_any a b c d ha hb hc hd _).mono ?_
    rintro e w' ⟨rfl, y1, y2, rfl⟩
    go_wp2_with fail
    refine (compare_any a b (a + c) (b + d) ha hb hs1 hs2 _).mono ?_
    rintro e w' ⟨rfl, y3, y4, rfl⟩
    rw [E1.out]
    go_wp2_with fail
    refine (compare_any (a + c) (b + d) c d hs1 hs2 hc hd _).mono ?_
    rintro e w' ⟨rfl, y5, y6, rfl⟩
    rw [E2.out]
    go_wp2_with fail
    go_ret
    exact ⟨rfl, by (repeat (with_reducible refine Grown.alloc ?_ _ _)); exact Grown.refl _⟩
  all_goals go_ret
  all_goals exact ⟨rfl, by (repeat (with_reducible refine Grown.alloc ?_ _ _)); exact Grown.refl _⟩
end Go.Proofs.Ytidgehimdbhjcab.R
