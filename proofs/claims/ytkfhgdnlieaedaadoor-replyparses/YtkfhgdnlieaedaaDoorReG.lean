/- Contracts of the law's Text and head. Made by mk_reg.py. -/
import Derived.Test.YtkfhgdnlieaedaaDoorReF
namespace Go.Proofs.YtkfhgdnlieaedaaDoor.W
open Go.RowKit

set_option maxRecDepth 100000 in
set_option maxHeartbeats 1600000 in
theorem text0 (w : World) : Calls Tryd.prog 8 #[.agg #[.int .i64 0, .int .i64 0, .int .i64 0, .int .i64 0]] w fun x w' => x = .returned (sv ([111, 107])) ∧ Below w.heap.size w w' := by
  have b0 : Below w.heap.size w (w.alloc (.cells #[.int .i64 0, .int .i64 0, .int .i64 0, .int .i64 0] 26)) := (Below.refl _ _).alloc (Nat.le_refl _) _
  go_enter Tryd.func8, Tryd.ntmps8
  go_wp2
  go_ret
  exact ⟨rfl, b0⟩
set_option maxRecDepth 100000 in
set_option maxHeartbeats 1600000 in
theorem text1_1 (w : World) : Calls Tryd.prog 8 #[.agg #[.int .i64 1, .int .i64 0, .int .i64 0, .int .i64 1]] w fun x w' => x = .returned (sv ([114, 101, 102, 117, 115, 101, 100, 32, 97, 114, 103])) ∧ Below w.heap.size w w' := by
  have b0 : Below w.heap.size w (w.alloc (.cells #[.int .i64 1, .int .i64 0, .int .i64 0, .int .i64 1] 26)) := (Below.refl _ _).alloc (Nat.le_refl _) _
  go_enter Tryd.func8, Tryd.ntmps8
  go_wp2
  go_ret
  exact ⟨rfl, b0.alloc b0.size _⟩
set_option maxRecDepth 100000 in
set_option maxHeartbeats 1600000 in
theorem text1_2 (w : World) : Calls Tryd.prog 8 #[.agg #[.int .i64 1, .int .i64 0, .int .i64 0, .int .i64 2]] w fun x w' => x = .returned (sv ([114, 101, 102, 117, 115, 101, 100, 32, 110, 111, 110, 101])) ∧ Below w.heap.size w w' := by
  have b0 : Below w.heap.size w (w.alloc (.cells #[.int .i64 1, .int .i64 0, .int .i64 0, .int .i64 2] 26)) := (Below.refl _ _).alloc (Nat.le_refl _) _
  go_enter Tryd.func8, Tryd.ntmps8
  go_wp2
  go_ret
  exact ⟨rfl, b0.alloc b0.size _⟩
set_option maxRecDepth 100000 in
set_option maxHeartbeats 1600000 in
theorem text1_3 (w : World) : Calls Tryd.prog 8 #[.agg #[.int .i64 1, .int .i64 0, .int .i64 0, .int .i64 3]] w fun x w' => x = .returned (sv ([114, 101, 102, 117, 115, 101, 100, 32, 115, 116, 97, 116, 101])) ∧ Below w.heap.size w w' := by
  have b0 : Below w.heap.size w (w.alloc (.cells #[.int .i64 1, .int .i64 0, .int .i64 0, .int .i64 3] 26)) := (Below.refl _ _).alloc (Nat.le_refl _) _
  go_enter Tryd.func8, Tryd.ntmps8
  go_wp2
  go_ret
  exact ⟨rfl, b0.alloc b0.size _⟩
set_option maxRecDepth 100000 in
set_option maxHeartbeats 1600000 in
theorem text1_4 (w : World) : Calls Tryd.prog 8 #[.agg #[.int .i64 1, .int .i64 0, .int .i64 0, .int .i64 4]] w fun x w' => x = .returned (sv ([114, 101, 102, 117, 115, 101, 100, 32, 113, 117, 111, 116, 97])) ∧ Below w.heap.size w w' := by
  have b0 : Below w.heap.size w (w.alloc (.cells #[.int .i64 1, .int .i64 0, .int .i64 0, .int .i64 4] 26)) := (Below.refl _ _).alloc (Nat.le_refl _) _
  go_enter Tryd.func8, Tryd.ntmps8
  go_wp2
  go_ret
  exact ⟨rfl, b0.alloc b0.size _⟩
set_option maxRecDepth 100000 in
set_option maxHeartbeats 1600000 in
theorem text1_5 (w : World) : Calls Tryd.prog 8 #[.agg #[.int .i64 1, .int .i64 0, .int .i64 0, .int .i64 5]] w fun x w' => x = .returned (sv ([114, 101, 102, 117, 115, 101, 100, 32, 102, 111, 114, 109])) ∧ Below w.heap.size w w' := by
  have b0 : Below w.heap.size w (w.alloc (.cells #[.int .i64 1, .int .i64 0, .int .i64 0, .int .i64 5] 26)) := (Below.refl _ _).alloc (Nat.le_refl _) _
  go_enter Tryd.func8, Tryd.ntmps8
  go_wp2
  go_ret
  exact ⟨rfl, b0.alloc b0.size _⟩
set_option maxRecDepth 100000 in
set_option maxHeartbeats 1600000 in
theorem text1_6 (w : World) : Calls Tryd.prog 8 #[.agg #[.int .i64 1, .int .i64 0, .int .i64 0, .int .i64 6]] w fun x w' => x = .returned (sv ([114, 101, 102, 117, 115, 101, 100, 32, 109, 97, 110, 121])) ∧ Below w.heap.size w w' := by
  have b0 : Below w.heap.size w (w.alloc (.cells #[.int .i64 1, .int .i64 0, .int .i64 0, .int .i64 6] 26)) := (Below.refl _ _).alloc (Nat.le_refl _) _
  go_enter Tryd.func8, Tryd.ntmps8
  go_wp2
  go_ret
  exact ⟨rfl, b0.alloc b0.size _⟩
set_option maxRecDepth 100000 in
set_option maxHeartbeats 1600000 in
theorem text4_1 (w : World) : Calls Tryd.prog 8 #[.agg #[.int .i64 4, .int .i64 0, .int .i64 1, .int .i64 0]] w fun x w' => x = .returned (sv ([116, 104, 114, 111, 116, 116, 108, 101, 100, 32, 102, 117, 110, 99, 116, 105, 111, 110])) ∧ Below w.heap.size w w' := by
  have b0 : Below w.heap.size w (w.alloc (.cells #[.int .i64 4, .int .i64 0, .int .i64 1, .int .i64 0] 26)) := (Below.refl _ _).alloc (Nat.le_refl _) _
  go_enter Tryd.func8, Tryd.ntmps8
  go_wp2
  go_ret
  exact ⟨rfl, b0.alloc b0.size _⟩
set_option maxRecDepth 100000 in
set_option maxHeartbeats 1600000 in
theorem text4_2 (w : World) : Calls Tryd.prog 8 #[.agg #[.int .i64 4, .int .i64 0, .int .i64 2, .int .i64 0]] w fun x w' => x = .returned (sv ([116, 104, 114, 111, 116, 116, 108, 101, 100, 32, 97, 99, 99, 111, 117, 110, 116])) ∧ Below w.heap.size w w' := by
  have b0 : Below w.heap.size w (w.alloc (.cells #[.int .i64 4, .int .i64 0, .int .i64 2, .int .i64 0] 26)) := (Below.refl _ _).alloc (Nat.le_refl _) _
  go_enter Tryd.func8, Tryd.ntmps8
  go_wp2
  go_ret
  exact ⟨rfl, b0.alloc b0.size _⟩
set_option maxRecDepth 100000 in
set_option maxHeartbeats 1600000 in
theorem text4_3 (w : World) : Calls Tryd.prog 8 #[.agg #[.int .i64 4, .int .i64 0, .int .i64 3, .int .i64 0]] w fun x w' => x = .returned (sv ([116, 104, 114, 111, 116, 116, 108, 101, 100, 32, 116, 111, 107, 101, 110, 115])) ∧ Below w.heap.size w w' := by
  have b0 : Below w.heap.size w (w.alloc (.cells #[.int .i64 4, .int .i64 0, .int .i64 3, .int .i64 0] 26)) := (Below.refl _ _).alloc (Nat.le_refl _) _
  go_enter Tryd.func8, Tryd.ntmps8
  go_wp2
  go_ret
  exact ⟨rfl, b0.alloc b0.size _⟩
set_option maxRecDepth 100000 in
set_option maxHeartbeats 1600000 in
theorem text4_4 (w : World) : Calls Tryd.prog 8 #[.agg #[.int .i64 4, .int .i64 0, .int .i64 4, .int .i64 0]] w fun x w' => x = .returned (sv ([116, 104, 114, 111, 116, 116, 108, 101, 100, 32, 114, 111, 111, 109])) ∧ Below w.heap.size w w' := by
  have b0 : Below w.heap.size w (w.alloc (.cells #[.int .i64 4, .int .i64 0, .int .i64 4, .int .i64 0] 26)) := (Below.refl _ _).alloc (Nat.le_refl _) _
  go_enter Tryd.func8, Tryd.ntmps8
  go_wp2
  go_ret
  exact ⟨rfl, b0.alloc b0.size _⟩
set_option maxRecDepth 100000 in
set_option maxHeartbeats 1600000 in
theorem text2 (b : Int) (w : World) (hG : Gl w) (h1 : 1 ≤ b) (h6 : b ≤ 2147483647) : Calls Tryd.prog 8 #[.agg #[.int .i64 2, .int .i64 b, .int .i64 0, .int .i64 0]] w fun x w' => x = .returned (sv ([119, 97, 114, 109, 32] ++ Lib.itoa b)) ∧ Below w.heap.size w w' := by
  have b0 : Below w.heap.size w (w.alloc (.cells #[.int .i64 2, .int .i64 b, .int .i64 0, .int .i64 0] 26)) := (Below.refl _ _).alloc (Nat.le_refl _) _
  have hG1 := hG.below b0
  have hz : ¬ 9223372036854775807 < 5 + (bst (Lib.itoa b)).size := by
    have := itoa_len b (by omega) (by omega)
    rw [bst_size]; omega
  obtain ⟨s, hs⟩ : ∃ s, [119, 97, 114, 109, 32] ++ Lib.itoa b = s := ⟨_, rfl⟩
  have HS := Lib.hid hs
  rw [hs]
  clear hs
  go_enter Tryd.func8, Tryd.ntmps8
  go_wp2_with fail
  generalize w.alloc (.cells #[.int .i64 2, .int .i64 b, .int .i64 0, .int .i64 0] 26) = w1 at b0 hG1 ⊢
  refine (itoa_any b w1 (by omega) (by omega) hG1).mono ?_
  rintro x w3 ⟨rfl, b3⟩
  have b03 : Below w.heap.size w w3 := b0.trans (b3.mono b0.size)
  go_wp2_with fail
  go_ret
  refine ⟨?_, b03⟩
  rw [← HS.out]
  exact congrArg _ (ap_out _ _ [119, 97, 114, 109, 32] _ rfl rfl)
set_option maxRecDepth 100000 in
set_option maxHeartbeats 1600000 in
theorem text3 (b : Int) (w : World) (hG : Gl w) (h1 : 1 ≤ b) (h6 : b ≤ 2147483647) : Calls Tryd.prog 8 #[.agg #[.int .i64 3, .int .i64 b, .int .i64 0, .int .i64 0]] w fun x w' => x = .returned (sv ([99, 111, 108, 100, 32] ++ Lib.itoa b)) ∧ Below w.heap.size w w' := by
  have b0 : Below w.heap.size w (w.alloc (.cells #[.int .i64 3, .int .i64 b, .int .i64 0, .int .i64 0] 26)) := (Below.refl _ _).alloc (Nat.le_refl _) _
  have hG1 := hG.below b0
  have hz : ¬ 9223372036854775807 < 5 + (bst (Lib.itoa b)).size := by
    have := itoa_len b (by omega) (by omega)
    rw [bst_size]; omega
  obtain ⟨s, hs⟩ : ∃ s, [99, 111, 108, 100, 32] ++ Lib.itoa b = s := ⟨_, rfl⟩
  have HS := Lib.hid hs
  rw [hs]
  clear hs
  go_enter Tryd.func8, Tryd.ntmps8
  go_wp2_with fail
  generalize w.alloc (.cells #[.int .i64 3, .int .i64 b, .int .i64 0, .int .i64 0] 26) = w1 at b0 hG1 ⊢
  refine (itoa_any b w1 (by omega) (by omega) hG1).mono ?_
  rintro x w3 ⟨rfl, b3⟩
  have b03 : Below w.heap.size w w3 := b0.trans (b3.mono b0.size)
  go_wp2_with fail
  go_ret
  refine ⟨?_, b03⟩
  rw [← HS.out]
  exact congrArg _ (ap_out _ _ [99, 111, 108, 100, 32] _ rfl rfl)
set_option maxRecDepth 100000 in
set_option maxHeartbeats 1600000 in
theorem w0b (b y e : Int) (w : World) (db : (b == 0) = false) : Calls Tryd.prog 8 #[.agg #[.int .i64 0, .int .i64 b, .int .i64 y, .int .i64 e]] w fun x w' => x = .returned (sv ([])) ∧ Below w.heap.size w w' := by
  have b0 : Below w.heap.size w (w.alloc (.cells #[.int .i64 0, .int .i64 b, .int .i64 y, .int .i64 e] 26)) := (Below.refl _ _).alloc (Nat.le_refl _) _
  go_enter Tryd.func8, Tryd.ntmps8
  go_wp2
  all_goals go_ret
  all_goals exact ⟨rfl, b0⟩
set_option maxRecDepth 100000 in
set_option maxHeartbeats 1600000 in
theorem w0y (y e : Int) (w : World) (dy : (y == 0) = false) : Calls Tryd.prog 8 #[.agg #[.int .i64 0, .int .i64 0, .int .i64 y, .int .i64 e]] w fun x w' => x = .returned (sv ([])) ∧ Below w.heap.size w w' := by
  have b0 : Below w.heap.size w (w.alloc (.cells #[.int .i64 0, .int .i64 0, .int .i64 y, .int .i64 e] 26)) := (Below.refl _ _).alloc (Nat.le_refl _) _
  go_enter Tryd.func8, Tryd.ntmps8
  go_wp2
  all_goals go_ret
  all_goals exact ⟨rfl, b0⟩
set_option maxRecDepth 100000 in
set_option maxHeartbeats 1600000 in
theorem w0e (e : Int) (w : World) (de : (e == 0) = false) : Calls Tryd.prog 8 #[.agg #[.int .i64 0, .int .i64 0, .int .i64 0, .int .i64 e]] w fun x w' => x = .returned (sv ([])) ∧ Below w.heap.size w w' := by
  have b0 : Below w.heap.size w (w.alloc (.cells #[.int .i64 0, .int .i64 0, .int .i64 0, .int .i64 e] 26)) := (Below.refl _ _).alloc (Nat.le_refl _) _
  go_enter Tryd.func8, Tryd.ntmps8
  go_wp2
  all_goals go_ret
  all_goals exact ⟨rfl, b0⟩
set_option maxRecDepth 100000 in
set_option maxHeartbeats 1600000 in
theorem w1b (b y e : Int) (w : World) (db : (b == 0) = false) : Calls Tryd.prog 8 #[.agg #[.int .i64 1, .int .i64 b, .int .i64 y, .int .i64 e]] w fun x w' => x = .returned (sv ([])) ∧ Below w.heap.size w w' := by
  have b0 : Below w.heap.size w (w.alloc (.cells #[.int .i64 1, .int .i64 b, .int .i64 y, .int .i64 e] 26)) := (Below.refl _ _).alloc (Nat.le_refl _) _
  go_enter Tryd.func8, Tryd.ntmps8
  go_wp2
  all_goals go_ret
  all_goals exact ⟨rfl, b0⟩
set_option maxRecDepth 100000 in
set_option maxHeartbeats 1600000 in
theorem w1y (y e : Int) (w : World) (dy : (y == 0) = false) : Calls Tryd.prog 8 #[.agg #[.int .i64 1, .int .i64 0, .int .i64 y, .int .i64 e]] w fun x w' => x = .returned (sv ([])) ∧ Below w.heap.size w w' := by
  have b0 : Below w.heap.size w (w.alloc (.cells #[.int .i64 1, .int .i64 0, .int .i64 y, .int .i64 e] 26)) := (Below.refl _ _).alloc (Nat.le_refl _) _
  go_enter Tryd.func8, Tryd.ntmps8
  go_wp2
  all_goals go_ret
  all_goals exact ⟨rfl, b0⟩
set_option maxRecDepth 100000 in
set_option maxHeartbeats 1600000 in
theorem w1lo (e : Int) (w : World) (dl : decide (1 ≤ e) = false) : Calls Tryd.prog 8 #[.agg #[.int .i64 1, .int .i64 0, .int .i64 0, .int .i64 e]] w fun x w' => x = .returned (sv ([])) ∧ Below w.heap.size w w' := by
  have b0 : Below w.heap.size w (w.alloc (.cells #[.int .i64 1, .int .i64 0, .int .i64 0, .int .i64 e] 26)) := (Below.refl _ _).alloc (Nat.le_refl _) _
  go_enter Tryd.func8, Tryd.ntmps8
  go_wp2
  all_goals go_ret
  all_goals exact ⟨rfl, b0⟩
set_option maxRecDepth 100000 in
set_option maxHeartbeats 1600000 in
theorem w1hi (e : Int) (w : World) (h1 : 1 ≤ e) (dh : decide (e ≤ 6) = false) : Calls Tryd.prog 8 #[.agg #[.int .i64 1, .int .i64 0, .int .i64 0, .int .i64 e]] w fun x w' => x = .returned (sv ([])) ∧ Below w.heap.size w w' := by
  have b0 : Below w.heap.size w (w.alloc (.cells #[.int .i64 1, .int .i64 0, .int .i64 0, .int .i64 e] 26)) := (Below.refl _ _).alloc (Nat.le_refl _) _
  go_enter Tryd.func8, Tryd.ntmps8
  go_wp2
  all_goals go_ret
  all_goals exact ⟨rfl, b0⟩
set_option maxRecDepth 100000 in
set_option maxHeartbeats 1600000 in
theorem w2lo (b y e : Int) (w : World) (dl : decide (1 ≤ b) = false) : Calls Tryd.prog 8 #[.agg #[.int .i64 2, .int .i64 b, .int .i64 y, .int .i64 e]] w fun x w' => x = .returned (sv ([])) ∧ Below w.heap.size w w' := by
  have b0 : Below w.heap.size w (w.alloc (.cells #[.int .i64 2, .int .i64 b, .int .i64 y, .int .i64 e] 26)) := (Below.refl _ _).alloc (Nat.le_refl _) _
  go_enter Tryd.func8, Tryd.ntmps8
  go_wp2
  all_goals go_ret
  all_goals exact ⟨rfl, b0⟩
set_option maxRecDepth 100000 in
set_option maxHeartbeats 1600000 in
theorem w2hi (b y e : Int) (w : World) (h1 : 1 ≤ b) (dh : decide (b ≤ 2147483647) = false) : Calls Tryd.prog 8 #[.agg #[.int .i64 2, .int .i64 b, .int .i64 y, .int .i64 e]] w fun x w' => x = .returned (sv ([])) ∧ Below w.heap.size w w' := by
  have b0 : Below w.heap.size w (w.alloc (.cells #[.int .i64 2, .int .i64 b, .int .i64 y, .int .i64 e] 26)) := (Below.refl _ _).alloc (Nat.le_refl _) _
  go_enter Tryd.func8, Tryd.ntmps8
  go_wp2
  all_goals go_ret
  all_goals exact ⟨rfl, b0⟩
set_option maxRecDepth 100000 in
set_option maxHeartbeats 1600000 in
theorem w2y (b y e : Int) (w : World) (h1 : 1 ≤ b) (h2 : b ≤ 2147483647) (dy : (y == 0) = false) : Calls Tryd.prog 8 #[.agg #[.int .i64 2, .int .i64 b, .int .i64 y, .int .i64 e]] w fun x w' => x = .returned (sv ([])) ∧ Below w.heap.size w w' := by
  have b0 : Below w.heap.size w (w.alloc (.cells #[.int .i64 2, .int .i64 b, .int .i64 y, .int .i64 e] 26)) := (Below.refl _ _).alloc (Nat.le_refl _) _
  go_enter Tryd.func8, Tryd.ntmps8
  go_wp2
  all_goals go_ret
  all_goals exact ⟨rfl, b0⟩
set_option maxRecDepth 100000 in
set_option maxHeartbeats 1600000 in
theorem w2e (b e : Int) (w : World) (h1 : 1 ≤ b) (h2 : b ≤ 2147483647) (de : (e == 0) = false) : Calls Tryd.prog 8 #[.agg #[.int .i64 2, .int .i64 b, .int .i64 0, .int .i64 e]] w fun x w' => x = .returned (sv ([])) ∧ Below w.heap.size w w' := by
  have b0 : Below w.heap.size w (w.alloc (.cells #[.int .i64 2, .int .i64 b, .int .i64 0, .int .i64 e] 26)) := (Below.refl _ _).alloc (Nat.le_refl _) _
  go_enter Tryd.func8, Tryd.ntmps8
  go_wp2
  all_goals go_ret
  all_goals exact ⟨rfl, b0⟩
set_option maxRecDepth 100000 in
set_option maxHeartbeats 1600000 in
theorem w3lo (b y e : Int) (w : World) (dl : decide (1 ≤ b) = false) : Calls Tryd.prog 8 #[.agg #[.int .i64 3, .int .i64 b, .int .i64 y, .int .i64 e]] w fun x w' => x = .returned (sv ([])) ∧ Below w.heap.size w w' := by
  have b0 : Below w.heap.size w (w.alloc (.cells #[.int .i64 3, .int .i64 b, .int .i64 y, .int .i64 e] 26)) := (Below.refl _ _).alloc (Nat.le_refl _) _
  go_enter Tryd.func8, Tryd.ntmps8
  go_wp2
  all_goals go_ret
  all_goals exact ⟨rfl, b0⟩
set_option maxRecDepth 100000 in
set_option maxHeartbeats 1600000 in
theorem w3hi (b y e : Int) (w : World) (h1 : 1 ≤ b) (dh : decide (b ≤ 2147483647) = false) : Calls Tryd.prog 8 #[.agg #[.int .i64 3, .int .i64 b, .int .i64 y, .int .i64 e]] w fun x w' => x = .returned (sv ([])) ∧ Below w.heap.size w w' := by
  have b0 : Below w.heap.size w (w.alloc (.cells #[.int .i64 3, .int .i64 b, .int .i64 y, .int .i64 e] 26)) := (Below.refl _ _).alloc (Nat.le_refl _) _
  go_enter Tryd.func8, Tryd.ntmps8
  go_wp2
  all_goals go_ret
  all_goals exact ⟨rfl, b0⟩
set_option maxRecDepth 100000 in
set_option maxHeartbeats 1600000 in
theorem w3y (b y e : Int) (w : World) (h1 : 1 ≤ b) (h2 : b ≤ 2147483647) (dy : (y == 0) = false) : Calls Tryd.prog 8 #[.agg #[.int .i64 3, .int .i64 b, .int .i64 y, .int .i64 e]] w fun x w' => x = .returned (sv ([])) ∧ Below w.heap.size w w' := by
  have b0 : Below w.heap.size w (w.alloc (.cells #[.int .i64 3, .int .i64 b, .int .i64 y, .int .i64 e] 26)) := (Below.refl _ _).alloc (Nat.le_refl _) _
  go_enter Tryd.func8, Tryd.ntmps8
  go_wp2
  all_goals go_ret
  all_goals exact ⟨rfl, b0⟩
set_option maxRecDepth 100000 in
set_option maxHeartbeats 1600000 in
theorem w3e (b e : Int) (w : World) (h1 : 1 ≤ b) (h2 : b ≤ 2147483647) (de : (e == 0) = false) : Calls Tryd.prog 8 #[.agg #[.int .i64 3, .int .i64 b, .int .i64 0, .int .i64 e]] w fun x w' => x = .returned (sv ([])) ∧ Below w.heap.size w w' := by
  have b0 : Below w.heap.size w (w.alloc (.cells #[.int .i64 3, .int .i64 b, .int .i64 0, .int .i64 e] 26)) := (Below.refl _ _).alloc (Nat.le_refl _) _
  go_enter Tryd.func8, Tryd.ntmps8
  go_wp2
  all_goals go_ret
  all_goals exact ⟨rfl, b0⟩
set_option maxRecDepth 100000 in
set_option maxHeartbeats 1600000 in
theorem w4lo (b y e : Int) (w : World) (dl : decide (1 ≤ y) = false) : Calls Tryd.prog 8 #[.agg #[.int .i64 4, .int .i64 b, .int .i64 y, .int .i64 e]] w fun x w' => x = .returned (sv ([])) ∧ Below w.heap.size w w' := by
  have b0 : Below w.heap.size w (w.alloc (.cells #[.int .i64 4, .int .i64 b, .int .i64 y, .int .i64 e] 26)) := (Below.refl _ _).alloc (Nat.le_refl _) _
  go_enter Tryd.func8, Tryd.ntmps8
  go_wp2
  all_goals go_ret
  all_goals exact ⟨rfl, b0⟩
set_option maxRecDepth 100000 in
set_option maxHeartbeats 1600000 in
theorem w4hi (b y e : Int) (w : World) (h1 : 1 ≤ y) (dh : decide (y ≤ 4) = false) : Calls Tryd.prog 8 #[.agg #[.int .i64 4, .int .i64 b, .int .i64 y, .int .i64 e]] w fun x w' => x = .returned (sv ([])) ∧ Below w.heap.size w w' := by
  have b0 : Below w.heap.size w (w.alloc (.cells #[.int .i64 4, .int .i64 b, .int .i64 y, .int .i64 e] 26)) := (Below.refl _ _).alloc (Nat.le_refl _) _
  go_enter Tryd.func8, Tryd.ntmps8
  go_wp2
  all_goals go_ret
  all_goals exact ⟨rfl, b0⟩
set_option maxRecDepth 100000 in
set_option maxHeartbeats 1600000 in
theorem w4b (b y e : Int) (w : World) (h1 : 1 ≤ y) (h2 : y ≤ 4) (db : (b == 0) = false) : Calls Tryd.prog 8 #[.agg #[.int .i64 4, .int .i64 b, .int .i64 y, .int .i64 e]] w fun x w' => x = .returned (sv ([])) ∧ Below w.heap.size w w' := by
  have b0 : Below w.heap.size w (w.alloc (.cells #[.int .i64 4, .int .i64 b, .int .i64 y, .int .i64 e] 26)) := (Below.refl _ _).alloc (Nat.le_refl _) _
  go_enter Tryd.func8, Tryd.ntmps8
  go_wp2
  all_goals go_ret
  all_goals exact ⟨rfl, b0⟩
set_option maxRecDepth 100000 in
set_option maxHeartbeats 1600000 in
theorem w4e (y e : Int) (w : World) (h1 : 1 ≤ y) (h2 : y ≤ 4) (de : (e == 0) = false) : Calls Tryd.prog 8 #[.agg #[.int .i64 4, .int .i64 0, .int .i64 y, .int .i64 e]] w fun x w' => x = .returned (sv ([])) ∧ Below w.heap.size w w' := by
  have b0 : Below w.heap.size w (w.alloc (.cells #[.int .i64 4, .int .i64 0, .int .i64 y, .int .i64 e] 26)) := (Below.refl _ _).alloc (Nat.le_refl _) _
  go_enter Tryd.func8, Tryd.ntmps8
  go_wp2
  all_goals go_ret
  all_goals exact ⟨rfl, b0⟩
set_option maxRecDepth 100000 in
set_option maxHeartbeats 1600000 in
theorem wX (k b y e : Int) (w : World) (d0 : (k == 0) = false) (d1 : (k == 1) = false) (d2 : (k == 2) = false) (d3 : (k == 3) = false) (d4 : (k == 4) = false) : Calls Tryd.prog 8 #[.agg #[.int .i64 k, .int .i64 b, .int .i64 y, .int .i64 e]] w fun x w' => x = .returned (sv ([])) ∧ Below w.heap.size w w' := by
  have b0 : Below w.heap.size w (w.alloc (.cells #[.int .i64 k, .int .i64 b, .int .i64 y, .int .i64 e] 26)) := (Below.refl _ _).alloc (Nat.le_refl _) _
  go_enter Tryd.func8, Tryd.ntmps8
  go_wp2
  all_goals go_ret
  all_goals exact ⟨rfl, b0⟩

theorem text_ok (k b y e : Int) (w : World) (hG : Gl w) (h : okA ⟨k, b, y, e⟩) : Calls Tryd.prog 8 #[.agg #[.int .i64 k, .int .i64 b, .int .i64 y, .int .i64 e]] w fun x w' => x = .returned (sv (txt ⟨k, b, y, e⟩)) ∧ Below w.heap.size w w' := by
  unfold okA at h
  simp only at h
  rcases h with ⟨rfl, rfl, rfl, rfl⟩ | ⟨rfl, h1, h6, rfl, rfl⟩ | ⟨rfl | rfl, h1, h2, rfl, rfl⟩ | ⟨rfl, h1, h4, rfl, rfl⟩
  · exact (text0 w).mono fun x w' q => q
  · have : e = 1 ∨ e = 2 ∨ e = 3 ∨ e = 4 ∨ e = 5 ∨ e = 6 := by omega
    rcases this with rfl | rfl | rfl | rfl | rfl | rfl
    · exact (text1_1 w).mono fun x w' q => q
    · exact (text1_2 w).mono fun x w' q => q
    · exact (text1_3 w).mono fun x w' q => q
    · exact (text1_4 w).mono fun x w' q => q
    · exact (text1_5 w).mono fun x w' q => q
    · exact (text1_6 w).mono fun x w' q => q
  · exact (text2 b w hG h1 h2).mono fun x w' q => q
  · exact (text3 b w hG h1 h2).mono fun x w' q => q
  · have : y = 1 ∨ y = 2 ∨ y = 3 ∨ y = 4 := by omega
    rcases this with rfl | rfl | rfl | rfl
    · exact (text4_1 w).mono fun x w' q => q
    · exact (text4_2 w).mono fun x w' q => q
    · exact (text4_3 w).mono fun x w' q => q
    · exact (text4_4 w).mono fun x w' q => q
theorem text_no (k b y e : Int) (w : World) (h : ¬ okA ⟨k, b, y, e⟩) : Calls Tryd.prog 8 #[.agg #[.int .i64 k, .int .i64 b, .int .i64 y, .int .i64 e]] w fun x w' => x = .returned (sv ([])) ∧ Below w.heap.size w w' := by
  unfold okA at h
  simp only at h
  have F : ∀ {x c : Int}, x ≠ c → (x == c) = false := fun q => by simpa using q
  by_cases k0 : k = 0
  · subst k0
    by_cases hb : b = 0
    · subst hb
      by_cases hy : y = 0
      · subst hy
        exact w0e e w (F (by omega))
      · exact w0y y e w (F hy)
    · exact w0b b y e w (F hb)
  by_cases k1 : k = 1
  · subst k1
    by_cases hb : b = 0
    · subst hb
      by_cases hy : y = 0
      · subst hy
        by_cases he : 1 ≤ e
        · exact w1hi e w he (by simp; omega)
        · exact w1lo e w (by simp; omega)
      · exact w1y y e w (F hy)
    · exact w1b b y e w (F hb)
  by_cases k2 : k = 2
  · subst k2
    by_cases hl : 1 ≤ b
    · by_cases hh : b ≤ 2147483647
      · by_cases hy : y = 0
        · subst hy
          exact w2e b e w hl hh (F (by omega))
        · exact w2y b y e w hl hh (F hy)
      · exact w2hi b y e w hl (by simp; omega)
    · exact w2lo b y e w (by simp; omega)
  by_cases k3 : k = 3
  · subst k3
    by_cases hl : 1 ≤ b
    · by_cases hh : b ≤ 2147483647
      · by_cases hy : y = 0
        · subst hy
          exact w3e b e w hl hh (F (by omega))
        · exact w3y b y e w hl hh (F hy)
      · exact w3hi b y e w hl (by simp; omega)
    · exact w3lo b y e w (by simp; omega)
  by_cases k4 : k = 4
  · subst k4
    by_cases hl : 1 ≤ y
    · by_cases hh : y ≤ 4
      · by_cases hb : b = 0
        · subst hb
          exact w4e y e w hl hh (F (by omega))
        · exact w4b b y e w hl hh (F hb)
      · exact w4hi b y e w hl (by simp; omega)
    · exact w4lo b y e w (by simp; omega)
  exact wX k b y e w (F k0) (F k1) (F k2) (F k3) (F k4)
theorem text_any (k b y e : Int) (w : World) (hG : Gl w) (s : List UInt8) (h1 : okA ⟨k, b, y, e⟩ → s = txt ⟨k, b, y, e⟩) (h2 : ¬ okA ⟨k, b, y, e⟩ → s = []) : Calls Tryd.prog 8 #[.agg #[.int .i64 k, .int .i64 b, .int .i64 y, .int .i64 e]] w fun x w' => x = .returned (sv (s)) ∧ Below w.heap.size w w' := by
  by_cases h : okA ⟨k, b, y, e⟩
  · rw [h1 h]; exact text_ok k b y e w hG h
  · rw [h2 h]; exact text_no k b y e w h

end Go.Proofs.YtkfhgdnlieaedaaDoor.W
