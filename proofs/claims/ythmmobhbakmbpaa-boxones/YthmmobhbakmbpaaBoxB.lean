/- The law's own step of a sandbox; the document's example of package box. -/
import Derived.Test.YthmmobhbakmbpaaBoxA
namespace Go.Proofs.Ythmmobhbakmbpaa.W
open Go.RowKit

/-- Which step a number asks for. -/
def Stp (k : Nat) (x : Int) : Prop := k = 0 ∧ x = 0 ∨ k = 1 ∧ x = 1 ∨ k = 2 ∧ x = 2 ∨ k = 3 ∧ x = 3
theorem stp_of (x : Int) : ∃ k y, bits .and .i64 x 3 = y ∧ Stp k y := by
  obtain ⟨q, hq, h4⟩ := and_nat x 3 2 4 (by decide) (by decide) (by decide)
  refine ⟨q, (q : Int), hq, ?_⟩
  unfold Stp
  omega
theorem below3 (w : World) (a b c : Obj) : Below w.heap.size w (((w.alloc a).alloc b).alloc c) :=
  (((Below.refl _ _).alloc (Nat.le_refl _) _).alloc (by simp) _).alloc (by simp; omega) _

set_option maxRecDepth 100000 in
set_option maxHeartbeats 3200000 in
theorem next_any (k : Nat) (x : Int) (hk : Stp k x) (c : Bo) (now : Int) (w : World) :
    Calls Try.prog 11 #[.agg (brow c).toArray, .int .i64 x, .int .i64 now] w fun e w' => e = .returned (.tuple #[.agg (brow (nx k c now).1).toArray, .bool (nx k c now).2]) ∧ Below w.heap.size w w' := by
  obtain ⟨i, f, h, m, q, p, t⟩ := c
  rcases hk with ⟨rfl, rfl⟩ | ⟨rfl, rfl⟩ | ⟨rfl, rfl⟩ | ⟨rfl, rfl⟩ <;> cases q <;>
  · simp only [nx, brow, Ph.st, Ph.bd]
    go_enter Try.func11, Try.ntmps11
    go_wp2
    exact bodyPost_ret (by simp [results, Try.results11, go_sem]) rfl ⟨rfl, below3 _ _ _ _⟩

set_option maxRecDepth 100000 in
set_option maxHeartbeats 1600000 in
theorem head12 (w : World) : Calls Try.prog 9 #[] w fun e w' => e = .returned (.bool true) ∧ Below w.heap.size w w' := by
  go_enter Try.func9, Try.ntmps9
  go_wp2_with fail
  refine (bx_new 1 2 3 4 5 w).mono ?_
  rintro e w1 ⟨rfl, h1, b1⟩
  obtain ⟨b, hb⟩ : ∃ b, w.heap.size = b := ⟨_, rfl⟩
  have hbb : w.heap.size ≤ b := Nat.le_of_eq hb
  rw [hb] at h1
  rw [hb]
  clear hb
  go_wp2_with fail
  refine (bx_call b _ 6 _ h1).mono ?_
  rintro e w2 ⟨rfl, h2, g2⟩
  have b2 := below_row b1 hbb g2 b1.size
  simp only [nx] at h2 ⊢
  clear h1 b1 g2
  go_wp2_with fail
  refine (bx_booted b _ 7 _ h2).mono ?_
  rintro e w3 ⟨rfl, h3, g3⟩
  have b3 := below_row b2 hbb g3 b2.size
  simp only [nx] at h3 ⊢
  have c4 := cellL h3 4 (.int .i64 2) rfl
  clear h2 b2 g3
  go_wp2_with fail
  refine (bx_done b _ 8 _ h3).mono ?_
  rintro e w4 ⟨rfl, h4, g4⟩
  have b4 := below_row b3 hbb g4 b3.size
  simp only [nx] at h4 ⊢
  clear h3 b3 g4 c4
  go_wp2_with fail
  refine (bx_idle b _ _ h4).mono ?_
  rintro e w5 ⟨rfl, rfl⟩
  simp only [Ph.idle]
  go_wp2_with fail
  refine (bx_done b _ 9 _ h4).mono ?_
  rintro e w6 ⟨rfl, h6, g6⟩
  have b6 := below_row b4 hbb g6 b4.size
  simp only [nx] at h6 ⊢
  have c7 := cellL h6 7 (.int .i64 8) rfl
  clear h4 b4 g6
  go_wp2_with fail
  go_ret
  exact ⟨rfl, b6⟩

end Go.Proofs.Ythmmobhbakmbpaa.W
