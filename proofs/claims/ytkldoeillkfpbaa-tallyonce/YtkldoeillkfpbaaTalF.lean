/- The law TallyOnce: its walk. -/
import Derived.Test.YtkldoeillkfpbaaTalE
namespace Go.Proofs.Ytkldoeillkfpbaa.W
open Go.RowKit

set_option maxRecDepth 100000 in
set_option maxHeartbeats 3200000 in
theorem once_walk (s : ByteArray) (x1 : Int) (w : World) :
    Calls Try.prog 7 #[.string s, .int .i64 x1] w fun e w' => e = .returned (.bool true) ∧ Below w.heap.size w w' := by
  obtain ⟨p, hp, hp1⟩ := and_nat x1 31 5 32 (by decide) (by decide) (by decide)
  have hpI : (p : Int) < 32 := by omega
  have hno := hnot
  go_enter Try.func7, Try.ntmps7
  go_wp2_with fail
  refine (head15 _).mono ?_
  rintro e w1 ⟨rfl, b1⟩
  go_upto_region 5 with (fail)
  have h2 : Mk (w1.alloc (.cells #[.string s, .int .i64 0] 65)) w1.heap.size s 0 := heap_alloc_new w1 _
  have bb2 : Below w.heap.size w (w1.alloc (.cells #[.string s, .int .i64 0] 65)) := b1.alloc b1.size _
  obtain ⟨q, hq⟩ : ∃ q, w1.heap.size = q := ⟨_, rfl⟩
  have hlq : w.heap.size ≤ q := by rw [← hq]; exact b1.size
  rw [hq] at h2
  try rw [hq]
  generalize w1.alloc (.cells #[.string s, .int .i64 0] 65) = w2 at h2 bb2 ⊢
  clear hq b1 hp
  go_wp2_with fail
  refine (mnew_any q w2).mono ?_
  rintro e w3 ⟨rfl, m3, b3⟩
  obtain ⟨b, hb⟩ : ∃ b, w2.heap.size = b := ⟨_, rfl⟩
  have hlb : w.heap.size ≤ b := by rw [← hb]; exact bb2.size
  have hbq : b ≠ q := by have := lt_of_row h2; omega
  have bb3 := bb2.trans (b3.mono bb2.size)
  have q3 : Mk w3 q s 0 := by unfold Mk; rw [b3.block q (lt_of_row h2)]; exact h2
  rw [hb] at m3
  rw [hb]
  clear hb b3 bb2 h2
  have c1 := cellL q3 1 _ rfl
  go_wp2_with fail
  refine (made_any b _ _ _ _ _ false (by decide) _ m3).mono ?_
  rintro e w4 ⟨rfl, rfl⟩
  go_wp2_with fail
  clear c1
  go_loopg [7] p (fun gk vi wr => ∃ (i : Nat), vi = .int .i64 (i : Int) ∧ i + gk = p ∧ Hid (i = 0 ∧ Me wr b 0 0 (mf q) ByteArray.empty 0 ∧ Mk wr q s 0 ∨ 0 < i ∧ Me wr b 1 0 .nilFunc s 1 ∧ Mk wr q s 1) ∧ Below w.heap.size w wr)
  case atStart => exact ⟨0, rfl, by omega, Lib.hid (Or.inl ⟨rfl, m3, q3⟩), bb3⟩
  case round =>
    clear m3 q3 bb3
    obtain ⟨i, rfl, hik, HH, bz⟩ := hrel
    have HIK := Lib.hid hik
    by_cases hi : i < p
    · have hii : (i : Int) < (p : Int) := by omega
      clear hik
      rcases HH.out with ⟨h0, m0, q0⟩ | ⟨h0, m0, q0⟩
      · subst h0
        clear HH
        go_wp2_with fail
        refine (get_first b q s 0 _ m0 q0 hbq (by decide) (by decide)).mono ?_
        rintro e w4 ⟨rfl, m4, q4, o4⟩
        have b4 : Below w.heap.size w w4 := bz.trans (o4.below (fun j h => by rcases h with h | h <;> omega) bz.size)
        have c1 := cellL q4 1 (.int .i64 1) rfl
        clear m0 q0 o4
        go_wp2_with fail
        refine (made_any b _ _ _ _ _ true (by decide) _ m4).mono ?_
        rintro e w5 ⟨rfl, rfl⟩
        go_wp2_with fail
        go_roundg (gk - 1)
        case measure => have := HIK.out; omega
        case rel => exact ⟨1, by go_num, by have := HIK.out; omega, Lib.hid (Or.inr ⟨by decide, m4, q4⟩), b4⟩
      · have HI0 := Lib.hid h0
        have c1 := cellL q0 1 (.int .i64 1) rfl
        clear HH h0
        go_wp2_with fail
        refine (get_again b s _ m0).mono ?_
        rintro e w4 ⟨rfl, rfl⟩
        go_wp2_with fail
        refine (made_any b _ _ _ _ _ true (by decide) _ m0).mono ?_
        rintro e w5 ⟨rfl, rfl⟩
        go_wp2_with fail
        go_roundg (gk - 1)
        case measure => have := HIK.out; omega
        case rel => exact ⟨i + 1, by go_num, by have := HIK.out; omega, Lib.hid (Or.inr ⟨by omega, m0, q0⟩), bz⟩
    · obtain rfl : i = p := by omega
      clear hik HIK hi
      obtain ⟨n, hn0, hn1, hn, q0⟩ : ∃ n : Int, 0 ≤ n ∧ n ≤ 100 ∧ n = min (i : Int) 1 ∧ Mk wr q s n := by
        rcases HH.out with ⟨h0, _, q0⟩ | ⟨h0, _, q0⟩
        · exact ⟨0, by decide, by decide, by omega, q0⟩
        · exact ⟨1, by decide, by decide, by omega, q0⟩
      clear HH
      have HN := Lib.hid hn
      clear hn
      go_wp2_with fail
      refine (mnew_any q wr).mono ?_
      rintro e w3 ⟨rfl, m3, b3⟩
      obtain ⟨c, hc⟩ : ∃ c, wr.heap.size = c := ⟨_, rfl⟩
      have hlc : w.heap.size ≤ c := by rw [← hc]; exact bz.size
      have hcq : c ≠ q := by have := lt_of_row q0; omega
      have bb3 := bz.trans (b3.mono bz.size)
      have q3 : Mk w3 q s n := by unfold Mk; rw [b3.block q (lt_of_row q0)]; exact q0
      rw [hc] at m3
      rw [hc]
      clear hc b3 bz q0
      go_wp2_with fail
      refine (made_any c _ _ _ _ _ false (by decide) _ m3).mono ?_
      rintro e w4 ⟨rfl, rfl⟩
      go_wp2_with fail
      refine (get_first c q s n _ m3 q3 hcq hn0 hn1).mono ?_
      rintro e w4 ⟨rfl, m4, q4, o4⟩
      have b4 : Below w.heap.size w w4 := bb3.trans (o4.below (fun j h => by rcases h with h | h <;> omega) bb3.size)
      have c1 := cellL q4 1 (.int .i64 (n + 1)) rfl
      clear m3 q3 o4
      go_wp2_with (refine wpList_unguard (by rfl) ?_; with_reducible refine wpList_min_to rfl (.tmp 70) (.const (.int .i64 1)) 3 3 rfl .i64 .i64 (i : Int) 1 n rfl rfl HN.out ?_)
      go_ret
      exact ⟨rfl, b4⟩

end Go.Proofs.Ytkldoeillkfpbaa.W
