/- The document's example of package bucket; the law BucketFills. -/
import Derived.Test.YtancebpkiioaiaaBuckA
namespace Go.Proofs.Ytancebpkiioaiaa.W
open Go.RowKit

set_option maxRecDepth 100000 in
set_option maxHeartbeats 1600000 in
theorem head10 (w : World) : Calls Try.prog 12 #[] w fun e w' => e = .returned (.bool true) ∧ Below w.heap.size w w' := by
  go_enter Try.func12, Try.ntmps12
  go_wp2_with fail
  refine (b_new 2 1 w).mono ?_
  rintro e w1 ⟨rfl, h1', b1⟩
  have h1 : Bk w1 w.heap.size 2 1 2 := h1'
  clear h1'
  obtain ⟨b, hb⟩ : ∃ b, w.heap.size = b := ⟨_, rfl⟩
  have HB := Lib.hid hb
  have hbb : w.heap.size ≤ b := Nat.le_of_eq hb
  rw [hb] at h1
  rw [hb]
  clear hb
  go_wp2_with fail
  refine (b_take b 2 1 2 _ h1).mono ?_
  rintro e w2 ⟨rfl, h2, g2⟩
  have b2 := below_row b1 hbb g2 b1.size
  go_wp2_with fail
  refine (b_take b 2 1 1 _ h2).mono ?_
  rintro e w3 ⟨rfl, h3, g3⟩
  have b3 := below_row b2 hbb g3 b2.size
  go_wp2_with fail
  refine (b_take b 2 1 0 _ h3).mono ?_
  rintro e w4 ⟨rfl, h4, g4⟩
  have b4 := below_row b3 hbb g4 b3.size
  go_wp2_with fail
  refine (b_tick b 2 1 0 _ h4).mono ?_
  rintro e w5 ⟨rfl, h5, g5⟩
  have b5 := below_row b4 hbb g5 b4.size
  go_wp2_with fail
  refine (b_take b 2 1 1 _ h5).mono ?_
  rintro e w6 ⟨rfl, h6, g6⟩
  have b6 := below_row b5 hbb g6 b5.size
  go_wp2_with fail
  refine (b_tokens b 2 1 0 _ h6).mono ?_
  rintro e w7 ⟨rfl, rfl⟩
  go_wp2_with fail
  go_ret
  exact ⟨rfl, b6⟩

theorem tick_row (t0 i r s : Nat) : min (min (t0 + i * r) s + r) s = min (t0 + (i + 1) * r) s := by
  rw [Nat.succ_mul]; generalize i * r = q; omega

set_option maxRecDepth 100000 in
set_option maxHeartbeats 1600000 in
theorem fills_walk (x0 x1 x2 : Int) (w : World) :
    Calls Try.prog 5 #[.int .i64 x0, .int .i64 x1, .int .i64 x2] w fun e w' => e = .returned (.bool true) ∧ Below w.heap.size w w' := by
  obtain ⟨m, hm, hm1⟩ := and_nat x2 1023 10 1024 (by decide) (by decide) (by decide)
  have hmi : (m : Int) < 1024 := by omega
  go_enter Try.func5, Try.ntmps5
  go_wp2_with fail
  refine (head10 _).mono ?_
  rintro e w1 ⟨rfl, hb1⟩
  go_wp2_with fail
  refine (b_new x0 x1 w1).mono ?_
  rintro e w2 ⟨rfl, h2, hb2⟩
  obtain ⟨b, hb⟩ : ∃ b, w1.heap.size = b := ⟨_, rfl⟩
  have hb3 := hb1.trans (hb2.mono hb1.size)
  have hbw : w.heap.size ≤ b := by rw [← hb]; exact hb1.size
  rw [hb] at h2
  rw [hb]
  clear hb2 hb1 hb
  go_wp2_with fail
  refine (bound_any x0 w2).mono ?_
  rintro e w3 ⟨rfl, rfl⟩
  go_wp2_with fail
  refine (bound_any x1 w2).mono ?_
  rintro e w3 ⟨rfl, rfl⟩
  obtain ⟨s, hs⟩ : ∃ s, bnd x0 = s := ⟨_, rfl⟩
  obtain ⟨r, hr⟩ : ∃ r, bnd x1 = r := ⟨_, rfl⟩
  rw [hs, hr] at h2
  rw [hs, hr]
  have hs1 : (s : Int) ≤ 1000 := by have := bnd_le x0; omega
  clear hs hr
  go_wp2_with fail
  go_loopg [10] m (fun gk vi wr => ∃ i : Nat, vi = .int .i64 (i : Int) ∧ i + gk = m ∧ Bk wr b s r (s - i) ∧ Below w.heap.size w wr)
  case atStart => exact ⟨0, rfl, by omega, h2, hb3⟩
  case round =>
    obtain ⟨i, rfl, hik, hz, bz⟩ := hrel
    have HIK := Lib.hid hik
    clear h2 hb3
    by_cases hi : i < m
    · clear hik
      go_wp2_with fail
      refine (b_take b s r _ _ hz).mono ?_
      rintro e w3 ⟨rfl, h3, g3⟩
      rw [Nat.sub_sub] at h3
      have b3 := below_row bz hbw g3 bz.size
      go_wp2_with fail
      go_roundg (gk - 1)
      case measure => have := HIK.out; omega
      case rel => exact ⟨i + 1, by go_num, by have := HIK.out; omega, h3, b3⟩
    · obtain rfl : i = m := by omega
      clear hik HIK hi
      obtain ⟨t, ht⟩ : ∃ t, s - i = t := ⟨_, rfl⟩
      have htI : (t : Int) = max ((s : Int) - (i : Int)) 0 := by omega
      rw [ht] at hz
      have HT := Lib.hid ht
      have HTI := Lib.hid htI
      clear ht htI
      go_wp2_with (with_reducible refine wpList_max_to rfl (.tmp 33) (.const (.int .i64 0)) 3 3 rfl .i64 .i64 ((s : Int) - (i : Int)) 0 (t : Int) rfl rfl HTI.out ?_)
      refine (b_tokens b s r t _ hz).mono ?_
      rintro e w3 ⟨rfl, rfl⟩
      clear hm
      go_wp2_with fail
      go_loopg [12] 1000 (fun gk vi wr => ∃ j : Nat, vi = .int .i64 (j : Int) ∧ j + gk = 1000 ∧ Bk wr b s r (min (t + j * r) s) ∧ Below w.heap.size w wr)
      case atStart =>
        refine ⟨0, rfl, rfl, ?_, bz⟩
        rw [Nat.zero_mul, Nat.add_zero, Nat.min_eq_left hz.2.2.1]; exact hz
      case round =>
        clear hz bz
        obtain ⟨j, rfl, hjk, hz, bz⟩ := hrel
        have HJK := Lib.hid hjk
        by_cases hj : j < 1000
        · clear hjk
          go_wp2_with fail
          refine (b_tick b s r _ _ hz).mono ?_
          rintro e w3 ⟨rfl, h3, g3⟩
          rw [tick_row] at h3
          have b3 := below_row bz hbw g3 bz.size
          go_wp2_with fail
          go_roundg (gk - 1)
          case measure => have := HJK.out; omega
          case rel => exact ⟨j + 1, by go_num, by have := HJK.out; omega, h3, b3⟩
        · obtain rfl : j = 1000 := by omega
          clear hjk HJK hj
          by_cases hr0 : r = 0
          · subst hr0
            have e1 : min (t + 1000 * 0) s = t := by have := HT.out; omega
            rw [e1] at hz
            clear e1
            go_wp2_with fail
            refine (b_tokens b s 0 t _ hz).mono ?_
            rintro e w3 ⟨rfl, rfl⟩
            go_wp2_with fail
            go_ret
            exact ⟨rfl, bz⟩
          · have e1 : min (t + 1000 * r) s = s := by omega
            have hr1 : ((r : Int) == 0) = false := by simp; omega
            rw [e1] at hz
            clear e1 hr0
            go_wp2_with fail
            refine (b_tokens b s r s _ hz).mono ?_
            rintro e w3 ⟨rfl, rfl⟩
            go_wp2_with fail
            go_ret
            exact ⟨rfl, bz⟩

end Go.Proofs.Ytancebpkiioaiaa.W
